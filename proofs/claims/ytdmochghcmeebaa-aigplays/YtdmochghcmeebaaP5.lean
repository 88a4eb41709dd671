/- Slices of steps and of truths that are handed in: what their cells hold. -/
import Derived.Test.YtdmochghcmeebaaAG9
import Derived.Deep.Slices
import Derived.ProofKit
import Derived.OpenShut
namespace Go.Proofs.Ytdmochghcmeebaa
open Go.RowKit Go.ChangeShapes Go.WideShapes Go.Deep

/-- The cells behind g, o hold the steps l. -/
def Ln (w : World) (g o : Nat) (l : List St) : Prop := ∀ (j : Nat) (s : St), l[j]? = some s → ∀ t u, s.cs[t]? = some u → w.cell? ⟨g, o + j * 5 + t, none⟩ = some u
/-- A slice of steps at that address. -/
def La (w : World) (a : Option Addr) (l : List St) : Prop := l = [] ∨ ∃ g o, a = some ⟨g, o, none⟩ ∧ g < w.heap.size ∧ Ln w g o l
/-- Its numbers are of their kinds. -/
def Sk (s : St) : Prop := w64 s.what ∧ w64 s.a ∧ w64 s.b ∧ w64 s.c
section
variable {H : Type} {enc : TypeId × Value → H} {w : World} {base : Nat} {spare : Nat → Bool} {held : Bool}

instance : Inhabited St := ⟨⟨0, 0, 0, 0, false⟩⟩
theorem w64_of {x : Int} (h : (Lit.int .i64 x).wf = true) : w64 x := by have := bounds_i64 h; unfold w64; omega
theorem step_read {fuel : Nat} {cs : List Value} {x : DataW H × List MemPlace} (h : DataW.trod enc Try.prog w base spare held fuel 32 cs = some x) : ∃ s : St, cs = s.cs ∧ Sk s := by
  obtain ⟨xs, k, -, -, hl, hxl, hf⟩ := DataW.trod_struct Try.underlying32 h
  have e3 : Try.prog.cellsOf 3 = 1 := by kernel_rfl
  have e4 : Try.prog.cellsOf 4 = 1 := by kernel_rfl
  have e5 : Try.prog.cellsOf 32 = 5 := by kernel_rfl
  rw [e5] at hl
  have hxl5 : xs.length = 5 := hxl
  clear hxl
  match xs, hxl5, cs, hl with
  | [y0, y1, y2, y3, y4], _, [v0, v1, v2, v3, v4], _ =>
    have g0 := hf 0 _ rfl
    have g1 := hf 1 _ rfl
    have g2 := hf 2 _ rfl
    have g3 := hf 3 _ rfl
    have g4 := hf 4 _ rfl
    simp [e3, e4] at g0 g1 g2 g3 g4
    obtain ⟨a0, h0, -, w0⟩ := DataW.trod_int Try.underlying3 g0
    obtain ⟨a1, h1, -, w1⟩ := DataW.trod_int Try.underlying3 g1
    obtain ⟨a2, h2, -, w2⟩ := DataW.trod_int Try.underlying3 g2
    obtain ⟨a3, h3, -, w3⟩ := DataW.trod_int Try.underlying3 g3
    obtain ⟨a4, h4, -⟩ := DataW.trod_bool Try.underlying4 g4
    cases h0; cases h1; cases h2; cases h3; cases h4
    exact ⟨⟨a0, a1, a2, a3, a4⟩, rfl, w64_of w0, w64_of w1, w64_of w2, w64_of w3⟩

theorem slice_read {fuel : Nat} {s0 : Option Addr} {len cap : Nat} {x : DataW H × List MemPlace} (h : DataW.trod enc Try.prog w base (fun _ => true) held fuel 22 [.slice s0 len cap] = some x) :
    ∃ l : List St, l.length = len ∧ La w s0 l ∧ (∀ s ∈ l, Sk s) ∧ len ≤ maxLen := by
  have e5 : Try.prog.cellsOf 32 = 5 := by kernel_rfl
  rcases open_slice Try.underlying22 h with ⟨h0, -⟩ | ⟨a, len', cap', m, nn, D, Pl, hcs, hb, hl, hm, hmm, -, hx⟩
  · simp at h0
    obtain ⟨rfl, rfl, rfl⟩ := h0
    exact ⟨[], rfl, Or.inl rfl, (fun n hn => nomatch hn), by decide⟩
  · simp at hcs
    obtain ⟨rfl, rfl, rfl⟩ := hcs
    simp only [if_true] at hmm
    subst hmm
    have each : ∀ i, i < len → ∃ n : St, (∀ t u, n.cs[t]? = some u → w.cell? (a.add (i * 5 + t)) = some u) ∧ Sk n := by
      intro i hi
      obtain ⟨cs', h1, h2⟩ := hx i (by omega)
      obtain ⟨n, rfl, hn⟩ := step_read h2
      rw [e5] at h1
      obtain ⟨_, hlen, hcell⟩ := World.cells?_some h1
      refine ⟨n, fun t u hu => ?_, hn⟩
      have ht : t < 5 := (List.getElem?_eq_some_iff.1 hu).1
      have := hcell t ht
      rw [add_add] at this
      rw [this]; exact hu
    obtain ⟨N, hN⟩ := choose_lt each
    refine ⟨(List.range len).map N, by simp, ?_, ?_, by omega⟩
    · by_cases h0 : len = 0
      · left; rw [h0]; rfl
      · right
        obtain ⟨g, o, sp⟩ := a
        have hsp : sp = none := by
          have := (hN 0 (by omega)).1 0 _ rfl
          cases sp with
          | none => rfl
          | some x => simp [World.cell?, Addr.add] at this; split at this <;> simp at this
        subst hsp
        have ead : ∀ j, (⟨g, o, none⟩ : Addr).add j = ⟨g, o + j, none⟩ := fun j => by by_cases hj0 : j = 0 <;> simp [Addr.add, hj0]
        have hc : Ln w g o ((List.range len).map N) := by
          intro j n hj t u hu
          have hjl : j < len := by have := (List.getElem?_eq_some_iff.1 hj).1; simpa using this
          simp [hjl] at hj
          subst hj
          have := (hN j hjl).1 t u hu
          rw [ead] at this
          rw [Nat.add_assoc]; exact this
        refine ⟨g, o, rfl, ?_, hc⟩
        have := hc 0 (N 0) (by rw [List.getElem?_map, List.getElem?_range (by omega)]; rfl) 0 _ rfl
        exact World.block_lt_of_cell? _ _ this
    · intro n hn
      obtain ⟨i, hi, rfl⟩ := List.mem_map.1 hn
      exact (hN i (List.mem_range.1 hi)).2

theorem bools_read {fuel : Nat} {s0 : Option Addr} {len cap : Nat} {x : DataW H × List MemPlace} (h : DataW.trod enc Try.prog w base (fun _ => true) held fuel 23 [.slice s0 len cap] = some x) :
    ∃ l : List Bool, l.length = len ∧ Bz w (.slice s0 len cap) l ∧ len ≤ maxLen := by
  have e4 : Try.prog.cellsOf 4 = 1 := by kernel_rfl
  rcases open_slice Try.underlying23 h with ⟨h0, -⟩ | ⟨a, len', cap', m, nn, D, Pl, hcs, hb, hl, hm, hmm, -, hx⟩
  · simp at h0
    obtain ⟨rfl, rfl, rfl⟩ := h0
    exact ⟨[], rfl, ⟨none, 0, rfl, Or.inl rfl⟩, by decide⟩
  · simp at hcs
    obtain ⟨rfl, rfl, rfl⟩ := hcs
    simp only [if_true] at hmm
    subst hmm
    have each : ∀ i, i < len → ∃ n : Bool, w.cell? (a.add i) = some (.bool n) := by
      intro i hi
      obtain ⟨cs', h1, h2⟩ := hx i (by omega)
      obtain ⟨n, rfl, -⟩ := DataW.trod_bool Try.underlying4 h2
      rw [e4] at h1
      obtain ⟨_, hlen, hcell⟩ := World.cells?_some h1
      refine ⟨n, ?_⟩
      have := hcell 0 (by decide)
      rw [add_add] at this
      simpa using this
    obtain ⟨N, hN⟩ := choose_lt each
    refine ⟨(List.range len).map N, by simp, ?_, by omega⟩
    by_cases h0 : len = 0
    · subst h0
      exact ⟨_, _, rfl, Or.inl rfl⟩
    · obtain ⟨g, o, sp⟩ := a
      have hsp : sp = none := by
        have := hN 0 (by omega)
        cases sp with
        | none => rfl
        | some x => simp [World.cell?, Addr.add] at this; split at this <;> simp at this
      subst hsp
      have ead : ∀ j, (⟨g, o, none⟩ : Addr).add j = ⟨g, o + j, none⟩ := fun j => by by_cases hj0 : j = 0 <;> simp [Addr.add, hj0]
      refine ⟨_, m, by simp, Or.inr ⟨g, o, rfl, fun j hj => ?_⟩⟩
      have hj' : j < len := by simpa using hj
      have := hN j hj'
      rw [ead] at this
      rw [this, List.getD_eq_getElem?_getD, List.getElem?_map, List.getElem?_range hj']
      rfl
end
theorem La.below {w wx : World} {a : Option Addr} {l : List St} (h : La w a l) (hb : Below w.heap.size w wx) : La wx a l := by
  rcases h with h | ⟨g, o, ha, hg, h⟩
  · exact Or.inl h
  · exact Or.inr ⟨g, o, ha, Nat.lt_of_lt_of_le hg hb.size, fun j s hs t u hu => keep_cell hb (h j s hs t u hu)⟩
end Go.Proofs.Ytdmochghcmeebaa
