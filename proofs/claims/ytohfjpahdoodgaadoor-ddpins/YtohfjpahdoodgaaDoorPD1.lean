/- Slices of steps and of truths that are handed in: what their cells hold. -/
import Derived.Test.YtohfjpahdoodgaaDoorDE41
import Derived.Deep.Slices
import Derived.ProofKit
import Derived.OpenShut
namespace Go.Proofs.YtohfjpahdoodgaaDoor
open Go.RowKit Go.ChangeShapes Go.WideShapes Go.Deep

/-- A step. -/
structure Sp4 where
  what : Int
  a : Int
  b : Int
  c : Int
def Sp4.cs (s : Sp4) : List Value := [.int .i64 s.what, .int .i64 s.a, .int .i64 s.b, .int .i64 s.c]
/-- The cells behind g, o hold the steps l. -/
def Ln (w : World) (g o : Nat) (l : List Sp4) : Prop := ∀ (j : Nat) (s : Sp4), l[j]? = some s → ∀ t u, s.cs[t]? = some u → w.cell? ⟨g, o + j * 4 + t, none⟩ = some u
/-- A slice of steps at that address. -/
def La (w : World) (a : Option Addr) (l : List Sp4) : Prop := l = [] ∨ ∃ g o, a = some ⟨g, o, none⟩ ∧ g < w.heap.size ∧ Ln w g o l
/-- Its numbers are of their kinds. -/
def Sk (s : Sp4) : Prop := w64 s.what ∧ w64 s.a ∧ w64 s.b ∧ w64 s.c
section
variable {H : Type} {enc : TypeId × Value → H} {w : World} {base : Nat} {spare : Nat → Bool} {held : Bool}

instance : Inhabited Sp4 := ⟨⟨0, 0, 0, 0⟩⟩
theorem w64_of {x : Int} (h : (Lit.int .i64 x).wf = true) : w64 x := by have := bounds_i64 h; unfold w64; omega
set_option maxRecDepth 20000 in
theorem step_read {fuel : Nat} {cs : List Value} {x : DataW H × List MemPlace} (h : DataW.trod enc Tryd.prog w base spare held fuel 32 cs = some x) : ∃ s : Sp4, cs = s.cs ∧ Sk s := by
  obtain ⟨xs, k, -, -, hl, hxl, hf⟩ := DataW.trod_struct Tryd.underlying32 h
  have e3 : Tryd.prog.cellsOf 3 = 1 := by kernel_rfl
  have e5 : Tryd.prog.cellsOf 32 = 4 := by kernel_rfl
  rw [e5] at hl
  have hxl5 : xs.length = 4 := hxl
  clear hxl
  match xs, hxl5, cs, hl with
  | [y0, y1, y2, y3], _, [v0, v1, v2, v3], _ =>
    have g0 := hf 0 _ rfl
    have g1 := hf 1 _ rfl
    have g2 := hf 2 _ rfl
    have g3 := hf 3 _ rfl
    simp [e3] at g0 g1 g2 g3
    obtain ⟨a0, h0, -, w0⟩ := DataW.trod_int Tryd.underlying3 g0
    obtain ⟨a1, h1, -, w1⟩ := DataW.trod_int Tryd.underlying3 g1
    obtain ⟨a2, h2, -, w2⟩ := DataW.trod_int Tryd.underlying3 g2
    obtain ⟨a3, h3, -, w3⟩ := DataW.trod_int Tryd.underlying3 g3
    cases h0; cases h1; cases h2; cases h3
    exact ⟨⟨a0, a1, a2, a3⟩, rfl, w64_of w0, w64_of w1, w64_of w2, w64_of w3⟩

theorem slice_read {fuel : Nat} {s0 : Option Addr} {len cap : Nat} {x : DataW H × List MemPlace} (h : DataW.trod enc Tryd.prog w base (fun _ => true) held fuel 22 [.slice s0 len cap] = some x) :
    ∃ l : List Sp4, l.length = len ∧ La w s0 l ∧ (∀ s ∈ l, Sk s) ∧ len ≤ maxLen := by
  have e5 : Tryd.prog.cellsOf 32 = 4 := by kernel_rfl
  rcases open_slice Tryd.underlying22 h with ⟨h0, -⟩ | ⟨a, len', cap', m, nn, D, Pl, hcs, hb, hl, hm, hmm, -, hx⟩
  · simp at h0
    obtain ⟨rfl, rfl, rfl⟩ := h0
    exact ⟨[], rfl, Or.inl rfl, (fun n hn => nomatch hn), by decide⟩
  · simp at hcs
    obtain ⟨rfl, rfl, rfl⟩ := hcs
    simp only [if_true] at hmm
    subst hmm
    have each : ∀ i, i < len → ∃ n : Sp4, (∀ t u, n.cs[t]? = some u → w.cell? (a.add (i * 4 + t)) = some u) ∧ Sk n := by
      intro i hi
      obtain ⟨cs', h1, h2⟩ := hx i (by omega)
      obtain ⟨n, rfl, hn⟩ := step_read h2
      rw [e5] at h1
      obtain ⟨_, hlen, hcell⟩ := World.cells?_some h1
      refine ⟨n, fun t u hu => ?_, hn⟩
      have ht : t < 4 := (List.getElem?_eq_some_iff.1 hu).1
      have := hcell t ht
      rw [add_add] at this
      rw [this]; exact hu
    obtain ⟨N, hN⟩ := choose_lt each
    refine ⟨(List.range len).map N, by simp, ?_, ?_, by omega⟩
    · by_cases h0 : len = 0
      · left; rw [h0]; rfl
      · right
        obtain ⟨g, o, sp⟩ := a
        have hsp : sp = none := by
          have := (hN 0 (by omega)).1 0 _ rfl
          cases sp with
          | none => rfl
          | some x => simp [World.cell?, Addr.add] at this; split at this <;> simp at this
        subst hsp
        have ead : ∀ j, (⟨g, o, none⟩ : Addr).add j = ⟨g, o + j, none⟩ := fun j => by by_cases hj0 : j = 0 <;> simp [Addr.add, hj0]
        have hc : Ln w g o ((List.range len).map N) := by
          intro j n hj t u hu
          have hjl : j < len := by have := (List.getElem?_eq_some_iff.1 hj).1; simpa using this
          simp [hjl] at hj
          subst hj
          have := (hN j hjl).1 t u hu
          rw [ead] at this
          rw [Nat.add_assoc]; exact this
        refine ⟨g, o, rfl, ?_, hc⟩
        have := hc 0 (N 0) (by rw [List.getElem?_map, List.getElem?_range (by omega)]; rfl) 0 _ rfl
        exact World.block_lt_of_cell? _ _ this
    · intro n hn
      obtain ⟨i, hi, rfl⟩ := List.mem_map.1 hn
      exact (hN i (List.mem_range.1 hi)).2

end
theorem La.below {w wx : World} {a : Option Addr} {l : List Sp4} (h : La w a l) (hb : Below w.heap.size w wx) : La wx a l := by
  rcases h with h | ⟨g, o, ha, hg, h⟩
  · exact Or.inl h
  · exact Or.inr ⟨g, o, ha, Nat.lt_of_lt_of_le hg hb.size, fun j s hs t u hu => keep_cell hb (h j s hs t u hu)⟩
end Go.Proofs.YtohfjpahdoodgaaDoor
