/- A slice of nodes that is handed in: what its cells hold. -/
import Derived.Test.YtjmbicaacplolaaY17
import Derived.Deep.Slices
import Derived.ProofKit
import Derived.OpenShut
namespace Go.Proofs.Ytjmbicaacplolaa
open Go.RowKit Go.ChangeShapes Go.WideShapes Go.Deep

section
variable {H : Type} {enc : TypeId × Value → H} {w : World} {base : Nat} {spare : Nat → Bool} {held : Bool}

instance : Inhabited Nd := ⟨⟨0, 0, 0, 0, 0, 0, 0, 0, 0, 0, ⟨#[]⟩⟩⟩
theorem w64_of {x : Int} (h : (Lit.int .i64 x).wf = true) : w64 x := by have := bounds_i64 h; unfold w64; omega
theorem node_read {fuel : Nat} {cs : List Value} {x : DataW H × List MemPlace} (h : DataW.trod enc Try.prog w base spare held fuel 36 cs = some x) : ∃ n : Nd, cs = n.cs ∧ Ok n := by
  obtain ⟨xs, k, -, -, hl, hxl, hf⟩ := DataW.trod_struct Try.underlying36 h
  have e3 : Try.prog.cellsOf 3 = 1 := by kernel_rfl
  have e9 : Try.prog.cellsOf 9 = 1 := by kernel_rfl
  have e32 : Try.prog.cellsOf 32 = 1 := by kernel_rfl
  have e34 : Try.prog.cellsOf 34 = 3 := by kernel_rfl
  have e36 : Try.prog.cellsOf 36 = 11 := by kernel_rfl
  rw [e36] at hl
  have hxl9 : xs.length = 9 := hxl
  clear hxl
  match xs, hxl9, cs, hl with
  | [y0, y1, y2, y3, y4, y5, y6, y7, y8], _, [v0, v1, v2, v3, v4, v5, v6, v7, v8, v9, v10], _ =>
    have g0 := hf 0 _ rfl
    have g1 := hf 1 _ rfl
    have g2 := hf 2 _ rfl
    have g3 := hf 3 _ rfl
    have g4 := hf 4 _ rfl
    have g5 := hf 5 _ rfl
    have g6 := hf 6 _ rfl
    have g7 := hf 7 _ rfl
    have g8 := hf 8 _ rfl
    simp [e3, e9, e34] at g0 g1 g2 g3 g4 g5 g6 g7 g8
    obtain ⟨a0, h0, -, w0⟩ := DataW.trod_int Try.underlying3 g0
    obtain ⟨a1, h1, -, w1⟩ := DataW.trod_int Try.underlying3 g1
    obtain ⟨a2, h2, -, w2⟩ := DataW.trod_int Try.underlying3 g2
    obtain ⟨a3, h3, -, w3⟩ := DataW.trod_int Try.underlying3 g3
    obtain ⟨a4, h4, -, w4⟩ := DataW.trod_int Try.underlying3 g4
    obtain ⟨a5, h5, -, w5⟩ := DataW.trod_int Try.underlying3 g5
    obtain ⟨a6, h6, -, w6⟩ := DataW.trod_int Try.underlying3 g6
    obtain ⟨s, h10, -, w10⟩ := DataW.trod_string Try.underlying9 g8
    obtain ⟨zs, k2, -, -, -, hzl, hz⟩ := DataW.trod_struct Try.underlying34 g7
    have hzl3 : zs.length = 3 := hzl
    clear hzl
    match zs, hzl3 with
    | [z0, z1, z2], _ =>
      have k0 := hz 0 _ rfl
      have k1 := hz 1 _ rfl
      have k2 := hz 2 _ rfl
      simp [e3, e32] at k0 k1 k2
      obtain ⟨a7, h7, -, w7⟩ := DataW.trod_int Try.underlying3 k0
      obtain ⟨a8, h8, -, w8⟩ := DataW.trod_int Try.underlying32 k1
      obtain ⟨a9, h9, -, w9⟩ := DataW.trod_int Try.underlying32 k2
      cases h0; cases h1; cases h2; cases h3; cases h4; cases h5; cases h6; cases h7; cases h8; cases h9; cases h10
      have b8 := bounds_u64 w8
      have b9 := bounds_u64 w9
      exact ⟨⟨a0, a1, a2, a3, a4, a5, a6, a7, a8, a9, s⟩, rfl, ⟨b8.1, by show a8 < _; omega, b9.1, by show a9 < _; omega, w10⟩, w64_of w0, w64_of w1, w64_of w2, w64_of w3, w64_of w4, w64_of w5, w64_of w6, w64_of w7⟩

theorem slice_read {fuel : Nat} {s0 : Option Addr} {len cap : Nat} {x : DataW H × List MemPlace} (h : DataW.trod enc Try.prog w base (fun _ => true) held fuel 22 [.slice s0 len cap] = some x) :
    ∃ l : List Nd, l.length = len ∧ La w s0 l ∧ (∀ n ∈ l, Ok n) ∧ len ≤ maxLen := by
  have e36 : Try.prog.cellsOf 36 = 11 := by kernel_rfl
  rcases open_slice Try.underlying22 h with ⟨h0, -⟩ | ⟨a, len', cap', m, nn, D, Pl, hcs, hb, hl, hm, hmm, -, hx⟩
  · simp at h0
    obtain ⟨rfl, rfl, rfl⟩ := h0
    exact ⟨[], rfl, Or.inl rfl, (fun n hn => nomatch hn), by decide⟩
  · simp at hcs
    obtain ⟨rfl, rfl, rfl⟩ := hcs
    simp only [if_true] at hmm
    subst hmm
    have each : ∀ i, i < len → ∃ n : Nd, (∀ t u, n.cs[t]? = some u → w.cell? (a.add (i * 11 + t)) = some u) ∧ Ok n := by
      intro i hi
      obtain ⟨cs', h1, h2⟩ := hx i (by omega)
      obtain ⟨n, rfl, hn⟩ := node_read h2
      rw [e36] at h1
      obtain ⟨_, hlen, hcell⟩ := World.cells?_some h1
      refine ⟨n, fun t u hu => ?_, hn⟩
      have ht : t < 11 := (List.getElem?_eq_some_iff.1 hu).1
      have := hcell t ht
      rw [add_add] at this
      rw [this]; exact hu
    obtain ⟨N, hN⟩ := choose_lt each
    refine ⟨(List.range len).map N, by simp, ?_, ?_, by omega⟩
    · by_cases h0 : len = 0
      · left; rw [h0]; rfl
      · right
        obtain ⟨g, o, sp⟩ := a
        have hsp : sp = none := by
          have := (hN 0 (by omega)).1 0 _ rfl
          cases sp with
          | none => rfl
          | some x => simp [World.cell?, Addr.add] at this; split at this <;> simp at this
        subst hsp
        have ead : ∀ j, (⟨g, o, none⟩ : Addr).add j = ⟨g, o + j, none⟩ := fun j => by by_cases hj0 : j = 0 <;> simp [Addr.add, hj0]
        have hc : Ln w g o ((List.range len).map N) := by
          intro j n hj t u hu
          have hjl : j < len := by have := (List.getElem?_eq_some_iff.1 hj).1; simpa using this
          simp [hjl] at hj
          subst hj
          have := (hN j hjl).1 t u hu
          rw [ead] at this
          rw [Nat.add_assoc]; exact this
        refine ⟨g, o, rfl, ?_, hc⟩
        have := hc 0 (N 0) (by rw [List.getElem?_map, List.getElem?_range (by omega)]; rfl) 0 _ rfl
        exact World.block_lt_of_cell? _ _ this
    · intro n hn
      obtain ⟨i, hi, rfl⟩ := List.mem_map.1 hn
      exact (hN i (List.mem_range.1 hi)).2
end
end Go.Proofs.Ytjmbicaacplolaa
