/- A slice of values that is handed in: what its cells hold. -/
import Derived.Test.YtnflphhckgeneaaGreatMg11
import Derived.Deep.Slices
import Derived.ProofKit
import Derived.OpenShut
namespace Go.Proofs.YtnflphhckgeneaaGreat
open Go.RowKit Go.ChangeShapes Go.WideShapes Go.Deep

section
variable {H : Type} {enc : TypeId × Value → H} {w : World} {base : Nat} {spare : Nat → Bool} {held : Bool}

instance : Inhabited Bt := ⟨⟨0, 0, 0⟩⟩
/-- A slice of values that was handed in. -/
def Lba (w : World) (a : Option Addr) (l : List Bt) : Prop := l = [] ∨ ∃ g o, a = some ⟨g, o, none⟩ ∧ g < w.heap.size ∧ Lb w g o l
set_option maxRecDepth 20000 in
theorem bits_read {fuel : Nat} {cs : List Value} {x : DataW H × List MemPlace} (h : DataW.trod enc Tryz.prog w base spare held fuel 34 cs = some x) : ∃ b : Bt, cs = b.cs ∧ Bk b := by
  obtain ⟨zs, k, -, -, hl, hzl, hz⟩ := DataW.trod_struct Tryz.underlying34 h
  have e3 : Tryz.prog.cellsOf 3 = 1 := by kernel_rfl
  have e32 : Tryz.prog.cellsOf 32 = 1 := by kernel_rfl
  have e34 : Tryz.prog.cellsOf 34 = 3 := by kernel_rfl
  rw [e34] at hl
  have hzl3 : zs.length = 3 := hzl
  clear hzl
  match zs, hzl3, cs, hl with
  | [z0, z1, z2], _, [v0, v1, v2], _ =>
    have k0 := hz 0 _ rfl
    have k1 := hz 1 _ rfl
    have k2 := hz 2 _ rfl
    simp [e3, e32] at k0 k1 k2
    obtain ⟨a7, h7, -, w7⟩ := DataW.trod_int Tryz.underlying3 k0
    obtain ⟨a8, h8, -, w8⟩ := DataW.trod_int Tryz.underlying32 k1
    obtain ⟨a9, h9, -, w9⟩ := DataW.trod_int Tryz.underlying32 k2
    cases h7; cases h8; cases h9
    have b8 := bounds_u64 w8
    have b9 := bounds_u64 w9
    exact ⟨⟨a7, a8, a9⟩, rfl, ⟨b8.1, by show a8 < _; omega, b9.1, by show a9 < _; omega⟩⟩
set_option maxRecDepth 20000 in
theorem slice_readB {fuel : Nat} {s0 : Option Addr} {len cap : Nat} {x : DataW H × List MemPlace} (h : DataW.trod enc Tryz.prog w base (fun _ => true) held fuel 40 [.slice s0 len cap] = some x) :
    ∃ l : List Bt, l.length = len ∧ Lba w s0 l ∧ (∀ b ∈ l, Bk b) ∧ len ≤ maxLen := by
  have e36 : Tryz.prog.cellsOf 34 = 3 := by kernel_rfl
  rcases open_slice Tryz.underlying40 h with ⟨h0, -⟩ | ⟨a, len', cap', m, nn, D, Pl, hcs, hb, hl, hm, hmm, -, hx⟩
  · simp at h0
    obtain ⟨rfl, rfl, rfl⟩ := h0
    exact ⟨[], rfl, Or.inl rfl, (fun n hn => nomatch hn), by decide⟩
  · simp at hcs
    obtain ⟨rfl, rfl, rfl⟩ := hcs
    simp only [if_true] at hmm
    subst hmm
    have each : ∀ i, i < len → ∃ n : Bt, (∀ t u, n.cs[t]? = some u → w.cell? (a.add (i * 3 + t)) = some u) ∧ Bk n := by
      intro i hi
      obtain ⟨cs', h1, h2⟩ := hx i (by omega)
      obtain ⟨n, rfl, hn⟩ := bits_read h2
      rw [e36] at h1
      obtain ⟨_, hlen, hcell⟩ := World.cells?_some h1
      refine ⟨n, fun t u hu => ?_, hn⟩
      have ht : t < 3 := (List.getElem?_eq_some_iff.1 hu).1
      have := hcell t ht
      rw [add_add] at this
      rw [this]; exact hu
    obtain ⟨N, hN⟩ := choose_lt each
    refine ⟨(List.range len).map N, by simp, ?_, ?_, by omega⟩
    · by_cases h0 : len = 0
      · left; rw [h0]; rfl
      · right
        obtain ⟨g, o, sp⟩ := a
        have hsp : sp = none := by
          have := (hN 0 (by omega)).1 0 _ rfl
          cases sp with
          | none => rfl
          | some x => simp [World.cell?, Addr.add] at this; split at this <;> simp at this
        subst hsp
        have ead : ∀ j, (⟨g, o, none⟩ : Addr).add j = ⟨g, o + j, none⟩ := fun j => by by_cases hj0 : j = 0 <;> simp [Addr.add, hj0]
        have hc : Lb w g o ((List.range len).map N) := by
          intro j n hj t u hu
          have hjl : j < len := by have := (List.getElem?_eq_some_iff.1 hj).1; simpa using this
          simp [hjl] at hj
          subst hj
          have := (hN j hjl).1 t u hu
          rw [ead] at this
          rw [Nat.add_assoc]; exact this
        refine ⟨g, o, rfl, ?_, hc⟩
        have := hc 0 (N 0) (by rw [List.getElem?_map, List.getElem?_range (by omega)]; rfl) 0 _ rfl
        exact World.block_lt_of_cell? _ _ this
    · intro n hn
      obtain ⟨i, hi, rfl⟩ := List.mem_map.1 hn
      exact (hN i (List.mem_range.1 hi)).2
end
end Go.Proofs.YtnflphhckgeneaaGreat
