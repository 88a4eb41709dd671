/- Slices of steps (plaitlaw10's) that are handed in: what their cells hold. -/
import Derived.Test.YtajpnlmglkifcaaCN15
import Derived.Deep.Slices
import Derived.ProofKit
import Derived.OpenShut
namespace Go.Proofs.Ytajpnlmglkifcaa
open Go.RowKit Go.ChangeShapes Go.WideShapes Go.Deep

section
variable {H : Type} {enc : TypeId × Value → H} {w : World} {base : Nat} {spare : Nat → Bool} {held : Bool}

set_option maxRecDepth 20000 in
theorem step_read {fuel : Nat} {cs : List Value} {x : DataW H × List MemPlace} (h : DataW.trod enc Try.prog w base spare held fuel 52 cs = some x) : ∃ s : Tp, cs = s.cs := by
  obtain ⟨xs, k, -, -, hl, hxl, hf⟩ := DataW.trod_struct Try.underlying52 h
  have e3 : Try.prog.cellsOf 3 = 1 := by kernel_rfl
  have e5 : Try.prog.cellsOf 52 = 3 := by kernel_rfl
  rw [e5] at hl
  have hxl5 : xs.length = 3 := hxl
  clear hxl
  match xs, hxl5, cs, hl with
  | [y0, y1, y2], _, [v0, v1, v2], _ =>
    have g0 := hf 0 _ rfl
    have g1 := hf 1 _ rfl
    have g2 := hf 2 _ rfl
    simp [e3] at g0 g1 g2
    obtain ⟨a0, h0, -, w0⟩ := DataW.trod_int Try.underlying3 g0
    obtain ⟨a1, h1, -, w1⟩ := DataW.trod_int Try.underlying3 g1
    obtain ⟨a2, h2, -, w2⟩ := DataW.trod_int Try.underlying3 g2
    cases h0; cases h1; cases h2
    exact ⟨⟨a0, a1, a2⟩, rfl⟩

theorem slice_read {fuel : Nat} {s0 : Option Addr} {len cap : Nat} {x : DataW H × List MemPlace} (h : DataW.trod enc Try.prog w base (fun _ => true) held fuel 22 [.slice s0 len cap] = some x) :
    ∃ l : List Tp, l.length = len ∧ La w s0 l ∧ len ≤ maxLen := by
  have e5 : Try.prog.cellsOf 52 = 3 := by kernel_rfl
  rcases open_slice Try.underlying22 h with ⟨h0, -⟩ | ⟨a, len', cap', m, nn, D, Pl, hcs, hb, hl, hm, hmm, -, hx⟩
  · simp at h0
    obtain ⟨rfl, rfl, rfl⟩ := h0
    exact ⟨[], rfl, Or.inl rfl, by decide⟩
  · simp at hcs
    obtain ⟨rfl, rfl, rfl⟩ := hcs
    simp only [if_true] at hmm
    subst hmm
    have each : ∀ i, i < len → ∃ n : Tp, (∀ t u, n.cs[t]? = some u → w.cell? (a.add (i * 3 + t)) = some u) := by
      intro i hi
      obtain ⟨cs', h1, h2⟩ := hx i (by omega)
      obtain ⟨n, rfl⟩ := step_read h2
      rw [e5] at h1
      obtain ⟨_, hlen, hcell⟩ := World.cells?_some h1
      refine ⟨n, fun t u hu => ?_⟩
      have ht : t < 3 := (List.getElem?_eq_some_iff.1 hu).1
      have := hcell t ht
      rw [add_add] at this
      rw [this]; exact hu
    obtain ⟨N, hN⟩ := choose_lt each
    refine ⟨(List.range len).map N, by simp, ?_, by omega⟩
    · by_cases h0 : len = 0
      · left; rw [h0]; rfl
      · right
        obtain ⟨g, o, sp⟩ := a
        have hsp : sp = none := by
          have := (hN 0 (by omega)) 0 _ rfl
          cases sp with
          | none => rfl
          | some x => simp [World.cell?, Addr.add] at this; split at this <;> simp at this
        subst hsp
        have ead : ∀ j, (⟨g, o, none⟩ : Addr).add j = ⟨g, o + j, none⟩ := fun j => by by_cases hj0 : j = 0 <;> simp [Addr.add, hj0]
        have hc : Ln w g o ((List.range len).map N) := by
          intro j n hj t u hu
          have hjl : j < len := by have := (List.getElem?_eq_some_iff.1 hj).1; simpa using this
          simp [hjl] at hj
          subst hj
          have := (hN j hjl) t u hu
          rw [ead] at this
          rw [Nat.add_assoc]; exact this
        refine ⟨g, o, rfl, ?_, hc⟩
        have := hc 0 (N 0) (by rw [List.getElem?_map, List.getElem?_range (by omega)]; rfl) 0 _ rfl
        exact World.block_lt_of_cell? _ _ this
end
end Go.Proofs.Ytajpnlmglkifcaa
