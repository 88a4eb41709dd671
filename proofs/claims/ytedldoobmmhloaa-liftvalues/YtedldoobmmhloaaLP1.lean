/- A slice of truths that is handed in and only read: what its cells hold. -/
import Derived.Test.YtedldoobmmhloaaLF2
import Derived.Deep.Slices
import Derived.ProofKit
import Derived.OpenShut
namespace Go.Proofs.Ytedldoobmmhloaa
open Go.RowKit Go.ChangeShapes Go.WideShapes Go.Deep
section
variable {H : Type} {enc : TypeId × Value → H} {w : World} {base : Nat} {spare : Nat → Bool} {held : Bool}
theorem br_read {fuel : Nat} {s0 : Option Addr} {len cap : Nat} {x : DataW H × List MemPlace} (h : DataW.trod enc Try.prog w base (fun _ => true) held fuel 22 [.slice s0 len cap] = some x) :
    ∃ l : List Bool, l.length = len ∧ Br w s0 l := by
  have e4 : Try.prog.cellsOf 4 = 1 := by kernel_rfl
  rcases open_slice Try.underlying22 h with ⟨h0, -⟩ | ⟨a, len', cap', m, nn, D, Pl, hcs, hb, hl, hm, hmm, hxx, hx⟩
  · simp at h0
    obtain ⟨rfl, rfl, rfl⟩ := h0
    exact ⟨[], rfl, Or.inl rfl⟩
  · simp at hcs
    obtain ⟨rfl, rfl, rfl⟩ := hcs
    simp only [if_true] at hmm
    subst hmm
    have each : ∀ i, i < len → ∃ n : Bool, w.cell? (a.add i) = some (.bool n) := by
      intro i hi
      obtain ⟨cs', h1, h2⟩ := hx i (by omega)
      obtain ⟨n, rfl, -⟩ := DataW.trod_bool Try.underlying4 h2
      rw [e4] at h1
      obtain ⟨_, hlen, hcell⟩ := World.cells?_some h1
      refine ⟨n, ?_⟩
      have := hcell 0 (by decide)
      rw [add_add] at this
      simpa using this
    obtain ⟨N, hN⟩ := choose_lt each
    refine ⟨(List.range len).map N, by simp, ?_⟩
    by_cases h0 : len = 0
    · subst h0
      exact Or.inl rfl
    · obtain ⟨g, o, sp⟩ := a
      have hsp : sp = none := by
        have := hN 0 (by omega)
        cases sp with
        | none => rfl
        | some x => simp [World.cell?, Addr.add] at this; split at this <;> simp at this
      subst hsp
      have ead : ∀ j, (⟨g, o, none⟩ : Addr).add j = ⟨g, o + j, none⟩ := fun j => by by_cases hj0 : j = 0 <;> simp [Addr.add, hj0]
      refine Or.inr ⟨g, o, rfl, ?_, fun j hj => ?_⟩
      · have h := hN 0 (by omega)
        rw [ead] at h
        exact World.block_lt_of_cell? _ _ h
      have hj' : j < len := by simpa using hj
      have := hN j hj'
      rw [ead] at this
      rw [this, List.getD_eq_getElem?_getD, List.getElem?_map, List.getElem?_range hj']
      rfl
end
end Go.Proofs.Ytedldoobmmhloaa
