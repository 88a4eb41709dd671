/- A slice of truths that is handed in: what its cells hold, how long it may be. -/
import Derived.Test.YtdmochghcmeebaaP5
import Derived.SizedLaws
namespace Go.Proofs.Ytdmochghcmeebaa
open Go.RowKit Go.ChangeShapes Go.WideShapes Go.Deep
section
variable {H : Type} {enc : TypeId × Value → H} {w : World} {base : Nat} {spare : Nat → Bool} {held : Bool}
theorem bools_sized {fuel : Nat} {s0 : Option Addr} {len cap : Nat} {x : DataW H × List MemPlace} (h : DataW.trod enc Try.prog w base (fun _ => true) held fuel 23 [.slice s0 len cap] = some x) :
    ∃ l : List Bool, l.length = len ∧ Bz w (.slice s0 len cap) l ∧ len ≤ maxLen ∧ (len = 0 ∨ ∃ elems spare, x.1 = .slice elems spare ∧ elems.length = len) := by
  have e4 : Try.prog.cellsOf 4 = 1 := by kernel_rfl
  rcases open_slice Try.underlying23 h with ⟨h0, -⟩ | ⟨a, len', cap', m, nn, D, Pl, hcs, hb, hl, hm, hmm, hxx, hx⟩
  · simp at h0
    obtain ⟨rfl, rfl, rfl⟩ := h0
    exact ⟨[], rfl, ⟨none, 0, rfl, Or.inl rfl⟩, by decide, Or.inl rfl⟩
  · simp at hcs
    obtain ⟨rfl, rfl, rfl⟩ := hcs
    simp only [if_true] at hmm
    subst hmm
    have each : ∀ i, i < len → ∃ n : Bool, w.cell? (a.add i) = some (.bool n) := by
      intro i hi
      obtain ⟨cs', h1, h2⟩ := hx i (by omega)
      obtain ⟨n, rfl, -⟩ := DataW.trod_bool Try.underlying4 h2
      rw [e4] at h1
      obtain ⟨_, hlen, hcell⟩ := World.cells?_some h1
      refine ⟨n, ?_⟩
      have := hcell 0 (by decide)
      rw [add_add] at this
      simpa using this
    obtain ⟨N, hN⟩ := choose_lt each
    refine ⟨(List.range len).map N, by simp, ?_, by omega, Or.inr ⟨_, _, by rw [hxx], by simp⟩⟩
    by_cases h0 : len = 0
    · subst h0
      exact ⟨_, _, rfl, Or.inl rfl⟩
    · obtain ⟨g, o, sp⟩ := a
      have hsp : sp = none := by
        have := hN 0 (by omega)
        cases sp with
        | none => rfl
        | some x => simp [World.cell?, Addr.add] at this; split at this <;> simp at this
      subst hsp
      have ead : ∀ j, (⟨g, o, none⟩ : Addr).add j = ⟨g, o + j, none⟩ := fun j => by by_cases hj0 : j = 0 <;> simp [Addr.add, hj0]
      refine ⟨_, m, by simp, Or.inr ⟨g, o, rfl, fun j hj => ?_⟩⟩
      have hj' : j < len := by simpa using hj
      have := hN j hj'
      rw [ead] at this
      rw [this, List.getD_eq_getElem?_getD, List.getElem?_map, List.getElem?_range hj']
      rfl
end
end Go.Proofs.Ytdmochghcmeebaa
