/- Lists of truths. -/
import Derived.Test.YtdmochghcmeebaaAG15
namespace Go.Proofs.Ytdmochghcmeebaa
open Go.RowKit
set_option linter.unusedSimpArgs false
set_option linter.unusedVariables false

/-- v is a list of these truths, in blocks from base on. -/
def Bs' (w : World) (base : Nat) (v : Value) (l : List Bool) : Prop := w.ownsRow base 4 1 v l.length (l.map Value.bool)
theorem Bs'.bz {w : World} {base : Nat} {v : Value} {l : List Bool} (h : Bs' w base v l) : Bz w v l := by
  rcases h.2 with ⟨rfl, hn⟩ | ⟨r, cap, cur, rfl, hb, hg, hc, _, hs, ht⟩
  · have := List.eq_nil_of_length_eq_zero hn
    subst this
    exact ⟨none, 0, rfl, Or.inl rfl⟩
  · refine ⟨_, cap, rfl, Or.inr ⟨r, 0, rfl, fun j hj => ?_⟩⟩
    have e : (l.map Value.bool)[j]? = some (.bool (l.getD j false)) := by
      rw [List.getElem?_map, List.getElem?_eq_getElem hj, List.getD_eq_getElem?_getD, List.getElem?_eq_getElem hj]; rfl
    rw [← ht, List.getElem?_take_of_lt (by omega)] at e
    rw [Nat.zero_add]
    exact cell_of hg _ (by simpa using e)
theorem onesB (l : List Bool) : ∀ u ∈ l.map Value.bool, u.oneCell' = true := by
  intro u hu
  obtain ⟨x, _, rfl⟩ := List.mem_map.1 hu
  rfl
theorem evF_of {ks : List Kd} {l : Int} {il : List Bool} (hl : litB ks.length l = true) (hn : il.length = (insL ks).length) : evF ks l il = (vI ks il l, 0) := by
  unfold evF
  rw [if_neg (by rw [hl]; decide), if_neg (fun x => x hn)]
  rfl

end Go.Proofs.Ytdmochghcmeebaa
