/- The law AigTurns, walked. -/
import Derived.Test.YtdmochghcmeebaaAG13
import Derived.Test.YtdmochghcmeebaaAG14
import Derived.Test.YtdmochghcmeebaaP5
namespace Go.Proofs.Ytdmochghcmeebaa
open Go.RowKit
set_option linter.unusedSimpArgs false
set_option linter.unusedVariables false

theorem li_w64 {s : St} {N : Nat} (h : Sk s) (h0 : 0 < N) (hN : N ≤ 40000) : w64 (liF s N).1 ∧ w64 (liF s N).2.1 ∧ w64 (liF s N).2.2 := by
  have key : ∀ x : Int, w64 (x % (2 * (N : Int))) := fun x => by
    have h1 := Int.emod_nonneg x (by omega : 2 * (N : Int) ≠ 0)
    have h2 := Int.emod_lt_of_pos x (by omega : 0 < 2 * (N : Int))
    exact ⟨by omega, by omega⟩
  unfold liF
  split
  · exact ⟨key _, key _, key _⟩
  · exact ⟨h.2.1, h.2.2.1, h.2.2.2⟩
theorem GB.len {w : World} {B g mo : Nat} {ks : List Kd} (h : GB w B g mo ks) : ks.length ≤ mo + 1 ∧ mo ≤ 32768 := Gr.len h
theorem r4000 : roomOf 4000 = 4000 := by decide
end Go.Proofs.Ytdmochghcmeebaa
