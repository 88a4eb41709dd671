/- Contracts (dd): Count, whatever the number of pieces. -/
import Derived.Test.YtkmkmgnfolpphaaDoorDW3
import Derived.Test.YtkmkmgnfolpphaaDoorDW5
namespace Go.Proofs.YtkmkmgnfolpphaaDoor
open Go.RowKit
set_option linter.unusedSimpArgs false
set_option linter.unusedVariables false

/-- Count, whatever the number of pieces. -/
theorem countB_any {w : World} {F0 : Nat → Prop} {g vars most : Nat} {S : St} {pn : Int → Int} (h0 : Gr w F0 g vars most S pn) (hv : vars ≤ 4096) (f : Int) (ha : alive S.ns f) (htab : Lib.TabIs Tryd.prog w "internal/strconv.uint64pow10" .u64 Lib.pow10Tab) :
    Calls Tryd.prog 11 #[.pointer (some ⟨g, 0, none⟩), .int .i64 f] w fun e w' => e = .returned (.tuple #[.string ⟨(textF (cvl vars S.ns f)).toArray⟩, .int .i64 0]) ∧ Below w.heap.size w w' := by
  have HH2 : Hid (Calls Tryd.prog 38 #[.pointer (some ⟨g, 1, none⟩), .int .i64 f] w fun e w' => e = .returned (.bool true) ∧ w' = w) := by
    have := has_any h0.cut f
    rwa [decide_eq_true ha] at this
  have HC : Hid (Calls Tryd.prog 42 #[.pointer (some ⟨g, 0, none⟩), .int .i64 f] w fun e w' => ∃ u, e = .returned u ∧ Ud w' u (cvl vars S.ns f) ∧ Below w.heap.size w w') := countP h0 hv f ha
  have HTAB : Hid _ := htab
  clear h0 ha htab
  go_enter Tryd.func11, Tryd.ntmps11
  go_wp2_with fail
  refine HH2.out.mono ?_
  rintro e w0 ⟨rfl, hw0⟩
  rw [hw0]
  clear hw0 w0
  go_wp2_with fail
  refine HC.out.mono ?_
  rintro e w1 ⟨u, rfl, hu, hb⟩
  have HB : Hid _ := hb
  have HT : Hid _ := textP hu (by rw [cvl_len]; omega) (cvl_sm _ _ _) (by rw [cvl_len]; omega) (tab_below HTAB.out hb)
  have hlen := cvl_len vars S.ns f
  obtain ⟨P, hP⟩ : ∃ P, P = (cvl vars S.ns f).length := ⟨_, rfl⟩
  obtain ⟨r, o, c, rfl, -, -⟩ := hu.ex
  rw [← hP] at HT ⊢
  clear hu hb HC HH2 hlen hP
  go_wp2_with fail
  refine Calls.mono HT.out ?_
  rintro e w2 ⟨rfl, hb2⟩
  go_wp2_with fail
  refine bodyPost_ret (v := .tuple #[.string ⟨(textF (cvl vars S.ns f)).toArray⟩, .int .i64 0]) (by simp [results, Tryd.results11, go_sem]) rfl ?_
  exact ⟨rfl, HB.out.trans (hb2.mono HB.out.size)⟩
end Go.Proofs.YtkmkmgnfolpphaaDoor
