/- SexpParse: the law's walk. -/
import Derived.Test.YtikdjloedeinhaaDoorSX23
import Derived.Test.YtikdjloedeinhaaDoorSX17
namespace Go.Proofs.YtikdjloedeinhaaDoor
open Go.RowKit
set_option linter.unusedSimpArgs false
set_option linter.unusedVariables false

theorem rParse_all (t : ByteArray) (w : World) : Calls Tryd.prog 11 #[.string t] w fun ev w' => ∃ v, ev = .returned (.tuple #[v, .int .i64 ((pars t).2.1 : Int), .int .i64 ((pars t).2.2 : Int)]) ∧ (∃ D, Row w' D (pars t).1 v ∧ ∀ b, D b → w.heap.size ≤ b ∧ b < w'.heap.size) ∧ Below w.heap.size w w' := by
  by_cases ht : 65536 < t.size
  · have hi : (65536 : Int) < (t.size : Int) := by omega
    have HP : Hid (pars t = ([], 0, 24)) := by unfold Hid pars; rw [if_pos ht]
    go_enter Tryd.func11, Tryd.ntmps11
    go_wp2_with fail
    go_ret3
    exact ⟨.slice none 0 0, by rw [HP.out]; rfl, ⟨fun _ => False, by rw [HP.out]; exact .nil _ _, fun _ h => h.elim⟩, Below.refl _ _⟩
  · exact rParse_any (by omega) w
set_option maxRecDepth 20000 in
set_option maxHeartbeats 12800000 in
theorem walk_parse (t : ByteArray) {w : World} (hg : Gl w) : Calls Tryd.prog 3 #[.string t] w fun e w' => e = .returned (.bool true) ∧ Below w.heap.size w w' := by
  have HGL : Hid (Gl w) := hg
  have HKN : Hid _ := known_any hg
  clear hg
  by_cases ht : 20000 < t.size ∧ t.size ≤ 65536
  · have h1 : (20000 : Int) < (t.size : Int) := by omega
    have h2 : (t.size : Int) ≤ 65536 := by omega
    clear ht
    go_enter Tryd.func3, Tryd.ntmps3
    go_wp2_with fail
    refine Calls.mono HKN.out ?_
    rintro e w1 ⟨rfl, hb1⟩
    go_wp2_with fail
    go_ret
    exact ⟨rfl, hb1⟩
  · have h1 : ¬ (20000 : Int) < (t.size : Int) ∨ (20000 : Int) < (t.size : Int) ∧ ¬ (t.size : Int) ≤ 65536 := by omega
    have HPA : Hid (∀ wx, Calls Tryd.prog 10 #[.string t] wx fun ev w' => ∃ v er, ev = .returned (.tuple #[v, er]) ∧ PR wx.heap.size w' v er (pars t) ∧ Below wx.heap.size wx w') := fun wx => Parse_any t wx
    have HRA : Hid (∀ wx, Calls Tryd.prog 11 #[.string t] wx fun ev w' => ∃ v, ev = .returned (.tuple #[v, .int .i64 ((pars t).2.1 : Int), .int .i64 ((pars t).2.2 : Int)]) ∧ (∃ D, Row w' D (pars t).1 v ∧ ∀ b, D b → wx.heap.size ≤ b ∧ b < w'.heap.size) ∧ Below wx.heap.size wx w') := fun wx => rParse_all t wx
    obtain ⟨r, hr⟩ : ∃ r, r = pars t := ⟨_, rfl⟩
    rw [← hr] at HPA HRA
    obtain ⟨ks, A, E⟩ := r
    clear hr ht
    rcases h1 with h1 | ⟨h1, h2⟩
    all_goals
      go_enter Tryd.func3, Tryd.ntmps3
      go_wp2_with fail
      refine Calls.mono HKN.out ?_
      rintro e w1 ⟨rfl, hb1⟩
      have HB1 : Hid _ := hb1
      clear hb1 HKN
      go_wp2_with fail
      refine Calls.mono (HPA.out _) ?_
      rintro e w2 ⟨v, er, rfl, hP, hb2⟩
      have HB2 : Hid (Below w.heap.size w w2) := HB1.out.trans (hb2.mono HB1.out.size)
      clear hb2 HB1
      rcases hP with ⟨hE, hA, hn, D, hR, hD⟩ | ⟨hE, hE2, hk, hv, b, he, hb, hbb⟩
      · simp only at hE hA hR
        subst hE hA hn
        have HR : Hid (Row w2 D ks v ∧ ∀ b, D b → b < w2.heap.size) := ⟨hR, fun b hb => (hD b hb).2⟩
        clear hR hD
        go_wp2_with fail
        refine Calls.mono (HRA.out _) ?_
        rintro e w3 ⟨v2, rfl, ⟨D2, hR2, hD2⟩, hb3⟩
        have HS : Hid (Calls Tryd.prog 13 #[v, v2] w3 fun e w' => e = .returned (.bool true) ∧ Below w3.heap.size w3 w') := by
          refine same_any (D := fun b => D b ∨ D2 b) ((row_more HR.out.1 HR.out.2 hb3).keep (fun _ _ => rfl) (fun _ h => Or.inl h)) (hR2.keep (fun _ _ => rfl) (fun _ h => Or.inr h)) ?_
          rintro g (hg | hg)
          · have := HR.out.2 g hg; have := hb3.size; omega
          · exact (hD2 g hg).2
        have HB3 : Hid (Below w.heap.size w w3) := HB2.out.trans (hb3.mono HB2.out.size)
        clear hR2 hD2 hb3
        go_wp2_with fail
        refine Calls.mono (told_nil _) ?_
        rintro e w4 ⟨rfl, hw4⟩
        rw [hw4]
        clear hw4 w4
        go_wp2_with fail
        refine Calls.mono HS.out ?_
        rintro e w5 ⟨rfl, hb5⟩
        have HB5 : Hid (Below w.heap.size w w5) := HB3.out.trans (hb5.mono HB3.out.size)
        clear hb5
        go_wp2_with fail
        go_ret
        exact ⟨by first | rfl | trivial, HB5.out⟩
      · simp only at hE hE2 hk hb
        subst hk hv he
        have HBB : Hid _ := hb
        have hbl : b < w2.heap.size := (Array.getElem?_eq_some_iff.1 hb).1
        clear hb
        go_wp2_with fail
        refine Calls.mono (HRA.out _) ?_
        rintro e w3 ⟨v2, rfl, ⟨D2, hR2, hD2⟩, hb3⟩
        have HB3 : Hid (Below w.heap.size w w3) := HB2.out.trans (hb3.mono HB2.out.size)
        have HT : Hid (Calls Tryd.prog 12 #[.iface 62 (.pointer (some ⟨b, 0, none⟩))] w3 fun ev w' => ev = .returned (.tuple #[.int .i64 (A : Int), .int .i64 (E : Int)]) ∧ Below w3.heap.size w3 w') := told_err (HGL.out.below (HB3.out)) ((hb3.block b hbl).trans HBB.out)
        have HS : Hid (∀ w4, Below w3.heap.size w3 w4 → Calls Tryd.prog 13 #[.slice none 0 0, v2] w4 fun e w' => e = .returned (.bool true) ∧ Below w4.heap.size w4 w') := fun w4 h4 => same_any (D := D2) (.nil _ _) (row_more hR2 (fun b hb => (hD2 b hb).2) h4) (fun g hg => by have := (hD2 g hg).2; have := h4.size; omega)
        clear hR2 hD2 hb3
        go_wp2_with fail
        refine Calls.mono HT.out ?_
        rintro e w4 ⟨rfl, hb4⟩
        have HB4 : Hid (Below w.heap.size w w4) := HB3.out.trans (hb4.mono HB3.out.size)
        have HS2 : Hid _ := HS.out w4 hb4
        clear hb4 HT
        go_wp2_with fail
        refine Calls.mono HS2.out ?_
        rintro e w5 ⟨rfl, hb5⟩
        have HB5 : Hid (Below w.heap.size w w5) := HB4.out.trans (hb5.mono HB4.out.size)
        clear hb5
        go_wp2_with fail
        go_ret
        exact ⟨by first | rfl | trivial | simp, HB5.out⟩
end Go.Proofs.YtikdjloedeinhaaDoor
