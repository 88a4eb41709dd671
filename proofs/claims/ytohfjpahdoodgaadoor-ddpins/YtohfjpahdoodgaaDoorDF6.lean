/- What pins and numbers that are no diagrams do. -/
import Derived.Test.YtohfjpahdoodgaaDoorDF1
import Derived.Test.YtohfjpahdoodgaaDoorDF5
namespace Go.Proofs.YtohfjpahdoodgaaDoor
open Go.RowKit
set_option linter.unusedSimpArgs false
set_option linter.unusedVariables false

theorem ps_pinA {ns : List T3} {pn : Int → Int} {f : Int} (v : Int) (h : ∃ P : List Int, (∀ f, f ∈ P ↔ 1 ≤ pn f) ∧ ∀ p ∈ P, alive ns p) (hf : alive ns f) : ∃ P : List Int, (∀ q, q ∈ P ↔ 1 ≤ pinA pn f v q) ∧ ∀ p ∈ P, alive ns p := by
  obtain ⟨P, p1, p2⟩ := h
  by_cases hv : 1 ≤ v
  · refine ⟨f :: P, fun q => ?_, fun p hp => ?_⟩
    · unfold pinA
      rw [List.mem_cons, p1]
      by_cases e : q = f
      · subst e; simp [hv]
      · simp [e]
    · rcases List.mem_cons.1 hp with rfl | q
      · exact hf
      · exact p2 _ q
  · refine ⟨P.filter (fun q => decide (q ≠ f)), fun q => ?_, fun p hp => p2 p (List.mem_filter.1 hp).1⟩
    unfold pinA
    rw [List.mem_filter, p1]
    by_cases e : q = f
    · subst e; simp [hv]
    · simp [e]
theorem pinA_pinA (pn : Int → Int) (f a b : Int) : pinA (pinA pn f a) f b = pinA pn f b := by
  funext q; unfold pinA; split <;> rfl
theorem pinA_same {pn : Int → Int} {f a : Int} (h : pn f = a) : pinA pn f a = pn := by
  funext q; unfold pinA; split
  · next e => rw [e, h]
  · rfl
theorem pinA_ge {pn : Int → Int} {f c : Int} (h : 1 ≤ c → 1 ≤ pn f) (q : Int) (hq : 1 ≤ pinA pn f c q) : 1 ≤ pn q := by
  unfold pinA at hq
  split at hq
  · next e => rw [e]; exact h hq
  · exact hq
theorem pinA_iff {pn : Int → Int} {f c : Int} (hc : 1 ≤ c) (h : 1 ≤ pn f) (q : Int) : 1 ≤ pinA pn f c q ↔ 1 ≤ pn q := by
  unfold pinA
  split
  · next e => rw [e]; exact ⟨fun _ => h, fun _ => hc⟩
  · exact Iff.rfl
theorem pinA_at (pn : Int → Int) (f a : Int) : pinA pn f a f = a := if_pos rfl
section
variable {w : World} {F : Nat → Prop} {g vars most : Nat} {S : St} {pn : Int → Int}
theorem not_bad (h : Rm w F g vars most S pn) (f : Int) (hf : ¬ alive S.ns f) :
    Calls Tryd.prog 28 #[.pointer (some ⟨g, 0, none⟩), .int .i64 f] w fun e w' => e = .returned (.tuple #[.int .i64 0, .int .i64 140]) ∧ ∃ F', Rm w' F' g vars most S pn ∧ Ch w w' F F' := by
  obtain ⟨P, hP, hPa⟩ := h.ps
  have e : ansF vars most P S (f, 0, 1) [f] = (0, 140, S) := if_neg (fun q => hf (q f (by simp)))
  refine (not_any ansC_no h.gr f hP hPa (by rw [e]; exact Or.inr ⟨h.sp, rfl⟩)).mono fun e' w' hr => ?_
  rw [e] at hr
  obtain ⟨r1, -, F', r3, r4⟩ := hr
  exact ⟨r1, F', ⟨r3, h.sp, h.ps⟩, r4⟩
theorem ite_bad (h : Rm w F g vars most S pn) (f : Int) (hf : ¬ alive S.ns f) :
    Calls Tryd.prog 29 #[.pointer (some ⟨g, 0, none⟩), .int .i64 0, .int .i64 f, .int .i64 1] w fun e w' => e = .returned (.tuple #[.int .i64 0, .int .i64 140]) ∧ ∃ F', Rm w' F' g vars most S pn ∧ Ch w w' F F' := by
  obtain ⟨P, hP, hPa⟩ := h.ps
  have e : ansF vars most P S (0, f, 1) [0, f, 1] = (0, 140, S) := if_neg (fun q => hf (q f (by simp)))
  refine (ite_any ansC_no h.gr 0 f 1 hP hPa (by rw [e]; exact Or.inr ⟨h.sp, rfl⟩)).mono fun e' w' hr => ?_
  rw [e] at hr
  obtain ⟨r1, -, F', r3, r4⟩ := hr
  exact ⟨r1, F', ⟨r3, h.sp, h.ps⟩, r4⟩
set_option maxRecDepth 20000 in
theorem some_no (h : Gr w F g vars most S pn) (f : Int) (hf : ¬ alive S.ns f) :
    Calls Tryd.prog 15 #[.pointer (some ⟨g, 0, none⟩), .int .i64 f] w fun e w' => e = .returned (.tuple #[.slice none 0 0, .bool false, .int .i64 140]) ∧ w' = w := by
  have HH2 : Hid (Calls Tryd.prog 49 #[.pointer (some ⟨g, 1, none⟩), .int .i64 f] w fun e w' => e = .returned (.bool false) ∧ w' = w) := by
    have := has_any h f
    rwa [decide_eq_false hf] at this
  clear h hf
  go_enter Tryd.func15, Tryd.ntmps15
  go_wp2_with fail
  refine HH2.out.mono ?_
  rintro e w0 ⟨rfl, hw0⟩
  rw [hw0]
  clear hw0 w0
  go_wp2_with fail
  refine bodyPost_ret (v := .tuple #[.slice none 0 0, .bool false, .int .i64 140]) (by simp [results, Tryd.results15, go_sem]) rfl ?_
  exact ⟨rfl, rfl⟩
end
end Go.Proofs.YtohfjpahdoodgaaDoor
