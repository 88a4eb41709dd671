/- Contracts (store): Clone, Clause; a search in a rising list, hasJust. -/
import Derived.Test.YtkndjndhjdfhcaaST12
namespace Go.Proofs.Ytkndjndhjdfhcaa
open Go.RowKit
set_option linter.unusedSimpArgs false
set_option linter.unusedVariables false

theorem nil_eq (w : World) (n c : Nat) : (binOp .eql 27 (.slice none n c) (.slice none 0 0)).run Try.prog w = .ok (.bool true) w := by kernel_rfl
theorem nil_ne (w : World) (a : Addr) (n c : Nat) : (binOp .eql 27 (.slice (some a) n c) (.slice none 0 0)).run Try.prog w = .ok (.bool false) w := by kernel_rfl
theorem empty_row (w : World) : Is' (w.alloc (.cells #[] 3)) w.heap.size (.slice (some ⟨w.heap.size, 0, none⟩) 0 0) [] := ⟨rfl, Or.inr ⟨w.heap.size, 0, #[], rfl, Nat.le_refl _, heap_alloc_new w _, Nat.le_refl _, by decide, rfl, rfl⟩⟩
set_option maxHeartbeats 1600000 in
theorem clone_sr {w : World} {u : Value} {l : List Int} (h : Sr w u l) (hl : l.length ≤ 1000000) :
    Calls Try.prog 37 #[u] w fun e w' => ∃ u', e = .returned u' ∧ Is' w' w.heap.size u' l ∧ Below w.heap.size w w' := by
  obtain ⟨a, c, rfl⟩ := h.out
  have H : Hid _ := h
  obtain ⟨n, hn⟩ : ∃ n, n = l.length := ⟨_, rfl⟩
  have HN : Hid _ := hn
  rw [← hn] at H ⊢
  cases a with
  | none =>
    have h0 : l = [] := by
      obtain ⟨a', c', e, h2⟩ := h.ex
      rcases h2 with h2 | ⟨r, o, ha, -⟩
      · exact h2
      · injection e with e1; rw [ha] at e1; cases e1
    have hq := nil_eq w n c
    clear h hn
    go_enter Try.func37, Try.ntmps37
    go_wp2_with fail
    go_ret
    rw [h0]
    exact ⟨_, rfl, World.ownsRow_nil _ _ _ _, Below.refl _ _⟩
  | some a =>
    have hq := nil_ne w a n c
    have hrow := empty_row w
    have HS : Hid (Sr (w.alloc (.cells #[] 3)) (.slice (some a) n c) l) := by
      unfold Hid; rw [hn]; exact h.below (by go_grown)
    clear h hn
    go_enter Try.func37, Try.ntmps37
    go_wp2_with (at_builtin; refine wpList_app rfl _ _ rfl w.heap.size _ [] rfl hrow _ l rfl HS.out (by simp; omega) (by simp) ?_; intro v1 w1 hown hgrow hat; obtain ⟨a1, m1, k1, hv1, HM1⟩ := own_sl hown; subst hv1)
    go_ret
    refine ⟨_, rfl, by simpa using hown, ?_⟩
    exact low_grown (Below.refl _ _) (Nat.le_refl _) hgrow (fun q hq => by cases hq; exact Nat.le_refl _)
set_option maxHeartbeats 1600000 in
theorem clause_yes {w : World} {F : Nat → Prop} {s mo : Nat} {C : List (List Int)} (h : So w F s mo C) {k : Nat} {c : List Int} (hk : C[k]? = some c) :
    Calls Try.prog 21 #[.pointer (some ⟨s, 0, none⟩), .int .i64 (k : Int)] w fun e w' => ∃ u, e = .returned (.tuple #[u, .int .i64 0]) ∧ Is' w' w.heap.size u c ∧ Below w.heap.size w w' := by
  have HL : Hid _ := slen_any h
  have HI : Hid _ := slits_any h hk
  have hkl := (List.getElem?_eq_some_iff.1 hk).1
  have hlen := h.len
  have hcl : c.length ≤ 1000000 := by
    have h1 := arN_succ hk
    have h2 := arN_le C (k + 1)
    omega
  obtain ⟨n, hn⟩ : ∃ n, n = C.length := ⟨_, rfl⟩
  rw [← hn] at HL hkl hlen
  have hd0 : decide ((k : Int) < 0) = false := by simp
  have hd1 : decide ((n : Int) ≤ (k : Int)) = false := decide_eq_false (by omega)
  clear h hk hn
  go_enter Try.func21, Try.ntmps21
  go_wp2_with fail
  refine Calls.mono HL.out ?_
  rintro ev wy ⟨rfl, hy⟩
  rw [hy]
  clear hy wy
  go_wp2_with fail
  refine Calls.mono HI.out ?_
  rintro ev w1 ⟨⟨u, rfl, hS⟩, hal⟩
  have HC : Hid _ := clone_sr hS hcl
  obtain ⟨a, k1, hu⟩ := hS.out
  obtain ⟨m1, hm1⟩ : ∃ m, m = c.length := ⟨_, rfl⟩
  rw [← hm1] at hu
  subst hu
  have HAL : Hid (Al w w1) := hal
  clear hal hS hm1
  go_wp2_with fail
  refine Calls.mono HC.out ?_
  rintro ev w2 ⟨u2, rfl, hI2, hb2⟩
  obtain ⟨a2, m2, k2, hv2, HM2⟩ := own_sl hI2
  subst hv2
  have HI2 : Hid _ := hI2
  have HB2 : Hid _ := hb2
  clear hI2 hb2
  go_wp2_with fail
  go_ret2
  have hsz : w1.heap.size = w.heap.size := by rw [HAL.out.heap]
  refine ⟨_, rfl, ?_, ?_⟩
  · rw [← hsz]; exact HI2.out
  · exact (HAL.out.below _).trans (HB2.out.mono (by omega))
theorem clause_no {w : World} {F : Nat → Prop} {s mo : Nat} {C : List (List Int)} (h : So w F s mo C) {k : Int} (hk : k < 0 ∨ (C.length : Int) ≤ k) :
    Calls Try.prog 21 #[.pointer (some ⟨s, 0, none⟩), .int .i64 k] w fun e w' => e = .returned (.tuple #[.slice none 0 0, .int .i64 113]) ∧ Below w.heap.size w w' := by
  have HL : Hid _ := slen_any h
  obtain ⟨n, hn⟩ : ∃ n, n = C.length := ⟨_, rfl⟩
  rw [← hn] at HL hk
  clear h hn
  by_cases h0 : k < 0
  · clear hk
    go_enter Try.func21, Try.ntmps21
    go_wp2_with fail
    go_ret2
    exact ⟨rfl, Below.refl _ _⟩
  · have hd0 : decide (k < 0) = false := decide_eq_false h0
    have hd1 : (n : Int) ≤ k := by omega
    clear hk
    go_enter Try.func21, Try.ntmps21
    go_wp2_with fail
    refine Calls.mono HL.out ?_
    rintro ev wy ⟨rfl, hy⟩
    rw [hy]
    clear hy wy
    go_wp2_with fail
    go_ret2
    exact ⟨rfl, Below.refl _ _⟩
end Go.Proofs.Ytkndjndhjdfhcaa
