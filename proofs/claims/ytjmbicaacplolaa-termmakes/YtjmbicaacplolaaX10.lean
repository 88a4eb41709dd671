/- Contracts (the document's terms): widths, operators with numbers. -/
import Derived.Test.YtjmbicaacplolaaX9
namespace Go.Proofs.Ytjmbicaacplolaa
open Go.RowKit
set_option linter.unusedSimpArgs false
set_option linter.unusedVariables false

theorem wide_le {s : Int} (h : s ≤ 128) (w : World) :
    Calls Try.prog 41 #[.int .i64 s] w fun e w' => e = .returned (.tuple #[.int .i64 s, .int .i64 0]) ∧ w' = w := by
  have h2 : ¬ 128 < s := by omega
  go_enter Try.func41, Try.ntmps41
  go_wp2_with fail
  refine bodyPost_ret (v := .tuple #[.int .i64 s, .int .i64 0]) (by simp [results, Try.results41, go_sem]) rfl ?_
  exact ⟨rfl, rfl⟩
theorem wide_gt {s : Int} (h : 128 < s) (w : World) :
    Calls Try.prog 41 #[.int .i64 s] w fun e w' => e = .returned (.tuple #[.int .i64 0, .int .i64 31]) ∧ w' = w := by
  go_enter Try.func41, Try.ntmps41
  go_wp2_with fail
  refine bodyPost_ret (v := .tuple #[.int .i64 0, .int .i64 31]) (by simp [results, Try.results41, go_sem]) rfl ?_
  exact ⟨rfl, rfl⟩
theorem wrap_eq64 (x : Int) : IntKind.i64.wrap x = wrap64 x := by rw [IntKind.wrap_i64]; unfold wrap64; rfl
/-- A width, or the error. -/
def wdF (s : Int) : Int × Int := if s ≤ 128 then (s, 0) else (0, 31)
theorem wide_any (s : Int) (w : World) :
    Calls Try.prog 41 #[.int .i64 s] w fun e w' => e = .returned (.tuple #[.int .i64 (wdF s).1, .int .i64 (wdF s).2]) ∧ w' = w := by
  by_cases h : s ≤ 128
  · rw [show wdF s = (s, 0) by unfold wdF; rw [if_pos h]]; exact wide_le h w
  · rw [show wdF s = (0, 31) by unfold wdF; rw [if_neg h]]; exact wide_gt (by omega) w

/-- The numbered operators' sort and error. -/
def nmF (op p q s : Int) : Int × Int :=
  if s = 0 then (0, 30) else if nft op p q s = false then (0, 30) else if op = 39 then (p - q + 1, 0) else if op = 40 ∨ op = 41 then (if 128 < p then (0, 31) else wdF (s + p)) else if op = 44 then (if 128 < p then (0, 31) else wdF (s * p)) else (s, 0)
set_option maxHeartbeats 1600000 in
theorem nm0_39 {p q s : Int} (hs : s = 0) (w : World) :
    Calls Try.prog 39 #[.int .i64 39, .int .i64 p, .int .i64 q, .int .i64 s] w fun e w' => e = .returned (.tuple #[.int .i64 0, .int .i64 30]) ∧ w' = w := by
  subst hs
  go_enter Try.func39, Try.ntmps39
  go_wp2_with fail
  refine bodyPost_ret (v := .tuple #[.int .i64 0, .int .i64 30]) (by simp [results, Try.results39, go_sem]) rfl ?_
  exact ⟨rfl, rfl⟩
set_option maxHeartbeats 1600000 in
theorem nm0_40 {p q s : Int} (hs : s = 0) (w : World) :
    Calls Try.prog 39 #[.int .i64 40, .int .i64 p, .int .i64 q, .int .i64 s] w fun e w' => e = .returned (.tuple #[.int .i64 0, .int .i64 30]) ∧ w' = w := by
  subst hs
  go_enter Try.func39, Try.ntmps39
  go_wp2_with fail
  refine bodyPost_ret (v := .tuple #[.int .i64 0, .int .i64 30]) (by simp [results, Try.results39, go_sem]) rfl ?_
  exact ⟨rfl, rfl⟩
set_option maxHeartbeats 1600000 in
theorem nm0_41 {p q s : Int} (hs : s = 0) (w : World) :
    Calls Try.prog 39 #[.int .i64 41, .int .i64 p, .int .i64 q, .int .i64 s] w fun e w' => e = .returned (.tuple #[.int .i64 0, .int .i64 30]) ∧ w' = w := by
  subst hs
  go_enter Try.func39, Try.ntmps39
  go_wp2_with fail
  refine bodyPost_ret (v := .tuple #[.int .i64 0, .int .i64 30]) (by simp [results, Try.results39, go_sem]) rfl ?_
  exact ⟨rfl, rfl⟩
set_option maxHeartbeats 1600000 in
theorem nm0_42 {p q s : Int} (hs : s = 0) (w : World) :
    Calls Try.prog 39 #[.int .i64 42, .int .i64 p, .int .i64 q, .int .i64 s] w fun e w' => e = .returned (.tuple #[.int .i64 0, .int .i64 30]) ∧ w' = w := by
  subst hs
  go_enter Try.func39, Try.ntmps39
  go_wp2_with fail
  refine bodyPost_ret (v := .tuple #[.int .i64 0, .int .i64 30]) (by simp [results, Try.results39, go_sem]) rfl ?_
  exact ⟨rfl, rfl⟩
set_option maxHeartbeats 1600000 in
theorem nm0_43 {p q s : Int} (hs : s = 0) (w : World) :
    Calls Try.prog 39 #[.int .i64 43, .int .i64 p, .int .i64 q, .int .i64 s] w fun e w' => e = .returned (.tuple #[.int .i64 0, .int .i64 30]) ∧ w' = w := by
  subst hs
  go_enter Try.func39, Try.ntmps39
  go_wp2_with fail
  refine bodyPost_ret (v := .tuple #[.int .i64 0, .int .i64 30]) (by simp [results, Try.results39, go_sem]) rfl ?_
  exact ⟨rfl, rfl⟩
set_option maxHeartbeats 1600000 in
theorem nm0_44 {p q s : Int} (hs : s = 0) (w : World) :
    Calls Try.prog 39 #[.int .i64 44, .int .i64 p, .int .i64 q, .int .i64 s] w fun e w' => e = .returned (.tuple #[.int .i64 0, .int .i64 30]) ∧ w' = w := by
  subst hs
  go_enter Try.func39, Try.ntmps39
  go_wp2_with fail
  refine bodyPost_ret (v := .tuple #[.int .i64 0, .int .i64 30]) (by simp [results, Try.results39, go_sem]) rfl ?_
  exact ⟨rfl, rfl⟩
set_option maxHeartbeats 1600000 in
theorem nm39_a {p q s : Int} (hs : ¬ s = 0) (h1 : q < 0) (w : World) :
    Calls Try.prog 39 #[.int .i64 39, .int .i64 p, .int .i64 q, .int .i64 s] w fun e w' => e = .returned (.tuple #[.int .i64 0, .int .i64 30]) ∧ w' = w := by
  have zs : (s == 0) = false := by simp [hs]
  go_enter Try.func39, Try.ntmps39
  go_wp2_with fail
  refine bodyPost_ret (v := .tuple #[.int .i64 0, .int .i64 30]) (by simp [results, Try.results39, go_sem]) rfl ?_
  exact ⟨rfl, rfl⟩
set_option maxHeartbeats 1600000 in
theorem nm39_b {p q s : Int} (hs : ¬ s = 0) (h1 : ¬ q < 0) (h2 : p < q) (w : World) :
    Calls Try.prog 39 #[.int .i64 39, .int .i64 p, .int .i64 q, .int .i64 s] w fun e w' => e = .returned (.tuple #[.int .i64 0, .int .i64 30]) ∧ w' = w := by
  have zs : (s == 0) = false := by simp [hs]
  go_enter Try.func39, Try.ntmps39
  go_wp2_with fail
  refine bodyPost_ret (v := .tuple #[.int .i64 0, .int .i64 30]) (by simp [results, Try.results39, go_sem]) rfl ?_
  exact ⟨rfl, rfl⟩
set_option maxHeartbeats 1600000 in
theorem nm39_c {p q s : Int} (hs : ¬ s = 0) (h1 : ¬ q < 0) (h2 : ¬ p < q) (h3 : s ≤ p) (w : World) :
    Calls Try.prog 39 #[.int .i64 39, .int .i64 p, .int .i64 q, .int .i64 s] w fun e w' => e = .returned (.tuple #[.int .i64 0, .int .i64 30]) ∧ w' = w := by
  have zs : (s == 0) = false := by simp [hs]
  go_enter Try.func39, Try.ntmps39
  go_wp2_with fail
  refine bodyPost_ret (v := .tuple #[.int .i64 0, .int .i64 30]) (by simp [results, Try.results39, go_sem]) rfl ?_
  exact ⟨rfl, rfl⟩
set_option maxHeartbeats 1600000 in
theorem nm39_d {p q s : Int} (hs : ¬ s = 0) (h1 : ¬ q < 0) (h2 : ¬ p < q) (h3 : ¬ s ≤ p) (h4 : s ≤ 128) (w : World) :
    Calls Try.prog 39 #[.int .i64 39, .int .i64 p, .int .i64 q, .int .i64 s] w fun e w' => e = .returned (.tuple #[.int .i64 (p - q + 1), .int .i64 0]) ∧ w' = w := by
  have zs : (s == 0) = false := by simp [hs]
  have e1 : IntKind.i64.wrap (p - q) = p - q := by rw [IntKind.wrap_i64]; omega
  have e2 : IntKind.i64.wrap (p - q + 1) = p - q + 1 := by rw [IntKind.wrap_i64]; omega
  go_enter Try.func39, Try.ntmps39
  go_wp2_with fail
  refine bodyPost_ret (v := .tuple #[.int .i64 (p - q + 1), .int .i64 0]) (by simp [results, Try.results39, go_sem]) rfl ?_
  exact ⟨rfl, rfl⟩
set_option maxHeartbeats 1600000 in
theorem nm40_a {p q s : Int} (hs : ¬ s = 0) (hq : ¬ q = 0) (w : World) :
    Calls Try.prog 39 #[.int .i64 40, .int .i64 p, .int .i64 q, .int .i64 s] w fun e w' => e = .returned (.tuple #[.int .i64 0, .int .i64 30]) ∧ w' = w := by
  have zs : (s == 0) = false := by simp [hs]
  have zq : (q == 0) = false := by simp [hq]
  have yq : (q != 0) = true := by simp [hq]
  clear hq
  go_enter Try.func39, Try.ntmps39
  go_wp2_with fail
  refine bodyPost_ret (v := .tuple #[.int .i64 0, .int .i64 30]) (by simp [results, Try.results39, go_sem]) rfl ?_
  exact ⟨rfl, rfl⟩
set_option maxHeartbeats 1600000 in
theorem nm40_b {p q s : Int} (hs : ¬ s = 0) (hq : q = 0) (h1 : p < 0) (w : World) :
    Calls Try.prog 39 #[.int .i64 40, .int .i64 p, .int .i64 q, .int .i64 s] w fun e w' => e = .returned (.tuple #[.int .i64 0, .int .i64 30]) ∧ w' = w := by
  have zs : (s == 0) = false := by simp [hs]
  have zq : (q == 0) = true := by simp [hq]
  have yq : (q != 0) = false := by simp [hq]
  clear hq
  go_enter Try.func39, Try.ntmps39
  go_wp2_with fail
  refine bodyPost_ret (v := .tuple #[.int .i64 0, .int .i64 30]) (by simp [results, Try.results39, go_sem]) rfl ?_
  exact ⟨rfl, rfl⟩
set_option maxHeartbeats 1600000 in
theorem nm41_a {p q s : Int} (hs : ¬ s = 0) (hq : ¬ q = 0) (w : World) :
    Calls Try.prog 39 #[.int .i64 41, .int .i64 p, .int .i64 q, .int .i64 s] w fun e w' => e = .returned (.tuple #[.int .i64 0, .int .i64 30]) ∧ w' = w := by
  have zs : (s == 0) = false := by simp [hs]
  have zq : (q == 0) = false := by simp [hq]
  have yq : (q != 0) = true := by simp [hq]
  clear hq
  go_enter Try.func39, Try.ntmps39
  go_wp2_with fail
  refine bodyPost_ret (v := .tuple #[.int .i64 0, .int .i64 30]) (by simp [results, Try.results39, go_sem]) rfl ?_
  exact ⟨rfl, rfl⟩
set_option maxHeartbeats 1600000 in
theorem nm41_b {p q s : Int} (hs : ¬ s = 0) (hq : q = 0) (h1 : p < 0) (w : World) :
    Calls Try.prog 39 #[.int .i64 41, .int .i64 p, .int .i64 q, .int .i64 s] w fun e w' => e = .returned (.tuple #[.int .i64 0, .int .i64 30]) ∧ w' = w := by
  have zs : (s == 0) = false := by simp [hs]
  have zq : (q == 0) = true := by simp [hq]
  have yq : (q != 0) = false := by simp [hq]
  clear hq
  go_enter Try.func39, Try.ntmps39
  go_wp2_with fail
  refine bodyPost_ret (v := .tuple #[.int .i64 0, .int .i64 30]) (by simp [results, Try.results39, go_sem]) rfl ?_
  exact ⟨rfl, rfl⟩
set_option maxHeartbeats 1600000 in
theorem nm42_a {p q s : Int} (hs : ¬ s = 0) (hq : ¬ q = 0) (w : World) :
    Calls Try.prog 39 #[.int .i64 42, .int .i64 p, .int .i64 q, .int .i64 s] w fun e w' => e = .returned (.tuple #[.int .i64 0, .int .i64 30]) ∧ w' = w := by
  have zs : (s == 0) = false := by simp [hs]
  have zq : (q == 0) = false := by simp [hq]
  have yq : (q != 0) = true := by simp [hq]
  clear hq
  go_enter Try.func39, Try.ntmps39
  go_wp2_with fail
  refine bodyPost_ret (v := .tuple #[.int .i64 0, .int .i64 30]) (by simp [results, Try.results39, go_sem]) rfl ?_
  exact ⟨rfl, rfl⟩
set_option maxHeartbeats 1600000 in
theorem nm42_b {p q s : Int} (hs : ¬ s = 0) (hq : q = 0) (h1 : p < 0) (w : World) :
    Calls Try.prog 39 #[.int .i64 42, .int .i64 p, .int .i64 q, .int .i64 s] w fun e w' => e = .returned (.tuple #[.int .i64 0, .int .i64 30]) ∧ w' = w := by
  have zs : (s == 0) = false := by simp [hs]
  have zq : (q == 0) = true := by simp [hq]
  have yq : (q != 0) = false := by simp [hq]
  clear hq
  go_enter Try.func39, Try.ntmps39
  go_wp2_with fail
  refine bodyPost_ret (v := .tuple #[.int .i64 0, .int .i64 30]) (by simp [results, Try.results39, go_sem]) rfl ?_
  exact ⟨rfl, rfl⟩
set_option maxHeartbeats 1600000 in
theorem nm43_a {p q s : Int} (hs : ¬ s = 0) (hq : ¬ q = 0) (w : World) :
    Calls Try.prog 39 #[.int .i64 43, .int .i64 p, .int .i64 q, .int .i64 s] w fun e w' => e = .returned (.tuple #[.int .i64 0, .int .i64 30]) ∧ w' = w := by
  have zs : (s == 0) = false := by simp [hs]
  have zq : (q == 0) = false := by simp [hq]
  have yq : (q != 0) = true := by simp [hq]
  clear hq
  go_enter Try.func39, Try.ntmps39
  go_wp2_with fail
  refine bodyPost_ret (v := .tuple #[.int .i64 0, .int .i64 30]) (by simp [results, Try.results39, go_sem]) rfl ?_
  exact ⟨rfl, rfl⟩
set_option maxHeartbeats 1600000 in
theorem nm43_b {p q s : Int} (hs : ¬ s = 0) (hq : q = 0) (h1 : p < 0) (w : World) :
    Calls Try.prog 39 #[.int .i64 43, .int .i64 p, .int .i64 q, .int .i64 s] w fun e w' => e = .returned (.tuple #[.int .i64 0, .int .i64 30]) ∧ w' = w := by
  have zs : (s == 0) = false := by simp [hs]
  have zq : (q == 0) = true := by simp [hq]
  have yq : (q != 0) = false := by simp [hq]
  clear hq
  go_enter Try.func39, Try.ntmps39
  go_wp2_with fail
  refine bodyPost_ret (v := .tuple #[.int .i64 0, .int .i64 30]) (by simp [results, Try.results39, go_sem]) rfl ?_
  exact ⟨rfl, rfl⟩
set_option maxHeartbeats 1600000 in
theorem nm44_a {p q s : Int} (hs : ¬ s = 0) (hq : ¬ q = 0) (w : World) :
    Calls Try.prog 39 #[.int .i64 44, .int .i64 p, .int .i64 q, .int .i64 s] w fun e w' => e = .returned (.tuple #[.int .i64 0, .int .i64 30]) ∧ w' = w := by
  have zs : (s == 0) = false := by simp [hs]
  have zq : (q == 0) = false := by simp [hq]
  have yq : (q != 0) = true := by simp [hq]
  clear hq
  go_enter Try.func39, Try.ntmps39
  go_wp2_with fail
  refine bodyPost_ret (v := .tuple #[.int .i64 0, .int .i64 30]) (by simp [results, Try.results39, go_sem]) rfl ?_
  exact ⟨rfl, rfl⟩
set_option maxHeartbeats 1600000 in
theorem nm44_b {p q s : Int} (hs : ¬ s = 0) (hq : q = 0) (h1 : p < 0) (w : World) :
    Calls Try.prog 39 #[.int .i64 44, .int .i64 p, .int .i64 q, .int .i64 s] w fun e w' => e = .returned (.tuple #[.int .i64 0, .int .i64 30]) ∧ w' = w := by
  have zs : (s == 0) = false := by simp [hs]
  have zq : (q == 0) = true := by simp [hq]
  have yq : (q != 0) = false := by simp [hq]
  clear hq
  go_enter Try.func39, Try.ntmps39
  go_wp2_with fail
  refine bodyPost_ret (v := .tuple #[.int .i64 0, .int .i64 30]) (by simp [results, Try.results39, go_sem]) rfl ?_
  exact ⟨rfl, rfl⟩
set_option maxHeartbeats 1600000 in
theorem nm44_c {p q s : Int} (hs : ¬ s = 0) (hq : q = 0) (h1 : ¬ p < 0) (h2 : p < 1) (w : World) :
    Calls Try.prog 39 #[.int .i64 44, .int .i64 p, .int .i64 q, .int .i64 s] w fun e w' => e = .returned (.tuple #[.int .i64 0, .int .i64 30]) ∧ w' = w := by
  have zs : (s == 0) = false := by simp [hs]
  have zq : (q == 0) = true := by simp [hq]
  have yq : (q != 0) = false := by simp [hq]
  clear hq
  go_enter Try.func39, Try.ntmps39
  go_wp2_with fail
  refine bodyPost_ret (v := .tuple #[.int .i64 0, .int .i64 30]) (by simp [results, Try.results39, go_sem]) rfl ?_
  exact ⟨rfl, rfl⟩
set_option maxHeartbeats 1600000 in
theorem nm42_d {p q s : Int} (hs : ¬ s = 0) (hq : q = 0) (h1 : ¬ p < 0) (w : World) :
    Calls Try.prog 39 #[.int .i64 42, .int .i64 p, .int .i64 q, .int .i64 s] w fun e w' => e = .returned (.tuple #[.int .i64 s, .int .i64 0]) ∧ w' = w := by
  have zs : (s == 0) = false := by simp [hs]
  have zq : (q == 0) = true := by simp [hq]
  have yq : (q != 0) = false := by simp [hq]
  clear hq
  go_enter Try.func39, Try.ntmps39
  go_wp2_with fail
  refine bodyPost_ret (v := .tuple #[.int .i64 s, .int .i64 0]) (by simp [results, Try.results39, go_sem]) rfl ?_
  exact ⟨rfl, rfl⟩
set_option maxHeartbeats 1600000 in
theorem nm43_d {p q s : Int} (hs : ¬ s = 0) (hq : q = 0) (h1 : ¬ p < 0) (w : World) :
    Calls Try.prog 39 #[.int .i64 43, .int .i64 p, .int .i64 q, .int .i64 s] w fun e w' => e = .returned (.tuple #[.int .i64 s, .int .i64 0]) ∧ w' = w := by
  have zs : (s == 0) = false := by simp [hs]
  have zq : (q == 0) = true := by simp [hq]
  have yq : (q != 0) = false := by simp [hq]
  clear hq
  go_enter Try.func39, Try.ntmps39
  go_wp2_with fail
  refine bodyPost_ret (v := .tuple #[.int .i64 s, .int .i64 0]) (by simp [results, Try.results39, go_sem]) rfl ?_
  exact ⟨rfl, rfl⟩
set_option maxHeartbeats 1600000 in
theorem nm40_e {p q s : Int} (hs : ¬ s = 0) (hq : q = 0) (h1 : ¬ p < 0) (h3 : 128 < p) (w : World) :
    Calls Try.prog 39 #[.int .i64 40, .int .i64 p, .int .i64 q, .int .i64 s] w fun e w' => e = .returned (.tuple #[.int .i64 0, .int .i64 31]) ∧ w' = w := by
  have zs : (s == 0) = false := by simp [hs]
  have zq : (q == 0) = true := by simp [hq]
  have yq : (q != 0) = false := by simp [hq]
  clear hq
  go_enter Try.func39, Try.ntmps39
  go_wp2_with fail
  refine bodyPost_ret (v := .tuple #[.int .i64 0, .int .i64 31]) (by simp [results, Try.results39, go_sem]) rfl ?_
  exact ⟨rfl, rfl⟩
set_option maxHeartbeats 1600000 in
theorem nm40_f {p q s : Int} (hs : ¬ s = 0) (hq : q = 0) (h1 : ¬ p < 0) (h3 : ¬ 128 < p) (s0 : 0 ≤ s) (s1 : s ≤ 128) (w : World) :
    Calls Try.prog 39 #[.int .i64 40, .int .i64 p, .int .i64 q, .int .i64 s] w fun e w' => e = .returned (.tuple #[.int .i64 (wdF (s + p)).1, .int .i64 (wdF (s + p)).2]) ∧ w' = w := by
  have zs : (s == 0) = false := by simp [hs]
  have zq : (q == 0) = true := by simp [hq]
  have yq : (q != 0) = false := by simp [hq]
  clear hq
  have e1 : IntKind.i64.wrap (s + p) = s + p := by rw [IntKind.wrap_i64]; omega
  have e2 : wrap64 (s + p) = s + p := by rw [← wrap_eq64]; exact e1
  obtain ⟨E, hE⟩ : ∃ E, E = wdF (s + p) := ⟨_, rfl⟩
  have HW : Hid (∀ wx, Calls Try.prog 41 #[.int .i64 (s + p)] wx fun e w' => e = .returned (.tuple #[.int .i64 E.1, .int .i64 E.2]) ∧ w' = wx) := fun wx => by rw [hE]; exact wide_any _ wx
  rw [← hE]
  clear hE
  go_enter Try.func39, Try.ntmps39
  go_wp2_with fail
  refine (HW.out _).mono ?_
  rintro e wz ⟨rfl, hq⟩
  rw [hq]
  clear hq wz
  go_wp2_with fail
  refine bodyPost_ret (v := .tuple #[.int .i64 E.1, .int .i64 E.2]) (by simp [results, Try.results39, go_sem]) rfl ?_
  exact ⟨rfl, rfl⟩
set_option maxHeartbeats 1600000 in
theorem nm41_e {p q s : Int} (hs : ¬ s = 0) (hq : q = 0) (h1 : ¬ p < 0) (h3 : 128 < p) (w : World) :
    Calls Try.prog 39 #[.int .i64 41, .int .i64 p, .int .i64 q, .int .i64 s] w fun e w' => e = .returned (.tuple #[.int .i64 0, .int .i64 31]) ∧ w' = w := by
  have zs : (s == 0) = false := by simp [hs]
  have zq : (q == 0) = true := by simp [hq]
  have yq : (q != 0) = false := by simp [hq]
  clear hq
  go_enter Try.func39, Try.ntmps39
  go_wp2_with fail
  refine bodyPost_ret (v := .tuple #[.int .i64 0, .int .i64 31]) (by simp [results, Try.results39, go_sem]) rfl ?_
  exact ⟨rfl, rfl⟩
set_option maxHeartbeats 1600000 in
theorem nm41_f {p q s : Int} (hs : ¬ s = 0) (hq : q = 0) (h1 : ¬ p < 0) (h3 : ¬ 128 < p) (s0 : 0 ≤ s) (s1 : s ≤ 128) (w : World) :
    Calls Try.prog 39 #[.int .i64 41, .int .i64 p, .int .i64 q, .int .i64 s] w fun e w' => e = .returned (.tuple #[.int .i64 (wdF (s + p)).1, .int .i64 (wdF (s + p)).2]) ∧ w' = w := by
  have zs : (s == 0) = false := by simp [hs]
  have zq : (q == 0) = true := by simp [hq]
  have yq : (q != 0) = false := by simp [hq]
  clear hq
  have e1 : IntKind.i64.wrap (s + p) = s + p := by rw [IntKind.wrap_i64]; omega
  have e2 : wrap64 (s + p) = s + p := by rw [← wrap_eq64]; exact e1
  obtain ⟨E, hE⟩ : ∃ E, E = wdF (s + p) := ⟨_, rfl⟩
  have HW : Hid (∀ wx, Calls Try.prog 41 #[.int .i64 (s + p)] wx fun e w' => e = .returned (.tuple #[.int .i64 E.1, .int .i64 E.2]) ∧ w' = wx) := fun wx => by rw [hE]; exact wide_any _ wx
  rw [← hE]
  clear hE
  go_enter Try.func39, Try.ntmps39
  go_wp2_with fail
  refine (HW.out _).mono ?_
  rintro e wz ⟨rfl, hq⟩
  rw [hq]
  clear hq wz
  go_wp2_with fail
  refine bodyPost_ret (v := .tuple #[.int .i64 E.1, .int .i64 E.2]) (by simp [results, Try.results39, go_sem]) rfl ?_
  exact ⟨rfl, rfl⟩
set_option maxHeartbeats 1600000 in
theorem nm44_e {p q s : Int} (hs : ¬ s = 0) (hq : q = 0) (h1 : ¬ p < 0) (h2 : ¬ p < 1) (h3 : 128 < p) (w : World) :
    Calls Try.prog 39 #[.int .i64 44, .int .i64 p, .int .i64 q, .int .i64 s] w fun e w' => e = .returned (.tuple #[.int .i64 0, .int .i64 31]) ∧ w' = w := by
  have zs : (s == 0) = false := by simp [hs]
  have zq : (q == 0) = true := by simp [hq]
  have yq : (q != 0) = false := by simp [hq]
  clear hq
  go_enter Try.func39, Try.ntmps39
  go_wp2_with fail
  refine bodyPost_ret (v := .tuple #[.int .i64 0, .int .i64 31]) (by simp [results, Try.results39, go_sem]) rfl ?_
  exact ⟨rfl, rfl⟩
set_option maxHeartbeats 1600000 in
theorem nm44_f {p q s : Int} (hs : ¬ s = 0) (hq : q = 0) (h1 : ¬ p < 0) (h2 : ¬ p < 1) (h3 : ¬ 128 < p) (s0 : 0 ≤ s) (s1 : s ≤ 128) (w : World) :
    Calls Try.prog 39 #[.int .i64 44, .int .i64 p, .int .i64 q, .int .i64 s] w fun e w' => e = .returned (.tuple #[.int .i64 (wdF (s * p)).1, .int .i64 (wdF (s * p)).2]) ∧ w' = w := by
  have zs : (s == 0) = false := by simp [hs]
  have zq : (q == 0) = true := by simp [hq]
  have yq : (q != 0) = false := by simp [hq]
  clear hq
  have e1 : IntKind.i64.wrap (s * p) = s * p := by rw [IntKind.wrap_i64]; have hh1 : s * p ≤ 128 * 128 := Int.mul_le_mul s1 (by omega) (by omega) (by decide); have hh2 : 0 ≤ s * p := Int.mul_nonneg s0 (by omega); omega
  have e2 : wrap64 (s * p) = s * p := by rw [← wrap_eq64]; exact e1
  obtain ⟨E, hE⟩ : ∃ E, E = wdF (s * p) := ⟨_, rfl⟩
  have HW : Hid (∀ wx, Calls Try.prog 41 #[.int .i64 (s * p)] wx fun e w' => e = .returned (.tuple #[.int .i64 E.1, .int .i64 E.2]) ∧ w' = wx) := fun wx => by rw [hE]; exact wide_any _ wx
  rw [← hE]
  clear hE
  go_enter Try.func39, Try.ntmps39
  go_wp2_with fail
  refine (HW.out _).mono ?_
  rintro e wz ⟨rfl, hq⟩
  rw [hq]
  clear hq wz
  go_wp2_with fail
  refine bodyPost_ret (v := .tuple #[.int .i64 E.1, .int .i64 E.2]) (by simp [results, Try.results39, go_sem]) rfl ?_
  exact ⟨rfl, rfl⟩
theorem numbered_any {op p q s : Int} (ho : 39 ≤ op) (ho2 : op ≤ 44) (s0 : 0 ≤ s) (s1 : s ≤ 128) (w : World) :
    Calls Try.prog 39 #[.int .i64 op, .int .i64 p, .int .i64 q, .int .i64 s] w fun e w' => e = .returned (.tuple #[.int .i64 (nmF op p q s).1, .int .i64 (nmF op p q s).2]) ∧ w' = w := by
  have hx : op = 39 ∨ op = 40 ∨ op = 41 ∨ op = 42 ∨ op = 43 ∨ op = 44 := by omega
  by_cases hs : s = 0
  · have e : nmF op p q s = (0, 30) := by unfold nmF; rw [if_pos hs]
    rw [e]
    rcases hx with rfl | rfl | rfl | rfl | rfl | rfl
    · exact nm0_39 hs w
    · exact nm0_40 hs w
    · exact nm0_41 hs w
    · exact nm0_42 hs w
    · exact nm0_43 hs w
    · exact nm0_44 hs w
  · rcases hx with rfl | rfl | rfl | rfl | rfl | rfl
    · by_cases h1 : q < 0
      · rw [show nmF 39 p q s = (0, 30) by simp [nmF, hs, nft]; omega]; exact nm39_a hs h1 w
      · by_cases h2 : p < q
        · rw [show nmF 39 p q s = (0, 30) by simp [nmF, hs, nft]; omega]; exact nm39_b hs h1 h2 w
        · by_cases h3 : s ≤ p
          · rw [show nmF 39 p q s = (0, 30) by simp [nmF, hs, nft]; omega]; exact nm39_c hs h1 h2 h3 w
          · rw [show nmF 39 p q s = (p - q + 1, 0) by simp [nmF, hs, nft]; omega]; exact nm39_d hs h1 h2 h3 s1 w
    · by_cases hq : q = 0
      · by_cases h1 : p < 0
        · rw [show nmF 40 p q s = (0, 30) by simp [nmF, hs, nft]; omega]; exact nm40_b hs hq h1 w
        · by_cases h3 : 128 < p
          · rw [show nmF 40 p q s = (0, 31) by simp [nmF, hs, nft, h3, hq]; omega]; exact nm40_e hs hq h1 h3 w
          · rw [show nmF 40 p q s = wdF (s + p) by simp [nmF, hs, nft, h3, hq]; omega]; exact nm40_f hs hq h1 h3 s0 s1 w
      · rw [show nmF 40 p q s = (0, 30) by simp [nmF, hs, nft, hq]]; exact nm40_a hs hq w
    · by_cases hq : q = 0
      · by_cases h1 : p < 0
        · rw [show nmF 41 p q s = (0, 30) by simp [nmF, hs, nft]; omega]; exact nm41_b hs hq h1 w
        · by_cases h3 : 128 < p
          · rw [show nmF 41 p q s = (0, 31) by simp [nmF, hs, nft, h3, hq]; omega]; exact nm41_e hs hq h1 h3 w
          · rw [show nmF 41 p q s = wdF (s + p) by simp [nmF, hs, nft, h3, hq]; omega]; exact nm41_f hs hq h1 h3 s0 s1 w
      · rw [show nmF 41 p q s = (0, 30) by simp [nmF, hs, nft, hq]]; exact nm41_a hs hq w
    · by_cases hq : q = 0
      · by_cases h1 : p < 0
        · rw [show nmF 42 p q s = (0, 30) by simp [nmF, hs, nft]; omega]; exact nm42_b hs hq h1 w
        · rw [show nmF 42 p q s = (s, 0) by simp [nmF, hs, nft, hq]; omega]; exact nm42_d hs hq h1 w
      · rw [show nmF 42 p q s = (0, 30) by simp [nmF, hs, nft, hq]]; exact nm42_a hs hq w
    · by_cases hq : q = 0
      · by_cases h1 : p < 0
        · rw [show nmF 43 p q s = (0, 30) by simp [nmF, hs, nft]; omega]; exact nm43_b hs hq h1 w
        · rw [show nmF 43 p q s = (s, 0) by simp [nmF, hs, nft, hq]; omega]; exact nm43_d hs hq h1 w
      · rw [show nmF 43 p q s = (0, 30) by simp [nmF, hs, nft, hq]]; exact nm43_a hs hq w
    · by_cases hq : q = 0
      · by_cases h1 : p < 0
        · rw [show nmF 44 p q s = (0, 30) by simp [nmF, hs, nft]; omega]; exact nm44_b hs hq h1 w
        · by_cases h2 : p < 1
          · rw [show nmF 44 p q s = (0, 30) by simp [nmF, hs, nft]; omega]; exact nm44_c hs hq h1 h2 w
          · by_cases h3 : 128 < p
            · rw [show nmF 44 p q s = (0, 31) by simp [nmF, hs, nft, h3, hq]; omega]; exact nm44_e hs hq h1 h2 h3 w
            · rw [show nmF 44 p q s = wdF (s * p) by simp [nmF, hs, nft, h3, hq]; omega]; exact nm44_f hs hq h1 h2 h3 s0 s1 w
      · rw [show nmF 44 p q s = (0, 30) by simp [nmF, hs, nft, hq]]; exact nm44_a hs hq w
end Go.Proofs.Ytjmbicaacplolaa
