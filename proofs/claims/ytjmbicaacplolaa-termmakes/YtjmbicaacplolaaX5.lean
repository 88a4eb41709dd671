/- Contracts (terms): a choice's and a concatenation's sorts; the sort that is answered. -/
import Derived.Test.YtjmbicaacplolaaX4
namespace Go.Proofs.Ytjmbicaacplolaa
open Go.RowKit
set_option linter.unusedSimpArgs false
set_option linter.unusedVariables false

set_option maxHeartbeats 1600000 in
theorem operandsFit_9 {w : World} {g o c : Nat} {l : List Int} (h : Li w g o l) (h3 : l.length = 3) (hc3 : 3 ≤ c) :
    Calls Try.prog 36 #[.int .i64 9, .slice (some ⟨g, o, none⟩) 3 c] w fun e w' => e = .returned (.bool (opf 9 l)) ∧ w' = w := by
  obtain ⟨s0, hs0⟩ : ∃ s, s = l.getD 0 0 := ⟨_, rfl⟩
  have hc0 : w.cell? ⟨g, o, none⟩ = some (.int .i64 s0) := by rw [hs0]; exact h 0 (by omega)
  have hd2 : (l.drop 1).length = 2 := by rw [List.length_drop, h3]
  have HA := alike_any (c := c - 1) (Li.tail h) (by omega) (by omega)
  rw [hd2] at HA
  obtain ⟨r, hr⟩ : ∃ r, r = opf 9 l := ⟨_, rfl⟩
  rw [← hr]
  obtain ⟨b, hb⟩ : ∃ b, b = alk (l.drop 1) := ⟨_, rfl⟩
  rw [← hb] at HA
  have HAH : Hid _ := HA
  have e : r = (decide (s0 = 0) && b) := by rw [hr, hs0, hb]; rfl
  clear hr hs0 hb HA h
  by_cases z : s0 = 0
  · have e2 : r = b := by rw [e]; simp [z]
    have HE : Hid (r = b) := e2
    subst z
    clear e e2
    go_enter Try.func36, Try.ntmps36
    go_wp2_with fail
    refine Calls.mono HAH.out ?_
    rintro e wz ⟨rfl, rfl⟩
    go_wp2_with fail
    go_ret
    exact ⟨by rw [HE.out]; rfl, rfl⟩
  · have e2 : r = false := by rw [e]; simp [z]
    have HE : Hid (r = false) := e2
    have z2 : (s0 == 0) = false := by simp [z]
    clear e e2
    go_enter Try.func36, Try.ntmps36
    go_wp2_with fail
    go_ret
    exact ⟨by rw [HE.out]; rfl, rfl⟩

set_option maxHeartbeats 1600000 in
theorem operandsFit_38 {w : World} {g o c : Nat} {l : List Int} (h : Li w g o l) (h3 : l.length = 2) :
    Calls Try.prog 36 #[.int .i64 38, .slice (some ⟨g, o, none⟩) 2 c] w fun e w' => e = .returned (.bool (opf 38 l)) ∧ w' = w := by
  obtain ⟨s0, hs0⟩ : ∃ s, s = l.getD 0 0 := ⟨_, rfl⟩
  obtain ⟨s1, hs1⟩ : ∃ s, s = l.getD 1 0 := ⟨_, rfl⟩
  have hc0 : w.cell? ⟨g, o, none⟩ = some (.int .i64 s0) := by rw [hs0]; exact h 0 (by omega)
  have hc1 : w.cell? ⟨g, o + 1, none⟩ = some (.int .i64 s1) := by rw [hs1]; exact h 1 (by omega)
  obtain ⟨r, hr⟩ : ∃ r, r = opf 38 l := ⟨_, rfl⟩
  rw [← hr]
  have e : r = (!decide (s0 = 0) && !decide (s1 = 0)) := by rw [hr, hs0, hs1]; rfl
  clear hr hs0 hs1 h
  by_cases z : s0 = 0
  · have HE : Hid (r = false) := by unfold Hid; rw [e]; simp [z]
    subst z
    clear e
    go_enter Try.func36, Try.ntmps36
    go_wp2
    go_ret
    exact ⟨by rw [HE.out]; rfl, rfl⟩
  · have z2 : (s0 == 0) = false := by simp [z]
    have z3 : (s0 != 0) = true := by simp [z]
    by_cases y : s1 = 0
    · have HE : Hid (r = false) := by unfold Hid; rw [e]; simp [y]
      subst y
      clear e
      go_enter Try.func36, Try.ntmps36
      go_wp2
      go_ret
      exact ⟨by rw [HE.out]; rfl, rfl⟩
    · have HE : Hid (r = true) := by unfold Hid; rw [e]; simp [z, y]
      have y2 : (s1 == 0) = false := by simp [y]
      have y3 : (s1 != 0) = true := by simp [y]
      clear e
      go_enter Try.func36, Try.ntmps36
      go_wp2
      go_ret
      exact ⟨by rw [HE.out]; rfl, rfl⟩
end Go.Proofs.Ytjmbicaacplolaa
