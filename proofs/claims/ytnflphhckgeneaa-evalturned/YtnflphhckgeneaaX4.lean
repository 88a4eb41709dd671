/- Contracts (terms): whether operands' sorts fit an operator. -/
import Derived.Test.YtnflphhckgeneaaMg1
namespace Go.Proofs.Ytnflphhckgeneaa
open Go.RowKit
set_option linter.unusedSimpArgs false
set_option linter.unusedVariables false

/-- Whether operands' sorts fit an operator. -/
def opf (op : Int) (l : List Int) : Bool :=
  if op = 3 ∨ op = 4 ∨ op = 5 ∨ op = 6 ∨ op = 7 then decide (l.getD 0 0 = 0) && alk l else if op = 8 then alk l else if op = 9 then decide (l.getD 0 0 = 0) && alk (l.drop 1) else if op = 38 then !decide (l.getD 0 0 = 0) && !decide (l.getD 1 0 = 0) else !decide (l.getD 0 0 = 0) && alk l
theorem Li.tail {w : World} {g o : Nat} {l : List Int} (h : Li w g o l) : Li w g (o + 1) (l.drop 1) := fun j hj => by
  rw [List.length_drop] at hj
  have := h (j + 1) (by omega)
  rw [show o + 1 + j = o + (j + 1) by omega, this]
  congr 2
  rw [List.getD_eq_getElem?_getD, List.getD_eq_getElem?_getD, List.getElem?_drop, Nat.add_comm 1 j]

set_option maxHeartbeats 800000 in
theorem operandsFit_3 {w : World} {g o c : Nat} {l : List Int} (h : Li w g o l) (hl : l.length ≤ 1000) (h1 : 1 ≤ l.length) :
    Calls Try.prog 25 #[.int .i64 3, .slice (some ⟨g, o, none⟩) l.length c] w fun e w' => e = .returned (.bool (opf 3 l)) ∧ w' = w := by
  have HC : Hid _ := h
  obtain ⟨s0, hs0⟩ : ∃ s, s = l.getD 0 0 := ⟨_, rfl⟩
  have hc0 : w.cell? ⟨g, o, none⟩ = some (.int .i64 s0) := by rw [hs0]; exact HC.out 0 (by omega)
  have HA := alike_any (c := c) h hl h1
  obtain ⟨n, hn⟩ : ∃ n, n = l.length := ⟨_, rfl⟩
  rw [← hn] at hl h1 HA ⊢
  obtain ⟨r, hr⟩ : ∃ r, r = opf 3 l := ⟨_, rfl⟩
  rw [← hr]
  obtain ⟨b, hb⟩ : ∃ b, b = alk l := ⟨_, rfl⟩
  rw [← hb] at HA
  have HAH : Hid _ := HA
  have hI : (0 : Int) < (n : Int) := by omega
  have e : r = (decide (s0 = 0) && b) := by rw [hr, hs0, hb]; rfl
  clear hr hs0 hb HA h hn
  by_cases z : s0 = 0
  · have e2 : r = b := by rw [e]; simp [z]
    have HE : Hid (r = b) := e2
    subst z
    clear e e2
    go_enter Try.func25, Try.ntmps25
    go_wp2_with fail
    refine Calls.mono HAH.out ?_
    rintro e wz ⟨rfl, rfl⟩
    go_wp2_with fail
    go_ret
    exact ⟨by rw [HE.out]; rfl, rfl⟩
  · have e2 : r = false := by rw [e]; simp [z]
    have HE : Hid (r = false) := e2
    have z2 : (s0 == 0) = false := by simp [z]
    clear e e2
    go_enter Try.func25, Try.ntmps25
    go_wp2_with fail
    go_ret
    exact ⟨by rw [HE.out]; rfl, rfl⟩

set_option maxHeartbeats 800000 in
theorem operandsFit_4 {w : World} {g o c : Nat} {l : List Int} (h : Li w g o l) (hl : l.length ≤ 1000) (h1 : 1 ≤ l.length) :
    Calls Try.prog 25 #[.int .i64 4, .slice (some ⟨g, o, none⟩) l.length c] w fun e w' => e = .returned (.bool (opf 4 l)) ∧ w' = w := by
  have HC : Hid _ := h
  obtain ⟨s0, hs0⟩ : ∃ s, s = l.getD 0 0 := ⟨_, rfl⟩
  have hc0 : w.cell? ⟨g, o, none⟩ = some (.int .i64 s0) := by rw [hs0]; exact HC.out 0 (by omega)
  have HA := alike_any (c := c) h hl h1
  obtain ⟨n, hn⟩ : ∃ n, n = l.length := ⟨_, rfl⟩
  rw [← hn] at hl h1 HA ⊢
  obtain ⟨r, hr⟩ : ∃ r, r = opf 4 l := ⟨_, rfl⟩
  rw [← hr]
  obtain ⟨b, hb⟩ : ∃ b, b = alk l := ⟨_, rfl⟩
  rw [← hb] at HA
  have HAH : Hid _ := HA
  have hI : (0 : Int) < (n : Int) := by omega
  have e : r = (decide (s0 = 0) && b) := by rw [hr, hs0, hb]; rfl
  clear hr hs0 hb HA h hn
  by_cases z : s0 = 0
  · have e2 : r = b := by rw [e]; simp [z]
    have HE : Hid (r = b) := e2
    subst z
    clear e e2
    go_enter Try.func25, Try.ntmps25
    go_wp2_with fail
    refine Calls.mono HAH.out ?_
    rintro e wz ⟨rfl, rfl⟩
    go_wp2_with fail
    go_ret
    exact ⟨by rw [HE.out]; rfl, rfl⟩
  · have e2 : r = false := by rw [e]; simp [z]
    have HE : Hid (r = false) := e2
    have z2 : (s0 == 0) = false := by simp [z]
    clear e e2
    go_enter Try.func25, Try.ntmps25
    go_wp2_with fail
    go_ret
    exact ⟨by rw [HE.out]; rfl, rfl⟩

set_option maxHeartbeats 800000 in
theorem operandsFit_5 {w : World} {g o c : Nat} {l : List Int} (h : Li w g o l) (hl : l.length ≤ 1000) (h1 : 1 ≤ l.length) :
    Calls Try.prog 25 #[.int .i64 5, .slice (some ⟨g, o, none⟩) l.length c] w fun e w' => e = .returned (.bool (opf 5 l)) ∧ w' = w := by
  have HC : Hid _ := h
  obtain ⟨s0, hs0⟩ : ∃ s, s = l.getD 0 0 := ⟨_, rfl⟩
  have hc0 : w.cell? ⟨g, o, none⟩ = some (.int .i64 s0) := by rw [hs0]; exact HC.out 0 (by omega)
  have HA := alike_any (c := c) h hl h1
  obtain ⟨n, hn⟩ : ∃ n, n = l.length := ⟨_, rfl⟩
  rw [← hn] at hl h1 HA ⊢
  obtain ⟨r, hr⟩ : ∃ r, r = opf 5 l := ⟨_, rfl⟩
  rw [← hr]
  obtain ⟨b, hb⟩ : ∃ b, b = alk l := ⟨_, rfl⟩
  rw [← hb] at HA
  have HAH : Hid _ := HA
  have hI : (0 : Int) < (n : Int) := by omega
  have e : r = (decide (s0 = 0) && b) := by rw [hr, hs0, hb]; rfl
  clear hr hs0 hb HA h hn
  by_cases z : s0 = 0
  · have e2 : r = b := by rw [e]; simp [z]
    have HE : Hid (r = b) := e2
    subst z
    clear e e2
    go_enter Try.func25, Try.ntmps25
    go_wp2_with fail
    refine Calls.mono HAH.out ?_
    rintro e wz ⟨rfl, rfl⟩
    go_wp2_with fail
    go_ret
    exact ⟨by rw [HE.out]; rfl, rfl⟩
  · have e2 : r = false := by rw [e]; simp [z]
    have HE : Hid (r = false) := e2
    have z2 : (s0 == 0) = false := by simp [z]
    clear e e2
    go_enter Try.func25, Try.ntmps25
    go_wp2_with fail
    go_ret
    exact ⟨by rw [HE.out]; rfl, rfl⟩

set_option maxHeartbeats 800000 in
theorem operandsFit_6 {w : World} {g o c : Nat} {l : List Int} (h : Li w g o l) (hl : l.length ≤ 1000) (h1 : 1 ≤ l.length) :
    Calls Try.prog 25 #[.int .i64 6, .slice (some ⟨g, o, none⟩) l.length c] w fun e w' => e = .returned (.bool (opf 6 l)) ∧ w' = w := by
  have HC : Hid _ := h
  obtain ⟨s0, hs0⟩ : ∃ s, s = l.getD 0 0 := ⟨_, rfl⟩
  have hc0 : w.cell? ⟨g, o, none⟩ = some (.int .i64 s0) := by rw [hs0]; exact HC.out 0 (by omega)
  have HA := alike_any (c := c) h hl h1
  obtain ⟨n, hn⟩ : ∃ n, n = l.length := ⟨_, rfl⟩
  rw [← hn] at hl h1 HA ⊢
  obtain ⟨r, hr⟩ : ∃ r, r = opf 6 l := ⟨_, rfl⟩
  rw [← hr]
  obtain ⟨b, hb⟩ : ∃ b, b = alk l := ⟨_, rfl⟩
  rw [← hb] at HA
  have HAH : Hid _ := HA
  have hI : (0 : Int) < (n : Int) := by omega
  have e : r = (decide (s0 = 0) && b) := by rw [hr, hs0, hb]; rfl
  clear hr hs0 hb HA h hn
  by_cases z : s0 = 0
  · have e2 : r = b := by rw [e]; simp [z]
    have HE : Hid (r = b) := e2
    subst z
    clear e e2
    go_enter Try.func25, Try.ntmps25
    go_wp2_with fail
    refine Calls.mono HAH.out ?_
    rintro e wz ⟨rfl, rfl⟩
    go_wp2_with fail
    go_ret
    exact ⟨by rw [HE.out]; rfl, rfl⟩
  · have e2 : r = false := by rw [e]; simp [z]
    have HE : Hid (r = false) := e2
    have z2 : (s0 == 0) = false := by simp [z]
    clear e e2
    go_enter Try.func25, Try.ntmps25
    go_wp2_with fail
    go_ret
    exact ⟨by rw [HE.out]; rfl, rfl⟩

set_option maxHeartbeats 800000 in
theorem operandsFit_7 {w : World} {g o c : Nat} {l : List Int} (h : Li w g o l) (hl : l.length ≤ 1000) (h1 : 1 ≤ l.length) :
    Calls Try.prog 25 #[.int .i64 7, .slice (some ⟨g, o, none⟩) l.length c] w fun e w' => e = .returned (.bool (opf 7 l)) ∧ w' = w := by
  have HC : Hid _ := h
  obtain ⟨s0, hs0⟩ : ∃ s, s = l.getD 0 0 := ⟨_, rfl⟩
  have hc0 : w.cell? ⟨g, o, none⟩ = some (.int .i64 s0) := by rw [hs0]; exact HC.out 0 (by omega)
  have HA := alike_any (c := c) h hl h1
  obtain ⟨n, hn⟩ : ∃ n, n = l.length := ⟨_, rfl⟩
  rw [← hn] at hl h1 HA ⊢
  obtain ⟨r, hr⟩ : ∃ r, r = opf 7 l := ⟨_, rfl⟩
  rw [← hr]
  obtain ⟨b, hb⟩ : ∃ b, b = alk l := ⟨_, rfl⟩
  rw [← hb] at HA
  have HAH : Hid _ := HA
  have hI : (0 : Int) < (n : Int) := by omega
  have e : r = (decide (s0 = 0) && b) := by rw [hr, hs0, hb]; rfl
  clear hr hs0 hb HA h hn
  by_cases z : s0 = 0
  · have e2 : r = b := by rw [e]; simp [z]
    have HE : Hid (r = b) := e2
    subst z
    clear e e2
    go_enter Try.func25, Try.ntmps25
    go_wp2_with fail
    refine Calls.mono HAH.out ?_
    rintro e wz ⟨rfl, rfl⟩
    go_wp2_with fail
    go_ret
    exact ⟨by rw [HE.out]; rfl, rfl⟩
  · have e2 : r = false := by rw [e]; simp [z]
    have HE : Hid (r = false) := e2
    have z2 : (s0 == 0) = false := by simp [z]
    clear e e2
    go_enter Try.func25, Try.ntmps25
    go_wp2_with fail
    go_ret
    exact ⟨by rw [HE.out]; rfl, rfl⟩

set_option maxHeartbeats 800000 in
theorem operandsFit_8 {w : World} {g o c : Nat} {l : List Int} (h : Li w g o l) (hl : l.length ≤ 1000) (h1 : 1 ≤ l.length) :
    Calls Try.prog 25 #[.int .i64 8, .slice (some ⟨g, o, none⟩) l.length c] w fun e w' => e = .returned (.bool (opf 8 l)) ∧ w' = w := by
  have HC : Hid _ := h
  obtain ⟨s0, hs0⟩ : ∃ s, s = l.getD 0 0 := ⟨_, rfl⟩
  have hc0 : w.cell? ⟨g, o, none⟩ = some (.int .i64 s0) := by rw [hs0]; exact HC.out 0 (by omega)
  have HA := alike_any (c := c) h hl h1
  obtain ⟨n, hn⟩ : ∃ n, n = l.length := ⟨_, rfl⟩
  rw [← hn] at hl h1 HA ⊢
  obtain ⟨r, hr⟩ : ∃ r, r = opf 8 l := ⟨_, rfl⟩
  rw [← hr]
  obtain ⟨b, hb⟩ : ∃ b, b = alk l := ⟨_, rfl⟩
  rw [← hb] at HA
  have HAH : Hid _ := HA
  have hI : (0 : Int) < (n : Int) := by omega
  have e : r = b := by rw [hr, hb]; rfl
  have HE : Hid (r = b) := e
  clear hr hs0 hb HA h hn e
  go_enter Try.func25, Try.ntmps25
  go_wp2_with fail
  refine Calls.mono HAH.out ?_
  rintro e wz ⟨rfl, rfl⟩
  go_wp2_with fail
  go_ret
  exact ⟨by rw [HE.out]; rfl, rfl⟩

set_option maxHeartbeats 1600000 in
theorem operandsFit_else {op : Int} {w : World} {g o c : Nat} {l : List Int} (hop : op < 3 ∨ (9 < op ∧ op < 38) ∨ 38 < op) (h : Li w g o l) (hl : l.length ≤ 1000) (h1 : 1 ≤ l.length) :
    Calls Try.prog 25 #[.int .i64 op, .slice (some ⟨g, o, none⟩) l.length c] w fun e w' => e = .returned (.bool (opf op l)) ∧ w' = w := by
  have HC : Hid _ := h
  obtain ⟨s0, hs0⟩ : ∃ s, s = l.getD 0 0 := ⟨_, rfl⟩
  have hc0 : w.cell? ⟨g, o, none⟩ = some (.int .i64 s0) := by rw [hs0]; exact HC.out 0 (by omega)
  have HA := alike_any (c := c) h hl h1
  obtain ⟨n, hn⟩ : ∃ n, n = l.length := ⟨_, rfl⟩
  rw [← hn] at hl h1 HA ⊢
  obtain ⟨r, hr⟩ : ∃ r, r = opf op l := ⟨_, rfl⟩
  rw [← hr]
  obtain ⟨b, hb⟩ : ∃ b, b = alk l := ⟨_, rfl⟩
  rw [← hb] at HA
  have HAH : Hid _ := HA
  have hI : (0 : Int) < (n : Int) := by omega
  have e : r = (!decide (s0 = 0) && b) := by rw [hr, hs0, hb]; unfold opf; rw [if_neg (by omega), if_neg (by omega), if_neg (by omega), if_neg (by omega)]
  have q3 : (op == 3) = false := by simp; omega
  have q4 : (op == 4) = false := by simp; omega
  have q5 : (op == 5) = false := by simp; omega
  have q6 : (op == 6) = false := by simp; omega
  have q7 : (op == 7) = false := by simp; omega
  have q8 : (op == 8) = false := by simp; omega
  have q9 : (op == 9) = false := by simp; omega
  have q38 : (op == 38) = false := by simp; omega
  clear hr hs0 hb HA h hn hop
  by_cases z : s0 = 0
  · have e2 : r = false := by rw [e]; simp [z]
    have HE : Hid (r = false) := e2
    subst z
    clear e e2
    go_enter Try.func25, Try.ntmps25
    go_wp2_with fail
    go_ret
    exact ⟨by rw [HE.out]; rfl, rfl⟩
  · have e2 : r = b := by rw [e]; simp [z]
    have HE : Hid (r = b) := e2
    have z2 : (s0 == 0) = false := by simp [z]
    have z3 : (s0 != 0) = true := by simp [z]
    clear e e2
    go_enter Try.func25, Try.ntmps25
    go_wp2_with fail
    refine Calls.mono HAH.out ?_
    rintro e wz ⟨rfl, rfl⟩
    go_wp2_with fail
    go_ret
    exact ⟨by rw [HE.out]; rfl, rfl⟩
end Go.Proofs.Ytnflphhckgeneaa
