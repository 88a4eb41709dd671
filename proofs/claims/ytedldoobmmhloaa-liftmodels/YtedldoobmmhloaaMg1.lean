import Derived.WalkKit
import Derived.ProofKit
import Derived.OpenShut
import Derived.Below
import Derived.Test.YtedldoobmmhloaaProg
import Derived.Test.YtedldoobmmhloaaAb
import Derived.Handy
import Derived.WalkLawsBesides
import Derived.Deep.RegionHeld3
namespace Go.Proofs.Ytedldoobmmhloaa
set_option maxHeartbeats 12800000
set_option maxRecDepth 100000
open Go.RowKit
set_option linter.unusedSimpArgs false
set_option linter.unusedVariables false
open Go.ChangeShapes Go.WideShapes Go.ChangeAt
def ari (op : Int) : Int := if op < 1 ∨ 44 < op then -1 else if op = 1 ∨ op = 2 then 0 else if op = 3 ∨ op = 10 ∨ op = 11 ∨ op = 39 ∨ op = 40 ∨ op = 41 ∨ op = 42 ∨ op = 43 ∨ op = 44 then 1 else if op = 9 then 3 else 2
theorem arity_any (op : Int) (w : World) :
  Calls Try.prog 44 #[.int .i64 op] w fun e w' => e = .returned (.int .i64 (ari op)) ∧ w' = w := by
 by_cases h0 : op < 1
 ·have e : ari op = -1 := by unfold ari; rw [if_pos (Or.inl h0)]
  rw [e]
  have q1 : (op == 1) = false := by simp; omega
  have q2 : (op == 2) = false := by simp; omega
  have q3 : (op == 3) = false := by simp; omega
  have q10 : (op == 10) = false := by simp; omega
  have q11 : (op == 11) = false := by simp; omega
  have q39 : (op == 39) = false := by simp; omega
  have q40 : (op == 40) = false := by simp; omega
  have q41 : (op == 41) = false := by simp; omega
  have q42 : (op == 42) = false := by simp; omega
  have q43 : (op == 43) = false := by simp; omega
  have q44 : (op == 44) = false := by simp; omega
  have q9 : (op == 9) = false := by simp; omega
  go_enter Try.func44, Try.ntmps44
  go_wp2
  go_ret
  exact ⟨rfl, rfl⟩
 ·by_cases h1 : 44 < op
  ·have e : ari op = -1 := by unfold ari; rw [if_pos (Or.inr h1)]
   rw [e]
   have q1 : (op == 1) = false := by simp; omega
   have q2 : (op == 2) = false := by simp; omega
   have q3 : (op == 3) = false := by simp; omega
   have q10 : (op == 10) = false := by simp; omega
   have q11 : (op == 11) = false := by simp; omega
   have q39 : (op == 39) = false := by simp; omega
   have q40 : (op == 40) = false := by simp; omega
   have q41 : (op == 41) = false := by simp; omega
   have q42 : (op == 42) = false := by simp; omega
   have q43 : (op == 43) = false := by simp; omega
   have q44 : (op == 44) = false := by simp; omega
   have q9 : (op == 9) = false := by simp; omega
   go_enter Try.func44, Try.ntmps44
   go_wp2
   go_ret
   exact ⟨rfl, rfl⟩
  ·by_cases h2 : op = 1 ∨ op = 2 ∨ op = 3 ∨ op = 10 ∨ op = 11 ∨ op = 39 ∨ op = 40 ∨ op = 41 ∨ op = 42 ∨ op = 43 ∨ op = 44 ∨ op = 9
   ·clear h0 h1
    rcases h2 with rfl | rfl | rfl | rfl | rfl | rfl | rfl | rfl | rfl | rfl | rfl | rfl
    all_goals
     go_enter Try.func44, Try.ntmps44
     go_wp2
     go_ret
     exact ⟨rfl, rfl⟩
   ·have e : ari op = 2 := by unfold ari; rw [if_neg (by omega), if_neg (by omega), if_neg (by omega), if_neg (by omega)]
    rw [e]
    have q1 : (op == 1) = false := by simp; omega
    have q2 : (op == 2) = false := by simp; omega
    have q3 : (op == 3) = false := by simp; omega
    have q10 : (op == 10) = false := by simp; omega
    have q11 : (op == 11) = false := by simp; omega
    have q39 : (op == 39) = false := by simp; omega
    have q40 : (op == 40) = false := by simp; omega
    have q41 : (op == 41) = false := by simp; omega
    have q42 : (op == 42) = false := by simp; omega
    have q43 : (op == 43) = false := by simp; omega
    have q44 : (op == 44) = false := by simp; omega
    have q9 : (op == 9) = false := by simp; omega
    clear h2
    go_enter Try.func44, Try.ntmps44
    go_wp2
    go_ret
    exact ⟨rfl, rfl⟩
def srt (s : Int) : Bool := decide (0 ≤ s) && decide (s ≤ 128)
theorem isSort_any (s : Int) (w : World) :
  Calls Try.prog 45 #[.int .i64 s] w fun e w' => e = .returned (.bool (srt s)) ∧ w' = w := by
 by_cases h0 : 0 ≤ s
 ·by_cases h1 : s ≤ 128
  ·have e : srt s = true := by simp [srt, h0, h1]
   rw [e]
   go_enter Try.func45, Try.ntmps45
   go_wp2
   go_ret
   exact ⟨by simp [h1], rfl⟩
  ·have e : srt s = false := by simp [srt, h1]
   rw [e]
   go_enter Try.func45, Try.ntmps45
   go_wp2
   go_ret
   exact ⟨by simp [h1], rfl⟩
 ·have e : srt s = false := by simp [srt, h0]
  rw [e]
  go_enter Try.func45, Try.ntmps45
  go_wp2
  go_ret
  exact ⟨rfl, rfl⟩
def Li (w : World) (g o : Nat) (l : List Int) : Prop := ∀ j, j < l.length → w.cell? ⟨g, o + j, none⟩ = some (.int .i64 (l.getD j 0))
theorem all_no {l : List Int} {f : Int → Bool} {k : Nat} (hk : k < l.length) (h : f (l.getD k 0) = false) : l.all f = false := by
 rw [List.all_eq_false]
 exact ⟨l[k], List.getElem_mem hk, by rw [List.getD_eq_getElem?_getD, List.getElem?_eq_getElem hk] at h; simpa using h⟩
theorem all_yes {l : List Int} {f : Int → Bool} (h : ∀ j, j < l.length → f (l.getD j 0) = true) : l.all f = true := by
 rw [List.all_eq_true]
 intro x hx
 obtain ⟨j, hj, rfl⟩ := List.getElem_of_mem hx
 have := h j hj
 rwa [List.getD_eq_getElem?_getD, List.getElem?_eq_getElem hj] at this
theorem areSorts_any {w : World} {g o c : Nat} {l : List Int} (h : Li w g o l) (hl : l.length ≤ 1000) :
  Calls Try.prog 46 #[.slice (some ⟨g, o, none⟩) l.length c] w fun e w' => e = .returned (.bool (l.all srt)) ∧ w' = w := by
 have HC : Hid _ := h
 obtain ⟨n, hn⟩ : ∃ n, n = l.length := ⟨_, rfl⟩
 rw [← hn] at hl ⊢
 obtain ⟨r, hr⟩ : ∃ r, r = l.all srt := ⟨_, rfl⟩
 rw [← hr]
 have HR : Hid (r = l.all srt) := hr
 have HN : Hid (n = l.length) := hn
 clear h hr hn
 go_enter Try.func46, Try.ntmps46
 go_wp2_with fail
 go_loop [7] (fun i => ∃ k : Nat, k ≤ n ∧ i = .int .i64 (k : Int) ∧ ∀ j, j < k → srt (l.getD j 0) = true) (fun i => n - (intOf i).toNat)
 case atStart => exact ⟨0, Nat.zero_le _, rfl, fun j hj => by omega⟩
 case round =>
  obtain ⟨k, hk, rfl, hz⟩ := hrel
  have HZ : Hid _ := hz
  clear hz
  by_cases hlt : k < n
  ·obtain ⟨s, hs⟩ : ∃ s, s = l.getD k 0 := ⟨_, rfl⟩
   have hck : w.cell? ⟨g, o + k, none⟩ = some (.int .i64 s) := by rw [hs]; exact HC.out k (by rw [← HN.out]; exact hlt)
   obtain ⟨b, hb⟩ : ∃ b, b = srt s := ⟨_, rfl⟩
   have HI : Hid (∀ wx, Calls Try.prog 45 #[.int .i64 s] wx fun e w' => e = .returned (.bool b) ∧ w' = wx) := fun wx => by rw [hb]; exact isSort_any s wx
   have HB : Hid (srt (l.getD k 0) = b) := by unfold Hid; rw [hb, hs]
   clear hs hb
   cases b
   ·go_wp2_with fail
    refine (HI.out _).mono ?_
    rintro e wz ⟨rfl, rfl⟩
    go_wp2_with fail
    go_ret
    exact ⟨by rw [HR.out, all_no (by rw [← HN.out]; exact hlt) HB.out]; rfl, rfl⟩
   ·go_wp2_with fail
    refine (HI.out _).mono ?_
    rintro e wz ⟨rfl, rfl⟩
    go_wp2_with fail
    go_round
    case rel =>
     refine ⟨k + 1, by omega, by go_num, fun j hj => ?_⟩
     by_cases e : j = k
     ·subst e; exact HB.out
     ·exact HZ.out j (by omega)
    case measure => simp [intOf]; omega
  ·obtain rfl : k = n := by omega
   go_wp2_with fail
   go_ret
   exact ⟨by rw [HR.out, all_yes (fun j hj => HZ.out j (by rw [HN.out]; exact hj))]; rfl, rfl⟩
def alk (l : List Int) : Bool := l.all fun s => s == l.getD 0 0
theorem alike_any {w : World} {g o c : Nat} {l : List Int} (h : Li w g o l) (hl : l.length ≤ 1000) (h1 : 1 ≤ l.length) :
  Calls Try.prog 52 #[.slice (some ⟨g, o, none⟩) l.length c] w fun e w' => e = .returned (.bool (alk l)) ∧ w' = w := by
 have HC : Hid _ := h
 obtain ⟨s0, hs0⟩ : ∃ s, s = l.getD 0 0 := ⟨_, rfl⟩
 have hc0 : w.cell? ⟨g, o, none⟩ = some (.int .i64 s0) := by rw [hs0]; exact HC.out 0 (by omega)
 obtain ⟨n, hn⟩ : ∃ n, n = l.length := ⟨_, rfl⟩
 rw [← hn] at hl h1 ⊢
 obtain ⟨r, hr⟩ : ∃ r, r = alk l := ⟨_, rfl⟩
 rw [← hr]
 have HR : Hid (r = l.all fun s => s == l.getD 0 0) := hr
 have HS : Hid (s0 = l.getD 0 0) := hs0
 have HN : Hid (n = l.length) := hn
 clear h hr hn hs0
 go_enter Try.func52, Try.ntmps52
 go_wp2_with fail
 go_loop [7] (fun i => ∃ k : Nat, 0 ≤ k ∧ k ≤ n ∧ i = .int .i64 (k : Int) ∧ ∀ j, j < k → (l.getD j 0 == l.getD 0 0) = true) (fun i => n - (intOf i).toNat)
 case atStart => exact ⟨0, Nat.le_refl _, by omega, rfl, fun j hj => by omega⟩
 case round =>
  obtain ⟨k, hk1, hk, rfl, hz⟩ := hrel
  have HZ : Hid _ := hz
  clear hz
  by_cases hlt : k < n
  ·obtain ⟨s, hs⟩ : ∃ s, s = l.getD k 0 := ⟨_, rfl⟩
   have hck : w.cell? ⟨g, o + k, none⟩ = some (.int .i64 s) := by rw [hs]; exact HC.out k (by rw [← HN.out]; exact hlt)
   by_cases e : s = s0
   ·have HB : Hid ((l.getD k 0 == l.getD 0 0) = true) := by unfold Hid; rw [← hs, ← HS.out]; simp [e]
    subst e
    clear hs
    go_wp2_with fail
    go_round
    case rel =>
     refine ⟨k + 1, by omega, by omega, by go_num, fun j hj => ?_⟩
     by_cases e : j = k
     ·subst e; exact HB.out
     ·exact HZ.out j (by omega)
    case measure => simp [intOf]; omega
   ·have HB : Hid ((l.getD k 0 == l.getD 0 0) = false) := by unfold Hid; rw [← hs, ← HS.out]; simp [e]
    have hne : (s == s0) = false := by simp [e]
    have hne2 : (s != s0) = true := by simp [e]
    clear hs
    go_wp2_with fail
    go_ret
    exact ⟨by rw [HR.out, all_no (f := fun s => s == l.getD 0 0) (by rw [← HN.out]; exact hlt) HB.out]; rfl, rfl⟩
  ·obtain rfl : k = n := by omega
   go_wp2_with fail
   go_ret
   exact ⟨by rw [HR.out, all_yes (f := fun s => s == l.getD 0 0) (fun j hj => HZ.out j (by rw [HN.out]; exact hj))]; rfl, rfl⟩
def opf (op : Int) (l : List Int) : Bool :=
 if op = 3 ∨ op = 4 ∨ op = 5 ∨ op = 6 ∨ op = 7 then decide (l.getD 0 0 = 0) && alk l else if op = 8 then alk l else if op = 9 then decide (l.getD 0 0 = 0) && alk (l.drop 1) else if op = 38 then !decide (l.getD 0 0 = 0) && !decide (l.getD 1 0 = 0) else !decide (l.getD 0 0 = 0) && alk l
theorem Li.tail {w : World} {g o : Nat} {l : List Int} (h : Li w g o l) : Li w g (o + 1) (l.drop 1) := fun j hj => by
 rw [List.length_drop] at hj
 have := h (j + 1) (by omega)
 rw [show o + 1 + j = o + (j + 1) by omega, this]
 congr 2
 rw [List.getD_eq_getElem?_getD, List.getD_eq_getElem?_getD, List.getElem?_drop, Nat.add_comm 1 j]
theorem operandsFit_3 {w : World} {g o c : Nat} {l : List Int} (h : Li w g o l) (hl : l.length ≤ 1000) (h1 : 1 ≤ l.length) :
  Calls Try.prog 47 #[.int .i64 3, .slice (some ⟨g, o, none⟩) l.length c] w fun e w' => e = .returned (.bool (opf 3 l)) ∧ w' = w := by
 have HC : Hid _ := h
 obtain ⟨s0, hs0⟩ : ∃ s, s = l.getD 0 0 := ⟨_, rfl⟩
 have hc0 : w.cell? ⟨g, o, none⟩ = some (.int .i64 s0) := by rw [hs0]; exact HC.out 0 (by omega)
 have HA := alike_any (c := c) h hl h1
 obtain ⟨n, hn⟩ : ∃ n, n = l.length := ⟨_, rfl⟩
 rw [← hn] at hl h1 HA ⊢
 obtain ⟨r, hr⟩ : ∃ r, r = opf 3 l := ⟨_, rfl⟩
 rw [← hr]
 obtain ⟨b, hb⟩ : ∃ b, b = alk l := ⟨_, rfl⟩
 rw [← hb] at HA
 have HAH : Hid _ := HA
 have hI : (0 : Int) < (n : Int) := by omega
 have e : r = (decide (s0 = 0) && b) := by rw [hr, hs0, hb]; rfl
 clear hr hs0 hb HA h hn
 by_cases z : s0 = 0
 ·have e2 : r = b := by rw [e]; simp [z]
  have HE : Hid (r = b) := e2
  subst z
  clear e e2
  go_enter Try.func47, Try.ntmps47
  go_wp2_with fail
  refine Calls.mono HAH.out ?_
  rintro e wz ⟨rfl, rfl⟩
  go_wp2_with fail
  go_ret
  exact ⟨by rw [HE.out]; rfl, rfl⟩
 ·have e2 : r = false := by rw [e]; simp [z]
  have HE : Hid (r = false) := e2
  have z2 : (s0 == 0) = false := by simp [z]
  clear e e2
  go_enter Try.func47, Try.ntmps47
  go_wp2_with fail
  go_ret
  exact ⟨by rw [HE.out]; rfl, rfl⟩
theorem operandsFit_4 {w : World} {g o c : Nat} {l : List Int} (h : Li w g o l) (hl : l.length ≤ 1000) (h1 : 1 ≤ l.length) :
  Calls Try.prog 47 #[.int .i64 4, .slice (some ⟨g, o, none⟩) l.length c] w fun e w' => e = .returned (.bool (opf 4 l)) ∧ w' = w := by
 have HC : Hid _ := h
 obtain ⟨s0, hs0⟩ : ∃ s, s = l.getD 0 0 := ⟨_, rfl⟩
 have hc0 : w.cell? ⟨g, o, none⟩ = some (.int .i64 s0) := by rw [hs0]; exact HC.out 0 (by omega)
 have HA := alike_any (c := c) h hl h1
 obtain ⟨n, hn⟩ : ∃ n, n = l.length := ⟨_, rfl⟩
 rw [← hn] at hl h1 HA ⊢
 obtain ⟨r, hr⟩ : ∃ r, r = opf 4 l := ⟨_, rfl⟩
 rw [← hr]
 obtain ⟨b, hb⟩ : ∃ b, b = alk l := ⟨_, rfl⟩
 rw [← hb] at HA
 have HAH : Hid _ := HA
 have hI : (0 : Int) < (n : Int) := by omega
 have e : r = (decide (s0 = 0) && b) := by rw [hr, hs0, hb]; rfl
 clear hr hs0 hb HA h hn
 by_cases z : s0 = 0
 ·have e2 : r = b := by rw [e]; simp [z]
  have HE : Hid (r = b) := e2
  subst z
  clear e e2
  go_enter Try.func47, Try.ntmps47
  go_wp2_with fail
  refine Calls.mono HAH.out ?_
  rintro e wz ⟨rfl, rfl⟩
  go_wp2_with fail
  go_ret
  exact ⟨by rw [HE.out]; rfl, rfl⟩
 ·have e2 : r = false := by rw [e]; simp [z]
  have HE : Hid (r = false) := e2
  have z2 : (s0 == 0) = false := by simp [z]
  clear e e2
  go_enter Try.func47, Try.ntmps47
  go_wp2_with fail
  go_ret
  exact ⟨by rw [HE.out]; rfl, rfl⟩
theorem operandsFit_5 {w : World} {g o c : Nat} {l : List Int} (h : Li w g o l) (hl : l.length ≤ 1000) (h1 : 1 ≤ l.length) :
  Calls Try.prog 47 #[.int .i64 5, .slice (some ⟨g, o, none⟩) l.length c] w fun e w' => e = .returned (.bool (opf 5 l)) ∧ w' = w := by
 have HC : Hid _ := h
 obtain ⟨s0, hs0⟩ : ∃ s, s = l.getD 0 0 := ⟨_, rfl⟩
 have hc0 : w.cell? ⟨g, o, none⟩ = some (.int .i64 s0) := by rw [hs0]; exact HC.out 0 (by omega)
 have HA := alike_any (c := c) h hl h1
 obtain ⟨n, hn⟩ : ∃ n, n = l.length := ⟨_, rfl⟩
 rw [← hn] at hl h1 HA ⊢
 obtain ⟨r, hr⟩ : ∃ r, r = opf 5 l := ⟨_, rfl⟩
 rw [← hr]
 obtain ⟨b, hb⟩ : ∃ b, b = alk l := ⟨_, rfl⟩
 rw [← hb] at HA
 have HAH : Hid _ := HA
 have hI : (0 : Int) < (n : Int) := by omega
 have e : r = (decide (s0 = 0) && b) := by rw [hr, hs0, hb]; rfl
 clear hr hs0 hb HA h hn
 by_cases z : s0 = 0
 ·have e2 : r = b := by rw [e]; simp [z]
  have HE : Hid (r = b) := e2
  subst z
  clear e e2
  go_enter Try.func47, Try.ntmps47
  go_wp2_with fail
  refine Calls.mono HAH.out ?_
  rintro e wz ⟨rfl, rfl⟩
  go_wp2_with fail
  go_ret
  exact ⟨by rw [HE.out]; rfl, rfl⟩
 ·have e2 : r = false := by rw [e]; simp [z]
  have HE : Hid (r = false) := e2
  have z2 : (s0 == 0) = false := by simp [z]
  clear e e2
  go_enter Try.func47, Try.ntmps47
  go_wp2_with fail
  go_ret
  exact ⟨by rw [HE.out]; rfl, rfl⟩
theorem operandsFit_6 {w : World} {g o c : Nat} {l : List Int} (h : Li w g o l) (hl : l.length ≤ 1000) (h1 : 1 ≤ l.length) :
  Calls Try.prog 47 #[.int .i64 6, .slice (some ⟨g, o, none⟩) l.length c] w fun e w' => e = .returned (.bool (opf 6 l)) ∧ w' = w := by
 have HC : Hid _ := h
 obtain ⟨s0, hs0⟩ : ∃ s, s = l.getD 0 0 := ⟨_, rfl⟩
 have hc0 : w.cell? ⟨g, o, none⟩ = some (.int .i64 s0) := by rw [hs0]; exact HC.out 0 (by omega)
 have HA := alike_any (c := c) h hl h1
 obtain ⟨n, hn⟩ : ∃ n, n = l.length := ⟨_, rfl⟩
 rw [← hn] at hl h1 HA ⊢
 obtain ⟨r, hr⟩ : ∃ r, r = opf 6 l := ⟨_, rfl⟩
 rw [← hr]
 obtain ⟨b, hb⟩ : ∃ b, b = alk l := ⟨_, rfl⟩
 rw [← hb] at HA
 have HAH : Hid _ := HA
 have hI : (0 : Int) < (n : Int) := by omega
 have e : r = (decide (s0 = 0) && b) := by rw [hr, hs0, hb]; rfl
 clear hr hs0 hb HA h hn
 by_cases z : s0 = 0
 ·have e2 : r = b := by rw [e]; simp [z]
  have HE : Hid (r = b) := e2
  subst z
  clear e e2
  go_enter Try.func47, Try.ntmps47
  go_wp2_with fail
  refine Calls.mono HAH.out ?_
  rintro e wz ⟨rfl, rfl⟩
  go_wp2_with fail
  go_ret
  exact ⟨by rw [HE.out]; rfl, rfl⟩
 ·have e2 : r = false := by rw [e]; simp [z]
  have HE : Hid (r = false) := e2
  have z2 : (s0 == 0) = false := by simp [z]
  clear e e2
  go_enter Try.func47, Try.ntmps47
  go_wp2_with fail
  go_ret
  exact ⟨by rw [HE.out]; rfl, rfl⟩
theorem operandsFit_7 {w : World} {g o c : Nat} {l : List Int} (h : Li w g o l) (hl : l.length ≤ 1000) (h1 : 1 ≤ l.length) :
  Calls Try.prog 47 #[.int .i64 7, .slice (some ⟨g, o, none⟩) l.length c] w fun e w' => e = .returned (.bool (opf 7 l)) ∧ w' = w := by
 have HC : Hid _ := h
 obtain ⟨s0, hs0⟩ : ∃ s, s = l.getD 0 0 := ⟨_, rfl⟩
 have hc0 : w.cell? ⟨g, o, none⟩ = some (.int .i64 s0) := by rw [hs0]; exact HC.out 0 (by omega)
 have HA := alike_any (c := c) h hl h1
 obtain ⟨n, hn⟩ : ∃ n, n = l.length := ⟨_, rfl⟩
 rw [← hn] at hl h1 HA ⊢
 obtain ⟨r, hr⟩ : ∃ r, r = opf 7 l := ⟨_, rfl⟩
 rw [← hr]
 obtain ⟨b, hb⟩ : ∃ b, b = alk l := ⟨_, rfl⟩
 rw [← hb] at HA
 have HAH : Hid _ := HA
 have hI : (0 : Int) < (n : Int) := by omega
 have e : r = (decide (s0 = 0) && b) := by rw [hr, hs0, hb]; rfl
 clear hr hs0 hb HA h hn
 by_cases z : s0 = 0
 ·have e2 : r = b := by rw [e]; simp [z]
  have HE : Hid (r = b) := e2
  subst z
  clear e e2
  go_enter Try.func47, Try.ntmps47
  go_wp2_with fail
  refine Calls.mono HAH.out ?_
  rintro e wz ⟨rfl, rfl⟩
  go_wp2_with fail
  go_ret
  exact ⟨by rw [HE.out]; rfl, rfl⟩
 ·have e2 : r = false := by rw [e]; simp [z]
  have HE : Hid (r = false) := e2
  have z2 : (s0 == 0) = false := by simp [z]
  clear e e2
  go_enter Try.func47, Try.ntmps47
  go_wp2_with fail
  go_ret
  exact ⟨by rw [HE.out]; rfl, rfl⟩
theorem operandsFit_8 {w : World} {g o c : Nat} {l : List Int} (h : Li w g o l) (hl : l.length ≤ 1000) (h1 : 1 ≤ l.length) :
  Calls Try.prog 47 #[.int .i64 8, .slice (some ⟨g, o, none⟩) l.length c] w fun e w' => e = .returned (.bool (opf 8 l)) ∧ w' = w := by
 have HC : Hid _ := h
 obtain ⟨s0, hs0⟩ : ∃ s, s = l.getD 0 0 := ⟨_, rfl⟩
 have hc0 : w.cell? ⟨g, o, none⟩ = some (.int .i64 s0) := by rw [hs0]; exact HC.out 0 (by omega)
 have HA := alike_any (c := c) h hl h1
 obtain ⟨n, hn⟩ : ∃ n, n = l.length := ⟨_, rfl⟩
 rw [← hn] at hl h1 HA ⊢
 obtain ⟨r, hr⟩ : ∃ r, r = opf 8 l := ⟨_, rfl⟩
 rw [← hr]
 obtain ⟨b, hb⟩ : ∃ b, b = alk l := ⟨_, rfl⟩
 rw [← hb] at HA
 have HAH : Hid _ := HA
 have hI : (0 : Int) < (n : Int) := by omega
 have e : r = b := by rw [hr, hb]; rfl
 have HE : Hid (r = b) := e
 clear hr hs0 hb HA h hn e
 go_enter Try.func47, Try.ntmps47
 go_wp2_with fail
 refine Calls.mono HAH.out ?_
 rintro e wz ⟨rfl, rfl⟩
 go_wp2_with fail
 go_ret
 exact ⟨by rw [HE.out]; rfl, rfl⟩
theorem operandsFit_else {op : Int} {w : World} {g o c : Nat} {l : List Int} (hop : op < 3 ∨ (9 < op ∧ op < 38) ∨ 38 < op) (h : Li w g o l) (hl : l.length ≤ 1000) (h1 : 1 ≤ l.length) :
  Calls Try.prog 47 #[.int .i64 op, .slice (some ⟨g, o, none⟩) l.length c] w fun e w' => e = .returned (.bool (opf op l)) ∧ w' = w := by
 have HC : Hid _ := h
 obtain ⟨s0, hs0⟩ : ∃ s, s = l.getD 0 0 := ⟨_, rfl⟩
 have hc0 : w.cell? ⟨g, o, none⟩ = some (.int .i64 s0) := by rw [hs0]; exact HC.out 0 (by omega)
 have HA := alike_any (c := c) h hl h1
 obtain ⟨n, hn⟩ : ∃ n, n = l.length := ⟨_, rfl⟩
 rw [← hn] at hl h1 HA ⊢
 obtain ⟨r, hr⟩ : ∃ r, r = opf op l := ⟨_, rfl⟩
 rw [← hr]
 obtain ⟨b, hb⟩ : ∃ b, b = alk l := ⟨_, rfl⟩
 rw [← hb] at HA
 have HAH : Hid _ := HA
 have hI : (0 : Int) < (n : Int) := by omega
 have e : r = (!decide (s0 = 0) && b) := by rw [hr, hs0, hb]; unfold opf; rw [if_neg (by omega), if_neg (by omega), if_neg (by omega), if_neg (by omega)]
 have q3 : (op == 3) = false := by simp; omega
 have q4 : (op == 4) = false := by simp; omega
 have q5 : (op == 5) = false := by simp; omega
 have q6 : (op == 6) = false := by simp; omega
 have q7 : (op == 7) = false := by simp; omega
 have q8 : (op == 8) = false := by simp; omega
 have q9 : (op == 9) = false := by simp; omega
 have q38 : (op == 38) = false := by simp; omega
 clear hr hs0 hb HA h hn hop
 by_cases z : s0 = 0
 ·have e2 : r = false := by rw [e]; simp [z]
  have HE : Hid (r = false) := e2
  subst z
  clear e e2
  go_enter Try.func47, Try.ntmps47
  go_wp2_with fail
  go_ret
  exact ⟨by rw [HE.out]; rfl, rfl⟩
 ·have e2 : r = b := by rw [e]; simp [z]
  have HE : Hid (r = b) := e2
  have z2 : (s0 == 0) = false := by simp [z]
  have z3 : (s0 != 0) = true := by simp [z]
  clear e e2
  go_enter Try.func47, Try.ntmps47
  go_wp2_with fail
  refine Calls.mono HAH.out ?_
  rintro e wz ⟨rfl, rfl⟩
  go_wp2_with fail
  go_ret
  exact ⟨by rw [HE.out]; rfl, rfl⟩
theorem answered_8 {w : World} {g o c n : Nat} {p q s0 : Int} (hc0 : w.cell? ⟨g, o, none⟩ = some (.int .i64 s0)) (hn : 1 ≤ n) :
  Calls Try.prog 49 #[.int .i64 8, .int .i64 p, .int .i64 q, .slice (some ⟨g, o, none⟩) n c] w fun e w' => e = .returned (.int .i64 (0)) ∧ w' = w := by
 have hI : (0 : Int) < (n : Int) := by omega
 go_enter Try.func49, Try.ntmps49
 go_wp2
 all_goals
  go_ret
  exact ⟨rfl, rfl⟩
theorem answered_29 {w : World} {g o c n : Nat} {p q s0 : Int} (hc0 : w.cell? ⟨g, o, none⟩ = some (.int .i64 s0)) (hn : 1 ≤ n) :
  Calls Try.prog 49 #[.int .i64 29, .int .i64 p, .int .i64 q, .slice (some ⟨g, o, none⟩) n c] w fun e w' => e = .returned (.int .i64 (0)) ∧ w' = w := by
 have hI : (0 : Int) < (n : Int) := by omega
 go_enter Try.func49, Try.ntmps49
 go_wp2
 all_goals
  go_ret
  exact ⟨rfl, rfl⟩
theorem answered_30 {w : World} {g o c n : Nat} {p q s0 : Int} (hc0 : w.cell? ⟨g, o, none⟩ = some (.int .i64 s0)) (hn : 1 ≤ n) :
  Calls Try.prog 49 #[.int .i64 30, .int .i64 p, .int .i64 q, .slice (some ⟨g, o, none⟩) n c] w fun e w' => e = .returned (.int .i64 (0)) ∧ w' = w := by
 have hI : (0 : Int) < (n : Int) := by omega
 go_enter Try.func49, Try.ntmps49
 go_wp2
 all_goals
  go_ret
  exact ⟨rfl, rfl⟩
theorem answered_31 {w : World} {g o c n : Nat} {p q s0 : Int} (hc0 : w.cell? ⟨g, o, none⟩ = some (.int .i64 s0)) (hn : 1 ≤ n) :
  Calls Try.prog 49 #[.int .i64 31, .int .i64 p, .int .i64 q, .slice (some ⟨g, o, none⟩) n c] w fun e w' => e = .returned (.int .i64 (0)) ∧ w' = w := by
 have hI : (0 : Int) < (n : Int) := by omega
 go_enter Try.func49, Try.ntmps49
 go_wp2
 all_goals
  go_ret
  exact ⟨rfl, rfl⟩
theorem answered_32 {w : World} {g o c n : Nat} {p q s0 : Int} (hc0 : w.cell? ⟨g, o, none⟩ = some (.int .i64 s0)) (hn : 1 ≤ n) :
  Calls Try.prog 49 #[.int .i64 32, .int .i64 p, .int .i64 q, .slice (some ⟨g, o, none⟩) n c] w fun e w' => e = .returned (.int .i64 (0)) ∧ w' = w := by
 have hI : (0 : Int) < (n : Int) := by omega
 go_enter Try.func49, Try.ntmps49
 go_wp2
 all_goals
  go_ret
  exact ⟨rfl, rfl⟩
theorem answered_33 {w : World} {g o c n : Nat} {p q s0 : Int} (hc0 : w.cell? ⟨g, o, none⟩ = some (.int .i64 s0)) (hn : 1 ≤ n) :
  Calls Try.prog 49 #[.int .i64 33, .int .i64 p, .int .i64 q, .slice (some ⟨g, o, none⟩) n c] w fun e w' => e = .returned (.int .i64 (0)) ∧ w' = w := by
 have hI : (0 : Int) < (n : Int) := by omega
 go_enter Try.func49, Try.ntmps49
 go_wp2
 all_goals
  go_ret
  exact ⟨rfl, rfl⟩
theorem answered_34 {w : World} {g o c n : Nat} {p q s0 : Int} (hc0 : w.cell? ⟨g, o, none⟩ = some (.int .i64 s0)) (hn : 1 ≤ n) :
  Calls Try.prog 49 #[.int .i64 34, .int .i64 p, .int .i64 q, .slice (some ⟨g, o, none⟩) n c] w fun e w' => e = .returned (.int .i64 (0)) ∧ w' = w := by
 have hI : (0 : Int) < (n : Int) := by omega
 go_enter Try.func49, Try.ntmps49
 go_wp2
 all_goals
  go_ret
  exact ⟨rfl, rfl⟩
theorem answered_35 {w : World} {g o c n : Nat} {p q s0 : Int} (hc0 : w.cell? ⟨g, o, none⟩ = some (.int .i64 s0)) (hn : 1 ≤ n) :
  Calls Try.prog 49 #[.int .i64 35, .int .i64 p, .int .i64 q, .slice (some ⟨g, o, none⟩) n c] w fun e w' => e = .returned (.int .i64 (0)) ∧ w' = w := by
 have hI : (0 : Int) < (n : Int) := by omega
 go_enter Try.func49, Try.ntmps49
 go_wp2
 all_goals
  go_ret
  exact ⟨rfl, rfl⟩
theorem answered_36 {w : World} {g o c n : Nat} {p q s0 : Int} (hc0 : w.cell? ⟨g, o, none⟩ = some (.int .i64 s0)) (hn : 1 ≤ n) :
  Calls Try.prog 49 #[.int .i64 36, .int .i64 p, .int .i64 q, .slice (some ⟨g, o, none⟩) n c] w fun e w' => e = .returned (.int .i64 (0)) ∧ w' = w := by
 have hI : (0 : Int) < (n : Int) := by omega
 go_enter Try.func49, Try.ntmps49
 go_wp2
 all_goals
  go_ret
  exact ⟨rfl, rfl⟩
theorem answered_37 {w : World} {g o c n : Nat} {p q s0 : Int} (hc0 : w.cell? ⟨g, o, none⟩ = some (.int .i64 s0)) (hn : 1 ≤ n) :
  Calls Try.prog 49 #[.int .i64 37, .int .i64 p, .int .i64 q, .slice (some ⟨g, o, none⟩) n c] w fun e w' => e = .returned (.int .i64 (1)) ∧ w' = w := by
 have hI : (0 : Int) < (n : Int) := by omega
 go_enter Try.func49, Try.ntmps49
 go_wp2
 all_goals
  go_ret
  exact ⟨rfl, rfl⟩
theorem answered_39 {w : World} {g o c n : Nat} {p q s0 : Int} (hc0 : w.cell? ⟨g, o, none⟩ = some (.int .i64 s0)) (hn : 1 ≤ n) (a : 0 ≤ q) (b : q ≤ p) (d : p < 128) :
  Calls Try.prog 49 #[.int .i64 39, .int .i64 p, .int .i64 q, .slice (some ⟨g, o, none⟩) n c] w fun e w' => e = .returned (.int .i64 (p - q + 1)) ∧ w' = w := by
 have hI : (0 : Int) < (n : Int) := by omega
 have e1 : IntKind.i64.wrap (p - q) = p - q := by rw [IntKind.wrap_i64]; omega
 have e2 : IntKind.i64.wrap (p - q + 1) = p - q + 1 := by rw [IntKind.wrap_i64]; omega
 go_enter Try.func49, Try.ntmps49
 go_wp2
 all_goals
  go_ret
  exact ⟨rfl, rfl⟩
theorem answered_40 {w : World} {g o c n : Nat} {p q s0 : Int} (hc0 : w.cell? ⟨g, o, none⟩ = some (.int .i64 s0)) (hn : 1 ≤ n) (a : 0 ≤ p) (b : 0 ≤ s0) (d : s0 ≤ 128) :
  Calls Try.prog 49 #[.int .i64 40, .int .i64 p, .int .i64 q, .slice (some ⟨g, o, none⟩) n c] w fun e w' => e = .returned (.int .i64 (s0 + min p 129)) ∧ w' = w := by
 have hI : (0 : Int) < (n : Int) := by omega
 obtain ⟨f, hf⟩ : ∃ f, f = min p 129 := ⟨_, rfl⟩
 have f0 : 0 ≤ f ∧ f ≤ 129 := by omega
 rw [← hf]
 have e1 : IntKind.i64.wrap (s0 + f) = s0 + f := by rw [IntKind.wrap_i64]; omega
 by_cases h : p ≤ 129
 ·obtain rfl : f = p := by omega
  clear hf
  go_enter Try.func49, Try.ntmps49
  go_wp2
  all_goals
   go_ret
   exact ⟨rfl, rfl⟩
 ·obtain rfl : f = 129 := by omega
  clear hf
  go_enter Try.func49, Try.ntmps49
  go_wp2
  all_goals
   go_ret
   exact ⟨rfl, rfl⟩
theorem answered_41 {w : World} {g o c n : Nat} {p q s0 : Int} (hc0 : w.cell? ⟨g, o, none⟩ = some (.int .i64 s0)) (hn : 1 ≤ n) (a : 0 ≤ p) (b : 0 ≤ s0) (d : s0 ≤ 128) :
  Calls Try.prog 49 #[.int .i64 41, .int .i64 p, .int .i64 q, .slice (some ⟨g, o, none⟩) n c] w fun e w' => e = .returned (.int .i64 (s0 + min p 129)) ∧ w' = w := by
 have hI : (0 : Int) < (n : Int) := by omega
 obtain ⟨f, hf⟩ : ∃ f, f = min p 129 := ⟨_, rfl⟩
 have f0 : 0 ≤ f ∧ f ≤ 129 := by omega
 rw [← hf]
 have e1 : IntKind.i64.wrap (s0 + f) = s0 + f := by rw [IntKind.wrap_i64]; omega
 by_cases h : p ≤ 129
 ·obtain rfl : f = p := by omega
  clear hf
  go_enter Try.func49, Try.ntmps49
  go_wp2
  all_goals
   go_ret
   exact ⟨rfl, rfl⟩
 ·obtain rfl : f = 129 := by omega
  clear hf
  go_enter Try.func49, Try.ntmps49
  go_wp2
  all_goals
   go_ret
   exact ⟨rfl, rfl⟩
end Go.Proofs.Ytedldoobmmhloaa
