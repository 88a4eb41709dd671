/- Contracts (terms): operators' operands; lists of sorts. -/
import Derived.Test.YtjmbicaacplolaaProg
import Derived.WalkKit
import Derived.Handy
import Derived.WalkLawsBesides
namespace Go.Proofs.Ytjmbicaacplolaa
open Go.RowKit
set_option linter.unusedSimpArgs false
set_option linter.unusedVariables false

/-- How many operands an operator has. -/
def ari (op : Int) : Int := if op < 1 ∨ 44 < op then -1 else if op = 1 ∨ op = 2 then 0 else if op = 3 ∨ op = 10 ∨ op = 11 ∨ op = 39 ∨ op = 40 ∨ op = 41 ∨ op = 42 ∨ op = 43 ∨ op = 44 then 1 else if op = 9 then 3 else 2

set_option maxHeartbeats 1600000 in
theorem arity_any (op : Int) (w : World) :
    Calls Try.prog 26 #[.int .i64 op] w fun e w' => e = .returned (.int .i64 (ari op)) ∧ w' = w := by
  by_cases h0 : op < 1
  · have e : ari op = -1 := by unfold ari; rw [if_pos (Or.inl h0)]
    rw [e]
    have q1 : (op == 1) = false := by simp; omega
    have q2 : (op == 2) = false := by simp; omega
    have q3 : (op == 3) = false := by simp; omega
    have q10 : (op == 10) = false := by simp; omega
    have q11 : (op == 11) = false := by simp; omega
    have q39 : (op == 39) = false := by simp; omega
    have q40 : (op == 40) = false := by simp; omega
    have q41 : (op == 41) = false := by simp; omega
    have q42 : (op == 42) = false := by simp; omega
    have q43 : (op == 43) = false := by simp; omega
    have q44 : (op == 44) = false := by simp; omega
    have q9 : (op == 9) = false := by simp; omega
    go_enter Try.func26, Try.ntmps26
    go_wp2
    go_ret
    exact ⟨rfl, rfl⟩
  · by_cases h1 : 44 < op
    · have e : ari op = -1 := by unfold ari; rw [if_pos (Or.inr h1)]
      rw [e]
      have q1 : (op == 1) = false := by simp; omega
      have q2 : (op == 2) = false := by simp; omega
      have q3 : (op == 3) = false := by simp; omega
      have q10 : (op == 10) = false := by simp; omega
      have q11 : (op == 11) = false := by simp; omega
      have q39 : (op == 39) = false := by simp; omega
      have q40 : (op == 40) = false := by simp; omega
      have q41 : (op == 41) = false := by simp; omega
      have q42 : (op == 42) = false := by simp; omega
      have q43 : (op == 43) = false := by simp; omega
      have q44 : (op == 44) = false := by simp; omega
      have q9 : (op == 9) = false := by simp; omega
      go_enter Try.func26, Try.ntmps26
      go_wp2
      go_ret
      exact ⟨rfl, rfl⟩
    · by_cases h2 : op = 1 ∨ op = 2 ∨ op = 3 ∨ op = 10 ∨ op = 11 ∨ op = 39 ∨ op = 40 ∨ op = 41 ∨ op = 42 ∨ op = 43 ∨ op = 44 ∨ op = 9
      · clear h0 h1
        rcases h2 with rfl | rfl | rfl | rfl | rfl | rfl | rfl | rfl | rfl | rfl | rfl | rfl
        all_goals
          go_enter Try.func26, Try.ntmps26
          go_wp2
          go_ret
          exact ⟨rfl, rfl⟩
      · have e : ari op = 2 := by unfold ari; rw [if_neg (by omega), if_neg (by omega), if_neg (by omega), if_neg (by omega)]
        rw [e]
        have q1 : (op == 1) = false := by simp; omega
        have q2 : (op == 2) = false := by simp; omega
        have q3 : (op == 3) = false := by simp; omega
        have q10 : (op == 10) = false := by simp; omega
        have q11 : (op == 11) = false := by simp; omega
        have q39 : (op == 39) = false := by simp; omega
        have q40 : (op == 40) = false := by simp; omega
        have q41 : (op == 41) = false := by simp; omega
        have q42 : (op == 42) = false := by simp; omega
        have q43 : (op == 43) = false := by simp; omega
        have q44 : (op == 44) = false := by simp; omega
        have q9 : (op == 9) = false := by simp; omega
        clear h2
        go_enter Try.func26, Try.ntmps26
        go_wp2
        go_ret
        exact ⟨rfl, rfl⟩

set_option maxHeartbeats 1600000 in
theorem refarity_any (op : Int) (w : World) :
    Calls Try.prog 27 #[.int .i64 op] w fun e w' => e = .returned (.int .i64 (ari op)) ∧ w' = w := by
  by_cases h0 : op < 1
  · have e : ari op = -1 := by unfold ari; rw [if_pos (Or.inl h0)]
    rw [e]
    have q1 : (op == 1) = false := by simp; omega
    have q2 : (op == 2) = false := by simp; omega
    have q3 : (op == 3) = false := by simp; omega
    have q10 : (op == 10) = false := by simp; omega
    have q11 : (op == 11) = false := by simp; omega
    have q39 : (op == 39) = false := by simp; omega
    have q40 : (op == 40) = false := by simp; omega
    have q41 : (op == 41) = false := by simp; omega
    have q42 : (op == 42) = false := by simp; omega
    have q43 : (op == 43) = false := by simp; omega
    have q44 : (op == 44) = false := by simp; omega
    have q9 : (op == 9) = false := by simp; omega
    go_enter Try.func27, Try.ntmps27
    go_wp2
    go_ret
    exact ⟨rfl, rfl⟩
  · by_cases h1 : 44 < op
    · have e : ari op = -1 := by unfold ari; rw [if_pos (Or.inr h1)]
      rw [e]
      have q1 : (op == 1) = false := by simp; omega
      have q2 : (op == 2) = false := by simp; omega
      have q3 : (op == 3) = false := by simp; omega
      have q10 : (op == 10) = false := by simp; omega
      have q11 : (op == 11) = false := by simp; omega
      have q39 : (op == 39) = false := by simp; omega
      have q40 : (op == 40) = false := by simp; omega
      have q41 : (op == 41) = false := by simp; omega
      have q42 : (op == 42) = false := by simp; omega
      have q43 : (op == 43) = false := by simp; omega
      have q44 : (op == 44) = false := by simp; omega
      have q9 : (op == 9) = false := by simp; omega
      go_enter Try.func27, Try.ntmps27
      go_wp2
      go_ret
      exact ⟨rfl, rfl⟩
    · by_cases h2 : op = 1 ∨ op = 2 ∨ op = 3 ∨ op = 10 ∨ op = 11 ∨ op = 39 ∨ op = 40 ∨ op = 41 ∨ op = 42 ∨ op = 43 ∨ op = 44 ∨ op = 9
      · clear h0 h1
        rcases h2 with rfl | rfl | rfl | rfl | rfl | rfl | rfl | rfl | rfl | rfl | rfl | rfl
        all_goals
          go_enter Try.func27, Try.ntmps27
          go_wp2
          go_ret
          exact ⟨rfl, rfl⟩
      · have e : ari op = 2 := by unfold ari; rw [if_neg (by omega), if_neg (by omega), if_neg (by omega), if_neg (by omega)]
        rw [e]
        have q1 : (op == 1) = false := by simp; omega
        have q2 : (op == 2) = false := by simp; omega
        have q3 : (op == 3) = false := by simp; omega
        have q10 : (op == 10) = false := by simp; omega
        have q11 : (op == 11) = false := by simp; omega
        have q39 : (op == 39) = false := by simp; omega
        have q40 : (op == 40) = false := by simp; omega
        have q41 : (op == 41) = false := by simp; omega
        have q42 : (op == 42) = false := by simp; omega
        have q43 : (op == 43) = false := by simp; omega
        have q44 : (op == 44) = false := by simp; omega
        have q9 : (op == 9) = false := by simp; omega
        clear h2
        go_enter Try.func27, Try.ntmps27
        go_wp2
        go_ret
        exact ⟨rfl, rfl⟩

/-- A number that is a sort. -/
def srt (s : Int) : Bool := decide (0 ≤ s) && decide (s ≤ 128)
theorem isSort_any (s : Int) (w : World) :
    Calls Try.prog 48 #[.int .i64 s] w fun e w' => e = .returned (.bool (srt s)) ∧ w' = w := by
  by_cases h0 : 0 ≤ s
  · by_cases h1 : s ≤ 128
    · have e : srt s = true := by simp [srt, h0, h1]
      rw [e]
      go_enter Try.func48, Try.ntmps48
      go_wp2
      go_ret
      exact ⟨by simp [h1], rfl⟩
    · have e : srt s = false := by simp [srt, h1]
      rw [e]
      go_enter Try.func48, Try.ntmps48
      go_wp2
      go_ret
      exact ⟨by simp [h1], rfl⟩
  · have e : srt s = false := by simp [srt, h0]
    rw [e]
    go_enter Try.func48, Try.ntmps48
    go_wp2
    go_ret
    exact ⟨rfl, rfl⟩
theorem refIs_any (s : Int) (w : World) :
    Calls Try.prog 32 #[.int .i64 s] w fun e w' => e = .returned (.bool (srt s)) ∧ w' = w := by
  by_cases h0 : 0 ≤ s
  · by_cases h1 : s ≤ 128
    · have e : srt s = true := by simp [srt, h0, h1]
      rw [e]
      go_enter Try.func32, Try.ntmps32
      go_wp2
      go_ret
      exact ⟨by simp [h1], rfl⟩
    · have e : srt s = false := by simp [srt, h1]
      rw [e]
      go_enter Try.func32, Try.ntmps32
      go_wp2
      go_ret
      exact ⟨by simp [h1], rfl⟩
  · have e : srt s = false := by simp [srt, h0]
    rw [e]
    go_enter Try.func32, Try.ntmps32
    go_wp2
    go_ret
    exact ⟨rfl, rfl⟩

/-- The cells behind g, o hold the numbers l. -/
def Li (w : World) (g o : Nat) (l : List Int) : Prop := ∀ j, j < l.length → w.cell? ⟨g, o + j, none⟩ = some (.int .i64 (l.getD j 0))
theorem all_no {l : List Int} {f : Int → Bool} {k : Nat} (hk : k < l.length) (h : f (l.getD k 0) = false) : l.all f = false := by
  rw [List.all_eq_false]
  exact ⟨l[k], List.getElem_mem hk, by rw [List.getD_eq_getElem?_getD, List.getElem?_eq_getElem hk] at h; simpa using h⟩
theorem all_yes {l : List Int} {f : Int → Bool} (h : ∀ j, j < l.length → f (l.getD j 0) = true) : l.all f = true := by
  rw [List.all_eq_true]
  intro x hx
  obtain ⟨j, hj, rfl⟩ := List.getElem_of_mem hx
  have := h j hj
  rwa [List.getD_eq_getElem?_getD, List.getElem?_eq_getElem hj] at this

set_option maxHeartbeats 800000 in
theorem areSorts_any {w : World} {g o c : Nat} {l : List Int} (h : Li w g o l) (hl : l.length ≤ 1000) :
    Calls Try.prog 35 #[.slice (some ⟨g, o, none⟩) l.length c] w fun e w' => e = .returned (.bool (l.all srt)) ∧ w' = w := by
  have HC : Hid _ := h
  obtain ⟨n, hn⟩ : ∃ n, n = l.length := ⟨_, rfl⟩
  rw [← hn] at hl ⊢
  obtain ⟨r, hr⟩ : ∃ r, r = l.all srt := ⟨_, rfl⟩
  rw [← hr]
  have HR : Hid (r = l.all srt) := hr
  have HN : Hid (n = l.length) := hn
  clear h hr hn
  go_enter Try.func35, Try.ntmps35
  go_wp2_with fail
  go_loop [7] (fun i => ∃ k : Nat, k ≤ n ∧ i = .int .i64 (k : Int) ∧ ∀ j, j < k → srt (l.getD j 0) = true) (fun i => n - (intOf i).toNat)
  case atStart => exact ⟨0, Nat.zero_le _, rfl, fun j hj => by omega⟩
  case round =>
    obtain ⟨k, hk, rfl, hz⟩ := hrel
    have HZ : Hid _ := hz
    clear hz
    by_cases hlt : k < n
    · obtain ⟨s, hs⟩ : ∃ s, s = l.getD k 0 := ⟨_, rfl⟩
      have hck : w.cell? ⟨g, o + k, none⟩ = some (.int .i64 s) := by rw [hs]; exact HC.out k (by rw [← HN.out]; exact hlt)
      obtain ⟨b, hb⟩ : ∃ b, b = srt s := ⟨_, rfl⟩
      have HI : Hid (∀ wx, Calls Try.prog 48 #[.int .i64 s] wx fun e w' => e = .returned (.bool b) ∧ w' = wx) := fun wx => by rw [hb]; exact isSort_any s wx
      have HB : Hid (srt (l.getD k 0) = b) := by unfold Hid; rw [hb, hs]
      clear hs hb
      cases b
      · go_wp2_with fail
        refine (HI.out _).mono ?_
        rintro e wz ⟨rfl, rfl⟩
        go_wp2_with fail
        go_ret
        exact ⟨by rw [HR.out, all_no (by rw [← HN.out]; exact hlt) HB.out]; rfl, rfl⟩
      · go_wp2_with fail
        refine (HI.out _).mono ?_
        rintro e wz ⟨rfl, rfl⟩
        go_wp2_with fail
        go_round
        case rel =>
          refine ⟨k + 1, by omega, by go_num, fun j hj => ?_⟩
          by_cases e : j = k
          · subst e; exact HB.out
          · exact HZ.out j (by omega)
        case measure => simp [intOf]; omega
    · obtain rfl : k = n := by omega
      go_wp2_with fail
      go_ret
      exact ⟨by rw [HR.out, all_yes (fun j hj => HZ.out j (by rw [HN.out]; exact hj))]; rfl, rfl⟩
end Go.Proofs.Ytjmbicaacplolaa
