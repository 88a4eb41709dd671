/- Contracts: digits, as the program and the document read them. -/
import Derived.Test.YtjcmnhipiejnpaaT3
namespace Go.Proofs.Ytjcmnhipiejnpaa
open Go.RowKit
set_option linter.unusedSimpArgs false
set_option linter.unusedVariables false

/-- A sign's digit; 16: it is none. -/
def dig (c : Nat) : Nat := if 48 ≤ c ∧ c ≤ 57 then c - 48 else if 97 ≤ c ∧ c ≤ 102 then c - 87 else if 65 ≤ c ∧ c ≤ 70 then c - 55 else 16
theorem dig_le (c : Nat) : dig c ≤ 16 := by unfold dig; split <;> (try split) <;> (try split) <;> omega

set_option maxHeartbeats 1600000 in
theorem digit_any (c : Nat) (hc : c < 256) (w : World) :
    Calls Try.prog 78 #[.int .u8 (c : Int)] w fun e w' => e = .returned (.int .u64 ((dig c : Nat) : Int)) ∧ w' = w := by
  have cases4 : (48 ≤ c ∧ c ≤ 57) ∨ (97 ≤ c ∧ c ≤ 102) ∨ (65 ≤ c ∧ c ≤ 70) ∨ c < 48 ∨ (57 < c ∧ c < 65) ∨ (70 < c ∧ c < 97) ∨ 102 < c := by omega
  rcases cases4 with h | h | h | h | h | h | h
  · have e : dig c = c - 48 := by unfold dig; (repeat' split) <;> omega
    rw [e]
    have a1 : (48 : Int) ≤ (c : Int) := by omega
    have a2 : (c : Int) ≤ 57 := by omega
    obtain ⟨d, hd⟩ : ∃ d : Nat, d = c - 48 := ⟨_, rfl⟩
    have a3 : (c : Int) - 48 = (d : Int) := by omega
    have a4 : d ≤ 9 := by omega
    rw [← hd]
    clear hd h e hc
    go_enter Try.func78, Try.ntmps78
    go_wp2
    go_ret
    exact ⟨rfl, rfl⟩
  · have e : dig c = c - 87 := by unfold dig; (repeat' split) <;> omega
    rw [e]
    have a1 : (97 : Int) ≤ (c : Int) := by omega
    have a2 : (c : Int) ≤ 102 := by omega
    obtain ⟨d, hd⟩ : ∃ d : Nat, d = c - 97 := ⟨_, rfl⟩
    have a3 : (c : Int) - 97 = (d : Int) := by omega
    have a4 : d ≤ 9 := by omega
    have a5 : c - 87 = d + 10 := by omega
    rw [a5]
    have b1 : ¬ ((c : Int) ≤ 57) := by omega
    clear a5
    clear hd h e hc
    go_enter Try.func78, Try.ntmps78
    go_wp2
    go_ret
    exact ⟨rfl, rfl⟩
  · have e : dig c = c - 55 := by unfold dig; (repeat' split) <;> omega
    rw [e]
    have a1 : (65 : Int) ≤ (c : Int) := by omega
    have a2 : (c : Int) ≤ 70 := by omega
    obtain ⟨d, hd⟩ : ∃ d : Nat, d = c - 65 := ⟨_, rfl⟩
    have a3 : (c : Int) - 65 = (d : Int) := by omega
    have a4 : d ≤ 9 := by omega
    have a5 : c - 55 = d + 10 := by omega
    rw [a5]
    have b1 : ¬ ((c : Int) ≤ 57) := by omega
    have b2 : ¬ ((97 : Int) ≤ (c : Int)) := by omega
    clear a5
    clear hd h e hc
    go_enter Try.func78, Try.ntmps78
    go_wp2
    go_ret
    exact ⟨rfl, rfl⟩
  · have e : dig c = 16 := by unfold dig; (repeat' split) <;> omega
    rw [e]
    have b1 : ¬ ((48 : Int) ≤ (c : Int)) := by omega
    have b2 : ¬ ((97 : Int) ≤ (c : Int)) := by omega
    have b3 : ¬ ((65 : Int) ≤ (c : Int)) := by omega
    clear h e hc
    go_enter Try.func78, Try.ntmps78
    go_wp2
    go_ret
    exact ⟨rfl, rfl⟩
  · have e : dig c = 16 := by unfold dig; (repeat' split) <;> omega
    rw [e]
    have b1 : ¬ ((c : Int) ≤ 57) := by omega
    have b2 : ¬ ((97 : Int) ≤ (c : Int)) := by omega
    have b3 : ¬ ((65 : Int) ≤ (c : Int)) := by omega
    have b4 : (48 : Int) ≤ (c : Int) := by omega
    clear h e hc
    go_enter Try.func78, Try.ntmps78
    go_wp2
    go_ret
    exact ⟨rfl, rfl⟩
  · have e : dig c = 16 := by unfold dig; (repeat' split) <;> omega
    rw [e]
    have b1 : ¬ ((c : Int) ≤ 57) := by omega
    have b2 : ¬ ((97 : Int) ≤ (c : Int)) := by omega
    have b3 : ¬ ((c : Int) ≤ 70) := by omega
    have b4 : (48 : Int) ≤ (c : Int) := by omega
    have b5 : (65 : Int) ≤ (c : Int) := by omega
    clear h e hc
    go_enter Try.func78, Try.ntmps78
    go_wp2
    go_ret
    exact ⟨rfl, rfl⟩
  · have e : dig c = 16 := by unfold dig; (repeat' split) <;> omega
    rw [e]
    have b1 : ¬ ((c : Int) ≤ 57) := by omega
    have b2 : ¬ ((c : Int) ≤ 102) := by omega
    have b3 : ¬ ((c : Int) ≤ 70) := by omega
    have b4 : (48 : Int) ≤ (c : Int) := by omega
    have b5 : (65 : Int) ≤ (c : Int) := by omega
    have b6 : (97 : Int) ≤ (c : Int) := by omega
    clear h e hc
    go_enter Try.func78, Try.ntmps78
    go_wp2
    go_ret
    exact ⟨rfl, rfl⟩

set_option maxHeartbeats 1600000 in
theorem refdigit_any (c : Nat) (hc : c < 256) (w : World) :
    Calls Try.prog 59 #[.int .u8 (c : Int)] w fun e w' => e = .returned (.int .i64 ((dig c : Nat) : Int)) ∧ w' = w := by
  have cases4 : (48 ≤ c ∧ c ≤ 57) ∨ (97 ≤ c ∧ c ≤ 102) ∨ (65 ≤ c ∧ c ≤ 70) ∨ c < 48 ∨ (57 < c ∧ c < 65) ∨ (70 < c ∧ c < 97) ∨ 102 < c := by omega
  rcases cases4 with h | h | h | h | h | h | h
  · have e : dig c = c - 48 := by unfold dig; (repeat' split) <;> omega
    rw [e]
    have a1 : (48 : Int) ≤ (c : Int) := by omega
    have a2 : (c : Int) ≤ 57 := by omega
    obtain ⟨d, hd⟩ : ∃ d : Nat, d = c - 48 := ⟨_, rfl⟩
    have a3 : (c : Int) - 48 = (d : Int) := by omega
    have a4 : d ≤ 9 := by omega
    rw [← hd]
    clear hd h e hc
    go_enter Try.func59, Try.ntmps59
    go_wp2
    go_ret
    exact ⟨rfl, rfl⟩
  · have e : dig c = c - 87 := by unfold dig; (repeat' split) <;> omega
    rw [e]
    have a1 : (97 : Int) ≤ (c : Int) := by omega
    have a2 : (c : Int) ≤ 102 := by omega
    obtain ⟨d, hd⟩ : ∃ d : Nat, d = c - 97 := ⟨_, rfl⟩
    have a3 : (c : Int) - 97 = (d : Int) := by omega
    have a4 : d ≤ 9 := by omega
    have a5 : c - 87 = d + 10 := by omega
    rw [a5]
    have b1 : ¬ ((c : Int) ≤ 57) := by omega
    clear a5
    clear hd h e hc
    go_enter Try.func59, Try.ntmps59
    go_wp2
    go_ret
    exact ⟨rfl, rfl⟩
  · have e : dig c = c - 55 := by unfold dig; (repeat' split) <;> omega
    rw [e]
    have a1 : (65 : Int) ≤ (c : Int) := by omega
    have a2 : (c : Int) ≤ 70 := by omega
    obtain ⟨d, hd⟩ : ∃ d : Nat, d = c - 65 := ⟨_, rfl⟩
    have a3 : (c : Int) - 65 = (d : Int) := by omega
    have a4 : d ≤ 9 := by omega
    have a5 : c - 55 = d + 10 := by omega
    rw [a5]
    have b1 : ¬ ((c : Int) ≤ 57) := by omega
    have b2 : ¬ ((97 : Int) ≤ (c : Int)) := by omega
    clear a5
    clear hd h e hc
    go_enter Try.func59, Try.ntmps59
    go_wp2
    go_ret
    exact ⟨rfl, rfl⟩
  · have e : dig c = 16 := by unfold dig; (repeat' split) <;> omega
    rw [e]
    have b1 : ¬ ((48 : Int) ≤ (c : Int)) := by omega
    have b2 : ¬ ((97 : Int) ≤ (c : Int)) := by omega
    have b3 : ¬ ((65 : Int) ≤ (c : Int)) := by omega
    clear h e hc
    go_enter Try.func59, Try.ntmps59
    go_wp2
    go_ret
    exact ⟨rfl, rfl⟩
  · have e : dig c = 16 := by unfold dig; (repeat' split) <;> omega
    rw [e]
    have b1 : ¬ ((c : Int) ≤ 57) := by omega
    have b2 : ¬ ((97 : Int) ≤ (c : Int)) := by omega
    have b3 : ¬ ((65 : Int) ≤ (c : Int)) := by omega
    have b4 : (48 : Int) ≤ (c : Int) := by omega
    clear h e hc
    go_enter Try.func59, Try.ntmps59
    go_wp2
    go_ret
    exact ⟨rfl, rfl⟩
  · have e : dig c = 16 := by unfold dig; (repeat' split) <;> omega
    rw [e]
    have b1 : ¬ ((c : Int) ≤ 57) := by omega
    have b2 : ¬ ((97 : Int) ≤ (c : Int)) := by omega
    have b3 : ¬ ((c : Int) ≤ 70) := by omega
    have b4 : (48 : Int) ≤ (c : Int) := by omega
    have b5 : (65 : Int) ≤ (c : Int) := by omega
    clear h e hc
    go_enter Try.func59, Try.ntmps59
    go_wp2
    go_ret
    exact ⟨rfl, rfl⟩
  · have e : dig c = 16 := by unfold dig; (repeat' split) <;> omega
    rw [e]
    have b1 : ¬ ((c : Int) ≤ 57) := by omega
    have b2 : ¬ ((c : Int) ≤ 102) := by omega
    have b3 : ¬ ((c : Int) ≤ 70) := by omega
    have b4 : (48 : Int) ≤ (c : Int) := by omega
    have b5 : (65 : Int) ≤ (c : Int) := by omega
    have b6 : (97 : Int) ≤ (c : Int) := by omega
    clear h e hc
    go_enter Try.func59, Try.ntmps59
    go_wp2
    go_ret
    exact ⟨rfl, rfl⟩

end Go.Proofs.Ytjcmnhipiejnpaa
