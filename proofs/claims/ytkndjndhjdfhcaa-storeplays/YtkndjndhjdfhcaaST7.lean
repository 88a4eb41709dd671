/- Contracts (store): New, Len, Words, words, literals, Clause, watching. -/
import Derived.Test.YtkndjndhjdfhcaaST6
namespace Go.Proofs.Ytkndjndhjdfhcaa
open Go.RowKit
set_option linter.unusedSimpArgs false
set_option linter.unusedVariables false

def roomOf (most : Int) : Nat := (min (max most 1) 262144).toNat
set_option maxHeartbeats 800000 in
theorem snew_any (most : Int) (w : World) :
    Calls Try.prog 11 #[.int .i64 most] w fun e w' => e = .returned (.pointer (some ⟨w.heap.size + 1, 0, none⟩)) ∧ Below w.heap.size w w' ∧ w'.heap.size = w.heap.size + 2 ∧ SX w' (fun k => w.heap.size ≤ k ∧ k < w'.heap.size) (w.heap.size + 1) (roomOf most) [] [0] [] [] := by
  have key : ∀ x : Int, x = (roomOf most : Int) → SX ((w.alloc (.cells #[.int .i64 0] 3)).alloc (.cells #[.int .i64 x, .slice none 0 0, .slice (some ⟨w.heap.size, 0, none⟩) 1 1, .slice none 0 0, .slice none 0 0] 54)) (fun k => w.heap.size ≤ k ∧ k < w.heap.size + 2) (w.heap.size + 1) (roomOf most) [] [0] [] [] := by
    rintro x rfl
    have s1 : ∀ a : Obj, (w.alloc a).heap.size = w.heap.size + 1 := fun a => by simp
    have hb : ((w.alloc (.cells #[.int .i64 0] 3)).alloc (.cells #[.int .i64 (roomOf most : Int), .slice none 0 0, .slice (some ⟨w.heap.size, 0, none⟩) 1 1, .slice none 0 0, .slice none 0 0] 54)).heap[w.heap.size]? = some (.cells #[.int .i64 0] 3) := (heap_alloc_old _ _ (by rw [s1]; omega)).trans (heap_alloc_new w _)
    refine ⟨.slice none 0 0, .slice (some ⟨w.heap.size, 0, none⟩) 1 1, .slice none 0 0, .slice none 0 0, [], ⟨?_, World.ownsRow_nil _ _ _ _, ⟨rfl, fun i u x hu hx => ?_, fun i u b hu hb => ?_, fun i j u v b hu hv hij hb => ?_⟩, by omega, fun b hb => by cases hb⟩⟩
    · rw [← s1 (.cells #[.int .i64 0] 3)]; exact heap_alloc_new _ _
    · match i with
      | 0 => cases hu; cases hx; exact World.ownsRow_nil _ _ _ _
      | 1 => cases hu; cases hx; exact ⟨rfl, Or.inr ⟨w.heap.size, 1, #[.int .i64 0], rfl, Nat.zero_le _, hb, Nat.le_refl _, by decide, rfl, rfl⟩⟩
      | 2 => cases hu; cases hx; exact World.ownsRow_nil _ _ _ _
      | i + 3 => simp at hu
    · match i with
      | 0 => cases hu; cases hb
      | 1 => cases hu; cases hb; exact ⟨Nat.le_refl _, Nat.lt_add_of_pos_right (by decide)⟩
      | 2 => cases hu; cases hb
      | i + 3 => simp at hu
    · match i, j with
      | 0, _ => cases hu; cases hb
      | 2, _ => cases hu; cases hb
      | 1, 0 => cases hv; intro e; cases e
      | 1, 2 => cases hv; intro e; cases e
      | 1, 1 => exact absurd rfl hij
      | 1, j + 3 => simp at hv
      | i + 3, _ => simp at hu
  go_enter Try.func11, Try.ntmps11
  go_wp2_with fail
  go_ret
  refine ⟨by first | rfl | simp, by go_grown, by simp, ?_⟩
  have := key (min (max most 1) 262144) (by unfold roomOf; omega)
  simpa using this
section
variable {w : World} {s : Nat}
theorem len_any {a : Option Addr} {n c : Nat} (h : w.cell? ⟨s, 2, none⟩ = some (.slice a n c)) (h1 : 1 ≤ n) (h2 : n ≤ 1000000) :
    Calls Try.prog 17 #[.pointer (some ⟨s, 0, none⟩)] w fun e w' => e = .returned (.int .i64 ((n : Int) - 1)) ∧ w' = w := by
  go_enter Try.func17, Try.ntmps17
  go_wp2_with fail
  go_ret
  exact ⟨rfl, rfl⟩
theorem wrds_any {a : Option Addr} {n c : Nat} (h : w.cell? ⟨s, 1, none⟩ = some (.slice a n c)) :
    Calls Try.prog 18 #[.pointer (some ⟨s, 0, none⟩)] w fun e w' => e = .returned (.int .i64 (n : Int)) ∧ w' = w := by
  go_enter Try.func18, Try.ntmps18
  go_wp2_with fail
  go_ret
  exact ⟨rfl, rfl⟩
/-- Clause k's piece of the arena. -/
structure Pc (w : World) (s k ra fr to : Nat) : Prop where
  ex : ∃ rb nb cb na ca, w.cell? ⟨s, 2, none⟩ = some (.slice (some ⟨rb, 0, none⟩) nb cb) ∧ k + 1 < nb ∧ nb ≤ 1000000 ∧ w.cell? ⟨rb, k, none⟩ = some (.int .i64 (fr : Int)) ∧ w.cell? ⟨rb, k + 1, none⟩ = some (.int .i64 (to : Int)) ∧
    w.cell? ⟨s, 1, none⟩ = some (.slice (some ⟨ra, 0, none⟩) na ca) ∧ fr + 2 ≤ to ∧ to ≤ na ∧ na ≤ ca ∧ na ≤ 1000000
set_option maxHeartbeats 1600000 in
theorem words_q {k ra fr to : Nat} (h : Pc w s k ra fr to) :
    Calls Try.prog 47 #[.pointer (some ⟨s, 0, none⟩), .int .i64 (k : Int)] w fun e w' => e = .returned (.slice (some ⟨ra, fr, none⟩) (to - fr) (to - fr)) ∧ ∃ m, w' = w.drewN m := by
  obtain ⟨rb, nb, cb, na, ca, c2, hk, hnb, d0, d1, c1, h1, h2, h3, h4⟩ := h.ex
  clear h
  have hk1 : (k : Int) < (nb : Int) := by omega
  have hk2 : (k : Int) + 1 < (nb : Int) := by omega
  have f1 : (fr : Int) ≤ (to : Int) := by omega
  have f2 : (to : Int) ≤ (ca : Int) := by omega
  go_enter Try.func47, Try.ntmps47
  go_wp2_with fail
  go_quiet (fail)
  go_wp2_with fail
  go_ret
  exact ⟨rfl, _, rfl⟩
theorem words_any {k ra fr to : Nat} (h : Pc w s k ra fr to) :
    Calls Try.prog 47 #[.pointer (some ⟨s, 0, none⟩), .int .i64 (k : Int)] w fun e w' => e = .returned (.slice (some ⟨ra, fr, none⟩) (to - fr) (to - fr)) ∧ Al w w' := by
  refine (words_q h).mono ?_
  rintro e w' ⟨he, m, rfl⟩
  exact ⟨he, ⟨rfl, rfl, rfl, rfl⟩⟩
end
end Go.Proofs.Ytkndjndhjdfhcaa
