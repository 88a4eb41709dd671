/- Contracts (the document's clauses): Can. -/
import Derived.Test.YtajpnlmglkifcaaCN17
namespace Go.Proofs.Ytajpnlmglkifcaa
open Go.RowKit
set_option linter.unusedSimpArgs false
set_option linter.unusedVariables false

def canF (m : Nat) (C : List (List Int)) : Bool := (List.range (2 ^ m)).any fun n => allF n C
set_option maxRecDepth 20000 in
set_option maxHeartbeats 800000 in
theorem can_any {w : World} {B : Nat} {v : Value} {us : List Value} {C : List (List Int)} (h : Ls w B v us C) (hc : ∀ c ∈ C, okC c ∧ c.length ≤ 1000) (hl : C.length ≤ 90000) {m : Nat} (hm : m ≤ 14) :
    Calls Try.prog 22 #[v, .int .i64 (m : Int)] w fun ev w' => ev = .returned (.bool (canF m C)) ∧ Below w.heap.size w w' := by
  obtain ⟨P, eP⟩ : ∃ P : Nat, P = 2 ^ m := ⟨_, rfl⟩
  have hP1 : (2 : Int) ^ m = (P : Int) := by rw [eP]; simp
  have hP64 : P ≤ 16384 := by
    rw [eP]
    exact Nat.le_trans (Nat.pow_le_pow_right (by decide) hm) (by decide)
  have hP2 : wrap64 (P : Int) = (P : Int) := by unfold wrap64; omega
  have HAL : Hid (∀ (wx : World) (n : Nat), Below w.heap.size w wx → n < 40000 → Calls Try.prog 12 #[v, .int .i64 (n : Int)] wx fun ev w' => ev = .returned (.bool (allF n C)) ∧ Below wx.heap.size wx w') := fun wx n hb hn => all_any (h.below hb) hc hl hn
  obtain ⟨a, cap, rfl, -⟩ := h.sl
  obtain ⟨cl, hcl⟩ : ∃ m, m = C.length := ⟨_, rfl⟩
  rw [← hcl] at HAL ⊢
  have HP : Hid _ := eP
  clear h hc hl hcl eP
  go_enter Try.func22, Try.ntmps22
  go_wp2_with fail
  go_loopw [5] (fun i wr => ∃ k : Nat, k ≤ P ∧ i = .int .i64 (k : Int) ∧ Hid ((∀ j, j < k → allF j C = false) ∧ Below w.heap.size w wr)) (fun i wr => P - (intOf i).toNat)
  case atStart => exact ⟨0, Nat.zero_le _, rfl, fun j hj => by omega, Below.refl _ _⟩
  case round =>
    obtain ⟨k, hk, rfl, hH⟩ := hrel
    by_cases hkm : k < P
    · have hkI : (k : Int) < (P : Int) := by omega
      have HA : Hid _ := HAL.out wr k hH.out.2 (by omega)
      have HY : Hid (allF k C = true → canF m C = true) := fun hy => List.any_eq_true.2 ⟨k, List.mem_range.2 (by rw [← HP.out]; exact hkm), hy⟩
      have HZ : Hid (allF k C = false → ∀ j, j < k + 1 → allF j C = false) := fun hy j hj => by
        by_cases hjk : j < k
        · exact hH.out.1 j hjk
        · obtain rfl : j = k := by omega
          exact hy
      obtain ⟨y, hy⟩ : ∃ y, y = allF k C := ⟨_, rfl⟩
      rw [← hy] at HA HY HZ
      have hwr := hH.out.2.size
      clear hy
      go_wp2_with fail
      refine Calls.mono HA.out ?_
      rintro ev w2 ⟨rfl, hb2⟩
      have hb : Below w.heap.size w w2 := hH.out.2.trans (hb2.mono hwr)
      clear hb2
      cases y
      · go_wp2_with fail
        exact ⟨⟨k + 1, by omega, by go_num, HZ.out (by simp), hb⟩, by simp [intOf]; omega⟩
      · go_wp2_with fail
        go_ret
        exact ⟨by rw [HY.out (by simp)]; rfl, hb⟩
    · obtain rfl : k = P := by omega
      have hkI : ¬ (k : Int) < (k : Int) := by omega
      go_wp2_with fail
      go_ret
      refine ⟨?_, hH.out.2⟩
      have h0 : canF m C = false := by
        unfold canF
        rw [List.any_eq_false]
        intro n hn
        rw [hH.out.1 n (by rw [HP.out]; exact List.mem_range.1 hn)]
        decide
      rw [h0]; rfl
end Go.Proofs.Ytajpnlmglkifcaa
