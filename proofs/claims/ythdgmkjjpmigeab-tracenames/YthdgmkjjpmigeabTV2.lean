/- Contracts (the document's clauses): Vars, Entails. -/
import Derived.Test.YthdgmkjjpmigeabTV1
namespace Go.Proofs.Ythdgmkjjpmigeab
open Go.RowKit
set_option linter.unusedSimpArgs false
set_option linter.unusedVariables false

set_option maxRecDepth 20000 in
set_option maxHeartbeats 3200000 in
theorem vars_any {w : World} {v : Value} {C : List (List Int)} (h : Lr w v C) (hl : C.length ≤ 70368744177664) (hc : ∀ c ∈ C, c.length ≤ 70368744177664) (hw : ∀ c ∈ C, ∀ y ∈ c, w64 y) {M : Int} (hM0 : 0 ≤ M) (hMM : M ≤ 1000) :
    Calls Try.prog 7 #[v, .int .i64 M] w fun ev w' => ∃ N : Int, ev = .returned (.int .i64 N) ∧ 0 ≤ N ∧ N ≤ M + 1 ∧ (N ≤ M → ∀ c ∈ C, ∀ y ∈ c, -N ≤ y ∧ y ≤ N) ∧ w' = w := by
  have H : Hid _ := h
  obtain ⟨a, cap, rfl⟩ := h.out
  have HC : Hid _ := hc
  have HW : Hid _ := hw
  obtain ⟨m, hm⟩ : ∃ m, m = C.length := ⟨_, rfl⟩
  have HM : Hid _ := hm
  rw [← hm] at hl H ⊢
  clear hc hm h hw
  go_enter Try.func7, Try.ntmps7
  go_wp2_with fail
  go_loopw [5, 6] (fun u i wr => ∃ (k : Nat) (N : Int), k ≤ m ∧ i = .int .i64 (k : Int) ∧ u = .int .i64 N ∧ 0 ≤ N ∧ N ≤ M ∧ Hid (∀ c ∈ C.take k, ∀ y ∈ c, -N ≤ y ∧ y ≤ N) ∧ w = wr) (fun u i wr => m - (intOf i).toNat)
  case atStart => exact ⟨0, 0, Nat.zero_le _, rfl, rfl, by omega, by omega, (by intro c hc; simp at hc), rfl⟩
  case round =>
    obtain ⟨k, N, hk, rfl, rfl, hN0, hN1, hH, rfl⟩ := hrel
    by_cases hkm : k < m
    · obtain ⟨x, hxk⟩ : ∃ x, C[k]? = some x := ⟨_, List.getElem?_eq_getElem (by rw [← HM.out]; exact hkm)⟩
      obtain ⟨r, o, u, rfl, dx, hcu⟩ := H.out.at' hxk
      have hro : r < w.heap.size := World.block_lt_of_cell? _ _ dx
      have HCU : Hid (Sr w u x) := hcu
      have HXW : Hid (∀ y ∈ x, w64 y) := HW.out x (List.mem_of_getElem? hxk)
      have hq5 := HC.out x (List.mem_of_getElem? hxk)
      have HTK : Hid (C.take (k + 1) = C.take k ++ [x]) := by unfold Hid; rw [List.take_add_one, hxk]; rfl
      obtain ⟨au, cu, hue⟩ := hcu.out
      obtain ⟨q, hq⟩ : ∃ q, q = x.length := ⟨_, rfl⟩
      have HQ : Hid _ := hq
      rw [← hq] at hue hq5
      subst hue
      have hkI : (k : Int) < (m : Int) := by omega
      clear hxk hcu hq
      go_wp2_with fail
      go_loopw [5, 7] (fun u j wz => ∃ (t : Nat) (N2 : Int), t ≤ q ∧ j = .int .i64 (t : Int) ∧ u = .int .i64 N2 ∧ N ≤ N2 ∧ N2 ≤ M ∧ Hid (∀ y ∈ x.take t, -N2 ≤ y ∧ y ≤ N2) ∧ w = wz) (fun u j wz => q - (intOf j).toNat)
      case atStart => exact ⟨0, N, Nat.zero_le _, rfl, rfl, by omega, hN1, (by intro c hc; simp at hc), rfl⟩
      case round =>
        obtain ⟨t, N2, ht, rfl, rfl, hM0', hM1, hJ, rfl⟩ := hrel
        by_cases htq : t < q
        · obtain ⟨y, hyk⟩ : ∃ y, x[t]? = some y := ⟨_, List.getElem?_eq_getElem (by rw [← HQ.out]; exact htq)⟩
          obtain ⟨r2, o2, rfl, dy⟩ := HCU.out.at' (Below.refl _ _) (k := t) (by rw [← HQ.out]; exact htq)
          rw [getD_at hyk] at dy
          have hr2 : r2 < w.heap.size := World.block_lt_of_cell? _ _ dy
          obtain ⟨hy1, hy2⟩ := HXW.out y (List.mem_of_getElem? hyk)
          have HTT : Hid (x.take (t + 1) = x.take t ++ [y]) := by unfold Hid; rw [List.take_add_one, hyk]; rfl
          have htI : (t : Int) < (q : Int) := by omega
          clear hyk
          by_cases g1 : M < y
          · go_wp2_with fail
            go_ret
            exact ⟨_, rfl, by omega, by omega, fun h => by omega, rfl⟩
          by_cases g2 : y < -M
          · go_wp2_with fail
            go_ret
            exact ⟨_, rfl, by omega, by omega, fun h => by omega, rfl⟩
          · go_wp2_with fail
            refine ⟨⟨t + 1, _, by omega, by go_num, rfl, ?_, ?_, ?_, by first | rfl | trivial⟩, by simp [intOf]; omega⟩
            · omega
            · omega
            · show ∀ z ∈ x.take (t + 1), _
              rw [HTT.out]
              intro z hz
              rcases List.mem_append.1 hz with e | e
              · have := hJ.out z e; omega
              · rw [List.mem_singleton.1 e]; omega
        · obtain rfl : t = q := by omega
          have htI : ¬ (t : Int) < (t : Int) := by omega
          have HE : Hid (∀ c ∈ C.take (k + 1), ∀ y ∈ c, -N2 ≤ y ∧ y ≤ N2) := by
            have h1 := hJ.out
            rw [HQ.out, List.take_length] at h1
            unfold Hid
            rw [HTK.out]
            intro c hc y hy
            rcases List.mem_append.1 hc with e | e
            · have := hH.out c e y hy; omega
            · rw [List.mem_singleton.1 e] at hy; exact h1 y hy
          go_wp2_with fail
          exact ⟨⟨k + 1, N2, by omega, by go_num, rfl, by omega, hM1, HE.out, by first | rfl | trivial⟩, by simp [intOf]; omega⟩
    · obtain rfl : k = m := by omega
      have hkI : ¬ (k : Int) < (k : Int) := by omega
      have HE : Hid (∀ c ∈ C, ∀ y ∈ c, -N ≤ y ∧ y ≤ N) := by
        have h1 := hH.out
        rw [HM.out, List.take_length] at h1
        exact h1
      go_wp2_with fail
      go_ret
      exact ⟨N, rfl, hN0, by omega, fun _ => HE.out, rfl⟩
def entF (m : Nat) (C : List (List Int)) (c : List Int) : Prop := ∀ n, n < 2 ^ m → allF n C = true → trF n c = true
end Go.Proofs.Ythdgmkjjpmigeab
