/- Contracts (the document's clauses): True, All, Can. -/
import Derived.Test.YthdgmkjjpmigeaaTS1
namespace Go.Proofs.Ythdgmkjjpmigeaa
open Go.RowKit
set_option linter.unusedSimpArgs false
set_option linter.unusedVariables false

theorem below_drewN {B : Nat} {w wr : World} (h : Below B w wr) (n : Nat) : Below B w (wr.drewN n) := ⟨h.os, h.tape, h.output, h.size, h.block⟩
theorem and_one (l : Nat) (h : l < 1000000) : bits .and .i64 (l : Int) 1 = ((l % 2 : Nat) : Int) := by
  have h1 : bits .and .i64 (l : Int) 1 = IntKind.i64.wrap (((BitVec.ofInt 64 (l : Int) &&& BitVec.ofInt 64 1).toNat : Nat) : Int) := rfl
  rw [h1, IntKind.wrap_i64, BitVec.toNat_and, show (BitVec.ofInt 64 1).toNat = 1 from rfl, Nat.and_one_is_mod, BitVec.toNat_ofInt]
  have e64 : ((2 ^ 64 : Nat) : Int) = 18446744073709551616 := rfl
  rw [e64]
  omega
/-- The j-th bit of n. -/
def bt (n j : Nat) : Bool := bits .and .i64 ((n : Int) / 2 ^ min j 64) 1 == 1
theorem bt_eq {n : Nat} (hn : n < 1000000) (j : Nat) : bt n j = n.testBit j := by
  unfold bt
  have h1 : ((n : Int) / 2 ^ min j 64) = ((n / 2 ^ min j 64 : Nat) : Int) := by simp
  have h2 : n / 2 ^ min j 64 < 1000000 := Nat.lt_of_le_of_lt (Nat.div_le_self _ _) hn
  rw [h1, and_one _ h2, Nat.testBit_eq_decide_div_mod_eq]
  have h3 : n / 2 ^ min j 64 = n / 2 ^ j := by
    by_cases hj : j ≤ 64
    · rw [Nat.min_eq_left hj]
    · rw [Nat.min_eq_right (by omega), Nat.div_eq_of_lt (Nat.lt_trans hn (by decide)), Nat.div_eq_of_lt (Nat.lt_of_lt_of_le (Nat.lt_trans hn (show 1000000 < 2 ^ 64 by decide)) (Nat.pow_le_pow_right (by decide) (by omega)))]
  rw [h3]
  rcases Nat.mod_two_eq_zero_or_one (n / 2 ^ j) with e | e <;> rw [e] <;> rfl
/-- Is a clause's literal true in the n-th assignment? -/
def ltT (n : Nat) (x : Int) : Bool := bt n (x.natAbs - 1) == decide (0 < x)
def trF (n : Nat) (c : List Int) : Bool := c.any (ltT n)
def okC (c : List Int) : Prop := ∀ x ∈ c, x ≠ 0 ∧ -100000 ≤ x ∧ x ≤ 100000
set_option maxRecDepth 20000 in
set_option maxHeartbeats 3200000 in
theorem true_any {w : World} {u : Value} {c : List Int} (h : Sr w u c) (hl5 : c.length ≤ 1000000) (hc : okC c) {n : Nat} (hn : n < 40000) :
    Calls Try.prog 49 #[u, .int .i64 (n : Int)] w fun ev w' => ev = .returned (.bool (trF n c)) ∧ Below w.heap.size w w' := by
  have HAT : Hid _ := h
  obtain ⟨a, cap, rfl⟩ := h.out
  have HC : Hid _ := hc
  obtain ⟨m, hm⟩ : ∃ m, m = c.length := ⟨_, rfl⟩
  have HM : Hid _ := hm
  rw [← hm] at hl5 HAT ⊢
  clear h hc hm
  go_enter Try.func49, Try.ntmps49
  go_wp2_with fail
  go_loopw [5] (fun i wr => ∃ k : Nat, k ≤ m ∧ i = .int .i64 (k : Int) ∧ Hid ((c.take k).any (ltT n) = false ∧ Below w.heap.size w wr)) (fun i wr => m - (intOf i).toNat)
  case atStart => exact ⟨0, Nat.zero_le _, rfl, by rw [List.take_zero]; rfl, Below.refl _ _⟩
  case round =>
    obtain ⟨k, hk, rfl, hH⟩ := hrel
    by_cases hkm : k < m
    · obtain ⟨x, hxk⟩ : ∃ x, c[k]? = some x := ⟨_, List.getElem?_eq_getElem (by rw [← HM.out]; exact hkm)⟩
      obtain ⟨r, o, rfl, dx⟩ := HAT.out.at' hH.out.2 (k := k) (by rw [← HM.out]; exact hkm)
      rw [getD_at hxk] at dx
      have hro : r < wr.heap.size := World.block_lt_of_cell? _ _ dx
      obtain ⟨hx0, hx1, hx2⟩ := HC.out x (List.mem_of_getElem? hxk)
      have HTK : Hid (∀ y, ltT n x = y → (c.take (k + 1)).any (ltT n) = y) := fun y hy => by
        rw [List.take_add_one, hxk, List.any_append, hH.out.1]; simpa using hy
      have HANY : Hid (ltT n x = true → trF n c = true) := fun hy => List.any_eq_true.2 ⟨x, List.mem_of_getElem? hxk, hy⟩
      have hkI : (k : Int) < (m : Int) := by omega
      have hwr := hH.out.2.size
      clear hxk
      rcases (show 0 < x ∨ x < 0 by omega) with hpos | hneg
      · obtain ⟨d, rfl⟩ : ∃ d : Nat, x = (d : Int) + 1 := ⟨(x - 1).toNat, by omega⟩
        have hmx : max ((d : Int) + 1) (-((d : Int) + 1)) = (d : Int) + 1 := by omega
        go_wp2_with fail
        go_region
        go_wp2_with fail
        have dy : wr.drew.cell? ⟨r, o + k, none⟩ = some (.int .i64 ((d : Int) + 1)) := dx
        go_quiet (fail)
        have hlt : ltT n ((d : Int) + 1) = bt n d := by
          unfold ltT
          rw [show ((d : Int) + 1).natAbs - 1 = d by omega, decide_eq_true (by omega)]
          cases bt n d <;> rfl
        obtain ⟨y, hy⟩ : ∃ y, y = bt n d := ⟨_, rfl⟩
        rw [← hy] at hlt
        unfold bt at hy
        rw [← hy]
        have HLT : Hid _ := hlt
        obtain ⟨wx, hwx⟩ : ∃ y, y = wr.drew.drewN nq := ⟨_, rfl⟩
        rw [← hwx]
        have hbx : Below w.heap.size w wx := by rw [hwx]; exact below_drewN (hH.out.2.trans (drew_low _ _)) _
        clear hwx hy hlt dx dy hmx
        cases y
        · go_wp2_with fail
          exact ⟨⟨k + 1, by omega, by go_num, HTK.out false HLT.out, hbx⟩, by simp [intOf]; omega⟩
        · go_wp2_with fail
          go_ret
          exact ⟨by rw [HANY.out HLT.out]; rfl, hbx⟩
      · obtain ⟨d, rfl⟩ : ∃ d : Nat, x = -((d : Int) + 1) := ⟨(-x - 1).toNat, by omega⟩
        have hmx : max (-((d : Int) + 1)) ((d : Int) + 1) = (d : Int) + 1 := by omega
        have hnp : ¬ (0 < -((d : Int) + 1)) := by omega
        have hgd : decide (0 < -((d : Int) + 1)) = false := decide_eq_false hnp
        go_wp2_with fail
        go_region
        go_wp2_with fail
        have dy : wr.drew.cell? ⟨r, o + k, none⟩ = some (.int .i64 (-((d : Int) + 1))) := dx
        go_quiet (fail)
        have hlt : ltT n (-((d : Int) + 1)) = !bt n d := by
          unfold ltT
          rw [show (-((d : Int) + 1)).natAbs - 1 = d by omega, decide_eq_false (by omega)]
          cases bt n d <;> rfl
        obtain ⟨y, hy⟩ : ∃ y, y = bt n d := ⟨_, rfl⟩
        rw [← hy] at hlt
        unfold bt at hy
        rw [← hy]
        have HLT : Hid _ := hlt
        obtain ⟨wx, hwx⟩ : ∃ y, y = wr.drew.drewN nq := ⟨_, rfl⟩
        rw [← hwx]
        have hbx : Below w.heap.size w wx := by rw [hwx]; exact below_drewN (hH.out.2.trans (drew_low _ _)) _
        clear hwx hy hlt dx dy hmx hnp hgd hneg hx0 hx1 hx2
        cases y
        · go_wp2_with fail
          go_ret
          exact ⟨by rw [HANY.out HLT.out]; rfl, hbx⟩
        · go_wp2_with fail
          exact ⟨⟨k + 1, by omega, by go_num, HTK.out false HLT.out, hbx⟩, by simp [intOf]; omega⟩
    · obtain rfl : k = m := by omega
      have hkI : ¬ (k : Int) < (k : Int) := by omega
      go_wp2_with fail
      go_ret
      have h1 := hH.out.1
      rw [HM.out, List.take_length] at h1
      exact ⟨by unfold trF; rw [h1]; rfl, hH.out.2⟩
def allF (n : Nat) (C : List (List Int)) : Bool := C.all (trF n)
set_option maxRecDepth 20000 in
set_option maxHeartbeats 3200000 in
theorem all_any {w : World} {v : Value} {C : List (List Int)} (h : Lr w v C) (hc : ∀ c ∈ C, okC c ∧ c.length ≤ 1000) (hl : C.length ≤ 90000) {n : Nat} (hn : n < 40000) :
    Calls Try.prog 48 #[v, .int .i64 (n : Int)] w fun ev w' => ev = .returned (.bool (allF n C)) ∧ Below w.heap.size w w' := by
  have H : Hid _ := h
  obtain ⟨a, cap, rfl⟩ := h.out
  have HC : Hid _ := hc
  obtain ⟨m, hm⟩ : ∃ m, m = C.length := ⟨_, rfl⟩
  have HM : Hid _ := hm
  rw [← hm] at hl H ⊢
  clear hc hm h
  go_enter Try.func48, Try.ntmps48
  go_wp2_with fail
  go_loopw [5] (fun i wr => ∃ k : Nat, k ≤ m ∧ i = .int .i64 (k : Int) ∧ Hid ((C.take k).all (trF n) = true ∧ Below w.heap.size w wr)) (fun i wr => m - (intOf i).toNat)
  case atStart => exact ⟨0, Nat.zero_le _, rfl, by rw [List.take_zero]; rfl, Below.refl _ _⟩
  case round =>
    obtain ⟨k, hk, rfl, hH⟩ := hrel
    by_cases hkm : k < m
    · obtain ⟨x, hxk⟩ : ∃ x, C[k]? = some x := ⟨_, List.getElem?_eq_getElem (by rw [← HM.out]; exact hkm)⟩
      obtain ⟨r, o, u, rfl, dx, hcu⟩ := (H.out.below hH.out.2).at' hxk
      have hro : r < wr.heap.size := World.block_lt_of_cell? _ _ dx
      have hxc := HC.out x (List.mem_of_getElem? hxk)
      have HTR : Hid _ := true_any hcu (by omega) hxc.1 hn
      obtain ⟨au, mu, cu, rfl, -⟩ := hcu.sl
      have HTK : Hid (trF n x = true → (C.take (k + 1)).all (trF n) = true) := fun hy => by
        rw [List.take_add_one, hxk, List.all_append, hH.out.1]; simpa using hy
      have HNO : Hid (trF n x = false → allF n C = false) := fun hy => by
        unfold allF
        rw [List.all_eq_false]
        exact ⟨x, List.mem_of_getElem? hxk, by rw [hy]; decide⟩
      have hkI : (k : Int) < (m : Int) := by omega
      obtain ⟨y, hy⟩ : ∃ y, y = trF n x := ⟨_, rfl⟩
      rw [← hy] at HTR HTK HNO
      have hwr := hH.out.2.size
      clear hxk hcu hy
      go_wp2_with fail
      refine Calls.mono HTR.out ?_
      rintro ev w2 ⟨rfl, hb2⟩
      have hb : Below w.heap.size w w2 := hH.out.2.trans (hb2.mono hwr)
      clear hb2
      cases y
      · go_wp2_with fail
        go_ret
        exact ⟨by rw [HNO.out (by simp)]; rfl, hb⟩
      · go_wp2_with fail
        exact ⟨⟨k + 1, by omega, by go_num, HTK.out (by simp), hb⟩, by simp [intOf]; omega⟩
    · obtain rfl : k = m := by omega
      have hkI : ¬ (k : Int) < (k : Int) := by omega
      go_wp2_with fail
      go_ret
      have h1 := hH.out.1
      rw [HM.out, List.take_length] at h1
      exact ⟨by unfold allF; rw [h1]; rfl, hH.out.2⟩
def canF (m : Nat) (C : List (List Int)) : Bool := (List.range (2 ^ m)).any fun n => allF n C
set_option maxRecDepth 20000 in
set_option maxHeartbeats 800000 in
theorem can_any {w : World} {v : Value} {C : List (List Int)} (h : Lr w v C) (hc : ∀ c ∈ C, okC c ∧ c.length ≤ 1000) (hl : C.length ≤ 90000) {m : Nat} (hm : m ≤ 14) :
    Calls Try.prog 29 #[v, .int .i64 (m : Int)] w fun ev w' => ev = .returned (.bool (canF m C)) ∧ Below w.heap.size w w' := by
  obtain ⟨P, eP⟩ : ∃ P : Nat, P = 2 ^ m := ⟨_, rfl⟩
  have hP1 : (2 : Int) ^ m = (P : Int) := by rw [eP]; simp
  have hP64 : P ≤ 16384 := by
    rw [eP]
    exact Nat.le_trans (Nat.pow_le_pow_right (by decide) hm) (by decide)
  have hP2 : wrap64 (P : Int) = (P : Int) := by unfold wrap64; omega
  have HAL : Hid (∀ (wx : World) (n : Nat), Below w.heap.size w wx → n < 40000 → Calls Try.prog 48 #[v, .int .i64 (n : Int)] wx fun ev w' => ev = .returned (.bool (allF n C)) ∧ Below wx.heap.size wx w') := fun wx n hb hn => all_any (h.below hb) hc hl hn
  obtain ⟨a, cap, rfl⟩ := h.out
  obtain ⟨cl, hcl⟩ : ∃ m, m = C.length := ⟨_, rfl⟩
  rw [← hcl] at HAL ⊢
  have HP : Hid _ := eP
  clear h hc hl hcl eP
  go_enter Try.func29, Try.ntmps29
  go_wp2_with fail
  go_loopw [5] (fun i wr => ∃ k : Nat, k ≤ P ∧ i = .int .i64 (k : Int) ∧ Hid ((∀ j, j < k → allF j C = false) ∧ Below w.heap.size w wr)) (fun i wr => P - (intOf i).toNat)
  case atStart => exact ⟨0, Nat.zero_le _, rfl, fun j hj => by omega, Below.refl _ _⟩
  case round =>
    obtain ⟨k, hk, rfl, hH⟩ := hrel
    by_cases hkm : k < P
    · have hkI : (k : Int) < (P : Int) := by omega
      have HA : Hid _ := HAL.out wr k hH.out.2 (by omega)
      have HY : Hid (allF k C = true → canF m C = true) := fun hy => List.any_eq_true.2 ⟨k, List.mem_range.2 (by rw [← HP.out]; exact hkm), hy⟩
      have HZ : Hid (allF k C = false → ∀ j, j < k + 1 → allF j C = false) := fun hy j hj => by
        by_cases hjk : j < k
        · exact hH.out.1 j hjk
        · obtain rfl : j = k := by omega
          exact hy
      obtain ⟨y, hy⟩ : ∃ y, y = allF k C := ⟨_, rfl⟩
      rw [← hy] at HA HY HZ
      have hwr := hH.out.2.size
      clear hy
      go_wp2_with fail
      refine Calls.mono HA.out ?_
      rintro ev w2 ⟨rfl, hb2⟩
      have hb : Below w.heap.size w w2 := hH.out.2.trans (hb2.mono hwr)
      clear hb2
      cases y
      · go_wp2_with fail
        exact ⟨⟨k + 1, by omega, by go_num, HZ.out (by simp), hb⟩, by simp [intOf]; omega⟩
      · go_wp2_with fail
        go_ret
        exact ⟨by rw [HY.out (by simp)]; rfl, hb⟩
    · obtain rfl : k = P := by omega
      have hkI : ¬ (k : Int) < (k : Int) := by omega
      go_wp2_with fail
      go_ret
      refine ⟨?_, hH.out.2⟩
      have h0 : canF m C = false := by
        unfold canF
        rw [List.any_eq_false]
        intro n hn
        rw [hH.out.1 n (by rw [HP.out]; exact List.mem_range.1 hn)]
        decide
      rw [h0]; rfl
end Go.Proofs.Ythdgmkjjpmigeaa
