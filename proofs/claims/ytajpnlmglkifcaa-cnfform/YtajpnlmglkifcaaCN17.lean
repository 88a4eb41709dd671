/- Contracts (the document's clauses): True, All, Can. -/
import Derived.Test.YtajpnlmglkifcaaCN16
namespace Go.Proofs.Ytajpnlmglkifcaa
open Go.RowKit
set_option linter.unusedSimpArgs false
set_option linter.unusedVariables false

/-- The j-th bit of n. -/
def bt (n j : Nat) : Bool := bits .and .i64 ((n : Int) / 2 ^ min j 64) 1 == 1
theorem bt_eq {n : Nat} (hn : n < 1000000) (j : Nat) : bt n j = n.testBit j := by
  unfold bt
  have h1 : ((n : Int) / 2 ^ min j 64) = ((n / 2 ^ min j 64 : Nat) : Int) := by simp
  have h2 : n / 2 ^ min j 64 < 1000000 := Nat.lt_of_le_of_lt (Nat.div_le_self _ _) hn
  rw [h1, and_one _ h2, Nat.testBit_eq_decide_div_mod_eq]
  have h3 : n / 2 ^ min j 64 = n / 2 ^ j := by
    by_cases hj : j ≤ 64
    · rw [Nat.min_eq_left hj]
    · rw [Nat.min_eq_right (by omega), Nat.div_eq_of_lt (Nat.lt_trans hn (by decide)), Nat.div_eq_of_lt (Nat.lt_of_lt_of_le (Nat.lt_trans hn (show 1000000 < 2 ^ 64 by decide)) (Nat.pow_le_pow_right (by decide) (by omega)))]
  rw [h3]
  rcases Nat.mod_two_eq_zero_or_one (n / 2 ^ j) with e | e <;> rw [e] <;> rfl
/-- Is a clause's literal true in the n-th assignment? -/
def ltT (n : Nat) (x : Int) : Bool := bt n (x.natAbs - 1) == decide (0 < x)
def trF (n : Nat) (c : List Int) : Bool := c.any (ltT n)
def okC (c : List Int) : Prop := ∀ x ∈ c, x ≠ 0 ∧ -100000 ≤ x ∧ x ≤ 100000
set_option maxRecDepth 20000 in
set_option maxHeartbeats 3200000 in
theorem true_any {w : World} {b : Nat} {u : Value} {c : List Int} (h : Rl w b u c) (hc : okC c) {n : Nat} (hn : n < 40000) :
    Calls Try.prog 14 #[u, .int .i64 (n : Int)] w fun ev w' => ev = .returned (.bool (trF n c)) ∧ Below w.heap.size w w' := by
  obtain ⟨a, cap, rfl, -, hl5, hat⟩ := h
  have HAT : Hid _ := hat
  have HC : Hid _ := hc
  obtain ⟨m, hm⟩ : ∃ m, m = c.length := ⟨_, rfl⟩
  have HM : Hid _ := hm
  rw [← hm] at hl5 ⊢
  clear hat hc hm
  go_enter Try.func14, Try.ntmps14
  go_wp2_with fail
  go_loopw [5] (fun i wr => ∃ k : Nat, k ≤ m ∧ i = .int .i64 (k : Int) ∧ Hid ((c.take k).any (ltT n) = false ∧ Below w.heap.size w wr)) (fun i wr => m - (intOf i).toNat)
  case atStart => exact ⟨0, Nat.zero_le _, rfl, by rw [List.take_zero]; rfl, Below.refl _ _⟩
  case round =>
    obtain ⟨k, hk, rfl, hH⟩ := hrel
    by_cases hkm : k < m
    · obtain ⟨x, hxk⟩ : ∃ x, c[k]? = some x := ⟨_, List.getElem?_eq_getElem (by rw [← HM.out]; exact hkm)⟩
      obtain ⟨r, rfl, -, hLi⟩ := HAT.out.resolve_left (fun e => by rw [e] at hxk; simp at hxk)
      have dx : wr.cell? ⟨r, k, none⟩ = some (.int .i64 x) := by
        have h1 := hLi k (by rw [← HM.out]; exact hkm)
        rw [Nat.zero_add, List.getD_eq_getElem?_getD, hxk] at h1
        exact keep_cell hH.out.2 h1
      obtain ⟨hx0, hx1, hx2⟩ := HC.out x (List.mem_of_getElem? hxk)
      have HTK : Hid (∀ y, ltT n x = y → (c.take (k + 1)).any (ltT n) = y) := fun y hy => by
        rw [List.take_add_one, hxk, List.any_append, hH.out.1]; simpa using hy
      have HANY : Hid (ltT n x = true → trF n c = true) := fun hy => List.any_eq_true.2 ⟨x, List.mem_of_getElem? hxk, hy⟩
      have hkI : (k : Int) < (m : Int) := by omega
      have hwr := hH.out.2.size
      clear hxk hLi
      rcases (show 0 < x ∨ x < 0 by omega) with hpos | hneg
      · obtain ⟨d, rfl⟩ : ∃ d : Nat, x = (d : Int) + 1 := ⟨(x - 1).toNat, by omega⟩
        have hmx : max ((d : Int) + 1) (-((d : Int) + 1)) = (d : Int) + 1 := by omega
        go_wp2_with fail
        go_region
        go_wp2_with fail
        have dy : wr.drew.cell? ⟨r, k, none⟩ = some (.int .i64 ((d : Int) + 1)) := dx
        go_quiet (fail)
        have hlt : ltT n ((d : Int) + 1) = bt n d := by
          unfold ltT
          rw [show ((d : Int) + 1).natAbs - 1 = d by omega, decide_eq_true (by omega)]
          cases bt n d <;> rfl
        obtain ⟨y, hy⟩ : ∃ y, y = bt n d := ⟨_, rfl⟩
        rw [← hy] at hlt
        unfold bt at hy
        rw [← hy]
        have HLT : Hid _ := hlt
        obtain ⟨wx, hwx⟩ : ∃ y, y = wr.drew.drewN nq := ⟨_, rfl⟩
        rw [← hwx]
        have hbx : Below w.heap.size w wx := by rw [hwx]; exact below_drewN (hH.out.2.trans (drew_low _ _)) _
        clear hwx hy hlt dx dy hmx
        cases y
        · go_wp2_with fail
          exact ⟨⟨k + 1, by omega, by go_num, HTK.out false HLT.out, hbx⟩, by simp [intOf]; omega⟩
        · go_wp2_with fail
          go_ret
          exact ⟨by rw [HANY.out HLT.out]; rfl, hbx⟩
      · obtain ⟨d, rfl⟩ : ∃ d : Nat, x = -((d : Int) + 1) := ⟨(-x - 1).toNat, by omega⟩
        have hmx : max (-((d : Int) + 1)) ((d : Int) + 1) = (d : Int) + 1 := by omega
        have hnp : ¬ (0 < -((d : Int) + 1)) := by omega
        have hgd : decide (0 < -((d : Int) + 1)) = false := decide_eq_false hnp
        go_wp2_with fail
        go_region
        go_wp2_with fail
        have dy : wr.drew.cell? ⟨r, k, none⟩ = some (.int .i64 (-((d : Int) + 1))) := dx
        go_quiet (fail)
        have hlt : ltT n (-((d : Int) + 1)) = !bt n d := by
          unfold ltT
          rw [show (-((d : Int) + 1)).natAbs - 1 = d by omega, decide_eq_false (by omega)]
          cases bt n d <;> rfl
        obtain ⟨y, hy⟩ : ∃ y, y = bt n d := ⟨_, rfl⟩
        rw [← hy] at hlt
        unfold bt at hy
        rw [← hy]
        have HLT : Hid _ := hlt
        obtain ⟨wx, hwx⟩ : ∃ y, y = wr.drew.drewN nq := ⟨_, rfl⟩
        rw [← hwx]
        have hbx : Below w.heap.size w wx := by rw [hwx]; exact below_drewN (hH.out.2.trans (drew_low _ _)) _
        clear hwx hy hlt dx dy hmx hnp hgd hneg hx0 hx1 hx2
        cases y
        · go_wp2_with fail
          go_ret
          exact ⟨by rw [HANY.out HLT.out]; rfl, hbx⟩
        · go_wp2_with fail
          exact ⟨⟨k + 1, by omega, by go_num, HTK.out false HLT.out, hbx⟩, by simp [intOf]; omega⟩
    · obtain rfl : k = m := by omega
      have hkI : ¬ (k : Int) < (k : Int) := by omega
      go_wp2_with fail
      go_ret
      have h1 := hH.out.1
      rw [HM.out, List.take_length] at h1
      exact ⟨by unfold trF; rw [h1]; rfl, hH.out.2⟩
def allF (n : Nat) (C : List (List Int)) : Bool := C.all (trF n)
set_option maxRecDepth 20000 in
set_option maxHeartbeats 3200000 in
theorem all_any {w : World} {B : Nat} {v : Value} {us : List Value} {C : List (List Int)} (h : Ls w B v us C) (hc : ∀ c ∈ C, okC c ∧ c.length ≤ 1000) (hl : C.length ≤ 90000) {n : Nat} (hn : n < 40000) :
    Calls Try.prog 12 #[v, .int .i64 (n : Int)] w fun ev w' => ev = .returned (.bool (allF n C)) ∧ Below w.heap.size w w' := by
  obtain ⟨a, cap, rfl, hat⟩ := h.sl
  have HAT : Hid _ := hat
  have HC : Hid _ := hc
  have H : Hid _ := h
  obtain ⟨m, hm⟩ : ∃ m, m = C.length := ⟨_, rfl⟩
  have HM : Hid _ := hm
  rw [← hm] at hl ⊢
  clear hat hc hm h
  go_enter Try.func12, Try.ntmps12
  go_wp2_with fail
  go_loopw [5] (fun i wr => ∃ k : Nat, k ≤ m ∧ i = .int .i64 (k : Int) ∧ Hid ((C.take k).all (trF n) = true ∧ Below w.heap.size w wr)) (fun i wr => m - (intOf i).toNat)
  case atStart => exact ⟨0, Nat.zero_le _, rfl, by rw [List.take_zero]; rfl, Below.refl _ _⟩
  case round =>
    obtain ⟨k, hk, rfl, hH⟩ := hrel
    by_cases hkm : k < m
    · obtain ⟨x, hxk⟩ : ∃ x, C[k]? = some x := ⟨_, List.getElem?_eq_getElem (by rw [← HM.out]; exact hkm)⟩
      obtain ⟨u, huk⟩ : ∃ u, us[k]? = some u := ⟨_, List.getElem?_eq_getElem (by rw [H.out.len, ← HM.out]; exact hkm)⟩
      obtain ⟨r, rfl, -, -, hcell⟩ := HAT.out.resolve_left (fun e => by rw [e] at huk; simp at huk)
      have dx : wr.cell? ⟨r, k, none⟩ = some u := keep_cell hH.out.2 (hcell k u huk)
      have hxc := HC.out x (List.mem_of_getElem? hxk)
      have hcu := (H.out.cl k u x huk hxk).1
      have HTR : Hid _ := true_any ((hcu.rl (by omega)).below hH.out.2) hxc.1 hn
      obtain ⟨au, mu, cu, rfl⟩ := own_slice hcu
      have HTK : Hid (trF n x = true → (C.take (k + 1)).all (trF n) = true) := fun hy => by
        rw [List.take_add_one, hxk, List.all_append, hH.out.1]; simpa using hy
      have HNO : Hid (trF n x = false → allF n C = false) := fun hy => by
        unfold allF
        rw [List.all_eq_false]
        exact ⟨x, List.mem_of_getElem? hxk, by rw [hy]; decide⟩
      have hkI : (k : Int) < (m : Int) := by omega
      obtain ⟨y, hy⟩ : ∃ y, y = trF n x := ⟨_, rfl⟩
      rw [← hy] at HTR HTK HNO
      have hwr := hH.out.2.size
      clear hxk huk hcell hcu hy
      go_wp2_with fail
      refine Calls.mono HTR.out ?_
      rintro ev w2 ⟨rfl, hb2⟩
      have hb : Below w.heap.size w w2 := hH.out.2.trans (hb2.mono hwr)
      clear hb2
      cases y
      · go_wp2_with fail
        go_ret
        exact ⟨by rw [HNO.out (by simp)]; rfl, hb⟩
      · go_wp2_with fail
        exact ⟨⟨k + 1, by omega, by go_num, HTK.out (by simp), hb⟩, by simp [intOf]; omega⟩
    · obtain rfl : k = m := by omega
      have hkI : ¬ (k : Int) < (k : Int) := by omega
      go_wp2_with fail
      go_ret
      have h1 := hH.out.1
      rw [HM.out, List.take_length] at h1
      exact ⟨by unfold allF; rw [h1]; rfl, hH.out.2⟩
end Go.Proofs.Ytajpnlmglkifcaa
