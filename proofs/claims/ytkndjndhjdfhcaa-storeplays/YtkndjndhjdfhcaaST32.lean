/- Contracts (the law's helps): kept, left, Size, Spoil, Place. -/
import Derived.Test.YtkndjndhjdfhcaaST31
namespace Go.Proofs.Ytkndjndhjdfhcaa
open Go.RowKit
set_option linter.unusedSimpArgs false
set_option linter.unusedVariables false

set_option maxRecDepth 20000 in
set_option maxHeartbeats 12800000 in
theorem kept_any {w : World} {u : Value} {c : List Int} (h : Sr w u c) (hl : c.length ≤ 100000) :
    Calls Try.prog 14 #[u] w fun ev w' => ∃ u', ev = .returned (.tuple #[u', .int .i64 (onceF c).2]) ∧ Is' w' w.heap.size u' (onceF c).1 ∧ Below w.heap.size w w' := by
  obtain ⟨a, k0, rfl⟩ := h.out
  obtain ⟨n, hn⟩ : ∃ n, n = c.length := ⟨_, rfl⟩
  obtain ⟨R, hR⟩ : ∃ R, R = onceF c := ⟨_, rfl⟩
  have HR : Hid _ := hR
  have HN : Hid _ := hn
  have HC : Hid _ := h
  rw [← hn] at hl HC ⊢
  rw [← hR]
  clear h hn hR
  go_enter Try.func14, Try.ntmps14
  go_wp2_with fail
  go_loopw [4, 5] (fun v i wr => ∃ k : Nat, k ≤ n ∧ i = .int .i64 (k : Int) ∧ Hid ((∀ j, j < k → isL (c.getD j 0) = true) ∧ Is' wr w.heap.size v (dd (c.take k)) ∧ Below w.heap.size w wr)) (fun v i wr => n - (intOf i).toNat)
  case atStart => exact ⟨0, Nat.zero_le _, rfl, (fun j hj => by omega), World.ownsRow_nil _ _ _ _, Below.refl _ _⟩
  case round =>
    obtain ⟨k, hk, rfl, hH⟩ := hrel
    obtain ⟨al, nl, kl, hvl, HNL⟩ := own_sl hH.out.2.1
    subst hvl
    have hnl : nl ≤ 100000 := by
      rw [HNL.out]
      have h1 := len_dd (c.take k)
      rw [List.length_take] at h1
      omega
    by_cases hlt : k < n
    · have hkl : k < c.length := by rw [← HN.out]; exact hlt
      obtain ⟨g, o, rfl, hck⟩ := HC.out.at' hH.out.2.2 (k := k) hkl
      obtain ⟨s, hs⟩ : ∃ s, s = c.getD k 0 := ⟨_, rfl⟩
      rw [← hs] at hck
      have hsk : c[k]? = some s := by rw [hs, List.getD_eq_getElem?_getD, List.getElem?_eq_getElem hkl]; rfl
      have HSK : Hid _ := hsk
      have hltI : (k : Int) < (n : Int) := by omega
      by_cases hL : isL s = true
      · have h3 : s ≠ 0 ∧ -65536 ≤ s ∧ s ≤ 65536 := ⟨isL_ne hL, isL_sm hL⟩
        have z0 : (s == 0) = false := by simp [h3.1]
        have z1 : decide (65536 < s) = false := decide_eq_false (by omega)
        have z2 : decide (s < -65536) = false := decide_eq_false (by omega)
        have z3 : s ≤ 65536 := h3.2.2
        have z4 : -65536 ≤ s := h3.2.1
        have HLS : Hid (∀ j, j < k + 1 → isL (c.getD j 0) = true) := fun j hj => by
          by_cases e : j = k
          · rw [e, ← hs]; exact hL
          · exact hH.out.1 j (by omega)
        have HHA : Hid _ := rhas_any (Is'.sr hH.out.2.1) (by rw [← HNL.out]; omega) s
        obtain ⟨b, hb⟩ : ∃ b, b = decide (s ∈ dd (c.take k)) := ⟨_, rfl⟩
        rw [← hb] at HHA
        have HB : Hid _ := hb
        clear hs hsk hkl hL h3 hb
        cases b with
        | true =>
          have HD : Hid (dd (c.take (k + 1)) = dd (c.take k)) := by
            unfold Hid
            rw [List.take_add_one, HSK.out]
            show dd (c.take k ++ [s]) = _
            rw [dd_snoc, if_pos (decide_eq_true_iff.1 HB.out.symm)]
          go_wp2_with fail
          refine Calls.mono HHA.out ?_
          rintro ev w1 ⟨rfl, hq⟩
          rw [hq]
          clear hq w1
          go_wp2_with fail
          exact ⟨⟨k + 1, by omega, by go_num, HLS.out, by rw [HD.out]; exact hH.out.2.1, hH.out.2.2⟩, by simp [intOf]; omega⟩
        | false =>
          have HD : Hid (dd (c.take (k + 1)) = dd (c.take k) ++ [s]) := by
            unfold Hid
            rw [List.take_add_one, HSK.out]
            show dd (c.take k ++ [s]) = _
            rw [dd_snoc, if_neg (decide_eq_false_iff_not.1 HB.out.symm)]
          have hz0 : w.heap.size ≤ wr.heap.size := hH.out.2.2.size
          go_wp2_with fail
          refine Calls.mono HHA.out ?_
          rintro ev w1 ⟨rfl, hq⟩
          rw [hq]
          clear hq w1
          go_wp2_with (at_builtin; refine wpList_app rfl _ _ rfl w.heap.size _ (dd (c.take k)) rfl (row_kept hH.out.2.1 (fun _ hq => heap_alloc_old _ _ hq)) _ [s] rfl (sr_one wr s) (by rw [← HNL.out]; simp; omega) (by rw [size_alloc']; omega) ?_; intro v1 w2 hown hgrow hat)
          refine ⟨⟨k + 1, by omega, by go_num, HLS.out, by rw [HD.out]; exact hown, ?_⟩, by simp [intOf]; omega⟩
          exact low_grown hH.out.2.2 hz0 hgrow (fun q hq => (World.ownsRow.lt hH.out.2.1 q hq).1)
      · have HB : Hid (R = ([], 110)) := by
          unfold Hid
          rw [HR.out]
          unfold onceF
          rw [if_neg]
          intro e
          exact hL (by rw [hs]; exact List.all_eq_true.1 e _ (getD_mem hkl))
        have hbad : s = 0 ∨ (s ≠ 0 ∧ 65536 < s) ∨ (s ≠ 0 ∧ ¬ 65536 < s ∧ s < -65536) := by
          unfold isL at hL
          simp at hL
          omega
        clear hs hsk hkl hL
        rcases hbad with rfl | ⟨b0, b1⟩ | ⟨b0, b1, b2⟩
        · go_wp2_with fail
          go_ret2
          rw [HB.out]
          exact ⟨_, rfl, World.ownsRow_nil _ _ _ _, hH.out.2.2⟩
        · have z0 : (s == 0) = false := by simp [b0]
          go_wp2_with fail
          go_ret2
          rw [HB.out]
          exact ⟨_, rfl, World.ownsRow_nil _ _ _ _, hH.out.2.2⟩
        · have z0 : (s == 0) = false := by simp [b0]
          have z1 : decide (65536 < s) = false := decide_eq_false b1
          go_wp2_with fail
          go_ret2
          rw [HB.out]
          exact ⟨_, rfl, World.ownsRow_nil _ _ _ _, hH.out.2.2⟩
    · obtain rfl : k = n := by omega
      have hltI : ¬ (k : Int) < (k : Int) := by omega
      have HA : Hid (c.all isL = true) := by
        unfold Hid
        rw [List.all_eq_true]
        intro x hx
        obtain ⟨j, hj, rfl⟩ := mem_getD.1 hx
        exact hH.out.1 j (by rw [HN.out]; exact hj)
      have hI := hH.out.2.1
      rw [HN.out, List.take_length] at hI HNL
      have HID : Hid (Is' wr w.heap.size (.slice al nl kl) (dd c)) := hI
      have HBW : Hid (Below w.heap.size w wr) := hH.out.2.2
      clear hI hH
      go_wp2_with fail
      go_loopw [6] (fun i wx => ∃ j : Nat, j ≤ nl ∧ i = .int .i64 (j : Int) ∧ (∀ t, t < j → -((dd c).getD t 0) ∉ dd c) ∧ wr = wx) (fun i wx => nl - (intOf i).toNat)
      case atStart => exact ⟨0, Nat.zero_le _, rfl, (fun t ht => by omega), rfl⟩
      case round =>
        obtain ⟨j, hj, rfl, hz, rfl⟩ := hrel
        have HZ : Hid _ := hz
        clear hz
        by_cases hlt2 : j < nl
        · have hjl : j < (dd c).length := by rw [← HNL.out]; exact hlt2
          obtain ⟨g, o, rfl, hck⟩ := (Is'.sr HID.out).at' (Below.refl _ _) (k := j) hjl
          obtain ⟨s, hs⟩ : ∃ s, s = (dd c).getD j 0 := ⟨_, rfl⟩
          rw [← hs] at hck
          have hsc : s ∈ c := mem_dd.1 (by rw [hs]; exact getD_mem hjl)
          have hsL := List.all_eq_true.1 HA.out s hsc
          have hsm : -65536 ≤ s ∧ s ≤ 65536 := isL_sm hsL
          have HHA : Hid _ := rhas_any (Is'.sr HID.out) (by rw [← HNL.out]; omega) (-s)
          obtain ⟨b, hb⟩ : ∃ b, b = decide (-s ∈ dd c) := ⟨_, rfl⟩
          rw [← hb] at HHA
          have HB : Hid _ := hb
          have HS : Hid _ := hs
          have HSC : Hid _ := hsc
          have hltI2 : (j : Int) < (nl : Int) := by omega
          clear hs hjl hb hsc
          cases b with
          | true =>
            have HBB : Hid (R = ([], 112)) := by
              unfold Hid
              rw [HR.out]
              unfold onceF
              rw [if_pos HA.out, if_pos]
              unfold opp
              exact List.any_eq_true.2 ⟨s, HSC.out, by simp; exact mem_dd.1 (decide_eq_true_iff.1 HB.out.symm)⟩
            go_wp2_with fail
            refine Calls.mono HHA.out ?_
            rintro ev w1 ⟨rfl, hq⟩
            rw [hq]
            clear hq w1
            go_wp2_with fail
            go_ret2
            rw [HBB.out]
            exact ⟨_, rfl, World.ownsRow_nil _ _ _ _, HBW.out⟩
          | false =>
            go_wp2_with fail
            refine Calls.mono HHA.out ?_
            rintro ev w1 ⟨rfl, hq⟩
            rw [hq]
            clear hq w1
            go_wp2_with fail
            refine ⟨⟨j + 1, by omega, by go_num, (fun t ht => ?_), by first | rfl | trivial⟩, by simp [intOf]; omega⟩
            by_cases e : t = j
            · rw [e, ← HS.out]; exact decide_eq_false_iff_not.1 HB.out.symm
            · exact HZ.out t (by omega)
        · obtain rfl : j = nl := by omega
          have hltI2 : ¬ (j : Int) < (j : Int) := by omega
          have HBB : Hid (R = (dd c, 0)) := by
            unfold Hid
            rw [HR.out]
            unfold onceF
            rw [if_pos HA.out, if_neg]
            unfold opp
            intro e
            obtain ⟨x, hx, h2⟩ := List.any_eq_true.1 e
            obtain ⟨t, ht, hte⟩ := mem_getD.1 (mem_dd.2 hx)
            have h3 := HZ.out t (by rw [HNL.out]; exact ht)
            rw [hte] at h3
            exact h3 (mem_dd.2 (by simpa using h2))
          go_wp2_with fail
          go_ret2
          rw [HBB.out]
          exact ⟨_, rfl, HID.out, HBW.out⟩
/-- What left tells. -/
def leftF (S : List Int) : List Int → Nat → Bool × Nat
  | [], n => (false, n)
  | x :: c, n => if x ∈ S then (true, 0) else leftF S c (if -x ∈ S then n else n + 1)
theorem leftF_drop {S c : List Int} {k n : Nat} {x : Int} (h : c[k]? = some x) : leftF S (c.drop k) n = if x ∈ S then (true, 0) else leftF S (c.drop (k + 1)) (if -x ∈ S then n else n + 1) := by
  have hk := (List.getElem?_eq_some_iff.1 h).1
  rw [List.drop_eq_getElem_cons hk, leftF]
  rw [List.getElem?_eq_getElem hk] at h
  rw [Option.some.inj h]
set_option maxRecDepth 20000 in
set_option maxHeartbeats 12800000 in
theorem left_any {w : World} {u v : Value} {c S : List Int} (h : Sr w u c) (h' : Sr w v S) (hl : c.length ≤ 1000000) (hm : S.length ≤ 1000000) (hc : ∀ x ∈ c, w64 x ∧ x ≠ -9223372036854775808) :
    Calls Try.prog 25 #[u, v] w fun ev w' => ev = .returned (.tuple #[.bool (leftF S c 0).1, .int .i64 ((leftF S c 0).2 : Int)]) ∧ w' = w := by
  obtain ⟨a, k0, rfl⟩ := h.out
  obtain ⟨a', k0', rfl⟩ := h'.out
  have HH : Hid (∀ x, Calls Try.prog 24 #[.slice a' S.length k0', .int .i64 x] w fun e w' => e = .returned (.bool (decide (x ∈ S))) ∧ w' = w) := fun x => rhas_any h' hm x
  obtain ⟨n, hn⟩ : ∃ n, n = c.length := ⟨_, rfl⟩
  obtain ⟨n', hn'⟩ : ∃ n, n = S.length := ⟨_, rfl⟩
  obtain ⟨R, hR⟩ : ∃ R, R = leftF S c 0 := ⟨_, rfl⟩
  have HR : Hid _ := hR
  have HN : Hid _ := hn
  have HC : Hid _ := h
  have HW : Hid _ := hc
  rw [← hn] at hl HC ⊢
  rw [← hn'] at HH ⊢
  rw [← hR]
  clear h h' hn hn' hR hc
  go_enter Try.func25, Try.ntmps25
  go_wp2_with fail
  go_loopw [6, 7] (fun q i wr => ∃ k m : Nat, k ≤ n ∧ m ≤ k ∧ q = .int .i64 (m : Int) ∧ i = .int .i64 (k : Int) ∧ Hid (R = leftF S (c.drop k) m) ∧ w = wr) (fun q i wr => n - (intOf i).toNat)
  case atStart => exact ⟨0, 0, Nat.zero_le _, Nat.le_refl _, rfl, rfl, HR.out, rfl⟩
  case round =>
    obtain ⟨k, m, hk, hmk, rfl, rfl, hH, rfl⟩ := hrel
    by_cases hlt : k < n
    · have hkl : k < c.length := by rw [← HN.out]; exact hlt
      obtain ⟨g, o, rfl, hck⟩ := HC.out.at' (Below.refl _ _) (k := k) hkl
      obtain ⟨s, hs⟩ : ∃ s, s = c.getD k 0 := ⟨_, rfl⟩
      rw [← hs] at hck
      have hsk : c[k]? = some s := by rw [hs, List.getD_eq_getElem?_getD, List.getElem?_eq_getElem hkl]; rfl
      have hw := HW.out s (List.mem_of_getElem? hsk)
      have hw1 : -9223372036854775808 ≤ s ∧ s ≤ 9223372036854775807 := hw.1
      have hw2 : s ≠ -9223372036854775808 := hw.2
      have HEQ : Hid (R = if s ∈ S then (true, 0) else leftF S (c.drop (k + 1)) (if -s ∈ S then m else m + 1)) := by
        unfold Hid
        rw [hH.out, leftF_drop hsk]
      have HH1 : Hid _ := HH.out s
      have HH2 : Hid _ := HH.out (-s)
      obtain ⟨b1, hb1⟩ : ∃ b, b = decide (s ∈ S) := ⟨_, rfl⟩
      obtain ⟨b2, hb2⟩ : ∃ b, b = decide (-s ∈ S) := ⟨_, rfl⟩
      rw [← hb1] at HH1
      rw [← hb2] at HH2
      have HB1 : Hid _ := hb1
      have HB2 : Hid _ := hb2
      have hltI : (k : Int) < (n : Int) := by omega
      have hwr : IntKind.i64.wrap (-s) = -s := by rw [IntKind.wrap_i64]; omega
      clear hs hsk hkl hb1 hb2 hw
      cases b1 with
      | true =>
        rw [if_pos (decide_eq_true_iff.1 HB1.out.symm)] at HEQ
        go_wp2_with fail
        refine Calls.mono HH1.out ?_
        rintro ev w1 ⟨rfl, hq⟩
        rw [hq]
        clear hq w1
        go_wp2_with fail
        go_ret2
        exact ⟨by rw [HEQ.out]; rfl, rfl⟩
      | false =>
        rw [if_neg (decide_eq_false_iff_not.1 HB1.out.symm)] at HEQ
        cases b2 with
        | true =>
          rw [if_pos (decide_eq_true_iff.1 HB2.out.symm)] at HEQ
          go_wp2_with fail
          refine Calls.mono HH1.out ?_
          rintro ev w1 ⟨rfl, hq⟩
          rw [hq]
          clear hq w1
          go_wp2_with fail
          refine Calls.mono HH2.out ?_
          rintro ev w1 ⟨rfl, hq⟩
          rw [hq]
          clear hq w1
          go_wp2_with fail
          exact ⟨⟨k + 1, m, by omega, by omega, rfl, by go_num, HEQ.out, by first | rfl | trivial⟩, by simp [intOf]; omega⟩
        | false =>
          rw [if_neg (decide_eq_false_iff_not.1 HB2.out.symm)] at HEQ
          go_wp2_with fail
          refine Calls.mono HH1.out ?_
          rintro ev w1 ⟨rfl, hq⟩
          rw [hq]
          clear hq w1
          go_wp2_with fail
          refine Calls.mono HH2.out ?_
          rintro ev w1 ⟨rfl, hq⟩
          rw [hq]
          clear hq w1
          go_wp2_with fail
          exact ⟨⟨k + 1, m + 1, by omega, by omega, by go_num, by go_num, HEQ.out, by first | rfl | trivial⟩, by simp [intOf]; omega⟩
    · obtain rfl : k = n := by omega
      have hltI : ¬ (k : Int) < (k : Int) := by omega
      have HEQ : Hid (R = (false, m)) := by
        unfold Hid
        rw [hH.out, HN.out, List.drop_length]; rfl
      go_wp2_with fail
      go_ret2
      exact ⟨by rw [HEQ.out]; rfl, rfl⟩
end Go.Proofs.Ytkndjndhjdfhcaa
