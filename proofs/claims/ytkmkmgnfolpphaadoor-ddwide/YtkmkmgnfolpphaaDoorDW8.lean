/- Contracts (the law): double, half, less. -/
import Derived.Test.YtkmkmgnfolpphaaDoorDW7
namespace Go.Proofs.YtkmkmgnfolpphaaDoor
open Go.RowKit
set_option linter.unusedSimpArgs false
set_option linter.unusedVariables false

theorem dig_slice : ∀ d, d < 10 → (⟨#[48, 49, 50, 51, 52, 53, 54, 55, 56, 57]⟩ : ByteArray).extract d (d + 1) = gS [d] := by decide
theorem idx_get {s : ByteArray} {k : Nat} {x : UInt8} (h : s.data[k]? = some x) (hk : (k : Int).toNat < s.size) : s[(k : Int).toNat] = x := by
  obtain ⟨h1, h2⟩ := Array.getElem?_eq_some_iff.1 h
  rw [← h2]; rfl
theorem toB_nat : ∀ d, d < 10 → ((toB d).toNat : Int) = 48 + (d : Int) := by decide
set_option maxRecDepth 20000 in
set_option maxHeartbeats 3200000 in
theorem ldouble_any {ds : List Nat} (h : D10 ds) (hl : ds.length ≤ 1000) (w : World) :
    Calls Tryd.prog 25 #[.string (gS ds)] w fun e w' => e = .returned (.string (gS (dblN ds))) ∧ w' = w := by
  have HD : Hid (D10 ds) := h
  obtain ⟨n, hn⟩ : ∃ n, n = ds.length := ⟨_, rfl⟩
  have HN : Hid (n = ds.length) := hn
  obtain ⟨s, hs⟩ : ∃ s, s = gS ds := ⟨_, rfl⟩
  have hsz : s.size = n := by rw [hs, gS_size, hn]
  have HS : Hid (∀ k, k < n → s.data[k]? = some (toB (ds.getD k 0)) ∧ ds.getD k 0 < 10) := fun k hk => by
    rw [hs]
    refine ⟨gS_get (by omega), ?_⟩
    rw [List.getD_eq_getElem?_getD, List.getElem?_eq_getElem (by omega)]; exact h _ (List.getElem_mem _)
  rw [← hs]
  have hlb : n ≤ 1000 := by omega
  clear hs hn h hl
  go_enter Tryd.func25, Tryd.ntmps25
  go_wp2_with fail
  go_loopw [3, 4, 5] (fun o c i wr => ∃ (k : Nat) (r : List Nat × Nat), k ≤ n ∧ i = .int .i64 ((k : Int) - 1) ∧ o = .string (gS r.1) ∧ c = .int .i64 (r.2 : Int) ∧ Hid ((ds.drop k).foldr dStep ([], 0) = r ∧ r.2 ≤ 1 ∧ r.1.length + k = n ∧ D10 r.1) ∧ w = wr) (fun o c i wr => (intOf i + 1).toNat)
  case atStart => exact ⟨n, ([], 0), Nat.le_refl _, rfl, rfl, rfl, ⟨by rw [HN.out, List.drop_length]; rfl, by decide, by simp, fun d h => nomatch h⟩, rfl⟩
  case round =>
    obtain ⟨k, r, hk, rfl, rfl, rfl, hr, rfl⟩ := hrel
    by_cases hk0 : 0 < k
    · obtain ⟨k, rfl⟩ : ∃ k', k = k' + 1 := ⟨k - 1, by omega⟩
      obtain ⟨hg, hd⟩ := HS.out k (by omega)
      obtain ⟨d, hde⟩ : ∃ d, d = ds.getD k 0 := ⟨_, rfl⟩
      rw [← hde] at hg hd
      obtain ⟨b, hb⟩ : ∃ b : Int, b = ((toB d).toNat : Int) := ⟨_, rfl⟩
      have hb2 : b = 48 + (d : Int) := by rw [hb]; exact toB_nat d hd
      have hix : ∀ wx, (Instr.index 9 (.string s) (.int .i64 (k : Int))).run Tryd.prog wx = .ok (.int .u8 b) wx := fun wx => by
        rw [run_index_string wx _ s .i64 (k : Int) Tryd.underlying9, dif_pos ⟨by omega, by omega⟩]
        rw [idx_get hg, hb]
      obtain ⟨c, hc⟩ : ∃ c, c = r.2 := ⟨_, rfl⟩
      obtain ⟨q, hq⟩ : ∃ q, q = 2 * d + c := ⟨_, rfl⟩
      have hc1 : c ≤ 1 := by rw [hc]; exact hr.out.2.1
      have e1 : ((k + 1 : Nat) : Int) - 1 = (k : Int) := by omega
      have hkn : (k : Int) < (n : Int) := by omega
      have hk0' : (0 : Int) ≤ (k : Int) := by omega
      have hx : b - 48 = (d : Int) := by omega
      have hq2 : 2 * (d : Int) + (c : Int) = (q : Int) := by omega
      obtain ⟨m, hm⟩ : ∃ m, m = q % 10 := ⟨_, rfl⟩
      obtain ⟨e, he⟩ : ∃ e, e = q / 10 := ⟨_, rfl⟩
      have hqm : (q : Int) % 10 = (m : Int) := by omega
      have hqd : (q : Int) / 10 = (e : Int) := by omega
      obtain ⟨g1, hg1⟩ : ∃ g1, g1 = gS [m] := ⟨_, rfl⟩
      obtain ⟨g2, hg2⟩ : ∃ g2, g2 = gS r.1 := ⟨_, rfl⟩
      have hsl : ∀ wx, (Instr.slice 9 (.string ⟨#[48, 49, 50, 51, 52, 53, 54, 55, 56, 57]⟩) (some (.int .i64 (m : Int))) (some (.int .i64 ((m : Int) + 1))) none).run Tryd.prog wx = .ok (.string g1) wx := fun wx => by
        have hm : m < 10 := by omega
        rw [run_slice_string wx _ _ .i64 .i64 _ _ Tryd.underlying9 (by omega) (by omega) (by show _ ≤ ((10 : Nat) : Int); omega), hg1, ← dig_slice _ hm]
        rw [Int.toNat_natCast, show ((m : Int) + 1).toNat = m + 1 by omega]
      have hz : ¬ (9223372036854775807 < g1.size + g2.size) := by
        rw [hg1, hg2, gS_size, gS_size]
        have := hr.out.2.2.1
        simp only [List.length_cons, List.length_nil]; omega
      have HQ : Hid (q = 2 * d + r.2) := by rw [← hc]; exact hq
      have HM : Hid (m = q % 10 ∧ e = q / 10) := ⟨hm, he⟩
      have hmI : (m : Int) < 10 := by omega
      have hm0 : (0 : Int) ≤ (m : Int) := by omega
      have HG : Hid (g1 ++ g2 = gS (m :: r.1)) := by rw [hg1, hg2]; unfold Hid; rw [gS_app]; rfl
      have HDE : Hid (d = ds.getD k 0) := hde
      have hq20 : q < 20 := by omega
      have hr2 : (.int .i64 (r.2 : Int) : Value) = .int .i64 (c : Int) := by rw [hc]
      rw [hr2, e1, ← hg2]
      have hdI : (d : Int) < 10 := by omega
      have hcI : (c : Int) ≤ 1 := by omega
      have hqI : (q : Int) < 20 := by omega
      have hbl : 48 ≤ b := by omega
      have hbh : b ≤ 57 := by omega
      clear hb hg hk0 hk hc hq hb2 hde hg1 hg2 hr2 hm he
      go_wp2_with fail
      refine ⟨⟨k, (m :: r.1, e), by omega, rfl, by rw [HG.out], rfl, ⟨?_, by show e ≤ 1; have := HM.out.2; omega, ?_, ?_⟩, trivial⟩, by simp [intOf]⟩
      · have h1 : ds.drop k = d :: ds.drop (k + 1) := by
          rw [List.drop_eq_getElem_cons (by have := HN.out; omega), HDE.out, List.getD_eq_getElem?_getD, List.getElem?_eq_getElem (by have := HN.out; omega)]; rfl
        rw [h1, List.foldr_cons, hr.out.1]
        unfold dStep
        rw [← HQ.out, ← HM.out.1, ← HM.out.2]
      · have := hr.out.2.2.1
        simp only [List.length_cons]; omega
      · intro x hx
        rcases List.mem_cons.1 hx with rfl | hx
        · omega
        · exact hr.out.2.2.2 x hx
    · obtain rfl : k = 0 := by omega
      have HR : Hid (dblS ds = r) := by
        have h := hr.out.1
        rw [List.drop_zero] at h; exact h
      have e1 : (((0 : Nat) : Int)) - 1 = -1 := rfl
      rw [e1]
      obtain ⟨g2, hg2⟩ : ∃ g2, g2 = gS r.1 := ⟨_, rfl⟩
      obtain ⟨c, hc⟩ : ∃ c, c = r.2 := ⟨_, rfl⟩
      have hr2 : (.int .i64 (r.2 : Int) : Value) = .int .i64 (c : Int) := by rw [hc]
      rw [hr2, ← hg2]
      have HG2 : Hid (g2 = gS r.1) := hg2
      have HC2 : Hid (c = r.2) := hc
      have hz : ¬ (9223372036854775807 < 1 + g2.size) := by
        rw [hg2, gS_size]
        have := hr.out.2.2.1
        omega
      have e49 : (⟨#[49]⟩ : ByteArray).size = 1 := rfl
      clear hk0 hk hr2 hg2 hc e1
      by_cases hc0 : (0 : Int) < (c : Int)
      · go_wp2_with fail
        go_ret
        refine ⟨?_, rfl⟩
        have hc0' : 0 < r.2 := by have := HC2.out; omega
        unfold dblN
        rw [HR.out, if_pos hc0', HG2.out, show (⟨#[49]⟩ : ByteArray) = gS [1] from rfl, gS_app]; rfl
      · go_wp2_with fail
        go_ret
        refine ⟨?_, rfl⟩
        have hc0' : ¬ 0 < r.2 := by have := HC2.out; omega
        unfold dblN
        rw [HR.out, if_neg hc0', HG2.out]; rfl
theorem gS_ne {ds : List Nat} (h : ds ≠ []) : gS ds ≠ ⟨#[]⟩ := fun e => h (by
  have h1 := gS_size ds
  rw [e] at h1
  exact List.length_eq_zero_iff.1 h1.symm)
set_option maxRecDepth 20000 in
set_option maxHeartbeats 3200000 in
theorem lhalf_any {ds : List Nat} (h : D10 ds) (hl : ds.length ≤ 1000) (w : World) :
    Calls Tryd.prog 26 #[.string (gS ds)] w fun e w' => e = .returned (.string (gS (hlfN ds))) ∧ w' = w := by
  obtain ⟨n, hn⟩ : ∃ n, n = ds.length := ⟨_, rfl⟩
  have HN : Hid (n = ds.length) := hn
  obtain ⟨s, hs⟩ : ∃ s, s = gS ds := ⟨_, rfl⟩
  have hsz : s.size = n := by rw [hs, gS_size, hn]
  have HS : Hid (∀ k, k < n → s.data[k]? = some (toB (ds.getD k 0)) ∧ ds.getD k 0 < 10) := fun k hk => by
    rw [hs]
    refine ⟨gS_get (by omega), ?_⟩
    rw [List.getD_eq_getElem?_getD, List.getElem?_eq_getElem (by omega)]; exact h _ (List.getElem_mem _)
  rw [← hs]
  have hlb : n ≤ 1000 := by omega
  clear hs hn h hl
  go_enter Tryd.func26, Tryd.ntmps26
  go_wp2_with fail
  go_loopw [3, 4, 5] (fun o c i wr => ∃ (k : Nat) (r : List Nat × Nat), k ≤ n ∧ i = .int .i64 (k : Int) ∧ o = .string (gS r.1) ∧ c = .int .i64 (r.2 : Int) ∧ Hid ((ds.drop k).foldl hStep r = ds.foldl hStep ([], 0) ∧ r.2 ≤ 1 ∧ r.1.length ≤ k) ∧ w = wr) (fun o c i wr => n - (intOf i).toNat)
  case atStart => exact ⟨0, ([], 0), Nat.zero_le _, rfl, rfl, rfl, ⟨by rw [List.drop_zero], by decide, by simp⟩, rfl⟩
  case round =>
    obtain ⟨k, r, hk, rfl, rfl, rfl, hr, rfl⟩ := hrel
    by_cases hkn : k < n
    · obtain ⟨hg, hd⟩ := HS.out k hkn
      obtain ⟨d, hde⟩ : ∃ d, d = ds.getD k 0 := ⟨_, rfl⟩
      rw [← hde] at hg hd
      obtain ⟨b, hb⟩ : ∃ b : Int, b = ((toB d).toNat : Int) := ⟨_, rfl⟩
      have hb2 : b = 48 + (d : Int) := by rw [hb]; exact toB_nat d hd
      have hix : ∀ wx, (Instr.index 9 (.string s) (.int .i64 (k : Int))).run Tryd.prog wx = .ok (.int .u8 b) wx := fun wx => by
        rw [run_index_string wx _ s .i64 (k : Int) Tryd.underlying9, dif_pos ⟨by omega, by omega⟩]
        rw [idx_get hg, hb]
      have HST : Hid ((ds.drop (k + 1)).foldl hStep (hStep r d) = ds.foldl hStep ([], 0)) := by
        have h1 : ds.drop k = d :: ds.drop (k + 1) := by
          rw [List.drop_eq_getElem_cons (by have := HN.out; omega), hde, List.getD_eq_getElem?_getD, List.getElem?_eq_getElem (by have := HN.out; omega)]; rfl
        have h2 := hr.out.1
        rw [h1, List.foldl_cons] at h2
        exact h2
      obtain ⟨c, hc⟩ : ∃ c, c = r.2 := ⟨_, rfl⟩
      obtain ⟨q, hq⟩ : ∃ q, q = 10 * c + d := ⟨_, rfl⟩
      have hc1 : c ≤ 1 := by rw [hc]; exact hr.out.2.1
      have hknI : (k : Int) < (n : Int) := by omega
      have hk0' : (0 : Int) ≤ (k : Int) := by omega
      have hx : b - 48 = (d : Int) := by omega
      have hq2 : 10 * (c : Int) + (d : Int) = (q : Int) := by omega
      obtain ⟨m, hm⟩ : ∃ m, m = q / 2 := ⟨_, rfl⟩
      obtain ⟨e, he⟩ : ∃ e, e = q % 2 := ⟨_, rfl⟩
      have hqm : (q : Int) / 2 = (m : Int) := by omega
      have hqd : (q : Int) % 2 = (e : Int) := by omega
      obtain ⟨g1, hg1⟩ : ∃ g1, g1 = gS [m] := ⟨_, rfl⟩
      have hsl : ∀ wx, (Instr.slice 9 (.string ⟨#[48, 49, 50, 51, 52, 53, 54, 55, 56, 57]⟩) (some (.int .i64 (m : Int))) (some (.int .i64 ((m : Int) + 1))) none).run Tryd.prog wx = .ok (.string g1) wx := fun wx => by
        have hm : m < 10 := by omega
        rw [run_slice_string wx _ _ .i64 .i64 _ _ Tryd.underlying9 (by omega) (by omega) (by show _ ≤ ((10 : Nat) : Int); omega), hg1, ← dig_slice _ hm]
        rw [Int.toNat_natCast, show ((m : Int) + 1).toNat = m + 1 by omega]
      have HQ : Hid (q = 10 * r.2 + d) := by rw [← hc]; exact hq
      have HM : Hid (m = q / 2 ∧ e = q % 2) := ⟨hm, he⟩
      have hmI : (m : Int) < 10 := by omega
      have hm0 : (0 : Int) ≤ (m : Int) := by omega
      have hq20 : q < 20 := by omega
      have hr2 : (.int .i64 (r.2 : Int) : Value) = .int .i64 (c : Int) := by rw [hc]
      rw [hr2]
      have hdI : (d : Int) < 10 := by omega
      have hcI : (c : Int) ≤ 1 := by omega
      have hqI : (q : Int) < 20 := by omega
      have hbl : 48 ≤ b := by omega
      have hbh : b ≤ 57 := by omega
      have hkk : (n : Nat) - (k + 1) < n - k := by omega
      clear hb hg hk hc hq hb2 hde hr2 hm he
      by_cases hnil : r.1 = []
      · have HNIL : Hid (r.1 = []) := hnil
        rw [hnil]
        have e0 : gS [] = ⟨#[]⟩ := rfl
        have hz0 : (⟨#[]⟩ : ByteArray).size = 0 := rfl
        have hz : ¬ (9223372036854775807 < 0 + g1.size) := by
          rw [hg1, gS_size]
          simp
        have HG : Hid ((⟨#[]⟩ : ByteArray) ++ g1 = gS [m]) := by rw [hg1, ← e0]; unfold Hid; rw [gS_app]; rfl
        rw [e0]
        clear hg1 hnil e0
        by_cases hq1 : (1 : Int) < (q : Int)
        · go_wp2_with fail
          refine ⟨⟨k + 1, ([m], e), by omega, by first | rfl | go_num, ?_, congrArg (Value.int .i64) hqd, ⟨?_, by show e ≤ 1; have := HM.out.2; omega, by simp⟩, trivial⟩, by simp [intOf]; omega⟩
          · first | rw [HG.out] | skip
          · rw [← HST.out]
            unfold hStep
            rw [if_pos (Or.inr (by rw [← HQ.out]; omega)), ← HQ.out, ← HM.out.1, ← HM.out.2, HNIL.out]; rfl
        · go_wp2_with fail
          refine ⟨⟨k + 1, ([], e), by omega, by first | rfl | go_num, rfl, congrArg (Value.int .i64) hqd, ⟨?_, by show e ≤ 1; have := HM.out.2; omega, by simp⟩, trivial⟩, by simp [intOf]; omega⟩
          rw [← HST.out]
          unfold hStep
          rw [if_neg (fun h => by rcases h with h | h; exact h HNIL.out; rw [← HQ.out] at h; omega), ← HQ.out, ← HM.out.2, HNIL.out]
      · obtain ⟨g2, hg2⟩ : ∃ g2, g2 = gS r.1 := ⟨_, rfl⟩
        have hz : ¬ (9223372036854775807 < g2.size + g1.size) := by
          rw [hg1, hg2, gS_size, gS_size]
          have := hr.out.2.2
          simp only [List.length_cons, List.length_nil]; omega
        have HG : Hid (g2 ++ g1 = gS (r.1 ++ [m])) := by rw [hg1, hg2]; unfold Hid; rw [gS_app]
        have hne : ¬ (g2.toList = []) := fun e => hnil (by
          rw [hg2, ByteArray.toList_eq] at e
          have e2 : r.1.map toB = [] := e
          exact List.map_eq_nil_iff.1 e2)
        have HNIL : Hid (¬ r.1 = []) := hnil
        rw [← hg2]
        clear hg1 hg2 hnil
        go_wp2_with fail
        refine ⟨⟨k + 1, (r.1 ++ [m], e), by omega, by first | rfl | go_num, by rw [HG.out], congrArg (Value.int .i64) hqd, ⟨?_, by show e ≤ 1; have := HM.out.2; omega, ?_⟩, trivial⟩, by simp [intOf]; omega⟩
        · rw [← HST.out]
          unfold hStep
          rw [if_pos (Or.inl HNIL.out), ← HQ.out, ← HM.out.1, ← HM.out.2]
        · have := hr.out.2.2
          simp only [List.length_append, List.length_cons, List.length_nil]; omega
    · obtain rfl : k = n := by omega
      have HR : Hid (r.1 = hlfN ds) := by
        have h := hr.out.1
        rw [HN.out, List.drop_length] at h
        unfold hlfN
        rw [← h]; rfl
      rw [HR.out]
      have hnn : ¬ (k : Int) < (k : Int) := by omega
      clear hkn hk
      go_wp2_with fail
      go_ret
      exact ⟨rfl, rfl⟩
end Go.Proofs.YtkmkmgnfolpphaaDoor
