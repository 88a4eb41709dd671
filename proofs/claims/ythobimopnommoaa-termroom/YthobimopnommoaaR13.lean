/- A graph takes just as many nodes as it was told: the walk. -/
import Derived.Test.YthobimopnommoaaY14
namespace Go.Proofs.Ythobimopnommoaa
open Go.RowKit
set_option linter.unusedSimpArgs false
set_option linter.unusedVariables false

theorem place_300 (k : Int) (hk : (Lit.int .i64 k).wf = true) : ∃ p : Nat, p < 300 ∧ ∀ wx, Calls Try.prog 28 #[.int .i64 k, .int .i64 300] wx fun e w' => e = .returned (.int .i64 (p : Int)) ∧ w' = wx := by
  obtain ⟨m, hm⟩ : ∃ m, m = k.tmod 300 := ⟨_, rfl⟩
  have hb : -300 < m ∧ m < 300 := by
    rw [hm]
    rcases Int.le_total 0 k with h | h
    · rw [Int.tmod_eq_emod_of_nonneg h]; omega
    · have e : k.tmod 300 = -((-k).tmod 300) := by rw [Int.neg_tmod]; omega
      rw [e, Int.tmod_eq_emod_of_nonneg (by omega)]; omega
  have e1 : IntKind.i64.wrap m = m := by rw [IntKind.wrap_i64]; omega
  have e2 : IntKind.i64.wrap (m + 300) = m + 300 := by rw [IntKind.wrap_i64]; omega
  have e3 : wrap64 m = m := by unfold wrap64; omega
  have e4 : wrap64 (m + 300) = m + 300 := by unfold wrap64; omega
  have em : k.tmod 300 = m := hm.symm
  clear hm
  by_cases h0 : m < 0
  · refine ⟨(m + 300).toNat, by omega, fun wx => ?_⟩
    have ep : ((m + 300).toNat : Int) = m + 300 := by omega
    rw [ep]
    go_enter Try.func28, Try.ntmps28
    go_wp2_with fail
    go_ret
    exact ⟨rfl, rfl⟩
  · refine ⟨m.toNat, by omega, fun wx => ?_⟩
    have ep : (m.toNat : Int) = m := by omega
    rw [ep]
    go_enter Try.func28, Try.ntmps28
    go_wp2_with fail
    go_ret
    exact ⟨rfl, rfl⟩

/-- The constants 0, 1 .. of 64 bits. -/
def cn (i : Nat) : Nd := ⟨1, 64, 0, 0, 0, 0, 0, 64, (i : Int), 0, ⟨#[]⟩⟩
def cns (k : Nat) : List Nd := (List.range k).map cn
theorem cns_len (k : Nat) : (cns k).length = k := by simp [cns]
theorem cns_snoc (k : Nat) : cns (k + 1) = cns k ++ [cn k] := by simp [cns, List.range_succ]
theorem cns_no {k i : Nat} (h : k ≤ i) : cn i ∉ cns k := by
  intro hm
  obtain ⟨j, hj, e⟩ := List.mem_map.1 hm
  have hj' := List.mem_range.1 hj
  have : ((j : Nat) : Int) = i := by
    have := congrArg Nd.lo e
    exact this
  omega
theorem cns_at {k i : Nat} (h : i < k) : (cns k)[i]? = some (cn i) := by
  simp [cns, h]
theorem cn_srt (ns : List Nd) {i : Nat} (hi : i < 5000) : srtOf ns (cn i) = (64, 0) := by
  have hr : rgt 64 (i : Int) 0 = true := by
    unfold rgt
    simp
    omega
  unfold srtOf
  have hp : prt ns.length (cn i) = true := by
    rw [prt_eq (k := 0) (show ari 1 = 0 by decide)]
    simp [cn, opB]
    rfl
  rw [if_neg (by simp [hp]), if_pos (show (cn i).op = 1 from rfl)]
  show (if rgt 64 (i : Int) 0 && _ && _ && _ then _ else _) = _
  rw [hr]
  rfl
theorem cn_fi {i : Nat} (hi : i < 5000) : Fi (cn i) := ⟨Int.natCast_nonneg _, by show (i : Int) < _; omega, by show (0 : Int) ≤ 0; decide, by show (0 : Int) < 18446744073709551616; decide, by show (ByteArray.mk #[]).size ≤ maxLen; decide⟩
theorem cn_key {i : Nat} (hi : i < 5000) : ∃ kl, keyOf Try.prog 36 (cn i).val = some kl := by
  have z1 : w64 1 := by unfold w64; decide
  have z64 : w64 64 := by unfold w64; decide
  have z0 : w64 0 := by unfold w64; decide
  exact kn_of (n := cn i) z1 z64 z0 z0 z0 z0 z0 z64 (Int.natCast_nonneg _) (by show (i : Int) < _; omega) (by show (0 : Int) ≤ 0; decide) (by show (0 : Int) < 18446744073709551616; decide) (by show (ByteArray.mk #[]).size ≤ maxLen; decide)

set_option maxRecDepth 20000 in
set_option maxHeartbeats 12800000 in
theorem walk_room (a0 a1 : Int) (w0 : (Lit.int .i64 a0).wf = true) (w1 : (Lit.int .i64 a1).wf = true) (w : World) :
    Calls Try.prog 7 #[.int .i64 a0, .int .i64 a1] w fun e w' => e = .returned (.bool true) ∧ Below w.heap.size w w' := by
  obtain ⟨n, hn, hpl⟩ := place_300 a1 w1
  have HPL : Hid _ := hpl
  obtain ⟨R, hR⟩ : ∃ R, R = roomOf a0 := ⟨_, rfl⟩
  have hR1 : 1 ≤ R := by rw [hR]; unfold roomOf; omega
  have hR2 : R ≤ 4096 := by rw [hR]; unfold roomOf; omega
  have HNW : Hid (∀ wx, Calls Try.prog 10 #[.int .i64 a0] wx fun e w' => e = .returned (.pointer (some ⟨wx.heap.size + 2, 0, none⟩)) ∧ Below wx.heap.size wx w' ∧ Gr w' wx.heap.size (wx.heap.size + 2) wx.heap.size (wx.heap.size + 1) (.slice none 0 0) R []) := fun wx => by rw [hR]; exact new_any a0 wx
  have key : ∀ (x : Int), x = (R : Int) → ∀ (wy : World) (gg mi mv : Nat) (v : Value), w.heap.size ≤ wy.heap.size → Below w.heap.size w wy → True := fun _ _ _ _ _ _ _ _ _ => trivial
  clear hpl key w0 w1
  have hcase : (a0 < 1 ∧ R = 1) ∨ (1 ≤ a0 ∧ a0 ≤ 4096 ∧ a0 = (R : Int)) ∨ (4096 < a0 ∧ R = 4096) := by rw [hR]; unfold roomOf; omega
  have HRR : Hid _ := hcase
  clear hR hcase
  go_enter Try.func7, Try.ntmps7
  go_wp2_with fail
  refine (known_any _).mono ?_
  rintro e wa ⟨rfl, hba⟩
  go_wp2_with fail
  refine (HPL.out _).mono ?_
  rintro e wq ⟨rfl, hq⟩
  rw [hq]
  clear hq wq
  go_wp2_with fail
  refine (HNW.out _).mono ?_
  rintro e wb ⟨rfl, hbb, hG⟩
  have HG : Hid _ := hG
  have hb0 : Below w.heap.size w wb := hba.trans (hbb.mono hba.size)
  have hBb : wa.heap.size ≤ wb.heap.size := hbb.size
  have hwa : w.heap.size ≤ wa.heap.size := hba.size
  clear hG hbb hba
  rcases HRR.out with ⟨q1, q2⟩ | ⟨q1, q2, q3⟩ | ⟨q1, q2⟩
  · skip
    have HR6 : Hid ((1 : Int) = (R : Int)) := by unfold Hid; rw [q2]; rfl
    go_wp2_with fail
    go_loopw [7] (fun i wr => ∃ k : Nat, k ≤ n ∧ i = .int .i64 (k : Int) ∧ (∃ v, Gr wr wa.heap.size (wa.heap.size + 2) wa.heap.size (wa.heap.size + 1) v R (cns (min k R))) ∧ wa.heap.size ≤ wr.heap.size ∧ Below w.heap.size w wr) (fun i wr => n - (intOf i).toNat)
    case atStart => exact ⟨0, Nat.zero_le _, rfl, ⟨_, by rw [Nat.zero_min]; exact HG.out⟩, hBb, hb0⟩
    case round =>
      obtain ⟨k, hk, rfl, ⟨v, hGk⟩, hsz, hbl⟩ := hrel
      have HGk : Hid _ := hGk
      clear hGk
      by_cases hlt : k < n
      · have ek : wrap64 ((k : Int) + 1) = (k : Int) + 1 := by unfold wrap64; omega
        have eu : IntKind.u64.wrap (k : Int) = k := by rw [IntKind.wrap_u64]; omega
        by_cases hkr : k < R
        · have hkr' : (k : Int) < 1 := by rw [HR6.out]; omega
          have HM : Hid (Calls Try.prog 12 #[.pointer (some ⟨wa.heap.size + 2, 0, none⟩), .agg #[.int .i64 1, .int .i64 64, .int .i64 0, .int .i64 0, .int .i64 0, .int .i64 0, .int .i64 0, .int .i64 64, .int .u64 (k : Int), .int .u64 0, .string ⟨#[]⟩]] wr fun e w' => e = .returned (.tuple #[.int .i64 ((k : Int) + 1), .int .i64 0]) ∧ (∃ v', Gr w' wa.heap.size (wa.heap.size + 2) wa.heap.size (wa.heap.size + 1) v' R (cns (min (k + 1) R))) ∧ wa.heap.size ≤ w'.heap.size ∧ Below w.heap.size w w') := by
            have hmin : min k R = k := by omega
            have hg := HGk.out
            rw [hmin] at hg
            obtain ⟨kl, hkey⟩ := cn_key (i := k) (by omega)
            have h := mk_new (n := cn k) (s := 64) hg (cn_fi (by omega)) (cn_srt _ (by omega)) (cns_no (Nat.le_refl k)) hkey (by rw [cns_len]; exact hkr) hsz
            refine Calls.mono h ?_
            rintro e w' ⟨he, v', hG', hC, -⟩
            rw [cns_len] at he
            refine ⟨he, ⟨v', by rw [show min (k + 1) R = k + 1 by omega, cns_snoc]; exact hG'⟩, Nat.le_trans hsz hC.size, hbl.trans ((hC.low hg hsz).mono hwa)⟩
          go_wp2_with fail
          refine Calls.mono HM.out ?_
          rintro e w' ⟨rfl, hG', hs', hb'⟩
          have HG' : Hid _ := hG'
          clear hG' HM HGk
          go_wp2_with fail
          exact ⟨⟨k + 1, by omega, by go_num, HG'.out, hs', hb'⟩, by simp [intOf]; omega⟩
        · have hkr' : ¬ (k : Int) < 1 := by rw [HR6.out]; omega
          have hkr2 : 1 ≤ (k : Int) := by rw [HR6.out]; omega
          have HM : Hid (Calls Try.prog 12 #[.pointer (some ⟨wa.heap.size + 2, 0, none⟩), .agg #[.int .i64 1, .int .i64 64, .int .i64 0, .int .i64 0, .int .i64 0, .int .i64 0, .int .i64 0, .int .i64 64, .int .u64 (k : Int), .int .u64 0, .string ⟨#[]⟩]] wr fun e w' => e = .returned (.tuple #[.int .i64 0, .int .i64 33]) ∧ (∃ v', Gr w' wa.heap.size (wa.heap.size + 2) wa.heap.size (wa.heap.size + 1) v' R (cns (min (k + 1) R))) ∧ wa.heap.size ≤ w'.heap.size ∧ Below w.heap.size w w') := by
            have hmin : min k R = R := by omega
            have hg := HGk.out
            rw [hmin] at hg
            obtain ⟨kl, hkey⟩ := cn_key (i := k) (by omega)
            have h := mk_full (n := cn k) (s := 64) hg (cn_fi (by omega)) (cn_srt _ (by omega)) (cns_no (by omega)) hkey (cns_len R)
            refine Calls.mono h ?_
            rintro e w' ⟨he, hb⟩
            refine ⟨he, ⟨v, by rw [show min (k + 1) R = R by omega]; exact hg.below hb⟩, Nat.le_trans hsz hb.size, hbl.trans (hb.mono (by omega))⟩
          go_wp2_with fail
          refine Calls.mono HM.out ?_
          rintro e w' ⟨rfl, hG', hs', hb'⟩
          have HG' : Hid _ := hG'
          clear hG' HM HGk
          go_wp2_with fail
          exact ⟨⟨k + 1, by omega, by go_num, HG'.out, hs', hb'⟩, by simp [intOf]; omega⟩
      · obtain rfl : k = n := by omega
        have HLE : Hid (Calls Try.prog 14 #[.pointer (some ⟨wa.heap.size + 2, 0, none⟩)] wr fun e w' => e = .returned (.int .i64 ((min k R : Nat) : Int)) ∧ w' = wr) := by
          have := glen_any HGk.out
          rw [cns_len] at this; exact this
        have HM0 : Hid (Calls Try.prog 12 #[.pointer (some ⟨wa.heap.size + 2, 0, none⟩), .agg #[.int .i64 1, .int .i64 64, .int .i64 0, .int .i64 0, .int .i64 0, .int .i64 0, .int .i64 0, .int .i64 64, .int .u64 0, .int .u64 0, .string ⟨#[]⟩]] wr fun e w' => e = .returned (.tuple #[.int .i64 1, .int .i64 0]) ∧ Below w.heap.size w w') := by
          have hg := HGk.out
          by_cases hk0 : k = 0
          · subst hk0
            rw [Nat.zero_min] at hg
            obtain ⟨kl, hkey⟩ := cn_key (i := 0) (by omega)
            have h := mk_new (n := cn 0) (s := 64) hg (cn_fi (by omega)) (cn_srt _ (by omega)) (cns_no (Nat.le_refl 0)) hkey (by rw [cns_len]; omega) hsz
            refine Calls.mono h ?_
            rintro e w' ⟨he, v', hG', hC, -⟩
            rw [cns_len] at he
            exact ⟨he, hbl.trans ((hC.low hg hsz).mono hwa)⟩
          · have h := mk_old (n := cn 0) (s := 64) hg (cn_fi (by omega)) (cn_srt _ (by omega)) (i := 0) (cns_at (by omega))
            refine Calls.mono h ?_
            rintro e w' ⟨he, hb⟩
            exact ⟨he, hbl.trans (hb.mono (by omega))⟩
        obtain ⟨M, hM⟩ : ∃ M, M = min k R := ⟨_, rfl⟩
        rw [← hM] at HLE
        by_cases hnr : (1 : Int) < (k : Int)
        · have hMx : (M : Int) = 1 := by have := HR6.out; omega
          have z1 : ((M : Int) == 1) = true := by simp [hMx]
          have z2 : ((M : Int) != 1) = false := by simp [hMx]
          clear hMx hM HGk
          go_wp2_with fail
          refine Calls.mono HLE.out ?_
          rintro e wq ⟨rfl, hq⟩
          rw [hq]
          clear hq wq
          go_wp2_with fail
          refine Calls.mono HM0.out ?_
          rintro e w' ⟨rfl, hb'⟩
          go_wp2_with fail
          go_ret
          exact ⟨rfl, hb'⟩
        · have hMx : (M : Int) = k := by have := HR6.out; omega
          have z1 : ((M : Int) == (k : Int)) = true := by simp [hMx]
          have z2 : ((M : Int) != (k : Int)) = false := by simp [hMx]
          clear hMx hM HGk
          go_wp2_with fail
          refine Calls.mono HLE.out ?_
          rintro e wq ⟨rfl, hq⟩
          rw [hq]
          clear hq wq
          go_wp2_with fail
          refine Calls.mono HM0.out ?_
          rintro e w' ⟨rfl, hb'⟩
          go_wp2_with fail
          go_ret
          exact ⟨rfl, hb'⟩
  · skip
    have HR6 : Hid ((a0 : Int) = (R : Int)) := q3
    go_wp2_with fail
    go_loopw [7] (fun i wr => ∃ k : Nat, k ≤ n ∧ i = .int .i64 (k : Int) ∧ (∃ v, Gr wr wa.heap.size (wa.heap.size + 2) wa.heap.size (wa.heap.size + 1) v R (cns (min k R))) ∧ wa.heap.size ≤ wr.heap.size ∧ Below w.heap.size w wr) (fun i wr => n - (intOf i).toNat)
    case atStart => exact ⟨0, Nat.zero_le _, rfl, ⟨_, by rw [Nat.zero_min]; exact HG.out⟩, hBb, hb0⟩
    case round =>
      obtain ⟨k, hk, rfl, ⟨v, hGk⟩, hsz, hbl⟩ := hrel
      have HGk : Hid _ := hGk
      clear hGk
      by_cases hlt : k < n
      · have ek : wrap64 ((k : Int) + 1) = (k : Int) + 1 := by unfold wrap64; omega
        have eu : IntKind.u64.wrap (k : Int) = k := by rw [IntKind.wrap_u64]; omega
        by_cases hkr : k < R
        · have hkr' : (k : Int) < a0 := by rw [HR6.out]; omega
          have HM : Hid (Calls Try.prog 12 #[.pointer (some ⟨wa.heap.size + 2, 0, none⟩), .agg #[.int .i64 1, .int .i64 64, .int .i64 0, .int .i64 0, .int .i64 0, .int .i64 0, .int .i64 0, .int .i64 64, .int .u64 (k : Int), .int .u64 0, .string ⟨#[]⟩]] wr fun e w' => e = .returned (.tuple #[.int .i64 ((k : Int) + 1), .int .i64 0]) ∧ (∃ v', Gr w' wa.heap.size (wa.heap.size + 2) wa.heap.size (wa.heap.size + 1) v' R (cns (min (k + 1) R))) ∧ wa.heap.size ≤ w'.heap.size ∧ Below w.heap.size w w') := by
            have hmin : min k R = k := by omega
            have hg := HGk.out
            rw [hmin] at hg
            obtain ⟨kl, hkey⟩ := cn_key (i := k) (by omega)
            have h := mk_new (n := cn k) (s := 64) hg (cn_fi (by omega)) (cn_srt _ (by omega)) (cns_no (Nat.le_refl k)) hkey (by rw [cns_len]; exact hkr) hsz
            refine Calls.mono h ?_
            rintro e w' ⟨he, v', hG', hC, -⟩
            rw [cns_len] at he
            refine ⟨he, ⟨v', by rw [show min (k + 1) R = k + 1 by omega, cns_snoc]; exact hG'⟩, Nat.le_trans hsz hC.size, hbl.trans ((hC.low hg hsz).mono hwa)⟩
          go_wp2_with fail
          refine Calls.mono HM.out ?_
          rintro e w' ⟨rfl, hG', hs', hb'⟩
          have HG' : Hid _ := hG'
          clear hG' HM HGk
          go_wp2_with fail
          exact ⟨⟨k + 1, by omega, by go_num, HG'.out, hs', hb'⟩, by simp [intOf]; omega⟩
        · have hkr' : ¬ (k : Int) < a0 := by rw [HR6.out]; omega
          have hkr2 : a0 ≤ (k : Int) := by rw [HR6.out]; omega
          have HM : Hid (Calls Try.prog 12 #[.pointer (some ⟨wa.heap.size + 2, 0, none⟩), .agg #[.int .i64 1, .int .i64 64, .int .i64 0, .int .i64 0, .int .i64 0, .int .i64 0, .int .i64 0, .int .i64 64, .int .u64 (k : Int), .int .u64 0, .string ⟨#[]⟩]] wr fun e w' => e = .returned (.tuple #[.int .i64 0, .int .i64 33]) ∧ (∃ v', Gr w' wa.heap.size (wa.heap.size + 2) wa.heap.size (wa.heap.size + 1) v' R (cns (min (k + 1) R))) ∧ wa.heap.size ≤ w'.heap.size ∧ Below w.heap.size w w') := by
            have hmin : min k R = R := by omega
            have hg := HGk.out
            rw [hmin] at hg
            obtain ⟨kl, hkey⟩ := cn_key (i := k) (by omega)
            have h := mk_full (n := cn k) (s := 64) hg (cn_fi (by omega)) (cn_srt _ (by omega)) (cns_no (by omega)) hkey (cns_len R)
            refine Calls.mono h ?_
            rintro e w' ⟨he, hb⟩
            refine ⟨he, ⟨v, by rw [show min (k + 1) R = R by omega]; exact hg.below hb⟩, Nat.le_trans hsz hb.size, hbl.trans (hb.mono (by omega))⟩
          go_wp2_with fail
          refine Calls.mono HM.out ?_
          rintro e w' ⟨rfl, hG', hs', hb'⟩
          have HG' : Hid _ := hG'
          clear hG' HM HGk
          go_wp2_with fail
          exact ⟨⟨k + 1, by omega, by go_num, HG'.out, hs', hb'⟩, by simp [intOf]; omega⟩
      · obtain rfl : k = n := by omega
        have HLE : Hid (Calls Try.prog 14 #[.pointer (some ⟨wa.heap.size + 2, 0, none⟩)] wr fun e w' => e = .returned (.int .i64 ((min k R : Nat) : Int)) ∧ w' = wr) := by
          have := glen_any HGk.out
          rw [cns_len] at this; exact this
        have HM0 : Hid (Calls Try.prog 12 #[.pointer (some ⟨wa.heap.size + 2, 0, none⟩), .agg #[.int .i64 1, .int .i64 64, .int .i64 0, .int .i64 0, .int .i64 0, .int .i64 0, .int .i64 0, .int .i64 64, .int .u64 0, .int .u64 0, .string ⟨#[]⟩]] wr fun e w' => e = .returned (.tuple #[.int .i64 1, .int .i64 0]) ∧ Below w.heap.size w w') := by
          have hg := HGk.out
          by_cases hk0 : k = 0
          · subst hk0
            rw [Nat.zero_min] at hg
            obtain ⟨kl, hkey⟩ := cn_key (i := 0) (by omega)
            have h := mk_new (n := cn 0) (s := 64) hg (cn_fi (by omega)) (cn_srt _ (by omega)) (cns_no (Nat.le_refl 0)) hkey (by rw [cns_len]; omega) hsz
            refine Calls.mono h ?_
            rintro e w' ⟨he, v', hG', hC, -⟩
            rw [cns_len] at he
            exact ⟨he, hbl.trans ((hC.low hg hsz).mono hwa)⟩
          · have h := mk_old (n := cn 0) (s := 64) hg (cn_fi (by omega)) (cn_srt _ (by omega)) (i := 0) (cns_at (by omega))
            refine Calls.mono h ?_
            rintro e w' ⟨he, hb⟩
            exact ⟨he, hbl.trans (hb.mono (by omega))⟩
        obtain ⟨M, hM⟩ : ∃ M, M = min k R := ⟨_, rfl⟩
        rw [← hM] at HLE
        by_cases hnr : (a0 : Int) < (k : Int)
        · have hMx : (M : Int) = a0 := by have := HR6.out; omega
          have z1 : ((M : Int) == a0) = true := by simp [hMx]
          have z2 : ((M : Int) != a0) = false := by simp [hMx]
          clear hMx hM HGk
          go_wp2_with fail
          refine Calls.mono HLE.out ?_
          rintro e wq ⟨rfl, hq⟩
          rw [hq]
          clear hq wq
          go_wp2_with fail
          refine Calls.mono HM0.out ?_
          rintro e w' ⟨rfl, hb'⟩
          go_wp2_with fail
          go_ret
          exact ⟨rfl, hb'⟩
        · have hMx : (M : Int) = k := by have := HR6.out; omega
          have z1 : ((M : Int) == (k : Int)) = true := by simp [hMx]
          have z2 : ((M : Int) != (k : Int)) = false := by simp [hMx]
          clear hMx hM HGk
          go_wp2_with fail
          refine Calls.mono HLE.out ?_
          rintro e wq ⟨rfl, hq⟩
          rw [hq]
          clear hq wq
          go_wp2_with fail
          refine Calls.mono HM0.out ?_
          rintro e w' ⟨rfl, hb'⟩
          go_wp2_with fail
          go_ret
          exact ⟨rfl, hb'⟩
  · skip
    have HR6 : Hid ((4096 : Int) = (R : Int)) := by unfold Hid; rw [q2]; rfl
    go_wp2_with fail
    go_loopw [7] (fun i wr => ∃ k : Nat, k ≤ n ∧ i = .int .i64 (k : Int) ∧ (∃ v, Gr wr wa.heap.size (wa.heap.size + 2) wa.heap.size (wa.heap.size + 1) v R (cns (min k R))) ∧ wa.heap.size ≤ wr.heap.size ∧ Below w.heap.size w wr) (fun i wr => n - (intOf i).toNat)
    case atStart => exact ⟨0, Nat.zero_le _, rfl, ⟨_, by rw [Nat.zero_min]; exact HG.out⟩, hBb, hb0⟩
    case round =>
      obtain ⟨k, hk, rfl, ⟨v, hGk⟩, hsz, hbl⟩ := hrel
      have HGk : Hid _ := hGk
      clear hGk
      by_cases hlt : k < n
      · have ek : wrap64 ((k : Int) + 1) = (k : Int) + 1 := by unfold wrap64; omega
        have eu : IntKind.u64.wrap (k : Int) = k := by rw [IntKind.wrap_u64]; omega
        by_cases hkr : k < R
        · have hkr' : (k : Int) < 4096 := by rw [HR6.out]; omega
          have HM : Hid (Calls Try.prog 12 #[.pointer (some ⟨wa.heap.size + 2, 0, none⟩), .agg #[.int .i64 1, .int .i64 64, .int .i64 0, .int .i64 0, .int .i64 0, .int .i64 0, .int .i64 0, .int .i64 64, .int .u64 (k : Int), .int .u64 0, .string ⟨#[]⟩]] wr fun e w' => e = .returned (.tuple #[.int .i64 ((k : Int) + 1), .int .i64 0]) ∧ (∃ v', Gr w' wa.heap.size (wa.heap.size + 2) wa.heap.size (wa.heap.size + 1) v' R (cns (min (k + 1) R))) ∧ wa.heap.size ≤ w'.heap.size ∧ Below w.heap.size w w') := by
            have hmin : min k R = k := by omega
            have hg := HGk.out
            rw [hmin] at hg
            obtain ⟨kl, hkey⟩ := cn_key (i := k) (by omega)
            have h := mk_new (n := cn k) (s := 64) hg (cn_fi (by omega)) (cn_srt _ (by omega)) (cns_no (Nat.le_refl k)) hkey (by rw [cns_len]; exact hkr) hsz
            refine Calls.mono h ?_
            rintro e w' ⟨he, v', hG', hC, -⟩
            rw [cns_len] at he
            refine ⟨he, ⟨v', by rw [show min (k + 1) R = k + 1 by omega, cns_snoc]; exact hG'⟩, Nat.le_trans hsz hC.size, hbl.trans ((hC.low hg hsz).mono hwa)⟩
          go_wp2_with fail
          refine Calls.mono HM.out ?_
          rintro e w' ⟨rfl, hG', hs', hb'⟩
          have HG' : Hid _ := hG'
          clear hG' HM HGk
          go_wp2_with fail
          exact ⟨⟨k + 1, by omega, by go_num, HG'.out, hs', hb'⟩, by simp [intOf]; omega⟩
        · omega
      · obtain rfl : k = n := by omega
        have HLE : Hid (Calls Try.prog 14 #[.pointer (some ⟨wa.heap.size + 2, 0, none⟩)] wr fun e w' => e = .returned (.int .i64 ((min k R : Nat) : Int)) ∧ w' = wr) := by
          have := glen_any HGk.out
          rw [cns_len] at this; exact this
        have HM0 : Hid (Calls Try.prog 12 #[.pointer (some ⟨wa.heap.size + 2, 0, none⟩), .agg #[.int .i64 1, .int .i64 64, .int .i64 0, .int .i64 0, .int .i64 0, .int .i64 0, .int .i64 0, .int .i64 64, .int .u64 0, .int .u64 0, .string ⟨#[]⟩]] wr fun e w' => e = .returned (.tuple #[.int .i64 1, .int .i64 0]) ∧ Below w.heap.size w w') := by
          have hg := HGk.out
          by_cases hk0 : k = 0
          · subst hk0
            rw [Nat.zero_min] at hg
            obtain ⟨kl, hkey⟩ := cn_key (i := 0) (by omega)
            have h := mk_new (n := cn 0) (s := 64) hg (cn_fi (by omega)) (cn_srt _ (by omega)) (cns_no (Nat.le_refl 0)) hkey (by rw [cns_len]; omega) hsz
            refine Calls.mono h ?_
            rintro e w' ⟨he, v', hG', hC, -⟩
            rw [cns_len] at he
            exact ⟨he, hbl.trans ((hC.low hg hsz).mono hwa)⟩
          · have h := mk_old (n := cn 0) (s := 64) hg (cn_fi (by omega)) (cn_srt _ (by omega)) (i := 0) (cns_at (by omega))
            refine Calls.mono h ?_
            rintro e w' ⟨he, hb⟩
            exact ⟨he, hbl.trans (hb.mono (by omega))⟩
        obtain ⟨M, hM⟩ : ∃ M, M = min k R := ⟨_, rfl⟩
        rw [← hM] at HLE
        by_cases hnr : (4096 : Int) < (k : Int)
        · omega
        · have hMx : (M : Int) = k := by have := HR6.out; omega
          have z1 : ((M : Int) == (k : Int)) = true := by simp [hMx]
          have z2 : ((M : Int) != (k : Int)) = false := by simp [hMx]
          clear hMx hM HGk
          go_wp2_with fail
          refine Calls.mono HLE.out ?_
          rintro e wq ⟨rfl, hq⟩
          rw [hq]
          clear hq wq
          go_wp2_with fail
          refine Calls.mono HM0.out ?_
          rintro e w' ⟨rfl, hb'⟩
          go_wp2_with fail
          go_ret
          exact ⟨rfl, hb'⟩
end Go.Proofs.Ythobimopnommoaa
