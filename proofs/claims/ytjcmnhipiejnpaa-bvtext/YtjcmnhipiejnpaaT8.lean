/- Contracts: texts of hexadecimal digits read, as the document does it. -/
import Derived.Test.YtjcmnhipiejnpaaT7
namespace Go.Proofs.Ytjcmnhipiejnpaa
open Go.RowKit
set_option linter.unusedSimpArgs false
set_option linter.unusedVariables false

set_option maxHeartbeats 6400000 in
set_option maxRecDepth 20000 in
theorem refparse_hex {s : ByteArray} {n : Nat} (e1 : (s.toList == [116, 114, 117, 101]) = false) (e2 : (s.toList == [102, 97, 108, 115, 101]) = false) (hn : s.size = n) (n3 : 3 ≤ n) (hw : (n - 2) * 4 ≤ 128) (p0 : 0 < s.size) (p1 : 1 < s.size) (q0 : (s[0]'p0).toNat = 35) (q1 : (s[1]'p1).toNat = 120) (w : World) :
    Calls Try.prog 30 #[.string s] w fun e w' => e = .returned (if okd 4 (s.data.toList.drop 2) then (.tuple #[.agg #[.int .i64 (((n - 2) * 4 : Nat) : Int), .int .u64 (LO (val 4 (s.data.toList.drop 2) 0)), .int .u64 (HI (val 4 (s.data.toList.drop 2) 0))], .int .i64 0]) else (.tuple #[.agg #[.int .i64 0, .int .u64 0, .int .u64 0], .int .i64 13])) ∧ Below w.heap.size w w' := by
  obtain ⟨R, hR⟩ : ∃ R : Value, R = (if okd 4 (s.data.toList.drop 2) then (.tuple #[.agg #[.int .i64 (((n - 2) * 4 : Nat) : Int), .int .u64 (LO (val 4 (s.data.toList.drop 2) 0)), .int .u64 (HI (val 4 (s.data.toList.drop 2) 0))], .int .i64 0]) else (.tuple #[.agg #[.int .i64 0, .int .u64 0, .int .u64 0], .int .i64 13])) := ⟨_, rfl⟩
  rw [← hR]
  have HRR : Hid _ := hR
  clear hR
  obtain ⟨i0, hi, hz0, hz1, hz2⟩ := info4
  have HI4 : Hid (Try.prog.info? 4 = some i0 ∧ i0.zero = some (.bool false) ∧ i0.size = 1 ∧ i0.bytes = 1) := ⟨hi, hz0, hz1, hz2⟩
  clear hi hz0 hz1 hz2
  have n9 : n ≤ 130 := by omega
  have i3 : ¬ ((n : Int) < 3) := by omega
  have iw : ¬ ((128 : Int) < ((n : Int) - 2) * 4) := by omega
  have c98 : ¬ (((s[1]'p1).toNat : Int) = 98) := by omega
  have HWW : Hid ((n - 2) * 4 ≤ 128) := hw
  clear hw
  go_enter Try.func30, Try.ntmps30
  go_wp2_with fail
  go_loopw [7, 6] (fun i v wr => ∃ q : Nat, 2 ≤ q ∧ q ≤ n ∧ i = .int .i64 ((q : Int) - 1) ∧ okd 4 (s.data.toList.drop q) = true ∧ Bs wr (w.heap.size + 1) v (bl ((n - q) * 4) (val 4 (s.data.toList.drop q) 0)) ∧ (wr.cell? ⟨w.heap.size, 0, none⟩ = some (cv wr ⟨w.heap.size, 0, none⟩) ∧ wr.cell? ⟨w.heap.size, 1, none⟩ = some (cv wr ⟨w.heap.size, 1, none⟩) ∧ wr.cell? ⟨w.heap.size, 2, none⟩ = some (cv wr ⟨w.heap.size, 2, none⟩) ∧ (∀ o, wr.frozen? ⟨w.heap.size, o, none⟩ = false)) ∧ w.heap.size + 1 ≤ wr.heap.size ∧ Below w.heap.size w wr) (fun i _ _ => (intOf i).toNat)
  case atStart =>
    refine ⟨n, by omega, Nat.le_refl _, rfl, ?_, ?_, ⟨?_, ?_, ?_, ?_⟩, by simp, ?_⟩
    · have : s.data.toList.drop n = [] := by rw [← hn]; exact List.drop_eq_nil_of_le (Nat.le_refl _)
      rw [this]; rfl
    · rw [Nat.sub_self, Nat.zero_mul]; exact World.ownsRow_nil _ _ _ _
    · refine cv_some ?_; simp [go_sem]
    · refine cv_some ?_; simp [go_sem]
    · refine cv_some ?_; simp [go_sem]
    · intro o; simp [go_sem]
    · go_grown
  case round =>
    obtain ⟨q, hq2, hqn, rfl, hok, hB, hcr, hz, hbl⟩ := hrel
    have HB : Hid _ := hB
    have HOK : Hid _ := hok
    clear hB hok
    have hbs := hbl.size
    by_cases hlt : 2 < q
    · obtain ⟨p, rfl⟩ : ∃ p, q = p + 1 := ⟨q - 1, by omega⟩
      have hp1 : ((p + 1 : Nat) : Int) - 1 = (p : Int) := by omega
      rw [hp1]
      have hpI : (2 : Int) ≤ (p : Int) := by omega
      have hps : p < s.size := by omega
      clear hp1 hlt
      obtain ⟨d, hd⟩ : ∃ d, d = dig (s[p]'hps).toNat := ⟨_, rfl⟩
      have HDG : Hid (∀ wx, Calls Try.prog 59 #[.int .u8 (((s[p]'hps).toNat : Nat) : Int)] wx fun e w' => e = .returned (.int .i64 (d : Int)) ∧ w' = wx) := fun wx => by rw [hd]; exact refdigit_any _ (UInt8.toNat_lt _) wx
      have hda := drop_at hps
      have hoc := okd_cons 4 (s[p]'hps) (s.data.toList.drop (p + 1))
      have hvc := val_cons 4 (s[p]'hps) (s.data.toList.drop (p + 1))
      rw [← hda, ← hd] at hoc hvc
      rw [drop_len, hn] at hvc
      have HOC : Hid _ := hoc
      have HVC : Hid _ := hvc
      have hdl := dig_le (s[p]'hps).toNat
      rw [← hd] at hdl
      clear hd hda hoc hvc
      by_cases hdb : d < 16
      · have hdI : ¬ ((16 : Int) ≤ (d : Int)) := by omega
        go_wp2_with fail
        refine (HDG.out _).mono ?_
        rintro e wz ⟨rfl, rfl⟩
        go_wp2_with fail
        have hXl : (bl ((n - (p + 1)) * 4) (val 4 (s.data.toList.drop (p + 1)) 0)).length = (n - (p + 1)) * 4 := bl_len _ _
        obtain ⟨X, hX⟩ : ∃ X, X = bl ((n - (p + 1)) * 4) (val 4 (s.data.toList.drop (p + 1)) 0) := ⟨_, rfl⟩
        have HX : Hid _ := hX
        rw [← hX] at HB hXl
        clear hX
        obtain ⟨xl, hxl⟩ : ∃ xl, xl = (n - (p + 1)) * 4 := ⟨_, rfl⟩
        rw [← hxl] at hXl
        have hxb : xl + 4 ≤ 128 := by have := HWW.out; omega
        have HXL : Hid (xl = (n - (p + 1)) * 4) := hxl
        clear hxl
        go_loopw [9, 6] (fun kk v wr => ∃ k : Nat, k ≤ 4 ∧ kk = .int .i64 (k : Int) ∧ Bs wr (w.heap.size + 1) v (X ++ bl k d) ∧ (wr.cell? ⟨w.heap.size, 0, none⟩ = some (cv wr ⟨w.heap.size, 0, none⟩) ∧ wr.cell? ⟨w.heap.size, 1, none⟩ = some (cv wr ⟨w.heap.size, 1, none⟩) ∧ wr.cell? ⟨w.heap.size, 2, none⟩ = some (cv wr ⟨w.heap.size, 2, none⟩) ∧ (∀ o, wr.frozen? ⟨w.heap.size, o, none⟩ = false)) ∧ w.heap.size + 1 ≤ wr.heap.size ∧ Below w.heap.size w wr) (fun kk _ _ => 4 - (intOf kk).toNat)
        case atStart =>
          refine ⟨0, by omega, rfl, ?_, hcr, hz, hbl⟩
          rw [show bl 0 d = [] from rfl, List.append_nil]; exact HB.out
        case round =>
          clear HB hcr hz hbl hbs HDG
          obtain ⟨k, hk, rfl, hB, hcr, hz, hbl⟩ := hrel
          have HB : Hid _ := hB
          clear hB
          by_cases hkb : k < 4
          · have HLN : Hid ((X ++ bl k d).length = xl + k) := by unfold Hid; rw [List.length_append, hXl, bl_len]
            have HBT : Hid ((bits .and .i64 ((d : Int) / 2 ^ k) 1 == 1) = d.testBit k) := and_bits ⟨d, by omega⟩ ⟨k, by omega⟩
            go_wp2_with (at_builtin; refine wpList_append_own _ rfl (.tmp 68) (.tmp 74) 59 rfl (w.heap.size + 1) 4 i0 (.bool false) 1 1 Try.underlying59 HI4.out.1 HI4.out.2.1 HI4.out.2.2.1 HI4.out.2.2.2 rfl (by decide) u6 (xl + k) (bv (X ++ bl k d)) rfl (by have h := Bs.alloc HB.out (.cells #[.bool (bits .and .i64 ((d : Int) / 2 ^ k) 1 == 1)] 4); unfold Bs at h; rw [HLN.out] at h; exact h) ⟨wr.heap.size, 0, none⟩ 1 1 [.bool (bits .and .i64 ((d : Int) / 2 ^ k) 1 == 1)] rfl rfl (by intro j u hj; match j, hj with | 0, hj => simp at hj; subst hj; simp [Addr.add]) (by intro u hu; simp at hu; subst hu; rfl) (by unfold maxLen; omega) (by omega) (by simp; omega) ?_; intro v' w6 hown hgrow hnil; clear hnil)
            obtain ⟨hB6, hb6⟩ := app_list (k := [(bits .and .i64 ((d : Int) / 2 ^ k) 1 == 1)]) (Bs.alloc HB.out (.cells #[.bool (bits .and .i64 ((d : Int) / 2 ^ k) 1 == 1)] 4)) HLN.out.symm rfl hown hgrow (by simp; omega)
            have hs6 : wr.heap.size + 1 ≤ w6.heap.size := by have := hgrow.size; simpa using this
            have HB6 : Hid (Bs w6 (w.heap.size + 1) v' (X ++ bl (k + 1) d)) := by
              rw [HBT.out, List.append_assoc, bl_put1] at hB6; exact hB6
            have hb7 : Below (w.heap.size + 1) wr w6 := ((Below.refl _ wr).alloc (by omega) _).trans hb6
            clear hown hgrow hB6 HB hb6 HBT
            go_wp2_with fail
            exact ⟨⟨k + 1, by omega, by go_num, HB6.out, ⟨keepT_some hb7 (by simp) (by rw [hcr.1]; rfl), keepT_some hb7 (by simp) (by rw [hcr.2.1]; rfl), keepT_some hb7 (by simp) (by rw [hcr.2.2.1]; rfl), keepT_frozen hb7 (by omega) hcr.2.2.2⟩, by omega, hbl.trans (hb7.mono (by omega))⟩, by simp [intOf]; omega⟩
          · obtain rfl : k = 4 := by omega
            have hvl := val_lt 4 (s.data.toList.drop (p + 1)) 0 0 HOK.out (by decide)
            rw [drop_len, hn, Nat.zero_add] at hvl
            have HNX : Hid (X ++ bl 4 d = bl ((n - p) * 4) (val 4 (s.data.toList.drop p) 0)) := by
              unfold Hid
              rw [HX.out, bl_cat hvl (by omega), HVC.out]
              congr 1; omega
            have HON : Hid (okd 4 (s.data.toList.drop p) = true) := by unfold Hid; rw [HOC.out, HOK.out, show decide (d < 2 ^ 4) = true by simp; omega]; rfl
            have HBN : Hid (Bs wr (w.heap.size + 1) u6 (bl ((n - p) * 4) (val 4 (s.data.toList.drop p) 0))) := by unfold Hid; rw [← HNX.out]; exact HB.out
            clear HB HNX
            go_wp2_with fail
            exact ⟨⟨p, by omega, by omega, rfl, HON.out, HBN.out, hcr, hz, hbl⟩, by simp [intOf]; omega⟩
      · have hdI : (16 : Int) ≤ (d : Int) := by omega
        have HNO : Hid (okd 4 (s.data.toList.drop 2) = false) := okd_drop (q := p) (by omega) (by rw [HOC.out, show decide (d < 2 ^ 4) = false by simp; omega]; rfl)
        go_wp2_with fail
        refine (HDG.out _).mono ?_
        rintro e wz ⟨rfl, rfl⟩
        go_wp2_with fail
        refine bodyPost_ret (v := .tuple #[.agg #[.int .i64 0, .int .u64 0, .int .u64 0], .int .i64 13]) (by simp [results, Try.results30, go_sem, hcr]) rfl ?_
        exact ⟨by rw [HRR.out, HNO.out]; rfl, by go_grown⟩
    · obtain rfl : q = 2 := by omega
      have hq1 : ((2 : Nat) : Int) - 1 = 1 := by omega
      rw [hq1]
      have hvl := val_lt 4 (s.data.toList.drop 2) 0 0 HOK.out (by decide)
      rw [drop_len, hn, Nat.zero_add] at hvl
      have HWD := word_own HB.out (by omega) HWW.out hvl
      have HWH : Hid _ := HWD
      clear HWD HB
      go_wp2_with fail
      refine Calls.mono HWH.out ?_
      rintro e w4 ⟨rfl, hb4⟩
      have KF4 : w4.cell? ⟨w.heap.size, 0, none⟩ = some (cv w4 ⟨w.heap.size, 0, none⟩) ∧ w4.cell? ⟨w.heap.size, 1, none⟩ = some (cv w4 ⟨w.heap.size, 1, none⟩) ∧ w4.cell? ⟨w.heap.size, 2, none⟩ = some (cv w4 ⟨w.heap.size, 2, none⟩) ∧ (∀ o, w4.frozen? ⟨w.heap.size, o, none⟩ = false) :=
        ⟨keep_some hb4 (by rw [hcr.1]; rfl), keep_some hb4 (by rw [hcr.2.1]; rfl), keep_some hb4 (by rw [hcr.2.2.1]; rfl), keep_frozen2 hb4 (by rw [hcr.1]; rfl) hcr.2.2.2⟩
      have hb4' := below_step (w := w) hbl hb4
      have hs4 := hb4'.size
      clear hb4 hcr HWH
      go_wp2_with fail
      refine bodyPost_ret (v := .tuple #[.agg #[.int .i64 (((n - 2) * 4 : Nat) : Int), .int .u64 (LO (val 4 (s.data.toList.drop 2) 0)), .int .u64 (HI (val 4 (s.data.toList.drop 2) 0))], .int .i64 0]) (by simp [results, Try.results30, go_sem, KF4]) rfl ?_
      exact ⟨by rw [HRR.out, HOK.out]; rfl, by go_grown⟩

end Go.Proofs.Ytjcmnhipiejnpaa
