/- Contracts (the law's run): fits. -/
import Derived.Test.YtajpnlmglkifcaaCN17
namespace Go.Proofs.Ytajpnlmglkifcaa
open Go.RowKit
set_option linter.unusedSimpArgs false
set_option linter.unusedVariables false

/-- Do the inputs' variables have these values in the n-th assignment? -/
noncomputable def fitB (V : Int → Option Int) (ins : List Int) (il : List Bool) (n : Nat) : Bool := @decide (∀ (k : Nat) (x v : Int), ins[k]? = some x → V (x / 2) = some v → bt n (v.toNat - 1) = il.getD k false) (Classical.propDecidable _)
theorem fitB_iff {V : Int → Option Int} {ins : List Int} {il : List Bool} {n : Nat} : fitB V ins il n = true ↔ ∀ (k : Nat) (x v : Int), ins[k]? = some x → V (x / 2) = some v → bt n (v.toNat - 1) = il.getD k false := @decide_eq_true_iff _ (Classical.propDecidable _)
theorem fitB_no {V : Int → Option Int} {ins : List Int} {il : List Bool} {n : Nat} (h : ¬ ∀ (k : Nat) (x v : Int), ins[k]? = some x → V (x / 2) = some v → bt n (v.toNat - 1) = il.getD k false) : fitB V ins il n = false := @decide_eq_false _ (Classical.propDecidable _) h
set_option maxRecDepth 20000 in
set_option maxHeartbeats 1600000 in
theorem fits_any {w : World} {e g mv mp X b : Nat} {vars : Int} {V P : Int → Option Int} (hE : En w e g vars mv mp V P) (hX : w.cell? ⟨X, 1, none⟩ = some (.pointer (some ⟨e, 0, none⟩))) {uin uv : Value} {ins : List Int} {il : List Bool} (hin : Rl w b uin ins) (hins : ∀ y ∈ ins, ∃ p : Nat, y = 2 * (p : Int) ∧ p ≤ 100000) (hV : ∀ n v, V n = some v → 1 ≤ v ∧ v ≤ 100000) (hv : Bz w uv il) (hll : il.length = ins.length) {n : Nat} (hn : n < 40000) :
    Calls Try.prog 11 #[.pointer (some ⟨X, 0, none⟩), uin, uv, .int .i64 (n : Int)] w fun ev w' => ev = .returned (.bool (fitB V ins il n)) ∧ Below w.heap.size w w' := by
  have hXl : X < w.heap.size := World.block_lt_of_cell? _ _ hX
  have HE : Hid _ := hE
  obtain ⟨a, cap, rfl, -, hl5, hat⟩ := hin
  obtain ⟨a2, c2, rfl, hat2⟩ := hv
  have HAT : Hid _ := hat
  have HAT2 : Hid _ := hat2
  have HIN : Hid _ := hins
  have HV : Hid _ := hV
  obtain ⟨m, hm⟩ : ∃ m, m = ins.length := ⟨_, rfl⟩
  have HM : Hid _ := hm
  have HM2 : Hid (il.length = m) := by unfold Hid; omega
  rw [hll, ← hm]
  rw [← hm] at hl5
  clear hat hat2 hins hV hm hll hE
  go_enter Try.func11, Try.ntmps11
  go_wp2_with fail
  go_loopw [9] (fun i wr => ∃ k : Nat, k ≤ m ∧ i = .int .i64 (k : Int) ∧ Hid ((∀ (j : Nat) (x v : Int), j < k → ins[j]? = some x → V (x / 2) = some v → bt n (v.toNat - 1) = il.getD j false) ∧ Below w.heap.size w wr)) (fun i wr => m - (intOf i).toNat)
  case atStart => exact ⟨0, Nat.zero_le _, rfl, fun j x v hj => by omega, Below.refl _ _⟩
  case round =>
    obtain ⟨k, hk, rfl, hH⟩ := hrel
    by_cases hkm : k < m
    · obtain ⟨x, hxk⟩ : ∃ x, ins[k]? = some x := ⟨_, List.getElem?_eq_getElem (by rw [← HM.out]; exact hkm)⟩
      obtain ⟨r, rfl, -, hLi⟩ := HAT.out.resolve_left (fun e => by rw [e] at hxk; simp at hxk)
      obtain ⟨r2, o2, rfl, hVi⟩ := HAT2.out.resolve_left (fun e => by have := HM2.out; rw [e] at this; simp at this; omega)
      have dx : wr.cell? ⟨r, k, none⟩ = some (.int .i64 x) := by
        have h1 := hLi k (by rw [← HM.out]; exact hkm)
        rw [Nat.zero_add, List.getD_eq_getElem?_getD, hxk] at h1
        exact keep_cell hH.out.2 h1
      have hr1 : r < w.heap.size := World.block_lt_of_cell? _ _ (hLi k (by rw [← HM.out]; exact hkm))
      have q2 := hVi k (by rw [HM2.out]; exact hkm)
      have dv : wr.cell? ⟨r2, o2 + k, none⟩ = some (.bool (il.getD k false)) := keep_cell hH.out.2 q2
      have de : wr.cell? ⟨X, 1, none⟩ = some (.pointer (some ⟨e, 0, none⟩)) := keep_cell hH.out.2 hX
      obtain ⟨p, rfl, hp⟩ := HIN.out x (List.mem_of_getElem? hxk)
      have hdiv : Int.tdiv (2 * (p : Int)) 2 = (p : Int) := Int.mul_tdiv_cancel_left _ (by decide)
      have hkI : (k : Int) < (m : Int) := by omega
      have HOF : Hid (∀ wx : World, wx.heap = wr.heap → Calls Try.prog 20 #[.pointer (some ⟨e, 0, none⟩), .int .i64 (p : Int)] wx fun ev w' => ev = .returned (.tuple #[.int .i64 ((V (p : Int)).getD 0), .bool (V (p : Int)).isSome]) ∧ w' = wx) := fun wx hwx => of_any ((HE.out.below hH.out.2).kept (fun b _ => by rw [hwx])) (by unfold w64; omega)
      have HST : Hid ((∀ v, V (p : Int) = some v → bt n (v.toNat - 1) = il.getD k false) → ∀ (j : Nat) (x v : Int), j < k + 1 → ins[j]? = some x → V (x / 2) = some v → bt n (v.toNat - 1) = il.getD j false) := fun hh j x v hj hx hv => by
        by_cases hjk : j < k
        · exact hH.out.1 j x v hjk hx hv
        · obtain rfl : j = k := by omega
          rw [hxk] at hx
          injection hx with hx
          rw [← hx, show (2 * (p : Int)) / 2 = (p : Int) by omega] at hv
          exact hh v hv
      have HNO : Hid (∀ v, V (p : Int) = some v → bt n (v.toNat - 1) ≠ il.getD k false → fitB V ins il n = false) := fun v hv hne => fitB_no fun hh => hne (hh k _ v hxk (by rw [show (2 * (p : Int)) / 2 = (p : Int) by omega]; exact hv))
      obtain ⟨z, hz⟩ : ∃ z, z = il.getD k false := ⟨_, rfl⟩
      rw [← hz] at dv HST HNO
      have HVP : Hid (∀ v, V (p : Int) = some v → 1 ≤ v ∧ v ≤ 100000) := fun v hv => HV.out _ v hv
      obtain ⟨o, ho⟩ : ∃ o, o = V (p : Int) := ⟨_, rfl⟩
      rw [← ho] at HOF HST HNO HVP
      have hb := hH.out.2
      have hwr := hb.size
      clear hxk hLi hVi q2 hz ho
      cases o with
      | none =>
        have HO2 : Hid (∀ wx : World, wx.heap = wr.heap → Calls Try.prog 20 #[.pointer (some ⟨e, 0, none⟩), .int .i64 (p : Int)] wx fun ev w' => ev = .returned (.tuple #[.int .i64 0, .bool false]) ∧ w' = wx) := fun wx hwx => HOF.out wx hwx
        have HS2 : Hid _ := HST.out (fun v hv => by cases hv)
        clear HOF HST HNO HVP
        go_wp2_with fail
        go_quiet ((go_at_call 20; refine Calls.quiet_of_same (HO2.out _ (heap_drewN _ _))))
        obtain ⟨wd, hwd⟩ : ∃ wd, wd = wr.drewN nq := ⟨_, rfl⟩
        rw [← hwd]
        have hbd : Below w.heap.size w wd := by rw [hwd]; exact below_drewN hb _
        have dv2 : wd.cell? ⟨r2, o2 + k, none⟩ = some (.bool z) := by rw [hwd]; exact keep_cell (below_drewN (Below.refl _ _) _) dv
        clear hwd dx dv de
        go_wp2_with fail
        go_quiet (fail)
        obtain ⟨wx, hwx⟩ : ∃ y, y = wd.drewN nq := ⟨_, rfl⟩
        rw [← hwx]
        have hbx : Below w.heap.size w wx := by rw [hwx]; exact below_drewN hbd _
        clear hwx dv2 hdiv
        go_wp2_with fail
        exact ⟨⟨k + 1, by omega, by go_num, HS2.out, hbx⟩, by simp [intOf]; omega⟩
      | some v =>
        obtain ⟨hv1, hv2⟩ := HVP.out v rfl
        obtain ⟨d, rfl⟩ : ∃ d : Nat, v = (d : Int) + 1 := ⟨(v - 1).toNat, by omega⟩
        have HO2 : Hid (∀ wx : World, wx.heap = wr.heap → Calls Try.prog 20 #[.pointer (some ⟨e, 0, none⟩), .int .i64 (p : Int)] wx fun ev w' => ev = .returned (.tuple #[.int .i64 ((d : Int) + 1), .bool true]) ∧ w' = wx) := fun wx hwx => HOF.out wx hwx
        have HS2 : Hid (bt n d = z → _) := fun hh => HST.out (fun v hv => by injection hv with hv; rw [← hv, show ((d : Int) + 1).toNat - 1 = d by omega]; exact hh)
        have HN2 : Hid (bt n d ≠ z → _) := fun hh => HNO.out _ rfl (by rw [show ((d : Int) + 1).toNat - 1 = d by omega]; exact hh)
        clear HOF HST HNO HVP
        go_wp2_with fail
        go_quiet ((go_at_call 20; refine Calls.quiet_of_same (HO2.out _ (heap_drewN _ _))))
        obtain ⟨wd, hwd⟩ : ∃ wd, wd = wr.drewN nq := ⟨_, rfl⟩
        rw [← hwd]
        have hbd : Below w.heap.size w wd := by rw [hwd]; exact below_drewN hb _
        have dv2 : wd.cell? ⟨r2, o2 + k, none⟩ = some (.bool z) := by rw [hwd]; exact keep_cell (below_drewN (Below.refl _ _) _) dv
        clear hwd dx dv de
        go_wp2_with fail
        go_quiet (fail)
        obtain ⟨y, hy⟩ : ∃ y, y = bt n d := ⟨_, rfl⟩
        rw [← hy] at HS2 HN2
        unfold bt at hy
        rw [← hy]
        obtain ⟨wx, hwx⟩ : ∃ y, y = wd.drewN nq := ⟨_, rfl⟩
        rw [← hwx]
        have hbx : Below w.heap.size w wx := by rw [hwx]; exact below_drewN hbd _
        clear hwx hy dv2 hv1 hv2 hdiv hp
        cases y <;> cases z
        · go_wp2_with fail
          exact ⟨⟨k + 1, by omega, by go_num, HS2.out rfl, hbx⟩, by simp [intOf]; omega⟩
        · have HN3 : Hid _ := HN2.out (by simp)
          go_wp2_with fail
          go_ret
          exact ⟨by rw [HN3.out]; rfl, hbx⟩
        · have HN3 : Hid _ := HN2.out (by simp)
          go_wp2_with fail
          go_ret
          exact ⟨by rw [HN3.out]; rfl, hbx⟩
        · go_wp2_with fail
          exact ⟨⟨k + 1, by omega, by go_num, HS2.out rfl, hbx⟩, by simp [intOf]; omega⟩
    · obtain rfl : k = m := by omega
      have hkI : ¬ (k : Int) < (k : Int) := by omega
      have hb := hH.out.2
      have HF : Hid (fitB V ins il n = true) := fitB_iff.2 fun j x v hx => hH.out.1 j x v (by rw [HM.out]; exact (List.getElem?_eq_some_iff.1 hx).1) hx
      go_wp2_with fail
      go_ret
      exact ⟨by rw [HF.out]; rfl, hb⟩
end Go.Proofs.Ytajpnlmglkifcaa
