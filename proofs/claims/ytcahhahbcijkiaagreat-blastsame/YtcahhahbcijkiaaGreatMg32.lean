import Derived.Test.YtcahhahbcijkiaaGreatMg31
namespace Go.Proofs.YtcahhahbcijkiaaGreat.Ag
set_option maxHeartbeats 12800000
set_option maxRecDepth 100000
open Go.RowKit
set_option linter.unusedSimpArgs false
set_option linter.unusedVariables false
theorem filled_row {w : World} {l : Int} {n : Nat} (hn : n ≤ 50000) :
  Calls Tryz.prog 137 #[.int .i64 l, .int .i64 (n : Int)] w fun ev w' => ∃ r, ev = .returned (.slice (some ⟨r, 0, none⟩) n n) ∧ w.heap.size ≤ r ∧ r < w'.heap.size ∧ w'.rowIs r 3 n (fun _ => .int .i64 l) ∧ Below w.heap.size w w' := by
 have HR : Hid _ := repeat_any (w := w.alloc (.cells #[.int .i64 l] 3)) (b1 := w.heap.size) (l := l) (by simp [go_sem]) hn
 have esz : (w.alloc (.cells #[.int .i64 l] 3)).heap.size = w.heap.size + 1 := by simp
 go_enter Tryz.func137, Tryz.ntmps137
 go_wp2_with fail
 refine Calls.mono HR.out ?_
 rintro ev w2 ⟨rfl, hrow, hs2, hb2⟩
 have hb : Below w.heap.size w w2 := Below.trans (by go_grown) (hb2.mono (by simp))
 rw [esz] at hrow hs2
 have HW : Hid (∃ r, r = w.heap.size + 1 ∧ w.heap.size ≤ r ∧ r < w2.heap.size ∧ w2.rowIs r 3 n (fun _ => .int .i64 l) ∧ Below w.heap.size w w2) := ⟨_, rfl, by omega, hs2, hrow, hb⟩
 clear hrow hb2 HR esz hb hs2
 go_wp2_with fail
 go_ret
 obtain ⟨r, hr, h⟩ := HW.out
 exact ⟨r, by rw [hr]; rfl, h⟩
section
variable {w : World} {D : Nat → Prop} {u : Value} {L : List Int}
theorem row_wd {r n : Nat} {f : Nat → Value} (h : w.rowIs r 3 n f) (hf : ∀ j, j < n → f j = .int .i64 (L.getD j 0)) (hl : L.length = n) (hn : n ≤ 50000) (hD : ¬ D r) : Wd w D (.slice (some ⟨r, 0, none⟩) n n) L := by
 refine ⟨_, n, by rw [hl], by omega, by omega, (fun e => by cases e), Or.inr ⟨r, 0, rfl, ?_, hD, fun j hj => ?_⟩⟩
 ·obtain ⟨cc, e, -⟩ := h
  exact (Array.getElem?_eq_some_iff.1 e).1
 ·rw [Nat.zero_add, h.cell (by omega), hf j (by omega)]
def sdK (L : List Int) : Nat → List Int × List Int × Int
 | 0 => (List.replicate L.length 0, List.replicate L.length 0, 0)
 | k + 1 =>
  if L.getD k 0 = (sdK L k).2.2 then sdK L k
  else if k + 1 < L.length ∧ L.getD (k + 1) 0 = 1 then ((sdK L k).1, (sdK L k).2.1.set k 1, 1)
  else ((sdK L k).1.set k 1, (sdK L k).2.1, 0)
theorem sdK_len : ∀ k, (sdK L k).1.length = L.length ∧ (sdK L k).2.1.length = L.length
 | 0 => ⟨List.length_replicate, List.length_replicate⟩
 | k + 1 => by
  obtain ⟨h1, h2⟩ := sdK_len k
  unfold sdK
  split
  ·exact ⟨h1, h2⟩
  ·split
   ·exact ⟨h1, by rw [List.length_set]; exact h2⟩
   ·exact ⟨by rw [List.length_set]; exact h1, h2⟩
theorem set_getD {P : List Int} {k j : Nat} (hk : k < P.length) : (P.set k 1).getD j 0 = if k = j then 1 else P.getD j 0 := by
 rw [List.getD_eq_getElem?_getD, List.getElem?_set]
 by_cases e : k = j
 ·rw [if_pos e, if_pos e, if_pos (by omega)]
  rfl
 ·rw [if_neg e, if_neg e, List.getD_eq_getElem?_getD]
def LV (P : List Int) : Nat → Value := fun j => .int .i64 (P.getD j 0)
theorem row_set {r n k : Nat} {P : List Int} (h : w.rowIs r 3 n (LV P)) (hP : P.length = n) (hk : k < n) : (w.setCell ⟨r, k, none⟩ (.int .i64 1)).rowIs r 3 n (LV (P.set k 1)) := by
 refine (h.set k (.int .i64 1)).congr (fun j hj => ?_)
 unfold LV
 rw [set_getD (by omega)]
 by_cases e : k = j
 ·subst e; simp
 ·rw [if_neg e]
  first
  | (rw [if_neg (fun q => e q.symm)])
  | (rw [if_neg e])
  | (simp [Ne.symm e])
theorem signedDigits_any (h : Wd w D u L) (hD : ∀ k, D k → k < w.heap.size) :
  Calls Tryz.prog 178 #[u] w fun ev w' => ∃ u1 u2, ev = .returned (.tuple #[u1, u2]) ∧ Wd w' D u1 (sdK L L.length).1 ∧ Wd w' D u2 (sdK L L.length).2.1 ∧ Below w.heap.size w w' := by
 obtain ⟨a, c, rfl, -, h5⟩ := h.sl
 have HA : Hid (∀ wr, Below w.heap.size w wr → ∀ k, k < L.length → ∃ r o, a = some ⟨r, o, none⟩ ∧ r < w.heap.size ∧ wr.cell? ⟨r, o + k, none⟩ = some (.int .i64 (L.getD k 0))) := fun wr hb k hk => by
  obtain ⟨r, o, e, hr, hc⟩ := h.at rfl hk
  exact ⟨r, o, e, hr, keep_cell hb hc⟩
 have HD : Hid _ := hD
 obtain ⟨n, hn⟩ : ∃ n, n = L.length := ⟨_, rfl⟩
 have HN : Hid _ := hn
 rw [← hn] at h5 HA ⊢
 have HF : Hid _ := filled_row (w := w) (l := 0) h5
 have HF2 : Hid (∀ wx, Calls Tryz.prog 137 #[.int .i64 0, .int .i64 (n : Int)] wx fun ev w' => ∃ r, ev = .returned (.slice (some ⟨r, 0, none⟩) n n) ∧ wx.heap.size ≤ r ∧ r < w'.heap.size ∧ w'.rowIs r 3 n (fun _ => .int .i64 0) ∧ Below wx.heap.size wx w') := fun wx => filled_row h5
 clear h hn hD
 go_enter Tryz.func178, Tryz.ntmps178
 go_wp2_with fail
 refine Calls.mono HF.out ?_
 rintro ev w2 ⟨rp, rfl, hrp, hrp2, hrow, hb2⟩
 have HB2 : Hid (Below w.heap.size w w2) := hb2
 have HR1 : Hid (w2.rowIs rp 3 n (fun _ => .int .i64 0)) := hrow
 clear hrow hb2 HF
 go_wp2_with fail
 refine (HF2.out _).mono ?_
 rintro ev w3 ⟨rm, rfl, hrm, hrm2, hrow, hb3⟩
 have hrep : ∀ j, j < n → (fun _ : Nat => Value.int .i64 0) j = LV (List.replicate n 0) j := fun j hj => by
  unfold LV
  rw [rep_get n 0 hj]
 have HB3 : Hid (Below w.heap.size w w3) := HB2.out.trans (hb3.mono HB2.out.size)
 have HROW : Hid (w3.rowIs rp 3 n (LV (sdK L 0).1) ∧ w3.rowIs rm 3 n (LV (sdK L 0).2.1)) := by
  have e0 : sdK L 0 = (List.replicate n 0, List.replicate n 0, 0) := by rw [HN.out]; rfl
  rw [e0]
  exact ⟨(HR1.out.of_block (hb3.block rp hrp2)).congr (fun j hj => hrep j hj), hrow.congr (fun j hj => hrep j hj)⟩
 have hne : rp ≠ rm := by omega
 clear hrow hb3 HF2 HR1 HB2 hrep
 go_wp2_with fail
 go_loopw [4, 15] (fun cv i wr => ∃ k : Nat, k ≤ n ∧ i = .int .i64 (k : Int) ∧ cv = .int .i64 (sdK L k).2.2 ∧ Hid (wr.rowIs rp 3 n (LV (sdK L k).1) ∧ wr.rowIs rm 3 n (LV (sdK L k).2.1) ∧ Below w.heap.size w wr)) (fun cv i wr => n - (intOf i).toNat)
 case atStart => exact ⟨0, Nat.zero_le _, rfl, rfl, HROW.out.1, HROW.out.2, HB3.out⟩
 case round =>
  clear HROW HB3
  obtain ⟨k, hk, rfl, rfl, hr1, hr2, hb⟩ := hrel
  obtain ⟨l1, l2⟩ := sdK_len (L := L) k
  rw [← HN.out] at l1 l2
  by_cases hkn : k < n
  ·obtain ⟨r, o, rfl, hr, hc⟩ := HA.out wr hb k hkn
   have hkI : (k : Int) < (n : Int) := by omega
   have HST : Hid (sdK L (k + 1) = if L.getD k 0 = (sdK L k).2.2 then sdK L k else if k + 1 < n ∧ L.getD (k + 1) 0 = 1 then ((sdK L k).1, (sdK L k).2.1.set k 1, 1) else ((sdK L k).1.set k 1, (sdK L k).2.1, 0)) := by
    unfold Hid
    rw [HN.out]
    rfl
   obtain ⟨S, hS⟩ : ∃ S, S = sdK L k := ⟨_, rfl⟩
   rw [← hS] at hr1 hr2 HST l1 l2 ⊢
   obtain ⟨x, hx⟩ : ∃ x, x = L.getD k 0 := ⟨_, rfl⟩
   rw [← hx] at hc HST
   obtain ⟨S1, S2, cy⟩ := S
   dsimp only at hr1 hr2 HST l1 l2 ⊢
   by_cases hxc : x = cy
   ·have z0 : (x == cy) = true := by simp [hxc]
    have HI : Hid (cy = (sdK L (k + 1)).2.2 ∧ wr.rowIs rp 3 n (LV (sdK L (k + 1)).1) ∧ wr.rowIs rm 3 n (LV (sdK L (k + 1)).2.1) ∧ Below w.heap.size w wr) := by
     unfold Hid
     rw [HST.out, if_pos hxc]
     exact ⟨rfl, hr1, hr2, hb⟩
    clear hr1 hr2 hb hx hS
    go_wp2_with fail
    exact ⟨⟨k + 1, by omega, by go_num, congrArg (Value.int .i64) HI.out.1, HI.out.2⟩, by simp [intOf]; omega⟩
   ·have z0 : (x == cy) = false := by simp [hxc]
    by_cases hq : k + 1 < n ∧ L.getD (k + 1) 0 = 1
    ·obtain ⟨r', o', e', -, hc'⟩ := HA.out wr hb (k + 1) hq.1
     injection e' with e'
     injection e' with e1 e2
     subst e1
     subst e2
     rw [hq.2] at hc'
     have hk1 : (k : Int) + 1 < (n : Int) := by omega
     have hc2 : wr.cell? ⟨r, o + (k + 1), none⟩ = some (.int .i64 1) := hc'
     have f1 := hr2.frozen k
     have c1 := hr2.cell (show k < n from hkn)
     have HI : Hid (∀ wz, wz = wr.setCell ⟨rm, k, none⟩ (.int .i64 1) → (1 : Int) = (sdK L (k + 1)).2.2 ∧ wz.rowIs rp 3 n (LV (sdK L (k + 1)).1) ∧ wz.rowIs rm 3 n (LV (sdK L (k + 1)).2.1) ∧ Below w.heap.size w wz) := fun wz hz => by
      rw [hz, HST.out, if_neg hxc, if_pos hq]
      exact ⟨rfl, hr1.of_block (heap_setCell_other _ _ _ _ hne), row_set hr2 l2 hkn, hb.trans (by go_grown)⟩
     clear hr1 hr2 hb hx hS hc'
     unfold LV at c1
     go_wp2_with fail
     obtain ⟨i1, i2⟩ := HI.out _ rfl
     exact ⟨⟨k + 1, by omega, by go_num, congrArg (Value.int .i64) i1, i2⟩, by simp [intOf]; omega⟩
    ·have f1 := hr1.frozen k
     have c1 := hr1.cell (show k < n from hkn)
     have HI : Hid (∀ wz, wz = wr.setCell ⟨rp, k, none⟩ (.int .i64 1) → (0 : Int) = (sdK L (k + 1)).2.2 ∧ wz.rowIs rp 3 n (LV (sdK L (k + 1)).1) ∧ wz.rowIs rm 3 n (LV (sdK L (k + 1)).2.1) ∧ Below w.heap.size w wz) := fun wz hz => by
      rw [hz, HST.out, if_neg hxc, if_neg hq]
      exact ⟨rfl, row_set hr1 l1 hkn, hr2.of_block (heap_setCell_other _ _ _ _ (Ne.symm hne)), hb.trans (by go_grown)⟩
     unfold LV at c1
     by_cases hk1 : k + 1 < n
     ·obtain ⟨r', o', e', -, hc'⟩ := HA.out wr hb (k + 1) hk1
      injection e' with e'
      injection e' with e1 e2
      subst e1
      subst e2
      obtain ⟨y, hy⟩ : ∃ y, y = L.getD (k + 1) 0 := ⟨_, rfl⟩
      rw [← hy] at hc'
      have z1 : (y == 1) = false := by
       have : ¬ y = 1 := fun e => hq ⟨hk1, by rw [← hy]; exact e⟩
       simp [this]
      have hk1I : (k : Int) + 1 < (n : Int) := by omega
      have hc2 : wr.cell? ⟨r, o + (k + 1), none⟩ = some (.int .i64 y) := hc'
      clear hr1 hr2 hb hx hS hc' hy
      go_wp2_with fail
      obtain ⟨i1, i2⟩ := HI.out _ rfl
      exact ⟨⟨k + 1, by omega, by go_num, congrArg (Value.int .i64) i1, i2⟩, by simp [intOf]; omega⟩
     ·have hk1I : ¬ (k : Int) + 1 < (n : Int) := by omega
      clear hr1 hr2 hb hx hS
      go_wp2_with fail
      obtain ⟨i1, i2⟩ := HI.out _ rfl
      exact ⟨⟨k + 1, by omega, by go_num, congrArg (Value.int .i64) i1, i2⟩, by simp [intOf]; omega⟩
  ·obtain rfl : k = n := by omega
   have hkI : ¬ (k : Int) < (k : Int) := by omega
   have HW : Hid (Wd wr D (.slice (some ⟨rp, 0, none⟩) k k) (sdK L k).1 ∧ Wd wr D (.slice (some ⟨rm, 0, none⟩) k k) (sdK L k).2.1) := ⟨row_wd hr1 (fun _ _ => rfl) l1 h5 (fun e => by have := HD.out _ e; omega), row_wd hr2 (fun _ _ => rfl) l2 h5 (fun e => by have := HD.out _ e; omega)⟩
   have hbb := hb
   clear hr1 hr2 hb
   go_wp2_with fail
   go_ret2
   exact ⟨_, _, rfl, HW.out.1, HW.out.2, hbb⟩
end
open Go.RowKit
section
variable {w : World} {D : Nat → Prop} {u ua ub : Value} {L A B : List Int}
def fxF (L : List Int) : Nat := L.count 0 + L.count 1
def ordB (A B : List Int) : Bool := decide (fxF A < fxF B ∨ fxF A = fxF B ∧ 0 < cmpW A B)
def ordF (A B : List Int) : List Int × List Int := if ordB A B then (B, A) else (A, B)
theorem inOrder_any (hA : Wd w D ua A) (hB : Wd w D ub B) (hl : A.length = B.length) :
  Calls Tryz.prog 140 #[ua, ub] w fun ev w' => ∃ x y, ev = .returned (.tuple #[x, y]) ∧ Wd w D x (ordF A B).1 ∧ Wd w D y (ordF A B).2 ∧ w' = w := by
 have H1 : Hid _ := fixed_any hA
 have H2 : Hid _ := fixed_any hB
 have HC : Hid _ := compare_any hA hB hl
 have HW : Hid (∀ b, b = ordB A B → Wd w D (if b then ub else ua) (ordF A B).1 ∧ Wd w D (if b then ua else ub) (ordF A B).2) := fun b hb => by
  unfold ordF
  rw [← hb]
  cases b
  ·exact ⟨hA, hB⟩
  ·exact ⟨hB, hA⟩
 have h5 : fxF A ≤ 100000 ∧ fxF B ≤ 100000 := by
  have := hA.sl
  have := hB.sl
  have e1 : A.count 0 ≤ A.length := List.count_le_length
  have e2 : A.count 1 ≤ A.length := List.count_le_length
  have e3 : B.count 0 ≤ B.length := List.count_le_length
  have e4 : B.count 1 ≤ B.length := List.count_le_length
  unfold fxF
  obtain ⟨-, -, -, -, q1⟩ := hA.sl
  obtain ⟨-, -, -, -, q2⟩ := hB.sl
  omega
 have HO : Hid (ordB A B = decide (fxF A < fxF B ∨ fxF A = fxF B ∧ 0 < cmpW A B)) := rfl
 obtain ⟨a1, c1, rfl, -, -⟩ := hA.sl
 obtain ⟨a2, c2, rfl, -, -⟩ := hB.sl
 obtain ⟨n, hn⟩ : ∃ n, n = A.length := ⟨_, rfl⟩
 rw [← hn] at hl H1 HC HW ⊢
 rw [← hl] at H2 HC HW ⊢
 have e1 : fxF A = A.count 0 + A.count 1 := rfl
 have e2 : fxF B = B.count 0 + B.count 1 := rfl
 rw [← e1] at H1
 rw [← e2] at H2
 obtain ⟨R, hR⟩ : ∃ R, R = ordF A B := ⟨_, rfl⟩
 rw [← hR] at HW ⊢
 obtain ⟨q, hq⟩ : ∃ q, q = ordB A B := ⟨_, rfl⟩
 rw [← hq] at HW HO
 obtain ⟨f1, hf1⟩ : ∃ f, f = fxF A := ⟨_, rfl⟩
 obtain ⟨f2, hf2⟩ : ∃ f, f = fxF B := ⟨_, rfl⟩
 obtain ⟨z, hz⟩ : ∃ z, z = cmpW A B := ⟨_, rfl⟩
 rw [← hf1] at H1 HO h5
 rw [← hf2] at H2 HO h5
 rw [← hz] at HC HO
 obtain ⟨h51, h52⟩ := h5
 clear hA hB hl hn e1 e2 hR hq hf1 hf2 hz
 go_enter Tryz.func140, Tryz.ntmps140
 go_wp2_with fail
 refine Calls.mono H1.out ?_
 rintro ev wz ⟨rfl, hz⟩
 rw [hz]
 clear hz wz
 go_wp2_with fail
 refine Calls.mono H2.out ?_
 rintro ev wz ⟨rfl, hz⟩
 rw [hz]
 clear hz wz
 by_cases hlt : f1 < f2
 ·have HX : Hid (Wd w D (.slice a2 n c2) R.1 ∧ Wd w D (.slice a1 n c1) R.2) := by
   have := HW.out true (by rw [HO.out]; simp [hlt])
   unfold Hid
   simpa using this
  have hI : (f1 : Int) < (f2 : Int) := by omega
  go_wp2_with fail
  go_ret2
  exact ⟨_, _, rfl, HX.out.1, HX.out.2, rfl⟩
 ·have hI : ¬ (f1 : Int) < (f2 : Int) := by omega
  by_cases heq : f1 = f2
  ·have z0 : ((f1 : Int) == (f2 : Int)) = true := by simp [heq]
   by_cases hz : 0 < z
   ·have HX : Hid (Wd w D (.slice a2 n c2) R.1 ∧ Wd w D (.slice a1 n c1) R.2) := by
     have := HW.out true (by rw [HO.out]; simp [heq, hz])
     unfold Hid
     simpa using this
    go_wp2_with fail
    refine Calls.mono HC.out ?_
    rintro ev wz ⟨rfl, hzz⟩
    rw [hzz]
    clear hzz wz
    go_wp2_with fail
    go_ret2
    exact ⟨_, _, rfl, HX.out.1, HX.out.2, rfl⟩
   ·have HX : Hid (Wd w D (.slice a1 n c1) R.1 ∧ Wd w D (.slice a2 n c2) R.2) := by
     have := HW.out false (by rw [HO.out]; simp [heq]; omega)
     unfold Hid
     simpa using this
    go_wp2_with fail
    refine Calls.mono HC.out ?_
    rintro ev wz ⟨rfl, hzz⟩
    rw [hzz]
    clear hzz wz
    go_wp2_with fail
    go_ret2
    exact ⟨_, _, rfl, HX.out.1, HX.out.2, rfl⟩
  ·have z0 : ((f1 : Int) == (f2 : Int)) = false := by
    have : ¬ (f1 : Int) = (f2 : Int) := by omega
    simp [this]
   have HX : Hid (Wd w D (.slice a1 n c1) R.1 ∧ Wd w D (.slice a2 n c2) R.2) := by
    have := HW.out false (by rw [HO.out]; simp [heq, hlt])
    unfold Hid
    simpa using this
   go_wp2_with fail
   go_ret2
   exact ⟨_, _, rfl, HX.out.1, HX.out.2, rfl⟩
def dgF (L : List Int) : List Int × List Int :=
 if fxF L = L.length ∧ (sdK L L.length).1.count 1 + (sdK L L.length).2.1.count 1 < L.count 1 then ((sdK L L.length).1, (sdK L L.length).2.1) else (L, List.replicate L.length 0)
theorem dgF_len : (dgF L).1.length = L.length ∧ (dgF L).2.length = L.length := by
 unfold dgF
 split
 ·exact sdK_len _
 ·exact ⟨rfl, List.length_replicate⟩
theorem digits_any (h : Wd w D u L) (hD : ∀ k, D k → k < w.heap.size) :
  Calls Tryz.prog 141 #[u] w fun ev w' => ∃ x y, ev = .returned (.tuple #[x, y]) ∧ Wd w' D x (dgF L).1 ∧ Wd w' D y (dgF L).2 ∧ Below w.heap.size w w' := by
 have HX : Hid _ := fixed_any h
 have HS : Hid _ := signedDigits_any h hD
 have H : Hid _ := h
 have HD : Hid _ := hD
 obtain ⟨a, c, rfl, -, h5⟩ := h.sl
 have e1 : fxF L = L.count 0 + L.count 1 := rfl
 rw [← e1] at HX
 have hf5 : fxF L ≤ 100000 := by
  have e2 : L.count 0 ≤ L.length := List.count_le_length
  have e3 : L.count 1 ≤ L.length := List.count_le_length
  omega
 have HG : Hid (dgF L = if fxF L = L.length ∧ (sdK L L.length).1.count 1 + (sdK L L.length).2.1.count 1 < L.count 1 then ((sdK L L.length).1, (sdK L L.length).2.1) else (L, List.replicate L.length 0)) := rfl
 have HFL : Hid (∀ wx, Below w.heap.size w wx → Calls Tryz.prog 137 #[.int .i64 0, .int .i64 (L.length : Int)] wx fun ev w' => ∃ u', ev = .returned u' ∧ Wd w' D u' (List.replicate L.length 0) ∧ Below wx.heap.size wx w') := fun wx hb => filled_any h5 (fun k hk => Nat.lt_of_lt_of_le (hD k hk) hb.size)
 have HCN : Hid (∀ wx, Below w.heap.size w wx → Calls Tryz.prog 179 #[.slice a L.length c, .int .i64 1] wx fun ev w' => ev = .returned (.int .i64 (L.count 1 : Nat)) ∧ w' = wx) := fun wx hb => count_any (h.below hb)
 have hc5 : L.count 1 ≤ 50000 := Nat.le_trans List.count_le_length h5
 have hsl := sdK_len (L := L) L.length
 obtain ⟨S, hS⟩ : ∃ S, S = sdK L L.length := ⟨_, rfl⟩
 rw [← hS] at HS HG hsl
 obtain ⟨S1, S2, cy⟩ := S
 dsimp only at HS HG hsl
 have hp5 : S1.count 1 ≤ 50000 := Nat.le_trans List.count_le_length (by rw [hsl.1]; exact h5)
 have hm5 : S2.count 1 ≤ 50000 := Nat.le_trans List.count_le_length (by rw [hsl.2]; exact h5)
 obtain ⟨R, hR⟩ : ∃ R, R = dgF L := ⟨_, rfl⟩
 rw [← hR] at HG ⊢
 obtain ⟨f, hf⟩ : ∃ f, f = fxF L := ⟨_, rfl⟩
 rw [← hf] at HX HG hf5
 obtain ⟨cn, hcn⟩ : ∃ f, f = L.count 1 := ⟨_, rfl⟩
 rw [← hcn] at HCN HG hc5
 obtain ⟨n, hn⟩ : ∃ n, n = L.length := ⟨_, rfl⟩
 have HN : Hid _ := hn
 rw [← hn] at HX HS HG HFL HCN h5 ⊢
 clear h hD e1 hR hf hcn hn hsl hS
 go_enter Tryz.func141, Tryz.ntmps141
 go_wp2_with fail
 refine Calls.mono HX.out ?_
 rintro ev wz ⟨rfl, hz⟩
 rw [hz]
 clear hz wz HX
 by_cases hfn : f = n
 ·have z0 : ((f : Int) == (n : Int)) = true := by simp [hfn]
  go_wp2_with fail
  refine Calls.mono HS.out ?_
  rintro ev w2 ⟨u1, u2, rfl, hW1, hW2, hb2⟩
  have HC1 : Hid _ := count_any (l := 1) hW1
  have HC2 : Hid _ := count_any (l := 1) hW2
  have HC3 : Hid _ := HCN.out w2 hb2
  have HF2 : Hid _ := HFL.out w2 hb2
  have HB2 : Hid (Below w.heap.size w w2) := hb2
  have HWW : Hid (Wd w2 D u1 S1 ∧ Wd w2 D u2 S2) := ⟨hW1, hW2⟩
  have HL2 : Hid (S1.count 1 + S2.count 1 < cn → R = (S1, S2)) := fun e => by rw [HG.out, if_pos ⟨hfn, e⟩]
  have HL3 : Hid (¬ S1.count 1 + S2.count 1 < cn → R = (L, List.replicate n 0)) := fun e => by rw [HG.out, if_neg (fun q => e q.2)]
  obtain ⟨p1, hp1⟩ : ∃ p, p = S1.count 1 := ⟨_, rfl⟩
  obtain ⟨p2, hp2⟩ : ∃ p, p = S2.count 1 := ⟨_, rfl⟩
  rw [← hp1] at HC1 HL2 HL3 hp5
  rw [← hp2] at HC2 HL2 HL3 hm5
  clear hW1 hW2 hb2 HS HCN HFL hp1 hp2 HG
  go_wp2_with fail
  refine Calls.mono HC1.out ?_
  rintro ev wz ⟨rfl, hz⟩
  rw [hz]
  clear hz wz
  go_wp2_with fail
  refine Calls.mono HC2.out ?_
  rintro ev wz ⟨rfl, hz⟩
  rw [hz]
  clear hz wz
  go_wp2_with fail
  refine Calls.mono HC3.out ?_
  rintro ev wz ⟨rfl, hz⟩
  rw [hz]
  clear hz wz
  by_cases hlt : p1 + p2 < cn
  ·have hI : (p1 : Int) + (p2 : Int) < (cn : Int) := by omega
   have HR : Hid (R = (S1, S2)) := HL2.out hlt
   go_wp2_with fail
   go_ret2
   refine ⟨_, _, rfl, ?_, ?_, HB2.out⟩
   ·rw [HR.out]; exact HWW.out.1
   ·rw [HR.out]; exact HWW.out.2
  ·have hI : ¬ (p1 : Int) + (p2 : Int) < (cn : Int) := by omega
   have HR : Hid (R = (L, List.replicate n 0)) := HL3.out hlt
   go_wp2_with fail
   refine Calls.mono HF2.out ?_
   rintro ev w3 ⟨u3, rfl, hW3, hb3⟩
   have HF : Hid (Wd w3 D (.slice a n c) R.1 ∧ Wd w3 D u3 R.2 ∧ Below w.heap.size w w3) := by
    rw [HR.out]
    have hb : Below w.heap.size w w3 := HB2.out.trans (hb3.mono HB2.out.size)
    have := H.out.below hb
    rw [← HN.out] at this
    exact ⟨this, hW3, hb⟩
   clear hW3 hb3
   go_wp2_with fail
   go_ret2
   exact ⟨_, _, rfl, HF.out⟩
 ·have z0 : ((f : Int) == (n : Int)) = false := by
   have : ¬ (f : Int) = (n : Int) := by omega
   simp [this]
  have HR : Hid (R = (L, List.replicate n 0)) := by unfold Hid; rw [HG.out, if_neg (fun q => hfn q.1)]
  have HF2 : Hid _ := HFL.out w (Below.refl _ _)
  clear HG HS HCN HFL
  go_wp2_with fail
  refine Calls.mono HF2.out ?_
  rintro ev w3 ⟨u3, rfl, hW3, hb3⟩
  have HF : Hid (Wd w3 D (.slice a n c) R.1 ∧ Wd w3 D u3 R.2 ∧ Below w.heap.size w w3) := by
   rw [HR.out]
   have := H.out.below hb3
   rw [← HN.out] at this
   exact ⟨this, hW3, hb3⟩
  clear hW3 hb3
  go_wp2_with fail
  go_ret2
  exact ⟨_, _, rfl, HF.out⟩
end
section
variable {w : World} {F : Nat → Prop} {gs g mo : Nat} {s : Gz} {ua : Value} {A : List Int}
def repW (A : List Int) : Nat → List Int
 | 0 => []
 | k + 1 => repW A k ++ A
theorem repW_len : ∀ k, (repW A k).length = k * A.length
 | 0 => by simp [repW]
 | k + 1 => by rw [repW, List.length_append, repW_len k, Nat.succ_mul]
theorem Oks.repW (h : Oks s A) : ∀ k, Oks s (repW A k)
 | 0 => fun x hx => by cases hx
 | k + 1 => Oks.app (Oks.repW h k) h
theorem repetition_any {P : Nat} {Q : Int} (h : Gn w F gs g mo s) (hA : Wd w (FG F gs) ua A) (hl : P * A.length ≤ 50000) (hP : P ≤ 50000) :
  Calls Tryz.prog 80 #[.pointer (some ⟨gs, 0, none⟩), ua, .int .i64 (P : Int), .int .i64 Q] w (WG w F gs g mo (repW A P, s)) := by
 have H : Hid _ := h
 have HA : Hid _ := hA
 have HL : Hid _ := hl
 clear h hA hl
 go_enter Tryz.func80, Tryz.ntmps80
 go_wp2_with fail
 go_loopw [9, 11] (fun v i wr => ∃ k : Nat, k ≤ P ∧ i = .int .i64 (k : Int) ∧ Hid (Wd wr (FG F gs) v (repW A k) ∧ Below w.heap.size w wr)) (fun v i wr => P - (intOf i).toNat)
 case atStart => exact ⟨0, Nat.zero_le _, rfl, Wd.nil _ _, Below.refl _ _⟩
 case round =>
  obtain ⟨k, hk, rfl, hH⟩ := hrel
  have hb := hH.out.2
  by_cases hkn : k < P
  ·have hkI : (k : Int) < (P : Int) := by omega
   have hlen : (repW A k).length + A.length ≤ 50000 := by
    rw [repW_len]
    have h1 : (k + 1) * A.length ≤ P * A.length := Nat.mul_le_mul_right _ (by omega)
    have := HL.out
    rw [Nat.succ_mul] at h1
    omega
   have HE : Hid _ := below_any hH.out.1 (HA.out.below hb) (fun k hk => Nat.lt_of_lt_of_le (H.out.fd k hk) hb.size) hlen
   have HB : Hid (Below w.heap.size w wr) := hb
   obtain ⟨av, cv, rfl, -, -⟩ := hH.out.1.sl
   clear hlen hH hb
   go_wp2_with fail
   refine Calls.mono HE.out ?_
   rintro ev w2 ⟨u2, rfl, hW2, hb2⟩
   have HF : Hid (Wd w2 (FG F gs) u2 (repW A (k + 1)) ∧ Below w.heap.size w w2) := ⟨hW2, HB.out.trans (hb2.mono HB.out.size)⟩
   clear hW2 hb2 HE
   go_wp2_with fail
   exact ⟨⟨k + 1, by omega, by go_num, HF.out⟩, by simp [intOf]; omega⟩
  ·obtain rfl : k = P := by omega
   have hkI : ¬ (k : Int) < (k : Int) := by omega
   have HF : Hid (∃ F', Wd wr (FG F' gs) u9 (repW A k) ∧ Gn wr F' gs g mo s ∧ Ch w wr (FG F gs) (FG F' gs)) := ⟨F, hH.out.1, H.out.below hb, Ch.of_below _ hb⟩
   clear hH hb
   go_wp2_with fail
   go_ret
   exact ⟨_, rfl, HF.out⟩
end
end Go.Proofs.YtcahhahbcijkiaaGreat.Ag
