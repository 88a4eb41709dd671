import Derived.Test.YtejljdbkocnhlaaGreatMg15
import Derived.Test.YtejljdbkocnhlaaGreatMg17
import Derived.Deep.QuietTactic
import Derived.BigQuiet
import Derived.Test.YtejljdbkocnhlaaGreatMg11
import Derived.BigRegion
import Derived.Test.YtejljdbkocnhlaaGreatMg18
import Derived.Test.YtejljdbkocnhlaaGreatZ8
import Derived.Test.YtejljdbkocnhlaaGreatMg12
import Derived.Test.YtejljdbkocnhlaaGreatMg7
namespace Go.Proofs.YtejljdbkocnhlaaGreat
set_option maxHeartbeats 12800000
set_option maxRecDepth 100000
open Go.RowKit
set_option linter.unusedSimpArgs false
set_option linter.unusedVariables false
theorem rmk_3 {w : World} {B gB mo : Nat} {v : Value} {ns ns' : List Nd} {n : Nd} {id er : Int} (h : Rg w B gB v mo ns) (hv : Inv ns) (ho : Ok n) (hp : prt ns.length n = true) (hop1 : ¬ n.op = 1) (hop2 : ¬ n.op = 2) (hM : Mkd mo ns n id er ns') (hBw : B ≤ w.heap.size) :
  Calls Tryz.prog 25 #[.pointer (some ⟨gB, 0, none⟩), .agg #[.int .i64 n.op, .int .i64 n.s, .int .i64 n.a, .int .i64 n.b, .int .i64 n.c, .int .i64 n.p, .int .i64 n.q, .int .i64 n.w, .int .u64 n.lo, .int .u64 n.hi, .string n.nm]] w fun e w' => e = .returned (.tuple #[.int .i64 id, .int .i64 er]) ∧ ∃ v', Rg w' B gB v' mo ns' ∧ RChg w w' gB v ∧ (v'.ownBlock = v.ownBlock ∨ ∃ b, v'.ownBlock = some b ∧ w.heap.size ≤ b) := by
 have hlen := h.len
 have hg := h.lt
 have HG : Hid _ := h
 have HV : Hid _ := hv
 have HO : Hid _ := ho
 have HM : Hid _ := hM
 have HPR : Hid _ := hp
 obtain ⟨⟨K, hK3, hKa, hKq⟩, hpz, hpn⟩ := prt_parts hp
 have zA : (n.op == 1) = false := by simp [hop1]
 have yA : (n.op != 1) = true := by simp [hop1]
 have zC : (n.op == 2) = false := by simp [hop2]
 have yC : (n.op != 2) = true := by simp [hop2]
 have hpz' := hpz.resolve_left hop1
 have hnz : ∀ wx, (binOp .neq 34 (.agg #[.int .i64 n.w, .int .u64 n.lo, .int .u64 n.hi]) (.agg #[.int .i64 0, .int .u64 0, .int .u64 0])).run Tryz.prog wx = .ok (.bool false) wx := fun wx => by rw [neqz, hpz']; rfl
 have hnm := hpn.resolve_left hop2
 have hn0 := str_nil hnm
 have hn1 : (n.nm.toList == []) = true := by simp [hn0]
 have hn2 : n.nm.toList.isEmpty = true := by simp [hn0]
 have hn3 : (n.nm.toList != []) = false := by simp [hn0]
 clear hpz hpn hpz' hnm
 have HA : Hid (∀ wx, Calls Tryz.prog 32 #[.int .i64 n.op] wx fun e w' => e = .returned (.int .i64 (K : Int)) ∧ w' = wx) := fun wx => by rw [← hKa]; exact refarity_any _ wx
 have HKA : Hid _ := hKa
 have HKQ : Hid _ := hKq
 have hK0 : ¬ (K : Int) < 0 := by omega
 obtain ⟨t0, ht0, hz0, hz1, hz2⟩ := info_parts info3
 have HI0 : Hid (Tryz.prog.info? 3 = some t0 ∧ t0.zero = some (.int .i64 0) ∧ t0.size = 1 ∧ t0.bytes = 8) := ⟨ht0, hz0, hz1, hz2⟩
 have HB0 : Hid _ := Bx.made w n
 have HOP1 : Hid _ := hop1; have HOP2 : Hid _ := hop2
 clear h hv ho hM hp hKa hKq ht0 hz0 hz1 hz2 hop1 hop2
 go_enter Tryz.func25, Tryz.ntmps25
 go_wp2_with fail
 refine (HA.out _).mono ?_
 rintro e wz ⟨rfl, hw⟩
 rw [hw]
 clear hw wz
 go_wp2_with fail
 go_loopw [8, 9] (fun v8 i wr => ∃ j : Nat, j ≤ 3 ∧ i = .int .i64 (j : Int) ∧ Is' wr (w.heap.size + 2) v8 ((oss ns n).take j) ∧ Bx w wr n) (fun v8 i wr => 3 - (intOf i).toNat)
 case atStart => exact ⟨0, Nat.zero_le _, rfl, World.ownsRow_nil _ _ _ _, HB0.out⟩
 case round =>
  clear HB0
  obtain ⟨j, hj, rfl, hIs, hBx⟩ := hrel
  have HIS : Hid _ := hIs
  have HBX : Hid _ := hBx
  have hsz := hBx.size
  clear hIs hBx
  by_cases hj3 : j < 3
  ·have hj3' : (j : Int) < 3 := by omega
   have ck := HBX.out.kid j hj3
   have hq := HKQ.out j hj3
   have HGR : Hid _ := HG.out.below HBX.out.bel
   by_cases hjK : j < K
   ·obtain ⟨i, m, hi, he, hos⟩ := opn_node (ns := ns) HKA.out hK3 HPR.out j hjK
    rw [he] at ck
    have HAT : Hid _ := at_yes HGR.out hi
    have HOS : Hid _ := oss_one hos
    have HLN : Hid (((oss ns n).take j).length ≤ 3) := by unfold Hid; rw [List.length_take]; omega
    have x1 : (j : Int) < (K : Int) := by omega
    have x2 : ¬ (K : Int) ≤ (j : Int) := by omega
    clear hi he hos hq
    go_wp2_with fail
    refine Calls.mono HAT.out ?_
    rintro e w5 ⟨rfl, hb5⟩
    have HB5 : Hid _ := HBX.out.below hb5
    have HI5 : Hid (Is' w5 (w.heap.size + 2) u8 ((oss ns n).take j)) := row_kept HIS.out hb5.block
    have hsz5 : w.heap.size + 2 ≤ w5.heap.size := HB5.out.size
    have ck5 : w5.cell? ⟨w.heap.size + 1, j, none⟩ = some (.int .i64 ((i : Int) + 1)) := bel_cell hb5 (by omega) ck
    have hk5 : w.heap.size + 1 < w5.heap.size := by omega
    clear hb5 HIS HBX HAT ck
    go_wp2_with (at_builtin; refine wpList_append_own_at _ rfl _ _ 24 rfl (w.heap.size + 2) 3 t0 (.int .i64 0) 1 8 under45 HI0.out.1 HI0.out.2.1 HI0.out.2.2.1 HI0.out.2.2.2 rfl (by decide) _ _ _ rfl (row_kept (row_kept HI5.out (fun _ hq => heap_alloc_old _ _ hq)) (fun _ hq => heap_alloc_old _ _ hq)) _ 1 1 [.int .i64 m.s] rfl rfl (by intro j u hj; match j, hj with | 0, hj => simp at hj; subst hj; simp [Addr.add]) (ones [m.s]) (by have := HLN.out; unfold maxLen; omega) (by have := HLN.out; omega) (by rw [size_alloc', size_alloc']; omega) ?_; intro v1 w1 hown hgrow hnil hat)
    have hb1 : Below (w.heap.size + 2) w5 w1 := low_grown ((Below.refl _ _).alloc hsz5 _) (by rw [size_alloc']; omega) hgrow (fun q hq => (HI5.out.lt q hq).1)
    have HB1 : Hid _ := HB5.out.low hb1
    have HI1 : Hid (Is' w1 (w.heap.size + 2) v1 ((oss ns n).take (j + 1))) := by
     unfold Hid Is'
     rw [HOS.out, List.map_append, List.length_append]
     exact hown
    clear hown hgrow hnil hat HI5 HB5 hb1
    go_wp2_with fail
    exact ⟨⟨j + 1, by omega, by go_num, HI1.out, HB1.out⟩, by simp [intOf]; omega⟩
   ·have hq0 : opn n j = 0 := by
     rw [opB, if_neg (by omega)] at hq
     exact of_decide_eq_true hq
    rw [hq0] at ck
    have HAT : Hid _ := at_no HGR.out (i := 0) (by simp [hasB])
    have HOS : Hid _ := oss_none (ns := ns) HKA.out hK3 (show K ≤ j by omega)
    have x1 : ¬ (j : Int) < (K : Int) := by omega
    have x2 : (K : Int) ≤ (j : Int) := by omega
    clear hq hq0
    go_wp2_with fail
    refine Calls.mono HAT.out ?_
    rintro e w5 ⟨rfl, hb5⟩
    have hb6 := hb5.alloc hb5.size (.cells #[.int .i64 0, .int .i64 0, .int .i64 0, .int .i64 0, .int .i64 0, .int .i64 0, .int .i64 0, .int .i64 0, .int .u64 0, .int .u64 0, .string ⟨#[]⟩] 53)
    have HB6 : Hid _ := HBX.out.below hb6
    have HI6 : Hid (Is' _ (w.heap.size + 2) u8 ((oss ns n).take j)) := row_kept HIS.out hb6.block
    have ck5 : w5.cell? ⟨w.heap.size + 1, j, none⟩ = some (.int .i64 0) := bel_cell hb5 (by omega) ck
    have hk5 : w.heap.size + 1 < w5.heap.size := by have := hb5.size; omega
    clear hb5 hb6 HIS HBX HAT ck
    go_wp2_with fail
    exact ⟨⟨j + 1, by omega, by go_num, by rw [HOS.out]; exact HI6.out, HB6.out⟩, by simp [intOf]; omega⟩
  ·obtain rfl : j = 3 := by omega
   rw [show ((3 : Nat) : Int) = 3 from rfl]
   have hB := HBX.out.bel
   have hb0 : w.heap.size < wr.heap.size := by omega
   have HGR : Hid _ := HG.out.below hB
   have hl3 : (oss ns n).length = K := oss_len HKA.out hK3
   have hK1 : 1 ≤ K := by
    apply Classical.byContradiction
    intro hc
    have hk : ari n.op = 0 := by rw [HKA.out]; omega
    have ho : n.op = 1 ∨ n.op = 2 := by unfold ari at hk; repeat' split at hk <;> omega
    rcases ho with h | h
    ·exact HOP1.out h
    ·exact HOP2.out h
   have hI3 : Is' wr (w.heap.size + 2) u8 (oss ns n) := by
    have h := HIS.out
    rw [List.take_of_length_le (by omega)] at h
    exact h
   obtain ⟨r1, cap1, rfl, hr1, hcap1, hLi⟩ := hI3.li (fun e => by rw [e] at hl3; simp at hl3; omega)
   have HSO0 := refsort_any (op := n.op) (p := n.p) (q := n.q) (c := cap1) hLi (by omega)
   obtain ⟨E, hE⟩ : ∃ E, E = srtF n.op n.p n.q (oss ns n) := ⟨_, rfl⟩
   rw [← hE] at HSO0
   have HSO : Hid _ := HSO0
   have HSR : Hid (srtOf ns n = (E.1, E.2)) := by
    unfold Hid srtOf
    rw [if_neg (by rw [HPR.out]; decide), if_neg HOP1.out, if_neg HOP2.out, hE]
   rw [hl3] at HSO ⊢
   clear HSO0 hE hI3 hLi hcap1 hl3 hK1 hr1
   have k0 : wr.cell? ⟨w.heap.size, 0, none⟩ = some (.int .i64 n.op) := cell_of HBX.out.box 0 rfl
   have k1 : wr.cell? ⟨w.heap.size, 1, none⟩ = some (.int .i64 n.s) := cell_of HBX.out.box 1 rfl
   have k2 : wr.cell? ⟨w.heap.size, 2, none⟩ = some (.int .i64 n.a) := cell_of HBX.out.box 2 rfl
   have k3 : wr.cell? ⟨w.heap.size, 3, none⟩ = some (.int .i64 n.b) := cell_of HBX.out.box 3 rfl
   have k4 : wr.cell? ⟨w.heap.size, 4, none⟩ = some (.int .i64 n.c) := cell_of HBX.out.box 4 rfl
   have k5 : wr.cell? ⟨w.heap.size, 5, none⟩ = some (.int .i64 n.p) := cell_of HBX.out.box 5 rfl
   have k6 : wr.cell? ⟨w.heap.size, 6, none⟩ = some (.int .i64 n.q) := cell_of HBX.out.box 6 rfl
   have k7 : wr.cell? ⟨w.heap.size, 7, none⟩ = some (.int .i64 n.w) := cell_of HBX.out.box 7 rfl
   have k8 : wr.cell? ⟨w.heap.size, 8, none⟩ = some (.int .u64 n.lo) := cell_of HBX.out.box 8 rfl
   have k9 : wr.cell? ⟨w.heap.size, 9, none⟩ = some (.int .u64 n.hi) := cell_of HBX.out.box 9 rfl
   have k10 : wr.cell? ⟨w.heap.size, 10, none⟩ = some (.string n.nm) := cell_of HBX.out.box 10 rfl
   by_cases hez : E.2 = 0
   ·have hs : srtOf ns n = (E.1, 0) := by rw [HSR.out, hez]
    have q1 : (E.2 != 0) = false := by simp [hez]
    clear hez HSR
    obtain ⟨E1, E2⟩ := E
    dsimp only at hs q1 HSO
    go_wp2_with fail
    refine Calls.mono HSO.out ?_
    rintro e w6 ⟨rfl, hb6⟩
    have hB6 : Below w.heap.size w w6 := hB.trans (hb6.mono hB.size)
    have hbox : w6.heap[w.heap.size]? = some (.cells n.cs.toArray 53) := (hb6.block _ hb0).trans HBX.out.box
    have e1 : w6.cell? ⟨w.heap.size, 1, none⟩ = some (.int .i64 n.s) := bel_cell hb6 hb0 k1
    have f1 : w6.frozen? ⟨w.heap.size, 1, none⟩ = false := by simp [World.frozen?, hbox]
    have HBO : Hid _ := hbox
    clear hbox hb6
    go_wp2_with fail
    generalize hwT : w6.setCell ⟨w.heap.size, 1, none⟩ (.int .i64 E1) = wT
    have hBT : Below w.heap.size w wT := by rw [← hwT]; exact hB6.setCell (Nat.le_refl _) _
    obtain ⟨n', hn'⟩ : ∃ n', n' = n.wi E1 := ⟨_, rfl⟩
    have HBT : Hid (wT.heap[w.heap.size]? = some (.cells n'.cs.toArray 53)) := by
     unfold Hid
     rw [← hwT, hn', heap_setCell_same _ _ _ _ _ _ HBO.out]
     rfl
    clear k0 k1 k2 k3 k4 k5 k6 k7 k8 k9 k10 HIS HBX HGR hwT e1 f1 HBO hB6
    obtain ⟨N, hN⟩ : ∃ N, N = ns.length := ⟨_, rfl⟩
    have HNN : Hid _ := hN
    have HDUP : Hid _ := HV.out.once
    obtain ⟨ad, cap, hvs⟩ := HG.out.sl
    have c0T : wT.cell? ⟨gB, 0, none⟩ = some v := bel_cell hBT hg HG.out.c0
    have cmT : wT.cell? ⟨gB, 1, none⟩ = some (.int .i64 (mo : Int)) := bel_cell hBT hg HG.out.c1
    have hgT : gB < wT.heap.size := Nat.lt_of_lt_of_le hg hBT.size
    have hb0T : w.heap.size < wT.heap.size := (Array.getElem?_eq_some_iff.1 HBT.out).1
    have hmo := HG.out.most
    have hmx := HG.out.room
    have HG0 : Hid _ := HG.out
    rw [hvs, ← hN] at c0T
    have C0T : Hid _ := c0T
    have CMT : Hid _ := cmT
    rw [← hN] at hmx hlen
    have HMO := HM.out.of_ok hs
    rw [← hn'] at HMO
    clear hs hN cmT c0T
    rcases HMO with ⟨i0, hi0, rfl, rfl, rfl⟩ | ⟨hno, hfin⟩
    ·have hi0l : i0 < N := by rw [HNN.out]; exact (List.getElem?_eq_some_iff.1 hi0).1
     have HI00 : Hid _ := hi0
     have HVS : Hid _ := hvs
     clear hi0 hn' hvs
     go_wp2_with fail
     go_loopw [16] (fun i wx => ∃ k : Nat, k ≤ i0 ∧ i = .int .i64 (k : Int) ∧ Below wT.heap.size wT wx) (fun i wx => N - (intOf i).toNat)
     case atStart => exact ⟨0, Nat.zero_le _, rfl, Below.refl _ _⟩
     case round =>
      obtain ⟨k, hk, rfl, hbk⟩ := hrel
      have hltk : k < N := by omega
      have c0 : wr.cell? ⟨gB, 0, none⟩ = some (.slice ad N cap) := bel_cell hbk hgT C0T.out
      have HGV : Hid _ := HG.out
      rw [HVS.out] at HGV
      obtain ⟨x, hx⟩ : ∃ x, ns[k]? = some x := ⟨_, List.getElem?_eq_getElem (by rw [← HNN.out]; exact hltk)⟩
      obtain ⟨r, cap', hvv, hBr, hrl, hc⟩ := row_all HGV.out.row (by rw [← HNN.out]; omega)
      obtain ⟨rfl, -, rfl⟩ : ad = some ⟨r, 0, none⟩ ∧ True ∧ cap = cap' := by simpa using hvv
      have d0 : wr.cell? ⟨r, k * 11, none⟩ = some (.int .i64 x.op) := bel_cell hbk (Nat.lt_of_lt_of_le hrl hBT.size) (bel_cell hBT hrl (hc k x hx 0 _ rfl))
      have d1 : wr.cell? ⟨r, k * 11 + 1, none⟩ = some (.int .i64 x.s) := bel_cell hbk (Nat.lt_of_lt_of_le hrl hBT.size) (bel_cell hBT hrl (hc k x hx 1 _ rfl))
      have d2 : wr.cell? ⟨r, k * 11 + 2, none⟩ = some (.int .i64 x.a) := bel_cell hbk (Nat.lt_of_lt_of_le hrl hBT.size) (bel_cell hBT hrl (hc k x hx 2 _ rfl))
      have d3 : wr.cell? ⟨r, k * 11 + 3, none⟩ = some (.int .i64 x.b) := bel_cell hbk (Nat.lt_of_lt_of_le hrl hBT.size) (bel_cell hBT hrl (hc k x hx 3 _ rfl))
      have d4 : wr.cell? ⟨r, k * 11 + 4, none⟩ = some (.int .i64 x.c) := bel_cell hbk (Nat.lt_of_lt_of_le hrl hBT.size) (bel_cell hBT hrl (hc k x hx 4 _ rfl))
      have d5 : wr.cell? ⟨r, k * 11 + 5, none⟩ = some (.int .i64 x.p) := bel_cell hbk (Nat.lt_of_lt_of_le hrl hBT.size) (bel_cell hBT hrl (hc k x hx 5 _ rfl))
      have d6 : wr.cell? ⟨r, k * 11 + 6, none⟩ = some (.int .i64 x.q) := bel_cell hbk (Nat.lt_of_lt_of_le hrl hBT.size) (bel_cell hBT hrl (hc k x hx 6 _ rfl))
      have d7 : wr.cell? ⟨r, k * 11 + 7, none⟩ = some (.int .i64 x.w) := bel_cell hbk (Nat.lt_of_lt_of_le hrl hBT.size) (bel_cell hBT hrl (hc k x hx 7 _ rfl))
      have d8 : wr.cell? ⟨r, k * 11 + 8, none⟩ = some (.int .u64 x.lo) := bel_cell hbk (Nat.lt_of_lt_of_le hrl hBT.size) (bel_cell hBT hrl (hc k x hx 8 _ rfl))
      have d9 : wr.cell? ⟨r, k * 11 + 9, none⟩ = some (.int .u64 x.hi) := bel_cell hbk (Nat.lt_of_lt_of_le hrl hBT.size) (bel_cell hBT hrl (hc k x hx 9 _ rfl))
      have d10 : wr.cell? ⟨r, k * 11 + 10, none⟩ = some (.string x.nm) := bel_cell hbk (Nat.lt_of_lt_of_le hrl hBT.size) (bel_cell hBT hrl (hc k x hx 10 _ rfl))
      have b0 : wr.cell? ⟨w.heap.size, 0, none⟩ = some (.int .i64 n'.op) := bel_cell hbk hb0T (cell_of HBT.out 0 rfl)
      have b1 : wr.cell? ⟨w.heap.size, 1, none⟩ = some (.int .i64 n'.s) := bel_cell hbk hb0T (cell_of HBT.out 1 rfl)
      have b2 : wr.cell? ⟨w.heap.size, 2, none⟩ = some (.int .i64 n'.a) := bel_cell hbk hb0T (cell_of HBT.out 2 rfl)
      have b3 : wr.cell? ⟨w.heap.size, 3, none⟩ = some (.int .i64 n'.b) := bel_cell hbk hb0T (cell_of HBT.out 3 rfl)
      have b4 : wr.cell? ⟨w.heap.size, 4, none⟩ = some (.int .i64 n'.c) := bel_cell hbk hb0T (cell_of HBT.out 4 rfl)
      have b5 : wr.cell? ⟨w.heap.size, 5, none⟩ = some (.int .i64 n'.p) := bel_cell hbk hb0T (cell_of HBT.out 5 rfl)
      have b6 : wr.cell? ⟨w.heap.size, 6, none⟩ = some (.int .i64 n'.q) := bel_cell hbk hb0T (cell_of HBT.out 6 rfl)
      have b7 : wr.cell? ⟨w.heap.size, 7, none⟩ = some (.int .i64 n'.w) := bel_cell hbk hb0T (cell_of HBT.out 7 rfl)
      have b8 : wr.cell? ⟨w.heap.size, 8, none⟩ = some (.int .u64 n'.lo) := bel_cell hbk hb0T (cell_of HBT.out 8 rfl)
      have b9 : wr.cell? ⟨w.heap.size, 9, none⟩ = some (.int .u64 n'.hi) := bel_cell hbk hb0T (cell_of HBT.out 9 rfl)
      have b10 : wr.cell? ⟨w.heap.size, 10, none⟩ = some (.string n'.nm) := bel_cell hbk hb0T (cell_of HBT.out 10 rfl)
      have k1 : (k : Int) < (N : Int) := by omega
      by_cases e : k = i0
      ·subst e
       have hxn : x = n' := Option.some.inj (hx.symm.trans HI00.out)
       subst hxn
       have hcmp := same_nd x
       clear hx hc hvv
       go_wp2_with fail
       go_quiet (fail)
       go_wp2_with fail
       refine bodyPost_ret (v := .tuple #[.int .i64 ((k : Int) + 1), .int .i64 0]) (by simp [results, Tryz.results25, go_sem]) rfl ?_
       exact ⟨rfl, _, HG0.out.below (hBT.trans (below_drewN (hbk.mono hBT.size) _)), RChg.of (hBT.trans (below_drewN (hbk.mono hBT.size) _)), Or.inl rfl⟩
      ·have hxn : x ≠ n' := fun e2 => by
        obtain ⟨h1, e1⟩ := List.getElem?_eq_some_iff.1 hx
        obtain ⟨h2, e3⟩ := List.getElem?_eq_some_iff.1 HI00.out
        exact List.pairwise_iff_getElem.1 HDUP.out k i0 h1 h2 (by omega) (by rw [e1, e3, e2])
       have hcmp := ne_nd hxn
       clear hx hc hvv
       go_wp2_with fail
       go_quiet (fail)
       go_wp2_with fail
       exact ⟨⟨k + 1, by omega, by go_num, below_drewN hbk _⟩, by simp [intOf]; omega⟩
    ·have HNO : Hid _ := hno
     have HVS : Hid _ := hvs
     clear hno hn' hvs
     go_wp2_with fail
     go_loopw [16] (fun i wx => ∃ k : Nat, k ≤ N ∧ i = .int .i64 (k : Int) ∧ Below wT.heap.size wT wx) (fun i wx => N - (intOf i).toNat)
     case atStart => exact ⟨0, Nat.zero_le _, rfl, Below.refl _ _⟩
     case round =>
      obtain ⟨k, hk, rfl, hbk⟩ := hrel
      have c0 : wr.cell? ⟨gB, 0, none⟩ = some (.slice ad N cap) := bel_cell hbk hgT C0T.out
      have HGV : Hid _ := HG.out
      rw [HVS.out] at HGV
      by_cases hltk : k < N
      ·skip
       obtain ⟨x, hx⟩ : ∃ x, ns[k]? = some x := ⟨_, List.getElem?_eq_getElem (by rw [← HNN.out]; exact hltk)⟩
       obtain ⟨r, cap', hvv, hBr, hrl, hc⟩ := row_all HGV.out.row (by rw [← HNN.out]; omega)
       obtain ⟨rfl, -, rfl⟩ : ad = some ⟨r, 0, none⟩ ∧ True ∧ cap = cap' := by simpa using hvv
       have d0 : wr.cell? ⟨r, k * 11, none⟩ = some (.int .i64 x.op) := bel_cell hbk (Nat.lt_of_lt_of_le hrl hBT.size) (bel_cell hBT hrl (hc k x hx 0 _ rfl))
       have d1 : wr.cell? ⟨r, k * 11 + 1, none⟩ = some (.int .i64 x.s) := bel_cell hbk (Nat.lt_of_lt_of_le hrl hBT.size) (bel_cell hBT hrl (hc k x hx 1 _ rfl))
       have d2 : wr.cell? ⟨r, k * 11 + 2, none⟩ = some (.int .i64 x.a) := bel_cell hbk (Nat.lt_of_lt_of_le hrl hBT.size) (bel_cell hBT hrl (hc k x hx 2 _ rfl))
       have d3 : wr.cell? ⟨r, k * 11 + 3, none⟩ = some (.int .i64 x.b) := bel_cell hbk (Nat.lt_of_lt_of_le hrl hBT.size) (bel_cell hBT hrl (hc k x hx 3 _ rfl))
       have d4 : wr.cell? ⟨r, k * 11 + 4, none⟩ = some (.int .i64 x.c) := bel_cell hbk (Nat.lt_of_lt_of_le hrl hBT.size) (bel_cell hBT hrl (hc k x hx 4 _ rfl))
       have d5 : wr.cell? ⟨r, k * 11 + 5, none⟩ = some (.int .i64 x.p) := bel_cell hbk (Nat.lt_of_lt_of_le hrl hBT.size) (bel_cell hBT hrl (hc k x hx 5 _ rfl))
       have d6 : wr.cell? ⟨r, k * 11 + 6, none⟩ = some (.int .i64 x.q) := bel_cell hbk (Nat.lt_of_lt_of_le hrl hBT.size) (bel_cell hBT hrl (hc k x hx 6 _ rfl))
       have d7 : wr.cell? ⟨r, k * 11 + 7, none⟩ = some (.int .i64 x.w) := bel_cell hbk (Nat.lt_of_lt_of_le hrl hBT.size) (bel_cell hBT hrl (hc k x hx 7 _ rfl))
       have d8 : wr.cell? ⟨r, k * 11 + 8, none⟩ = some (.int .u64 x.lo) := bel_cell hbk (Nat.lt_of_lt_of_le hrl hBT.size) (bel_cell hBT hrl (hc k x hx 8 _ rfl))
       have d9 : wr.cell? ⟨r, k * 11 + 9, none⟩ = some (.int .u64 x.hi) := bel_cell hbk (Nat.lt_of_lt_of_le hrl hBT.size) (bel_cell hBT hrl (hc k x hx 9 _ rfl))
       have d10 : wr.cell? ⟨r, k * 11 + 10, none⟩ = some (.string x.nm) := bel_cell hbk (Nat.lt_of_lt_of_le hrl hBT.size) (bel_cell hBT hrl (hc k x hx 10 _ rfl))
       have b0 : wr.cell? ⟨w.heap.size, 0, none⟩ = some (.int .i64 n'.op) := bel_cell hbk hb0T (cell_of HBT.out 0 rfl)
       have b1 : wr.cell? ⟨w.heap.size, 1, none⟩ = some (.int .i64 n'.s) := bel_cell hbk hb0T (cell_of HBT.out 1 rfl)
       have b2 : wr.cell? ⟨w.heap.size, 2, none⟩ = some (.int .i64 n'.a) := bel_cell hbk hb0T (cell_of HBT.out 2 rfl)
       have b3 : wr.cell? ⟨w.heap.size, 3, none⟩ = some (.int .i64 n'.b) := bel_cell hbk hb0T (cell_of HBT.out 3 rfl)
       have b4 : wr.cell? ⟨w.heap.size, 4, none⟩ = some (.int .i64 n'.c) := bel_cell hbk hb0T (cell_of HBT.out 4 rfl)
       have b5 : wr.cell? ⟨w.heap.size, 5, none⟩ = some (.int .i64 n'.p) := bel_cell hbk hb0T (cell_of HBT.out 5 rfl)
       have b6 : wr.cell? ⟨w.heap.size, 6, none⟩ = some (.int .i64 n'.q) := bel_cell hbk hb0T (cell_of HBT.out 6 rfl)
       have b7 : wr.cell? ⟨w.heap.size, 7, none⟩ = some (.int .i64 n'.w) := bel_cell hbk hb0T (cell_of HBT.out 7 rfl)
       have b8 : wr.cell? ⟨w.heap.size, 8, none⟩ = some (.int .u64 n'.lo) := bel_cell hbk hb0T (cell_of HBT.out 8 rfl)
       have b9 : wr.cell? ⟨w.heap.size, 9, none⟩ = some (.int .u64 n'.hi) := bel_cell hbk hb0T (cell_of HBT.out 9 rfl)
       have b10 : wr.cell? ⟨w.heap.size, 10, none⟩ = some (.string n'.nm) := bel_cell hbk hb0T (cell_of HBT.out 10 rfl)
       have k1 : (k : Int) < (N : Int) := by omega
       have hxn : x ≠ n' := fun e2 => HNO.out (by rw [← e2]; exact List.mem_of_getElem? hx)
       have hcmp := ne_nd hxn
       clear hx hc hvv
       go_wp2_with fail
       go_quiet (fail)
       go_wp2_with fail
       exact ⟨⟨k + 1, by omega, by go_num, below_drewN hbk _⟩, by simp [intOf]; omega⟩
      ·obtain rfl : k = N := by omega
       have k1 : ¬ (k : Int) < (k : Int) := by omega
       have cm : wr.cell? ⟨gB, 1, none⟩ = some (.int .i64 (mo : Int)) := bel_cell hbk hgT CMT.out
       rcases hfin with ⟨hl, rfl, rfl, rfl⟩ | ⟨hl, rfl, rfl, rfl⟩
       ·rw [← HNN.out] at hl
        have y1 : (mo : Int) ≤ (k : Int) := by omega
        clear hl
        go_wp2_with fail
        go_quiet (fail)
        go_wp2_with fail
        refine bodyPost_ret (v := .tuple #[.int .i64 0, .int .i64 33]) (by simp [results, Tryz.results25, go_sem]) rfl ?_
        exact ⟨rfl, _, HG0.out.below (hBT.trans (below_drewN (hbk.mono hBT.size) _)), RChg.of (hBT.trans (below_drewN (hbk.mono hBT.size) _)), Or.inl rfl⟩
       ·rw [← HNN.out] at hl
        have y1 : ¬ (mo : Int) ≤ (k : Int) := by omega
        have HLL : Hid _ := hl
        clear hl
        go_wp2_with fail
        go_quiet (fail)
        go_wp2_with fail
        obtain ⟨wU, hwU⟩ : ∃ wU, wU = wr.drewN nq := ⟨_, rfl⟩
        have hBU : Below w.heap.size w wU := by rw [hwU]; exact hBT.trans (below_drewN (hbk.mono hBT.size) _)
        have hTU : Below wT.heap.size wT wU := by rw [hwU]; exact below_drewN hbk _
        rw [← hwU]
        clear hwU
        have hgU : gB < wU.heap.size := Nat.lt_of_lt_of_le hg hBU.size
        have HHD : Hid (wU.heap[gB]? = some (.cells #[v, .int .i64 (mo : Int)] 31)) := (hBU.block gB hg).trans HG.out.hd
        have HBB : Hid (wU.heap[w.heap.size]? = some (.cells n'.cs.toArray 53)) := (hTU.block _ hb0T).trans HBT.out
        have HBN : Hid (some w.heap.size ≠ v.ownBlock ∧ w.heap.size ≠ gB) := ⟨fun e => by have := (HG.out.row.lt _ e.symm).2; omega, by omega⟩
        have HW : Hid (wU.ownsRow B 53 11 v ns.length (ns.flatMap Nd.cs)) := (HG.out.below hBU).row
        have HNE : Hid _ := HG.out.far
        have HBV : Hid (∀ k, v.ownBlock = some k → k < wU.heap.size) := fun k hk => Nat.lt_of_lt_of_le (HG.out.row.lt k hk).2 hBU.size
        have hlen2 : ns.length ≤ 4096 := by rw [← HNN.out]; exact hlen
        have hBwU : B ≤ wU.heap.size := Nat.le_trans hBw hBU.size
        obtain ⟨t36, ht0, hz0, hz1, hz2⟩ := info_parts info36
        have HI36 : Hid _ := (⟨ht0, hz0, hz1, hz2⟩ : Tryz.prog.info? 53 = some t36 ∧ t36.zero = _ ∧ t36.size = 11 ∧ t36.bytes = 96)
        clear ht0 hz0 hz1 hz2 c0 cm k1 y1
        refine wp_named fun a0 ha0 => ?_
        have o0 := old_at ha0 (t := 0) rfl
        have o3 := old_at ha0 (t := 3) rfl
        refine wp_region_lin (S := RSt wU B gB v mo ns n') [6, 7] (fun _ => 0) (by kernel_rfl) (by kernel_rfl) (by rw [← ha0]; kernel_rfl) ?_ ?_
        ·exact ⟨(fun e => by cases e), (fun e => by cases e), Nat.le_refl _, rfl, rfl, rfl, (fun k hk _ _ => rfl), (fun e => by cases e), (fun e => by cases e), (fun e => by cases e)⟩
        refine' LinAll.cons _ ?_ ?_ ?_
        rotate_left 1
        ·intro g L a x hLi haft hS hK; have t0 := (hK.old 0 (by kernel_rfl)).trans o0; refine go_in (wanted_all rfl) ?_; intro K hk; clear haft hK hLi; go_simp; exact hk.out g x (fun _ _ => rfl) (hS.go rfl)
        ·intro i hi; exact Or.inl (fun _ _ _ => rfl)
        refine' LinAll.cons _ ?_ ?_ ?_
        rotate_left 1
        ·intro g L a x hLi haft hS hK; have t0 := (hK.old 0 (by kernel_rfl)).trans o0; refine go_in (wanted_all rfl) ?_; intro K hk; clear haft hK hLi; go_simp; exact hk.out g x (fun _ _ => rfl) (hS.go rfl)
        ·intro i hi; exact Or.inl (fun _ _ _ => rfl)
        refine' LinAll.cons _ ?_ ?_ ?_
        rotate_left 1
        ·intro g L a x hLi haft hS hK; have t7 := hK.nw haft 1 0 206 rfl (by kernel_rfl); (try dsimp only at t7); refine go_in (wanted_all rfl) ?_; intro K hk; clear haft hK hLi; go_simp; exact hk.out g x (fun _ _ => rfl) (hS.go rfl)
        ·intro i hi; exact Or.inl (fun _ _ _ => rfl)
        refine' LinAll.cons _ ?_ ?_ ?_
        rotate_left 1
        ·intro g L a x hLi haft hS hK; have t8 := hK.nw haft 2 0 207 rfl (by kernel_rfl); (try dsimp only at t8); refine go_in (wanted_all rfl) ?_; intro K hk; clear haft hK hLi; go_simp; exact hk.out g x (fun _ _ => rfl) (hS.go rfl)
        ·intro i hi; exact Or.inl (fun _ _ _ => rfl)
        refine' LinAll.cons _ ?_ ?_ ?_
        rotate_left 1
        ·intro g L a x hLi haft hS hK; have t9 := hK.nw haft 3 0 208 rfl (by kernel_rfl); (try dsimp only at t9)
         have h7 : L 7 = false := by
          cases e : L 7
          ·rfl
          ·rw [(hS.d7 e).1] at hLi; cases hLi
         have h10 := hS.no10 h7
         have c1 : x.cell? ⟨gB, 0, none⟩ = some v := cell_of ((hS.kp gB hgU (fun e => by rw [h7] at e; cases e) (fun e => by rw [h10] at e; cases e)).trans HHD.out) 0 rfl
         clear h7 h10
         refine go_in (wanted_all rfl) ?_; intro K hk; clear haft hK hLi; go_simp; exact hk.out g x (fun _ _ => rfl) (hS.go rfl)
        ·intro i hi; exact Or.inl (fun _ _ _ => rfl)
        refine' LinAll.cons _ ?_ ?_ ?_
        rotate_left 1
        ·intro g L a x hLi haft hS hK; have t3 := (hK.old 3 (by kernel_rfl)).trans o3; have hbx := hS.old HBB.out (Array.getElem?_eq_some_iff.1 HBB.out).1 HBN.out.1 HBN.out.2; have c0 : x.cell? ⟨w.heap.size, 0, none⟩ = some (.int .i64 n'.op) := cell_of hbx 0 rfl; have c1 : x.cell? ⟨w.heap.size, 1, none⟩ = some (.int .i64 n'.s) := cell_of hbx 1 rfl; have c2 : x.cell? ⟨w.heap.size, 2, none⟩ = some (.int .i64 n'.a) := cell_of hbx 2 rfl; have c3 : x.cell? ⟨w.heap.size, 3, none⟩ = some (.int .i64 n'.b) := cell_of hbx 3 rfl; have c4 : x.cell? ⟨w.heap.size, 4, none⟩ = some (.int .i64 n'.c) := cell_of hbx 4 rfl; have c5 : x.cell? ⟨w.heap.size, 5, none⟩ = some (.int .i64 n'.p) := cell_of hbx 5 rfl; have c6 : x.cell? ⟨w.heap.size, 6, none⟩ = some (.int .i64 n'.q) := cell_of hbx 6 rfl; have c7 : x.cell? ⟨w.heap.size, 7, none⟩ = some (.int .i64 n'.w) := cell_of hbx 7 rfl; have c8 : x.cell? ⟨w.heap.size, 8, none⟩ = some (.int .u64 n'.lo) := cell_of hbx 8 rfl; have c9 : x.cell? ⟨w.heap.size, 9, none⟩ = some (.int .u64 n'.hi) := cell_of hbx 9 rfl; have c10 : x.cell? ⟨w.heap.size, 10, none⟩ = some (.string n'.nm) := cell_of hbx 10 rfl; clear hbx; refine go_in (wanted_all rfl) ?_; intro K hk; clear haft hK hLi; go_simp; exact hk.out g x (fun _ _ => rfl) (hS.go rfl)
        ·intro i hi; exact Or.inl (fun _ _ _ => rfl)
        refine LinAll.cons (fun g => .slice (some ⟨g 6, 0, none⟩) 1 1) ?_ ?_ ?_
        ·intro g L a x hLi haft hS hK; have t11 := hK.nw haft 5 0 210 rfl (by kernel_rfl); (try dsimp only at t11); refine go_in (wanted_all rfl) ?_; intro K hk; clear haft hK; go_simp
         have hq := hk.out (updG g 6 x.heap.size) _ (updG_al (by rfl)) (hS.built hLi)
         dsimp only at hq; rw [updG_eq] at hq; exact hq
        ·intro i hi; simp only [List.mem_cons, List.not_mem_nil, or_false] at hi; rcases hi with rfl | rfl; exact Or.inr (by kernel_rfl); exact Or.inl (fun g g' h => by simp only [h 6 (by decide)])
        refine LinAll.cons (fun g => sl (ns.length + 1) (g 7)) ?_ ?_ ?_
        ·intro g L a x hLi haft hS hK
         have hL4 := waits haft 4 (by kernel_rfl)
         have hL6 := waits haft 6 (by kernel_rfl)
         have t10 := hK.new 4 2 _ 209 _ rfl rfl rfl (by kernel_rfl) hL4
         have t12 := hK.new 6 0 _ 211 _ rfl rfl rfl (by kernel_rfl) hL6
         (try dsimp only at t10 t12)
         have h10 := hS.no10 hLi
         have hrow : x.ownsRow B 53 11 v ns.length (ns.flatMap Nd.cs) := row_kept HW.out (fun k hk => hS.kp k hk (fun e => by rw [hLi] at e; cases e) (fun e => by rw [h10] at e; cases e))
         have hb6 := hS.s6 hL6 hLi
         refine go_in (wanted_all rfl) ?_
         intro K hk
         refine wp_append_at _ (.tmp 209) (.tmp 211) 22 rfl B 53 t36 _ 11 96 under22 HI36.out.1 HI36.out.2.1 HI36.out.2.2.1 HI36.out.2.2.2 rfl (by decide) v ns.length _ (eval_tmp t10) hrow ⟨g 6, 0, none⟩ 1 1 n'.cs (eval_tmp t12) rfl (fun j u hj => by
          have e : (⟨g 6, 0, none⟩ : Addr).add j = ⟨g 6, j, none⟩ := by simp [Addr.add]; try (intro hq; exact hq.symm)
          rw [e]; exact cell_of hb6 j (by simpa using hj)) (one_cs n') (by unfold maxLen; omega) (by omega) (by have := hS.sz; omega) ?_
         intro v' y hown hgrow hat
         obtain ⟨p, rfl⟩ := sl_own hown (by omega)
         have hown' : y.ownsRow B 53 11 (sl (ns.length + 1) p) (ns.length + 1) ((ns ++ [n']).flatMap Nd.cs) := by rw [List.flatMap_append]; simpa using hown
         have hq := hk.out (updG g 7 p) y (updG_al (by rfl)) (hS.app hL4 hL6 hLi HBV.out hgrow hown' hat)
         dsimp only at hq; rw [updG_eq] at hq; exact hq
        ·intro i hi; simp only [List.mem_cons, List.not_mem_nil, or_false] at hi; rcases hi with rfl | rfl; exact Or.inl (fun g g' h => by simp only [h 7 (by decide)]); exact Or.inr (by kernel_rfl)
        refine' LinAll.cons _ ?_ ?_ ?_
        rotate_left 1
        ·intro g L a x hLi haft hS hK; have t6 := hK.nw haft 0 7 205 rfl (by kernel_rfl); (try dsimp only at t6); refine go_in (wanted_all rfl) ?_; intro K hk; clear haft hK hLi; go_simp; exact hk.out g x (fun _ _ => rfl) (hS.go rfl)
        ·intro i hi; exact Or.inl (fun _ _ _ => rfl)
        refine' LinAll.cons _ ?_ ?_ ?_
        rotate_left 1
        ·intro g L a x hLi haft hS hK; have t14 := hK.nw haft 8 0 213 rfl (by kernel_rfl); (try dsimp only at t14); refine go_in (wanted_all rfl) ?_; intro K hk; clear haft hK hLi; go_simp; exact hk.out g x (fun _ _ => rfl) (hS.go rfl)
        ·intro i hi; exact Or.inl (fun _ _ _ => rfl)
        refine LinAll.cons (fun _ => undef) ?_ ?_ ?_
        ·intro g L a x hLi haft hS hK
         have hL7 := waits haft 7 (by kernel_rfl)
         have t13 := hK.new 7 2 _ 212 _ rfl rfl rfl (by kernel_rfl) hL7
         have t15 := hK.nw haft 9 0 214 rfl (by kernel_rfl)
         (try dsimp only at t13 t15)
         have hh := (hS.kp gB hgU (fun _ e => HNE.out e.symm) (fun e => by rw [hLi] at e; cases e)).trans HHD.out
         have c1 : x.cell? ⟨gB, 0, none⟩ = some v := cell_of hh 0 rfl
         have f1 : x.frozen? ⟨gB, 0, none⟩ = false := by simp [World.frozen?, hh]
         have hnew := hS.store hL7 hLi hgU HNE.out HHD.out
         unfold sl at t13
         refine go_in (wanted_all rfl) ?_
         intro K hk
         clear haft hK hLi hh
         go_simp
         exact hk.out g _ (fun _ _ => rfl) hnew
        ·intro i hi; exact Or.inl (fun _ _ _ => rfl)
        refine LinAll.nil fun g x hS => ?_
        subst ha0
        simp only [Act.put, List.setIfInBounds_toArray, List.set_cons_zero, List.set_cons_succ]
        clear o0 o3
        have HS : Hid _ := hS
        have c1 : x.cell? ⟨gB, 0, none⟩ = some (sl (ns.length + 1) (g 7)) := cell_of (hS.h10 rfl) 0 rfl
        clear hS
        unfold sl at c1
        go_wp2_with fail
        refine bodyPost_ret (v := .tuple #[.int .i64 ((ns.length : Int) + 1), .int .i64 0]) (by simp [results, Tryz.results25, go_sem]) rfl ?_
        exact ⟨rfl, rmk_end HG.out hBU HS.out (by rw [← HNN.out]; exact HLL.out)⟩
   ·have hE := HSR.out
    obtain ⟨rfl, rfl, rfl⟩ := HM.out.of_err hE hez
    have q1 : (E.2 != 0) = true := by simp [hez]
    clear hE hez HSR
    go_wp2_with fail
    refine Calls.mono HSO.out ?_
    rintro e w6 ⟨rfl, hb6⟩
    have hB6 : Below w.heap.size w w6 := hB.trans (hb6.mono hB.size)
    clear hb6
    go_wp2_with fail
    refine bodyPost_ret (v := .tuple #[.int .i64 0, .int .i64 E.2]) (by simp [results, Tryz.results25, go_sem]) rfl ?_
    exact ⟨rfl, v, HG.out.below hB6, RChg.of hB6, Or.inl rfl⟩
open Go.RowKit
open Go.RowKit
theorem rmk_any {w : World} {B gB mo : Nat} {v : Value} {ns ns' : List Nd} {n : Nd} {id er : Int} (h : Rg w B gB v mo ns) (hv : Inv ns) (ho : Ok n) (hM : Mkd mo ns n id er ns') (hBw : B ≤ w.heap.size) :
  Calls Tryz.prog 25 #[.pointer (some ⟨gB, 0, none⟩), .agg #[.int .i64 n.op, .int .i64 n.s, .int .i64 n.a, .int .i64 n.b, .int .i64 n.c, .int .i64 n.p, .int .i64 n.q, .int .i64 n.w, .int .u64 n.lo, .int .u64 n.hi, .string n.nm]] w fun e w' => e = .returned (.tuple #[.int .i64 id, .int .i64 er]) ∧ ∃ v', Rg w' B gB v' mo ns' ∧ RChg w w' gB v ∧ (v'.ownBlock = v.ownBlock ∨ ∃ b, v'.ownBlock = some b ∧ w.heap.size ≤ b) := by
 cases hp : prt ns.length n
 ·have hE : srtOf ns n = (0, 32) := by unfold srtOf; rw [if_pos hp]
  obtain ⟨rfl, rfl, rfl⟩ := hM.of_err hE (by decide)
  refine (rmk_bad h hp).mono ?_
  rintro e w' ⟨he, hb⟩
  exact ⟨he, v, h.below hb, RChg.of hb, Or.inl rfl⟩
 ·by_cases h1 : n.op = 1
  ·exact rmk_1 h hv ho hp h1 hM hBw
  ·by_cases h2 : n.op = 2
   ·exact rmk_2 h hv ho hp h2 hM hBw
   ·exact rmk_3 h hv ho hp h1 h2 hM hBw
def ndF (ns : List Nd) (z : Int) : Nd := if hasB ns.length z then (ns[(z - 1).toNat]?).getD ⟨0, 0, 0, 0, 0, 0, 0, 0, 0, 0, ⟨#[]⟩⟩ else ⟨0, 0, 0, 0, 0, 0, 0, 0, 0, 0, ⟨#[]⟩⟩
structure Tg (w wr : World) (B D : Nat) (v u : Value) (R : Nat) (ns : List Nd) : Prop where
 gr : Gr wr B (B + 2) B (B + 1) v R ns
 rg : Rg wr D D u R ns
 far : v.ownBlock ≠ some D
 own : ∀ q, u.ownBlock = some q → q ≠ B ∧ q ≠ B + 1 ∧ q ≠ B + 2 ∧ v.ownBlock ≠ some q
 bd : B + 2 < D
 lo : w.heap.size ≤ B
 bel : Below w.heap.size w wr
theorem row_same {x y : World} {b : Nat} {e : TypeId} {sz : Nat} {v : Value} {n : Nat} {xs : List Value} (h : x.ownsRow b e sz v n xs) (hk : ∀ q, v.ownBlock = some q → y.heap[q]? = x.heap[q]?) : y.ownsRow b e sz v n xs := by
 refine ⟨h.1, ?_⟩
 rcases h.2 with hn | ⟨g, cap, cur, rfl, hb, hgg, rest⟩
 ·exact .inl hn
 ·exact .inr ⟨g, cap, cur, rfl, hb, by rw [hk g rfl]; exact hgg, rest⟩
theorem Tg.first {w wr w2 : World} {B D R : Nat} {v v' u : Value} {ns ns' : List Nd} (h : Tg w wr B D v u R ns) (hG : Gr w2 B (B + 2) B (B + 1) v' R ns') (hC : Chg wr w2 (B + 2) B (B + 1) v) (hv : v'.ownBlock = v.ownBlock ∨ ∃ b, v'.ownBlock = some b ∧ wr.heap.size ≤ b) :
  Rg w2 D D u R ns ∧ v'.ownBlock ≠ some D ∧ (∀ q, u.ownBlock = some q → q ≠ B ∧ q ≠ B + 1 ∧ q ≠ B + 2 ∧ v'.ownBlock ≠ some q) ∧ Below w.heap.size w w2 := by
 have hD := h.rg.lt
 have hbd := h.bd
 refine ⟨⟨(hC.block D hD (by omega) (by omega) (by omega) (fun e => h.far e.symm)).trans h.rg.hd, row_same h.rg.row (fun q hq => ?_), h.rg.bg, h.rg.most, h.rg.room⟩, ?_, fun q hq => ?_, h.bel.trans ((hC.low h.gr (by have := h.gr.lt; omega)).mono h.lo)⟩
 ·obtain ⟨h1, h2, h3, h4⟩ := h.own q hq
  exact hC.block q (h.rg.row.lt q hq).2 h3 h1 h2 (fun e => h4 e.symm)
 ·rcases hv with e | ⟨b, e, hb⟩
  ·rw [e]; exact h.far
  ·rw [e]; intro e2; cases e2; omega
 ·obtain ⟨h1, h2, h3, h4⟩ := h.own q hq
  refine ⟨h1, h2, h3, ?_⟩
  rcases hv with e | ⟨b, e, hb⟩
  ·rw [e]; exact h4
  ·rw [e]; intro e2; cases e2; have := (h.rg.row.lt _ hq).2; omega
theorem Tg.second {w w2 w3 : World} {B D R : Nat} {v u u' : Value} {ns ns' : List Nd} (hG : Gr w2 B (B + 2) B (B + 1) v R ns') (hR : Rg w3 D D u' R ns') (hC : RChg w2 w3 D u) (hu : u'.ownBlock = u.ownBlock ∨ ∃ b, u'.ownBlock = some b ∧ w2.heap.size ≤ b)
  (hfar : v.ownBlock ≠ some D) (hown : ∀ q, u.ownBlock = some q → q ≠ B ∧ q ≠ B + 1 ∧ q ≠ B + 2 ∧ v.ownBlock ≠ some q) (hbd : B + 2 < D) (hlo : w.heap.size ≤ B) (hbel : Below w.heap.size w w2) (hub : ∀ q, u.ownBlock = some q → D ≤ q) : Tg w w3 B D v u' R ns' := by
 have hg := hG.lt
 have hs : ∀ k, k < w2.heap.size → k < D → w3.heap[k]? = w2.heap[k]? := fun k hk hd => hC.block k hk (by omega) (fun e => by have := hub k e.symm; omega)
 refine ⟨⟨(hs _ hg hbd).trans hG.hd, row_same hG.row (fun q hq => hC.block q (hG.row.lt q hq).2 (fun e => hfar (by rw [hq, e])) (fun e => (hown q e.symm).2.2.2 hq)), hG.ids.kept (hs B (by omega) (by omega)), hG.vars.kept (hs (B + 1) (by omega) (by omega)), hG.bg, hG.bi, hG.bv, hG.ne, hG.most, hG.room, hG.inv⟩, hR, hfar, fun q hq => ?_, hbd, hlo, ?_⟩
 ·rcases hu with e | ⟨b, e, hb⟩
  ·rw [e] at hq; exact hown q hq
  ·rw [e] at hq
   cases hq
   refine ⟨by omega, by omega, by omega, fun e2 => ?_⟩
   have := (hG.row.lt _ e2).2
   omega
 ·exact hbel.trans ⟨hC.os, hC.tape, hC.output, hC.size, fun k hk => hs k (by have := hbel.size; omega) (by omega)⟩
open Go.RowKit
def sdiv (W n m : Nat) : Nat := if n.testBit (W - 1) != m.testBit (W - 1) then neg W (udiv W (wsign W n n) (wsign W m m)) else udiv W (wsign W n n) (wsign W m m)
def srem (W n m : Nat) : Nat := wsign W n (urem (wsign W n n) (wsign W m m))
def smod (W n m : Nat) : Nat := if urem (wsign W n n) (wsign W m m) ≠ 0 ∧ (n.testBit (W - 1) != m.testBit (W - 1)) = true then (wsign W n (urem (wsign W n n) (wsign W m m)) + m) % 2 ^ W else wsign W n (urem (wsign W n n) (wsign W m m))
end Go.Proofs.YtejljdbkocnhlaaGreat
namespace Go.Proofs.YtejljdbkocnhlaaGreat
set_option maxHeartbeats 12800000
set_option maxRecDepth 100000
set_option linter.unusedSimpArgs false
set_option linter.unusedVariables false
open Go Go.RowKit
structure SF (w0 : World) (B : Nat) (own : List (Nat × List Value)) (pend : List (Nat × Nat × List Value)) (fl : List (Nat × Nat × List Value)) (fz : List Nat) (g : Nat → Nat) (L : Nat → Bool) (x : World) : Prop where
 ss : SS w0 B own pend g L x
 soft : ∀ b ∈ fz, b < B ∧ ∀ o, x.frozen? ⟨b, o, none⟩ = false
 room : ∀ f ∈ fl, w0.heap.size ≤ f.2.1 ∧ f.2.1 < B ∧ (∀ k, k < f.2.2.length → (x.cell? ⟨f.2.1, k, none⟩).isSome = true)
 full : ∀ f ∈ fl, L f.1 = true → At x f.2.1 f.2.2
 ne : ∀ f ∈ fl, ∀ p ∈ own, p.1 ≠ f.2.1
variable {w0 x x' : World} {B i : Nat} {own : List (Nat × List Value)} {pend fl : List (Nat × Nat × List Value)} {fz : List Nat} {g : Nat → Nat} {L : Nat → Bool}
theorem SF.ext (h : SF w0 B own pend fl fz g L x) (hx : Below x.heap.size x x') (hi : (pend.all fun q => q.1 != i && q.2.1 != i) = true) (hf : (fl.all fun f => f.1 != i) = true) : SF w0 B own pend fl fz g (updB L i) x' := by
 have hf' : ∀ f ∈ fl, f.1 ≠ i := fun f h => by simpa using List.all_eq_true.1 hf f h
 have hB := h.ss.size
 refine ⟨h.ss.ext hx hi, fun b hb => ⟨(h.soft b hb).1, fun o => ?_⟩, fun f hm => ⟨(h.room f hm).1, (h.room f hm).2.1, fun k hk => ?_⟩, fun f hm hL => ?_, h.ne⟩
 ·have := (h.soft b hb).1
  rw [hx.frozen (p := ⟨b, o, none⟩) (by simp; omega)]; exact (h.soft b hb).2 o
 ·have := (h.room f hm).2.1
  rw [hx.cell (p := ⟨f.2.1, k, none⟩) (by simp; omega)]; exact (h.room f hm).2.2 k hk
 ·rw [updB_ne (hf' f hm)] at hL
  have := (h.room f hm).2.1
  exact (h.full f hm hL).below (by omega) hx
theorem SF.go {al : List Nat} {K : Act → World → Prop} {a : Act} {d : Option Tmp} {v : (Nat → Nat) → Value} (h : SF w0 B own pend fl fz g L x) (hk : Shut (∀ (g' : Nat → Nat) (w' : World), (∀ j, (j ≠ i ∨ al.contains i = false) → g' j = g j) → SF w0 B own pend fl fz g' (updB L i) w' → K (a.put d (v g')) w')) (hi : (pend.all fun q => q.1 != i && q.2.1 != i) = true) (hf : (fl.all fun f => f.1 != i) = true) : K (a.put d (v g)) x :=
 hk.out g x (fun _ _ => rfl) (h.ext (Below.refl _ _) hi hf)
theorem SF.on {al : List Nat} {K : Act → World → Prop} {a : Act} {d : Option Tmp} {v : (Nat → Nat) → Value} (h : SF w0 B own pend fl fz g L x) (hk : Shut (∀ (g' : Nat → Nat) (w' : World), (∀ j, (j ≠ i ∨ al.contains i = false) → g' j = g j) → SF w0 B own pend fl fz g' (updB L i) w' → K (a.put d (v g')) w')) (hx : Below x.heap.size x x') (hi : (pend.all fun q => q.1 != i && q.2.1 != i) = true) (hf : (fl.all fun f => f.1 != i) = true) : K (a.put d (v g)) x' :=
 hk.out g x' (fun _ _ => rfl) (h.ext hx hi hf)
theorem SF.alloc {c : Array Value} {ty : TypeId} (h : SF w0 B own pend fl fz g L x) (hL : L i = false) (hi : (pend.all fun q => q.2.1 != i && decide (q.2.2.length ≤ c.size)) = true) (hf : (fl.all fun f => f.1 != i) = true) :
  SF w0 B own pend fl fz (updG g i x.heap.size) (updB L i) (x.alloc (.cells c ty)) := by
 have hx : Below x.heap.size x (x.alloc (.cells c ty)) := (Below.refl _ _).alloc (Nat.le_refl _) _
 have hf' : ∀ f ∈ fl, f.1 ≠ i := fun f h => by simpa using List.all_eq_true.1 hf f h
 have hB := h.ss.size
 refine ⟨h.ss.alloc hL hi, fun b hb => ⟨(h.soft b hb).1, fun o => ?_⟩, fun f hm => ⟨(h.room f hm).1, (h.room f hm).2.1, fun k hk => ?_⟩, fun f hm hL => ?_, h.ne⟩
 ·have := (h.soft b hb).1
  rw [hx.frozen (p := ⟨b, o, none⟩) (by simp; omega)]; exact (h.soft b hb).2 o
 ·have := (h.room f hm).2.1
  rw [hx.cell (p := ⟨f.2.1, k, none⟩) (by simp; omega)]; exact (h.room f hm).2.2 k hk
 ·rw [updB_ne (hf' f hm)] at hL
  have := (h.room f hm).2.1
  exact (h.full f hm hL).below (by omega) hx
theorem SF.store {k : Nat} {cs : List Value} (h : SF w0 B own pend fl fz g L x) (hL : L k = true) (hq : (k, i, cs) ∈ pend) (hi : (pend.all fun q => q.1 != i && (q.2.1 != i || q.1 == k)) = true)
  (hone : ∀ q ∈ pend, q.1 = k → q.2.2 = cs) (hf : (fl.all fun f => f.1 != i) = true) : SF w0 B own pend fl fz g (updB L i) (x.setCells (g k) 0 cs) := by
 have hf' : ∀ f ∈ fl, f.1 ≠ i := fun f h => by simpa using List.all_eq_true.1 hf f h
 have m1 := (h.ss.made _ hq hL).1
 simp only at m1
 have keep : ∀ b k', b ≠ g k → (x.setCells (g k) 0 cs).cell? ⟨b, k', none⟩ = x.cell? ⟨b, k', none⟩ := fun b k' hne =>
  World.cell?_setCells_out _ _ _ _ _ (fun e => absurd e hne)
 refine ⟨h.ss.store hL hq hi hone, fun b hb => ⟨(h.soft b hb).1, fun o => by rw [World.frozen?_setCells]; exact (h.soft b hb).2 o⟩, fun f hm => ⟨(h.room f hm).1, (h.room f hm).2.1, fun j hj => ?_⟩, fun f hm hLf => ?_, h.ne⟩
 ·have := (h.room f hm).2.1
  rw [keep _ _ (by omega)]; exact (h.room f hm).2.2 j hj
 ·rw [updB_ne (hf' f hm)] at hLf
  have := (h.room f hm).2.1
  exact fun j v hj => by rw [keep _ _ (by omega)]; exact h.full f hm hLf j v hj
theorem SF.fill {b : Nat} {cs : List Value} (h : SF w0 B own pend fl fz g L x) (hq : (i, b, cs) ∈ fl) (hi : (pend.all fun q => q.1 != i && q.2.1 != i) = true)
  (hone : ∀ f ∈ fl, (f.1 = i ∨ f.2.1 = b) → f = (i, b, cs)) : SF w0 B own pend fl fz g (updB L i) (x.setCells b 0 cs) := by
 have hi' : ∀ q ∈ pend, q.1 ≠ i ∧ q.2.1 ≠ i := fun q hq => by simpa using List.all_eq_true.1 hi q hq
 obtain ⟨b0, bB, hc⟩ := h.room _ hq
 simp only at b0 bB hc
 have keep : ∀ b' k', b' ≠ b → (x.setCells b 0 cs).cell? ⟨b', k', none⟩ = x.cell? ⟨b', k', none⟩ := fun b' k' hne =>
  World.cell?_setCells_out _ _ _ _ _ (fun e => absurd e hne)
 have hfill : At (x.setCells b 0 cs) b cs := fun j v hj => by
  have hjl : j < cs.length := (List.getElem?_eq_some_iff.1 hj).1
  have := World.cell?_setCells_in b cs 0 x (fun j hj => by simpa using hc j hj) j hjl
  rw [Nat.zero_add] at this
  rw [this, ← hj]; simp [hjl]
 refine ⟨⟨setCells_below _ _ _ h.ss.below b0, h.ss.le, by rw [setCells_size]; exact h.ss.size, fun p hp => ?_, fun q hq' hL => ?_, fun q hq' hL => ?_, fun q hq' r hr hne hL hL' => ?_⟩, fun b' hb => ⟨(h.soft b' hb).1, fun o => by rw [World.frozen?_setCells]; exact (h.soft b' hb).2 o⟩, fun f hm => ⟨(h.room f hm).1, (h.room f hm).2.1, fun j hj => ?_⟩, fun f hm hLf => ?_, h.ne⟩
 ·obtain ⟨h1, h2⟩ := h.ss.own p hp
  have := h.ne _ hq p hp
  exact ⟨h1, fun j v hj => by rw [keep _ _ this]; exact h2 j v hj⟩
 ·rw [updB_ne (hi' q hq').1] at hL
  obtain ⟨h1, h2, h3, h4⟩ := h.ss.made q hq' hL
  exact ⟨h1, by rw [setCells_size]; exact h2, fun o => by rw [World.frozen?_setCells]; exact h3 o, fun j hj => by rw [keep _ _ (by omega)]; exact h4 j hj⟩
 ·rw [updB_ne (hi' q hq').2] at hL
  obtain ⟨h1, h2⟩ := h.ss.laid q hq' hL
  have := (h.ss.made q hq' h1).1
  exact ⟨by rw [updB_ne (hi' q hq').1]; exact h1, fun j v hj => by rw [keep _ _ (by omega)]; exact h2 j v hj⟩
 ·rw [updB_ne (hi' q hq').1] at hL
  rw [updB_ne (hi' r hr).1] at hL'
  exact h.ss.apart q hq' r hr hne hL hL'
 ·by_cases e : f.2.1 = b
  ·have := hone f hm (Or.inr e)
   subst this
   simp only at hj ⊢
   rw [hfill j cs[j] (by simp [hj])]; rfl
  ·rw [keep _ _ e]; exact (h.room f hm).2.2 j hj
 ·by_cases e : f.1 = i
  ·have := hone f hm (Or.inl e)
   subst this
   exact hfill
  ·rw [updB_ne e] at hLf
   have hb : f.2.1 ≠ b := fun e2 => by
    have := hone f hm (Or.inr e2)
    subst this; exact e rfl
   exact fun j v hj => by rw [keep _ _ hb]; exact h.full f hm hLf j v hj
theorem SF.start (hb : Below w0.heap.size w0 x) (h : ∀ p ∈ own, At x p.1 p.2 ∧ p.2 ≠ []) (hz : ∀ b ∈ fz, b < x.heap.size ∧ ∀ o, x.frozen? ⟨b, o, none⟩ = false)
  (hc : ∀ f ∈ fl, w0.heap.size ≤ f.2.1 ∧ f.2.1 < x.heap.size ∧ (∀ k, k < f.2.2.length → (x.cell? ⟨f.2.1, k, none⟩).isSome = true)) (hn : ∀ f ∈ fl, ∀ p ∈ own, p.1 ≠ f.2.1) :
  SF w0 x.heap.size own pend fl fz g (fun _ => false) x.drew :=
 ⟨SS.start hb h, hz, hc, fun _ _ h => (by cases h), hn⟩
end Go.Proofs.YtejljdbkocnhlaaGreat
