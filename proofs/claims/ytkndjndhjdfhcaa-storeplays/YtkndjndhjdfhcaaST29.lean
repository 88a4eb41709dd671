/- Contracts (store's walk): undo. -/
import Derived.Test.YtkndjndhjdfhcaaST28
namespace Go.Proofs.Ytkndjndhjdfhcaa
open Go.RowKit
set_option linter.unusedSimpArgs false
set_option linter.unusedVariables false

theorem Wk.bel {K : List (Nat × Value)} {w0 w w' : World} {F0 F : Nat → Prop} {s mo b N rt : Nat} {vo vm : Value} {A : List Int} {C W : List (List Int)} {M : List (Nat × Nat)} {T : List Int} {k : Nat} (h : Wk K w0 F0 w F s mo b N rt vo vm A C W M T k) (hb : Below w.heap.size w w') : Wk K w0 F0 w' F s mo b N rt vo vm A C W M T k :=
  ⟨(hb.block b h.bl).trans h.hd, h.tr.of_block (hb.block rt h.tr.lt), row_kept h.to hb.block, row_kept h.mr hb.block, h.b0, h.t0, h.st.kept (fun q hq _ => hb.block q hq), h.nb, h.nt, h.no, h.nm, h.ch.trans (Ch.of_below F hb), fun q hq => Nat.lt_of_lt_of_le (h.lt q hq) hb.size⟩
theorem is_cut {w : World} {B n cap : Nat} {a : Option Addr} {l : List Int} {r : Int} (h : Is' w B (.slice a n cap) (l ++ [r])) : ∃ g, a = some ⟨g, 0, none⟩ ∧ n = l.length + 1 ∧ Is' w B (.slice a l.length cap) l := by
  rcases h.2 with ⟨e, h0⟩ | ⟨g, c, cur, e, hb, hg, hc, hm, hs, ht⟩
  · simp at h0
  · injection e with e1 e2 e3
    subst e1 e3
    have hn : n = l.length + 1 := by rw [e2]; simp
    refine ⟨g, rfl, hn, by simp, Or.inr ⟨g, cap, cur, rfl, hb, hg, by simp at hc; omega, hm, hs, ?_⟩⟩
    rw [Nat.mul_one] at ht ⊢
    have h2 := congrArg (List.take l.length) ht
    rw [List.take_take, List.map_append, List.length_append, List.take_append_of_le_length (by simp)] at h2
    rw [show min l.length (l.length + [r].length) = l.length by simp] at h2
    rw [h2]
    exact List.take_of_length_le (by simp)
theorem mcs_at {M : List (Nat × Nat)} {j : Nat} {x : Nat × Nat} (h : M[j]? = some x) (t : Nat) (ht : t < 2) : (M.flatMap mcs)[j * 2 + t]? = (mcs x)[t]? := by
  induction M generalizing j with
  | nil => simp at h
  | cons y M ih =>
    rw [List.flatMap_cons]
    cases j with
    | zero =>
      obtain rfl : y = x := by simpa using h
      rw [List.getElem?_append_left (by show _ < 2; omega), Nat.zero_mul, Nat.zero_add]
    | succ j =>
      rw [List.getElem?_append_right (by show 2 ≤ _; omega)]
      show (M.flatMap mcs)[(j + 1) * 2 + t - 2]? = _
      rw [show (j + 1) * 2 + t - 2 = j * 2 + t by omega]
      exact ih (by simpa using h)
theorem Wk.mcell {K : List (Nat × Value)} {w0 w : World} {F0 F : Nat → Prop} {s mo b N rt n q : Nat} {a : Option Addr} {vo : Value} {A : List Int} {C W : List (List Int)} {M : List (Nat × Nat)} {T : List Int} {k : Nat} (h : Wk K w0 F0 w F s mo b N rt vo (.slice a n q) A C W M T k) {j : Nat} {x : Nat × Nat} (hj : M[j]? = some x) : ∃ g, a = some ⟨g, 0, none⟩ ∧ g < w.heap.size ∧ w.cell? ⟨g, j * 2, none⟩ = some (.int .i64 (x.1 : Int)) ∧ w.cell? ⟨g, j * 2 + 1, none⟩ = some (.int .u64 (x.2 : Int)) := by
  have hjl := (List.getElem?_eq_some_iff.1 hj).1
  rcases h.mr.2 with ⟨e, h0⟩ | ⟨g, c, cur, e, hb, hg, hc, hm, hs, ht⟩
  · omega
  · injection e with e1 e2 e3
    subst e1
    have key : ∀ t u, t < 2 → (mcs x)[t]? = some u → w.cell? ⟨g, j * 2 + t, none⟩ = some u := fun t u h1 h2 => by
      have h3 := (mcs_at hj t h1).trans h2
      rw [← ht, List.getElem?_take_of_lt (by omega)] at h3
      exact cell_of hg _ (by simpa using h3)
    exact ⟨g, rfl, (Array.getElem?_eq_some_iff.1 hg).1, key 0 _ (by omega) rfl, key 1 _ (by omega) rfl⟩
theorem St.acell {w : World} {F : Nat → Prop} {s mo ra na ca : Nat} {vb vs vw : Value} {us : List Value} {A B S : List Int} {W : List (List Int)} (h : St w F s mo (.slice (some ⟨ra, 0, none⟩) na ca) vb vs vw us A B S W) {j : Nat} (hj : j < A.length) : w.cell? ⟨ra, j, none⟩ = some (.int .i64 (A.getD j 0)) ∧ w.frozen? ⟨ra, j, none⟩ = false ∧ ra < w.heap.size := by
  obtain ⟨cur, hcur⟩ := row_cur h.ra (b := ra) rfl
  obtain ⟨ra', ca', e, -, -, hL⟩ := h.ra.li (by intro e; rw [e] at hj; simp at hj)
  injection e with e1
  injection e1 with e1
  injection e1 with e1
  subst e1
  have := hL j hj
  rw [Nat.zero_add] at this
  exact ⟨this, by simp [World.frozen?, hcur], (Array.getElem?_eq_some_iff.1 hcur).1⟩
set_option maxRecDepth 20000 in
set_option maxHeartbeats 25600000 in
theorem undo_any {w0 w : World} {F0 : Nat → Prop} {s mo b N rt : Nat} {C : List (List Int)} {m : Nat} {M : List (Nat × Nat)} {P : Nat → Nat × Nat} {T : List Int} {k : Nat} (h : WS [] w0 F0 w s mo b N rt C m M P T k) :
    Calls Try.prog 40 #[.pointer (some ⟨b, 0, none⟩)] w fun e w' => e = .returned (.tuple #[]) ∧ ∃ F vo vm, Wk [] w0 F0 w' F s mo b N rt vo vm (ar C) C (wls C m) M T k := by
  obtain ⟨F, vo, vm, hK⟩ := h.wk
  have H : Hid (WS [] w0 F0 w s mo b N rt C m M P T k) := h
  have hM : M.length ≤ 1000000 := Nat.le_trans h.mv.len (by have := h.wc.ar; omega)
  have HK : Hid _ := hK
  have c4 : w.cell? ⟨b, 4, none⟩ = some vm := cell_of hK.hd 4 rfl
  obtain ⟨am, nm, qm, hvm, HNM⟩ := own_sl hK.mr
  subst hvm
  have har := h.wc.ar
  have hmN := h.wc.mN
  have hnN := h.wc.nN
  have hnm : nm ≤ 1000000 := by rw [HNM.out]; exact hM
  clear h hK
  go_enter Try.func40, Try.ntmps40
  go_wp2_with fail
  go_loopw [12] (fun ix wr => ∃ (j : Nat) (F1 : Nat → Prop) (P1 : Nat → Nat × Nat), j ≤ nm ∧ ix = .int .i64 (j : Int) ∧ Hid (Wk [] w0 F0 wr F1 s mo b N rt vo (.slice am nm qm) (arP C P1 0) C (wlsU C m M (M.drop j)) M T k ∧ ∀ i, (∀ x ∈ M.drop j, x.1 ≠ i) → P1 i = (0, 1))) (fun ix wr => nm - (intOf ix).toNat)
  case atStart => exact ⟨0, F, P, Nat.zero_le _, rfl, HK.out, H.out.mv.rest⟩
  case round =>
    obtain ⟨j, F1, P1, hj, rfl, hH⟩ := hrel
    by_cases hlt : j < nm
    · have hjl : j < M.length := by rw [← HNM.out]; exact hlt
      obtain ⟨x, hxj⟩ : ∃ x, M[j]? = some x := ⟨_, List.getElem?_eq_getElem hjl⟩
      obtain ⟨g, rfl, hgl, g0, g1⟩ := hH.out.1.mcell hxj
      obtain ⟨⟨c, hi, h2⟩, hxm⟩ := H.out.mv.ref x (List.mem_of_getElem? hxj)
      have hdr : M.drop j = x :: M.drop (j + 1) := by
        rw [List.drop_eq_getElem_cons hjl]
        rw [List.getElem?_eq_getElem hjl] at hxj
        rw [Option.some.inj hxj]
      obtain ⟨i, cc⟩ := x
      dsimp only at g0 g1 hi hxm
      obtain ⟨wm, hwm⟩ : ∃ wm, wm = wr.alloc (.cells #[.int .i64 (i : Int), .int .u64 (cc : Int)] 79) := ⟨_, rfl⟩
      have hbm : Below wr.heap.size wr wm := by rw [hwm]; go_grown
      have HKM : Hid (Wk [] w0 F0 wm F1 s mo b N rt vo (.slice (some ⟨g, 0, none⟩) nm qm) (arP C P1 0) C (wlsU C m M ((i, cc) :: M.drop (j + 1))) M T k) := by
        have := hH.out.1.bel hbm
        rw [hdr] at this
        exact this
      have hsub : ∀ kk, (Go.Proofs.Ytkndjndhjdfhcaa.mv ((i, cc) :: M.drop (j + 1)) kk).length ≤ (Go.Proofs.Ytkndjndhjdfhcaa.mv M kk).length := fun kk => by
        rw [← hdr]
        unfold Go.Proofs.Ytkndjndhjdfhcaa.mv
        rw [List.length_map, List.length_map]
        exact ((List.drop_sublist j M).filter _).length_le
      obtain ⟨Lc, rc, hLc, hset⟩ := wlsU_cut (C := C) (m := m) (x := (i, cc)) hxm hsub
      dsimp only at hLc hset
      obtain ⟨va, vb, vs, vw, us, hS, -⟩ := HKM.out.st
      obtain ⟨R, nw, cw, cr, u, hvw, hnw, hcr, huC, hcC, hIu, hRz⟩ := hS.watches (C := cc) (by rw [wlsU_len]; exact hxm)
      rw [List.getD_eq_getElem?_getD, hLc] at hIu
      have hwl : us.length = m := by rw [hS.len, wlsU_len]
      obtain ⟨au, cu, hue⟩ := own_slice hIu
      obtain ⟨nu, hnu⟩ : ∃ n, n = (Lc ++ [rc]).length := ⟨_, rfl⟩
      rw [show (some (Lc ++ [rc])).getD [] = Lc ++ [rc] from rfl, ← hnu] at hue
      subst hue
      obtain ⟨gu, rfl, hnu2, hIc⟩ := is_cut hIu
      subst hnu2
      rw [← hnw] at hvw
      subst hvw
      have hu3 : (va :: vb :: vs :: us)[cc + 3]? = some (Value.slice (some ⟨gu, 0, none⟩) (Lc.length + 1) cu) := by simpa using huC
      have hgR : gu ≠ R := fun e => hS.now hu3 rfl (by rw [← e]; rfl)
      have HAP : Hid (∀ wx, Al wm wx → Ap wx (wx.setCell ⟨R, cc, none⟩ (.slice (some ⟨gu, 0, none⟩) Lc.length cu)) R cc (.slice (some ⟨gu, 0, none⟩) (Lc.length + 1) cu) (.slice (some ⟨gu, 0, none⟩) Lc.length cu) Lc 27 cr) := fun wx ha =>
        ⟨rfl, rfl, rfl, by rw [World.size_setCell]; exact Nat.le_refl _, fun q _ _ hq => heap_setCell_other _ _ _ _ hq, by rw [heap_setCell_same wx R cc cr 27 _ (by rw [ha.heap]; exact hcr)], row_far (row_kept hIc (fun _ _ => by rw [ha.heap])) (by intro e; injection e with e; exact hgR e), Or.inl rfl⟩
      have hRm : R ≠ wr.heap.size := fun e => by rw [e, hwm, heap_alloc_new] at hcr; cases hcr
      have HSM : Hid _ := hS
      have m0 : wm.cell? ⟨wr.heap.size, 0, none⟩ = some (.int .i64 (i : Int)) := by rw [hwm]; exact cell_of (heap_alloc_new wr _) 0 rfl
      have m1 : wm.cell? ⟨wr.heap.size, 1, none⟩ = some (.int .u64 (cc : Int)) := by rw [hwm]; exact cell_of (heap_alloc_new wr _) 1 rfl
      have b0 : wm.cell? ⟨b, 0, none⟩ = some (.pointer (some ⟨s, 0, none⟩)) := cell_of HKM.out.hd 0 rfl
      have s4 : wm.cell? ⟨s, 4, none⟩ = some (.slice (some ⟨R, 0, none⟩) nw cw) := cell_of hS.hd 4 rfl
      have r0 : wm.cell? ⟨R, cc, none⟩ = some (.slice (some ⟨gu, 0, none⟩) (Lc.length + 1) cu) := cell_of hcr cc hcC
      have rf : wm.frozen? ⟨R, cc, none⟩ = false := by simp [World.frozen?, hcr]
      have hccI : (cc : Int) < (nw : Int) := by rw [hnw, hwl]; omega
      have hnw2 : nw ≤ 1000000 := by rw [hnw, hwl]; omega
      have HNW : Hid (nw = us.length) := hnw
      have HCR : Hid (wm.heap[R]? = some (.cells cr 27)) := hcr
      have HUC : Hid _ := huC
      have HSET : Hid _ := hset
      have HDR : Hid _ := hdr
      have HI : Hid (C[i]? = some c) := hi
      have hltI : (j : Int) < (nm : Int) := by omega
      obtain ⟨nc, hnc⟩ : ∃ n, n = Lc.length := ⟨_, rfl⟩
      rw [← hnc] at HAP r0 hIc hu3 HUC
      have hncl : nc ≤ 2000000 := by
        have q1 := wlsU_lists _ (List.mem_of_getElem? hLc)
        rw [List.length_append] at q1
        have q2 := ar_len2 C
        omega
      have hncu : nc + 1 ≤ cu := by
        rcases hIu.2 with ⟨e, -⟩ | ⟨_, _, _, e, _, _, q, _⟩
        · cases e
        · injection e with e1 e2 e3
          rw [e3]; simp at q; omega
      have HNC : Hid _ := hnc
      clear hS hcr huC hcC hIu hwl hnw hset hdr hi hsub hLc hxj hjl hbm hnc hnu
      go_wp2_with fail
      rw [← hwm]
      clear hwm g0 g1
      go_quiet (fail)
      obtain ⟨wq, hwq⟩ : ∃ wq, wq = wm.drewN nq := ⟨_, rfl⟩
      rw [← hwq]
      have haq : Al wm wq := by rw [hwq]; exact Al.drewN wm nq
      have q0 : wq.cell? ⟨wr.heap.size, 0, none⟩ = some (.int .i64 (i : Int)) := by rw [haq.cell]; exact m0
      have q1 : wq.cell? ⟨wr.heap.size, 1, none⟩ = some (.int .u64 (cc : Int)) := by rw [haq.cell]; exact m1
      have q2 : wq.cell? ⟨b, 0, none⟩ = some (.pointer (some ⟨s, 0, none⟩)) := by rw [haq.cell]; exact b0
      have q3 : wq.cell? ⟨s, 4, none⟩ = some (.slice (some ⟨R, 0, none⟩) nw cw) := by rw [haq.cell]; exact s4
      have q4 : wq.cell? ⟨R, cc, none⟩ = some (.slice (some ⟨gu, 0, none⟩) (nc + 1) cu) := by rw [haq.cell]; exact r0
      have q5 : wq.frozen? ⟨R, cc, none⟩ = false := by rw [haq.frozen]; exact rf
      have HAQ : Hid (Al wm wq) := haq
      have hqR : R < wq.heap.size := by rw [haq.heap]; exact hRz
      have hcuI : (nc : Int) ≤ (cu : Int) := by omega
      clear hwq haq m0 m1 b0 s4 r0 rf
      go_wp2_with fail
      go_region
      obtain ⟨w5, hw5⟩ : ∃ w5, w5 = (wq.setCell ⟨R, cc, none⟩ (.slice (some ⟨gu, 0, none⟩) nc cu)).drew := ⟨_, rfl⟩
      rw [← hw5]
      have hSQ := HSM.out.kept (w' := wq) (fun q _ _ => by rw [HAQ.out.heap])
      obtain ⟨e1, e2⟩ := hSQ.list (by rw [HNW.out]) (by rw [HAQ.out.heap]; exact HCR.out) HUC.out (HAP.out wq HAQ.out)
      rw [HSET.out] at e1
      have hK5 : ∃ F5, Wk [] w0 F0 w5 F5 s mo b N rt vo (.slice (some ⟨g, 0, none⟩) nm qm) (arP C P1 0) C (wlsU C m M (M.drop (j + 1))) M T k := by
        rw [hw5]
        exact ⟨_, ((HKM.out.al HAQ.out).move e2 ⟨_, _, _, _, _, e1, fun x hx => nomatch hx⟩).al ⟨rfl, rfl, rfl, rfl⟩⟩
      obtain ⟨F5, hK5⟩ := hK5
      have p0 : w5.cell? ⟨wr.heap.size, 0, none⟩ = some (.int .i64 (i : Int)) := by
        rw [hw5]
        exact (World.cell?_of_block (a := ⟨wr.heap.size, 0, none⟩) (heap_setCell_other wq ⟨R, cc, none⟩ wr.heap.size _ (fun (e : wr.heap.size = R) => hRm e.symm))).trans q0
      have p2 : w5.cell? ⟨b, 0, none⟩ = some (.pointer (some ⟨s, 0, none⟩)) := cell_of hK5.hd 0 rfl
      have HK5 : Hid (Wk [] w0 F0 w5 F5 s mo b N rt vo (.slice (some ⟨g, 0, none⟩) nm qm) (arP C P1 0) C (wlsU C m M (M.drop (j + 1))) M T k) := hK5
      have hsucc := arN_succ HI.out
      obtain ⟨ra, na, ca, vb', vs', vw', us', hS', -, hPc, -⟩ := hK5.piece har HI.out
      have HS5 : Hid (∃ vb vs vw us, St w5 F5 s mo (.slice (some ⟨ra, 0, none⟩) na ca) vb vs vw us (arP C P1 0) (bds C) (shs C) (wlsU C m M (M.drop (j + 1)))) := ⟨_, _, _, _, hS'⟩
      have hra : ∀ wx, Al w5 wx → Pc wx s i ra (arN C i) (arN C (i + 1)) := fun wx ha => by
        obtain ⟨rb, nb, cb, na', ca', y1, y2, y3, y4, y5, y6, y7⟩ := hPc.ex
        exact ⟨rb, nb, cb, na', ca', by rw [ha.cell]; exact y1, y2, y3, by rw [ha.cell]; exact y4, by rw [ha.cell]; exact y5, by rw [ha.cell]; exact y6, y7⟩
      have HWQ : Hid (∀ n, Calls Try.prog 47 #[.pointer (some ⟨s, 0, none⟩), .int .i64 (i : Int)] (w5.drewN n) fun e w' => e = .returned (.slice (some ⟨ra, arN C i, none⟩) (arN C (i + 1) - arN C i) (arN C (i + 1) - arN C i)) ∧ ∃ m, w' = (w5.drewN n).drewN m) := fun n => words_q (hra _ (Al.drewN w5 n))
      obtain ⟨fr, hfr⟩ : ∃ n, n = arN C i := ⟨_, rfl⟩
      obtain ⟨nn, hnn⟩ : ∃ n, n = c.length := ⟨_, rfl⟩
      rw [← hfr] at HWQ hsucc
      rw [← hnn] at hsucc h2
      rw [hsucc, show fr + 2 + nn - fr = nn + 2 by omega] at HWQ
      have HRA : Hid _ := hra
      have HFR : Hid (fr = arN C i) := hfr
      have HNN : Hid (nn = c.length) := hnn
      have hal := arN_le C (i + 1)
      have hnnb : fr + 2 + nn ≤ 262144 := by omega
      clear hS' hPc
      clear hw5 hSQ e1 e2 hK5 q0 q1 q2 q3 q4 q5 hra hfr hnn hsucc hal
      go_wp2_with fail
      go_quiet ((go_at_call 47; refine Calls.quiet_of (HWQ.out _)))
      obtain ⟨w6, hw6⟩ : ∃ w6, w6 = w5.drewN nq := ⟨_, rfl⟩
      rw [← hw6]
      have HA6 : Hid (Al w5 w6) := by unfold Hid; rw [hw6]; exact Al.drewN w5 nq
      clear hw6
      go_wp2_with fail
      have hnnI : (2 : Int) ≤ (nn : Int) + 2 := by omega
      have hP0 : upP P1 i (P1 i) = P1 := by
        funext q
        unfold upP
        by_cases e : q = i
        · rw [if_pos e, e]
        · rw [if_neg e]
      have HP0 : Hid _ := hP0
      clear hP0
      go_loopw [49] (fun ix wr => ∃ (t : Nat) (P2 : Nat → Nat × Nat), t ≤ 2 ∧ ix = .int .i64 (t : Int) ∧ Hid (Wk [] w0 F0 wr F5 s mo b N rt vo (.slice (some ⟨g, 0, none⟩) nm qm) (arP C P2 0) C (wlsU C m M (M.drop (j + 1))) M T k ∧ P2 = upP P1 i (if t = 0 then P1 i else if t = 1 then (0, (P1 i).2) else (0, 1)) ∧ ∃ vb vs vw us, St wr F5 s mo (.slice (some ⟨ra, 0, none⟩) na ca) vb vs vw us (arP C P2 0) (bds C) (shs C) (wlsU C m M (M.drop (j + 1))))) (fun ix wr => 2 - (intOf ix).toNat)
      case atStart =>
        obtain ⟨vb1, vs1, vw1, us1, z1⟩ := HS5.out
        exact ⟨0, P1, by omega, rfl, HK5.out.al HA6.out, by rw [if_pos rfl]; exact HP0.out.symm, vb1, vs1, vw1, us1, z1.kept (fun q _ _ => by rw [HA6.out.heap])⟩
      case round =>
        obtain ⟨t, P2, ht, rfl, hH2⟩ := hrel
        by_cases hlt2 : t < 2
        · obtain ⟨vb1, vs1, vw1, us1, z1⟩ := hH2.out.2.2
          have hidx : fr + t < (arP C P2 0).length := by
            rw [arP_len]
            have h3 := arN_succ HI.out
            have h4 := arN_le C (i + 1)
            have := HFR.out
            omega
          obtain ⟨y1, y2, y3⟩ := z1.acell hidx
          obtain ⟨vy, hvy⟩ : ∃ v, v = (arP C P2 0).getD (fr + t) 0 := ⟨_, rfl⟩
          rw [← hvy] at y1
          obtain ⟨x1, x2⟩ := z1.cell rfl hidx (t : Int)
          have hP2i : P2 i = (if t = 0 then P1 i else if t = 1 then (0, (P1 i).2) else (0, 1)) := by rw [hH2.out.2.1]; unfold upP; rw [if_pos rfl]
          have hset2 : (arP C P2 0).set (fr + t) (t : Int) = arP C (upP P1 i (if t + 1 = 0 then P1 i else if t + 1 = 1 then (0, (P1 i).2) else (0, 1))) 0 := by
            have hup : ∀ a b, upP (upP P1 i a) i b = upP P1 i b := fun a b => by
              funext q
              unfold upP
              by_cases e : q = i
              · rw [if_pos e, if_pos e]
              · rw [if_neg e, if_neg e, if_neg e]
            rw [HFR.out]
            match t, hlt2 with
            | 0, _ =>
              have h3 := (arP_set C P2 0 i c HI.out 0).1
              rw [Nat.zero_add, hP2i, if_pos rfl] at h3
              rw [Nat.add_zero, if_neg (by decide), if_pos rfl]
              refine h3.trans ?_
              rw [hH2.out.2.1, hup]
            | 1, _ =>
              have h3 := (arP_set C P2 0 i c HI.out 1).2
              rw [Nat.zero_add, hP2i, if_neg (by decide), if_pos rfl] at h3
              rw [if_neg (by decide), if_neg (by decide)]
              refine h3.trans ?_
              rw [hH2.out.2.1, hup]
          rw [hset2] at x1
          have HX1 : Hid _ := x1
          have HX2 : Hid _ := x2
          have htI : (t : Int) < 2 := by omega
          have htn : (t : Int) < (nn : Int) + 2 := by omega
          clear z1 x1 x2 hset2 hvy hP2i
          go_wp2_with fail
          refine ⟨⟨t + 1, _, by omega, by go_num, hH2.out.1.move HX2.out ⟨_, _, _, _, _, HX1.out, fun x hx => nomatch hx⟩, rfl, _, _, _, _, HX1.out⟩, by simp [intOf]; omega⟩
        · obtain rfl : t = 2 := by omega
          rw [show ((2 : Nat) : Int) = 2 from rfl]
          go_wp2_with fail
          have hP2 := hH2.out.2.1
          rw [if_neg (by decide), if_neg (by decide)] at hP2
          refine ⟨⟨j + 1, F5, P2, by omega, by go_num, hH2.out.1, fun i' hi' => ?_⟩, by simp [intOf]; omega⟩
          rw [hP2]
          unfold upP
          by_cases e : i' = i
          · rw [if_pos e]
          · rw [if_neg e]
            refine hH.out.2 i' (fun x hx => ?_)
            rw [HDR.out] at hx
            rcases List.mem_cons.1 hx with hx | hx
            · rw [hx]; exact fun e2 => e e2.symm
            · exact hi' x hx
    · obtain rfl : j = nm := by omega
      have hltI : ¬ (j : Int) < (j : Int) := by omega
      go_wp2_with fail
      go_end0
      have h1 := hH.out.1
      have h2 := hH.out.2
      rw [HNM.out, List.drop_length] at h1 h2
      rw [wlsU_nil, arP_rest C P1 0 (fun i => h2 i (fun x hx => nomatch hx))] at h1
      exact ⟨rfl, F1, vo, _, h1⟩
end Go.Proofs.Ytkndjndhjdfhcaa
