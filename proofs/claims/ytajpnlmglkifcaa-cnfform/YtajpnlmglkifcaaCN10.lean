/- Contracts (clauses): Root: the walk. -/
import Derived.Test.YtajpnlmglkifcaaCN9
namespace Go.Proofs.Ytajpnlmglkifcaa
open Go.RowKit
set_option linter.unusedSimpArgs false
set_option linter.unusedVariables false

theorem nm_up {V : Int → Option Int} {L : List Nat} (h : L.Pairwise (· < ·)) : (nats (nmL V L)).Pairwise (· ≤ ·) := by
  unfold nats nmL
  rw [List.pairwise_map, List.pairwise_map]
  exact (h.filter _).imp fun {a b} hab => by omega
theorem nm_in {V : Int → Option Int} {L : List Nat} {N : Nat} (h : ∀ x ∈ L, x / 2 < N) : ∀ x ∈ nats (nmL V L), 0 ≤ x ∧ x < (N : Int) := by
  intro x hx
  obtain ⟨y, hy, rfl⟩ := List.mem_map.1 hx
  obtain ⟨z, hz, rfl⟩ := List.mem_map.1 hy
  have := h z (List.mem_filter.1 hz).1
  omega
theorem Is'.slice {w : World} {B : Nat} {u : Value} {l : List Int} (h : Is' w B u l) : ∃ a c, u = .slice a l.length c ∧ (l = [] ∨ ∃ r, a = some ⟨r, 0, none⟩ ∧ B ≤ r ∧ r < w.heap.size ∧ Li w r 0 l) := by
  by_cases hl : l = []
  · subst hl
    rcases h.2 with ⟨e, -⟩ | ⟨g, c, _, e, -⟩
    · exact ⟨_, _, e, Or.inl rfl⟩
    · exact ⟨_, _, e, Or.inl rfl⟩
  · obtain ⟨r, cap, e, hb, -, hL⟩ := h.li hl
    refine ⟨_, _, e, Or.inr ⟨r, rfl, hb, ?_, hL⟩⟩
    exact (h.lt r (by rw [e]; rfl)).2
/-- What Root leaves. -/
def RootR (w w' : World) (F : Nat → Prop) (e g mo mv mp l : Nat) (ks : List Kd) (vars : Int) (V : Int → Option Int) (T : List Nat) (L : List Nat) (v : Value) : Prop :=
  UO ks T (max l 1) L ∧ En w' e g (vars + (Lib.compact (nats (nmL V L))).length) mv mp (asg V vars (Lib.compact (nats (nmL V L)))) (polF (T ++ L)) ∧ Gr w' F g mo ks ∧ (∃ B b us, Gt w' B b v us (clsL ks (asg V vars (Lib.compact (nats (nmL V L)))) L) ∧ w.heap.size ≤ B) ∧ Tn w w' (fun q => q = e ∨ q = mv ∨ q = mp ∨ w.heap.size ≤ q)
theorem Tn.mono {w w' : World} {F G : Nat → Prop} (h : Tn w w' F) (hg : ∀ b, F b → G b) : Tn w w' G := ⟨h.os, h.tape, h.output, h.size, fun b hb hn => h.block b hb (fun hf => hn (hg b hf))⟩
set_option maxRecDepth 20000 in
set_option maxHeartbeats 25600000 in
theorem root_any {w : World} {F : Nat → Prop} {e g mo mv mp l : Nat} {ks : List Kd} {vars : Int} {V : Int → Option Int} {T : List Nat}
    (hE : En w e g vars mv mp V (polF T)) (hG : Gr w F g mo ks) (hF : ∀ k, F k → k < w.heap.size ∧ k ≠ e ∧ k ≠ mv ∧ k ≠ mp) (hll : l / 2 < ks.length) (hks : ks.length ≤ 10000) (h0 : 0 ≤ vars) (h1 : vars ≤ 50000) (hV : ∀ n, 0 ≤ (V n).getD 0 ∧ (V n).getD 0 ≤ 1000000) :
    Calls Try.prog 23 #[.pointer (some ⟨e, 0, none⟩), .int .i64 (l : Int)] w fun ev w' => ∃ L v, ev = .returned (.tuple #[.int .i64 (lit (asg V vars (Lib.compact (nats (nmL V L)))) l), v, .int .i64 0]) ∧ RootR w w' F e g mo mv mp l ks vars V T L v := by
  have HND : Hid (∀ wx, Calls Try.prog 38 #[.int .i64 (l : Int)] wx fun e w' => e = .returned (.int .i64 ((l / 2 : Nat) : Int)) ∧ w' = wx) := fun wx => cnode_any l wx
  have HNO : Hid (∀ wx, wx.heap = w.heap → Calls Try.prog 16 #[.pointer (some ⟨g, 0, none⟩)] wx fun e w' => e = .returned (.int .i64 ((ks.length : Int) - 1)) ∧ w' = wx) := fun wx hw => nodes_any (hG.kept (fun k _ _ => by rw [hw]))
  have HME : Hid (∀ wx, Calls Try.prog 40 #[.int .i64 (l : Int)] wx fun e w' => e = .returned (.int .i64 ((max l 1 : Nat) : Int)) ∧ w' = wx) := fun wx => meant_any l wx
  have hpos := hG.inv.pos
  have hml : (max l 1) / 2 < ks.length := by omega
  have c0 : w.cell? ⟨e, 0, none⟩ = some (.pointer (some ⟨g, 0, none⟩)) := cell_of hE.hd 0 rfl
  have HE : Hid (En w e g vars mv mp V (polF T)) := hE
  have HG : Hid (Gr w F g mo ks) := hG
  have HF : Hid _ := hF
  have HV : Hid _ := hV
  have hel := hE.lt
  have hvl := hE.vs.lt
  have hpl := hE.ps.lt
  obtain ⟨n, hn⟩ : ∃ n, n = l / 2 := ⟨_, rfl⟩
  obtain ⟨ml, hmle⟩ : ∃ n, n = max l 1 := ⟨_, rfl⟩
  have HML : Hid _ := hmle
  obtain ⟨N, hN⟩ : ∃ n, n = ks.length := ⟨_, rfl⟩
  have HN : Hid _ := hN
  rw [← hn] at HND
  rw [← hmle] at HME hml
  rw [← hN] at HNO hks hpos
  have hnN : (n : Int) ≤ (N : Int) - 1 := by omega
  clear hE hG hF hV hn hmle
  go_enter Try.func23, Try.ntmps23
  go_wp2_with fail
  go_quiet ((first | (go_at_call 38; refine Calls.quiet_of_same (HND.out _)) | (go_at_call 16; refine Calls.quiet_of_same (HNO.out _ (heap_drewN _ _)))))
  obtain ⟨wd, hwd⟩ : ∃ wd, wd = w.drewN nq := ⟨_, rfl⟩
  rw [← hwd]
  have HWD : Hid (Below w.heap.size w wd ∧ wd.heap = w.heap) := by
    unfold Hid
    rw [hwd]
    exact ⟨below_drewN (Below.refl _ _) _, heap_drewN w nq⟩
  clear hwd
  have hsd : w.heap.size ≤ wd.heap.size := HWD.out.1.size
  go_wp2_with fail
  refine (HME.out _).mono ?_
  rintro ev wz ⟨rfl, hz⟩
  rw [hz]
  clear hz wz
  go_wp2_with fail
  refine Calls.mono (untold_any (HE.out.below HWD.out.1) (HG.out.below HWD.out.1) hml (by omega)) ?_
  rintro ev w3 ⟨u, L, rfl, hI3, hUO, hb3⟩
  have HUO : Hid _ := hUO
  have hb03 : Below w.heap.size w w3 := HWD.out.1.trans (hb3.mono hsd)
  have hLl : L.length ≤ 20000 := by
    have := nodup_len (2 * ks.length) L (hUO.up.imp fun {a b} h => by omega) (fun x hx => by have := hUO.vf x hx; omega)
    omega
  have HB3 : Hid (Below w.heap.size w w3) := hb03
  have HI3 : Hid (Is' w3 wd.heap.size u (nats L)) := hI3
  have HNM : Hid _ := nameless_any (HE.out.below hb03) hI3 (by omega) (fun x hx => by have := hUO.vf x hx; omega)
  clear hI3 hUO hb3 hb03
  go_wp2_with fail
  refine Calls.mono HNM.out ?_
  rintro ev w4 ⟨u', rfl, hI4, hb4⟩
  have hNL := compact_list (nm_up (V := V) HUO.out.up)
  have hNm : ∀ x ∈ Lib.compact (nats (nmL V L)), 0 ≤ x ∧ x < (ks.length : Int) := fun x hx => nm_in HUO.out.vf x ((hNL.1 x).1 hx)
  have hNn := up_len hNL.2 hNm
  obtain ⟨NL, hNLe⟩ : ∃ y, y = Lib.compact (nats (nmL V L)) := ⟨_, rfl⟩
  have HNL : Hid _ := hNLe
  rw [← hNLe] at hI4 hNm hNn
  have HNM2 : Hid (∀ x ∈ NL, 0 ≤ x ∧ x < (ks.length : Int)) := hNm
  obtain ⟨a4, c4, rfl, hat4⟩ := hI4.slice
  obtain ⟨m4, hm4⟩ : ∃ y, y = NL.length := ⟨_, rfl⟩
  have HM4 : Hid _ := hm4
  have HA4 : Hid (NL = [] ∨ ∃ r, a4 = some ⟨r, 0, none⟩ ∧ w3.heap.size ≤ r ∧ r < w4.heap.size ∧ Li w4 r 0 NL) := hat4
  rw [← hm4]
  rw [← hm4] at hNn
  have HB4 : Hid (Below w.heap.size w w4) := HB3.out.trans (hb4.mono HB3.out.size)
  have HI4 : Hid (Is' w4 wd.heap.size u (nats L)) := row_kept HI3.out hb4.block
  have hs4 : w3.heap.size ≤ w4.heap.size := hb4.size
  have hs3 : w.heap.size ≤ w3.heap.size := HB3.out.size
  have HRM : Hid (Calls Try.prog 42 #[.pointer (some ⟨e, 0, none⟩)] w4 fun ev w' => ev = .returned (.int .i64 (65536 - vars)) ∧ w' = w4) := room_any (HE.out.below HB4.out) h0 (by omega)
  have hrm : ¬ (65536 - vars < (m4 : Int)) := by omega
  clear hNL hNm hI4 hb4 hat4 hm4 hNLe HNM c0
  go_wp2_with fail
  refine Calls.mono HRM.out ?_
  rintro ev wz ⟨rfl, hz⟩
  rw [hz]
  clear hz wz HRM
  go_wp2_with fail
  go_loopw [40] (fun i wr => ∃ k : Nat, k ≤ m4 ∧ i = .int .i64 (k : Int) ∧ Hid (En wr e g (vars + (k : Int)) mv mp (asg V vars (NL.take k)) (polF T) ∧ Tn w4 wr (fun q => q = e ∨ q = mv))) (fun i wr => m4 - (intOf i).toNat)
  case atStart => exact ⟨0, Nat.zero_le _, rfl, by show En w4 e g (vars + ((0 : Nat) : Int)) mv mp V (polF T); rw [show vars + ((0 : Nat) : Int) = vars by omega]; exact HE.out.below HB4.out, Tn.refl _ _⟩
  case round =>
    obtain ⟨k, hk, rfl, hH⟩ := hrel
    have hsr := hH.out.2.size
    by_cases hlt : k < m4
    · obtain ⟨x, hxk⟩ : ∃ x, NL[k]? = some x := ⟨_, List.getElem?_eq_getElem (by rw [← HM4.out]; exact hlt)⟩
      have hxr := HNM2.out x (List.mem_of_getElem? hxk)
      obtain ⟨r, rfl, hr1, hr2, hLi⟩ := HA4.out.resolve_left (fun e => by rw [e] at hxk; simp at hxk)
      have dx : wr.cell? ⟨r, k, none⟩ = some (.int .i64 x) := by
        have h1 := hLi k (by rw [← HM4.out]; exact hlt)
        rw [Nat.zero_add, List.getD_eq_getElem?_getD, hxk] at h1
        exact (World.cell?_of_block (a := ⟨r, k, none⟩) (hH.out.2.block r hr2 (by omega))).trans h1
      have HAS : Hid (asg V vars (NL.take (k + 1)) = upf (asg V vars (NL.take k)) x (vars + (k : Int) + 1)) := by
        unfold Hid
        rw [List.take_add_one, hxk]
        have h2 := asg_snoc V (NL.take k) vars x
        rw [List.length_take, show min k NL.length = k by have := HM4.out; omega] at h2
        exact h2
      have hx6 : w64 x := by unfold w64; omega
      have hE5 : En wr.drew e g (vars + (k : Int)) mv mp (asg V vars (NL.take k)) (polF T) := hH.out.1.kept (fun _ _ => rfl)
      have HNX : Hid _ := next_any hE5 (by omega) (by omega)
      have c2 : wr.cell? ⟨e, 2, none⟩ = some (.map (some mv)) := cell_of hE5.hd 2 rfl
      have hels : e < wr.heap.size := hE5.lt
      have hltI : (k : Int) < (m4 : Int) := by omega
      clear hxk hLi hE5
      go_wp2_with fail
      go_region_with ((go_at_call 43; refine Calls.mono HNX.out ?_; rintro ev w5 ⟨rfl, hE5, hs5, hT5⟩; have k2 : w5.cell? ⟨e, 2, none⟩ = some (.map (some mv)) := cell_of hE5.hd 2 rfl; obtain ⟨w6, hup, hI6, hgr6, hsz6⟩ := hE5.vs.put hx6 (vars + (k : Int) + 1); have HE5 : Hid (En w5 e g (vars + (k : Int) + 1) mv mp (asg V vars (NL.take k)) (polF T) ∧ Tn wr.drew w5 (fun q => q = e)) := ⟨hE5, hT5⟩; have HI6 : Hid (Im w6 mv (upf (asg V vars (NL.take k)) x (vars + (k : Int) + 1)) ∧ w5.grownBy w6 (some mv)) := ⟨hI6, hgr6⟩; clear hE5 hT5 hI6 hgr6))
      all_goals
        clear hup
        go_wp2_with fail
        refine ⟨⟨k + 1, by omega, by go_num, ?_, ?_⟩, by simp [intOf]; omega⟩
        · rw [HAS.out, show vars + ((k + 1 : Nat) : Int) = vars + (k : Int) + 1 by omega]
          obtain ⟨f1, f2⟩ := HE5.out
          obtain ⟨f3, f4⟩ := HI6.out
          exact ⟨(f4.block e f1.lt (fun q => f1.sep.1 (by injection q))).trans f1.hd, f3, f1.ps.kept (f4.block mp f1.ps.lt (fun q => f1.ne (by injection q with q; exact q.symm))), f1.ne⟩
        · obtain ⟨f1, f2⟩ := HE5.out
          obtain ⟨f3, f4⟩ := HI6.out
          have g1 : Tn wr w5 (fun q => q = e ∨ q = mv) := ⟨f2.os, f2.tape, f2.output, f2.size, fun b hb hn => f2.block b hb (fun q => hn (Or.inl q))⟩
          exact hH.out.2.trans (g1.trans ⟨f4.os, f4.tape, f4.output, f4.size, fun b hb hn => f4.block b hb (fun q => hn (Or.inr (by injection q)))⟩)
    · obtain rfl : k = m4 := by omega
      have hltI : ¬ (k : Int) < (k : Int) := by omega
      obtain ⟨V', hV'⟩ : ∃ V', V' = asg V vars NL := ⟨_, rfl⟩
      have HV' : Hid _ := hV'
      have hE7 : En wr e g (vars + (k : Int)) mv mp V' (polF T) := by
        have h2 := hH.out.1
        rw [HM4.out, List.take_length, ← hV', ← HM4.out] at h2
        exact h2
      have hG4 := HG.out.below HB4.out
      have hG7 : Gr wr F g mo ks := hG4.kept (fun q hq hf => hH.out.2.block q hq (fun h => by have := HF.out q hf; omega))
      obtain ⟨aL, cL, hu, hatL⟩ := HI4.out.slice
      subst hu
      rw [nats_len] at *
      obtain ⟨nL, hnL⟩ : ∃ y, y = L.length := ⟨_, rfl⟩
      have HnL : Hid _ := hnL
      rw [← hnL] at hLl ⊢
      have HAL : Hid (nats L = [] ∨ ∃ r, aL = some ⟨r, 0, none⟩ ∧ wd.heap.size ≤ r ∧ r < w4.heap.size ∧ Li w4 r 0 (nats L)) := hatL
      obtain ⟨B, hB⟩ : ∃ B, B = wr.heap.size := ⟨_, rfl⟩
      have hs4r : w4.heap.size ≤ B := by rw [hB]; exact hH.out.2.size
      obtain ⟨wA, hwA⟩ : ∃ wA, wA = wr.alloc (.cells #[.slice none 0 0] 77) := ⟨_, rfl⟩
      have hbA : Below B wr wA := by rw [hwA, hB]; exact (Below.refl _ _).alloc (Nat.le_refl _) _
      have hAs : B < wA.heap.size := by rw [hwA, size_alloc', hB]; omega
      have hA : En wA e g (vars + (k : Int)) mv mp V' (polF T) ∧ Gr wA F g mo ks ∧ Gt wA B B (.slice none 0 0) [] [] := by
        refine ⟨hE7.below (by rw [← hB]; exact hbA), hG7.below (by rw [← hB]; exact hbA), Nat.le_refl _, ?_, World.ownsRow_nil _ _ _ _, rfl, fun i u c hu _ => by simp at hu⟩
        rw [hwA, hB]
        exact heap_alloc_new wr _
      have HA : Hid _ := hA
      have HVR : Hid (∀ n, 0 ≤ (V' n).getD 0 ∧ (V' n).getD 0 ≤ 1000000) := by
        unfold Hid
        rw [hV']
        exact asg_rng NL vars h0 (by have := HM4.out; omega) HV.out
      have HT4 : Hid (Tn w4 wA (fun q => q = e ∨ q = mv)) := hH.out.2.trans ⟨hbA.os, hbA.tape, hbA.output, hbA.size, fun q hq _ => hbA.block q (by rw [hB]; exact hq)⟩
      have hBL : Below w.heap.size w w4 := HB4.out
      clear hE7 hG4 hG7 hatL hbA hA hV' hnL hBL
      go_wp2_with fail
      rw [← hB]
      rw [← hwA]
      clear hwA hB
      go_loopw [54] (fun i wq => ∃ k2 : Nat, k2 ≤ nL ∧ i = .int .i64 (k2 : Int) ∧ ∃ v us, Hid (En wq e g (vars + (k : Int)) mv mp V' (polF (T ++ L.take k2)) ∧ Gr wq F g mo ks ∧ Gt wq B B v us (clsL ks V' (L.take k2)) ∧ Tn wA wq (fun q => q = mp ∨ B ≤ q))) (fun i wq => nL - (intOf i).toNat)
      case atStart => exact ⟨0, Nat.zero_le _, rfl, _, _, by rw [List.take_zero, List.append_nil]; exact HA.out.1, HA.out.2.1, HA.out.2.2, Tn.refl _ _⟩
      case round =>
        obtain ⟨k2, hk2, rfl, v, us, hJ⟩ := hrel
        have hsq := hJ.out.2.2.2.size
        by_cases hlt2 : k2 < nL
        · obtain ⟨x, hxk⟩ : ∃ x, L[k2]? = some x := ⟨_, List.getElem?_eq_getElem (by rw [← HnL.out]; exact hlt2)⟩
          have hxm := List.mem_of_getElem? hxk
          obtain ⟨r, rfl, hr1, hr2, hLi⟩ := HAL.out.resolve_left (fun e => by have := nats_len L; rw [e] at this; simp at this; have := HnL.out; omega)
          have dx : wr.cell? ⟨r, k2, none⟩ = some (.int .i64 (x : Int)) := by
            have h2 := hLi k2 (by rw [nats_len, ← HnL.out]; exact hlt2)
            rw [Nat.zero_add] at h2
            have e2 : (nats L).getD k2 0 = (x : Int) := by
              unfold nats
              rw [List.getD_eq_getElem?_getD, List.getElem?_map, hxk]; rfl
            rw [e2] at h2
            exact (World.cell?_of_block (a := ⟨r, k2, none⟩) ((hJ.out.2.2.2.block r (by omega) (by omega)).trans (HT4.out.block r hr2 (by omega)))).trans h2
          have hnew : x ∉ T ++ L.take k2 := by
            intro hm
            rcases List.mem_append.1 hm with hm | hm
            · exact HUO.out.new x hxm hm
            · obtain ⟨j, hj, hje⟩ := List.mem_take_iff_getElem.1 hm
              have hkl := (List.getElem?_eq_some_iff.1 hxk)
              have hjj : j < k2 := by omega
              have := List.pairwise_iff_getElem.1 HUO.out.up j k2 (by omega) hkl.1 hjj
              rw [hkl.2, hje] at this
              omega
          have HTL : Hid _ := tell_any (B := B) hJ.out.1 hJ.out.2.1 (fun q hq => ⟨by have := HF.out q hq; omega, (HF.out q hq).2.2.2⟩) hJ.out.2.2.1 (by omega) (by omega) (by omega) (by omega) hnew (HUO.out.vf x hxm) (by have := HN.out; omega) HVR.out (by have := clsL_len ks V' (L.take k2); rw [List.length_take] at this; omega)
          have HSN : Hid (clsL ks V' (L.take (k2 + 1)) = clsL ks V' (L.take k2) ++ cls ks V' x ∧ T ++ L.take (k2 + 1) = T ++ L.take k2 ++ [x]) := ⟨clsL_snoc hxk, by rw [List.take_add_one, hxk, List.append_assoc]; rfl⟩
          have hltI2 : (k2 : Int) < (nL : Int) := by omega
          clear hxk hLi hnew
          go_wp2_with fail
          refine Calls.mono HTL.out ?_
          rintro ev w8 ⟨rfl, g1, g2, ⟨v8, us8, g3⟩, g4⟩
          have H8 : Hid (En w8 e g (vars + (k : Int)) mv mp V' (polF (T ++ L.take (k2 + 1))) ∧ Gr w8 F g mo ks ∧ Gt w8 B B v8 us8 (clsL ks V' (L.take (k2 + 1))) ∧ Tn wA w8 (fun q => q = mp ∨ B ≤ q)) := by
            unfold Hid
            rw [HSN.out.1, HSN.out.2]
            exact ⟨g1, g2, g3, hJ.out.2.2.2.trans g4⟩
          clear g1 g2 g3 g4
          go_wp2_with fail
          exact ⟨⟨k2 + 1, by omega, by go_num, _, _, H8.out⟩, by simp [intOf]; omega⟩
        · obtain rfl : k2 = nL := by omega
          have hltI2 : ¬ (k2 : Int) < (k2 : Int) := by omega
          have d0 : wr.cell? ⟨B, 0, none⟩ = some v := cell_of hJ.out.2.2.1.hd 0 rfl
          have HLT : Hid (∀ wx, Below wr.heap.size wr wx → Calls Try.prog 45 #[.pointer (some ⟨e, 0, none⟩), .int .i64 (l : Int)] wx fun ev w' => ev = .returned (.int .i64 (lit V' l)) ∧ Below wx.heap.size wx w') := fun wx hb => literal_any (hJ.out.1.below hb) (by omega) (by have := HVR.out ((l / 2 : Nat) : Int); unfold w64; omega) (HVR.out _).1
          obtain ⟨rl, hrl⟩ : ∃ y, y = lit V' l := ⟨_, rfl⟩
          have HRL : Hid _ := hrl
          rw [← hrl] at HLT
          clear hrl
          go_wp2_with fail
          go_region_held3 (fun y => y.cell? ⟨B, 0, none⟩ = some v ∧ Below wr.heap.size wr y)
            ((first | (obtain ⟨q0, q2⟩ := ‹_ ∧ _›; with_reducible exact ⟨keep_cell hbk q0, below_step q2 hbk⟩) | exact ⟨d0, drew_low _ _⟩))
            ((go_at_call 45; refine (HLT.out _ (by first | exact drew_low _ _ | (obtain ⟨-, qB⟩ := ‹_ ∧ _›; exact qB))).mono ?_; rintro ev wz ⟨rfl, hbk⟩))
          obtain ⟨-, hb9⟩ := ‹_ ∧ _›
          have HB9 : Hid _ := hb9
          clear hb9
          go_wp2_with fail
          go_ret3
          refine ⟨L, v, by rw [HRL.out, HV'.out, HNL.out]; rfl, ?_⟩
          have hJ2 := hJ.out
          rw [HnL.out, List.take_length] at hJ2
          have hk4 := HM4.out
          have hwB : w.heap.size ≤ B := by have := HB4.out.size; omega
          unfold RootR
          rw [← HNL.out, ← HV'.out, ← hk4]
          refine ⟨by rw [← HML.out]; exact HUO.out, hJ2.1.below HB9.out, hJ2.2.1.below HB9.out, ⟨B, B, us, hJ2.2.2.1.below HB9.out, hwB⟩, ?_⟩
          have t1 : Tn w w4 (fun q => q = e ∨ q = mv ∨ q = mp ∨ w.heap.size ≤ q) := Tn.of_below _ HB4.out
          have t2 : Tn w4 wA (fun q => q = e ∨ q = mv ∨ q = mp ∨ w.heap.size ≤ q) := HT4.out.mono (fun q h => by rcases h with h | h; exact Or.inl h; exact Or.inr (Or.inl h))
          have t3 : Tn wA wr (fun q => q = e ∨ q = mv ∨ q = mp ∨ w.heap.size ≤ q) := hJ2.2.2.2.mono (fun q h => by rcases h with h | h; exact Or.inr (Or.inr (Or.inl h)); exact Or.inr (Or.inr (Or.inr (by omega))))
          exact ((t1.trans t2).trans t3).trans (Tn.of_below _ HB9.out)
end Go.Proofs.Ytajpnlmglkifcaa
