/- The law CnfForm, walked. -/
import Derived.Test.YtajpnlmglkifcaaCN26
namespace Go.Proofs.Ytajpnlmglkifcaa
open Go.RowKit
set_option linter.unusedSimpArgs false
set_option linter.unusedVariables false

set_option maxRecDepth 20000 in
set_option maxHeartbeats 3200000 in
theorem walk_form {l : List Tp} {s0 : Option Addr} {cap : Nat} (fi : Int) (W : World) (hLa : La W s0 l) (hmx : l.length ≤ maxLen) :
    Calls Try.prog 4 #[.slice s0 l.length cap, .int .i64 fi] W fun ev W' => ev = .returned (.bool true) ∧ Below W.heap.size W W' := by
  have HKN : Hid _ := known_any W
  have HLA : Hid _ := hLa
  have HPLC : Hid (∀ wx, Calls Try.prog 15 #[.int .i64 fi, .int .i64 1000] wx fun e w' => e = .returned (.int .i64 (fi % 1000)) ∧ w' = wx) := fun wx => place_any (by decide) (by decide) wx
  have hf1 : 0 ≤ fi % 1000 ∧ fi % 1000 < 1000 := by omega
  obtain ⟨f0, hf0⟩ : ∃ f0, f0 = fi % 1000 := ⟨_, rfl⟩
  rw [← hf0] at HPLC hf1
  obtain ⟨n, hn⟩ : ∃ n, n = l.length := ⟨_, rfl⟩
  have HN : Hid _ := hn
  rw [← hn] at hmx ⊢
  obtain ⟨hf2, hf3⟩ := hf1
  clear hLa hn hf0
  go_enter Try.func4, Try.ntmps4
  go_wp2_with fail
  refine Calls.mono HKN.out ?_
  rintro ev w1 ⟨rfl, hb1⟩
  by_cases h60 : (60 : Int) < (n : Int)
  · go_wp2_with fail
    go_ret
    exact ⟨rfl, hb1⟩
  have HPL : Hid (Calls Try.prog 7 #[.slice s0 n cap, .int .i64 (1 + f0)] w1 fun ev w' => ∃ X s, ev = .returned (.pointer (some ⟨X, 0, none⟩)) ∧ PL w1 w' X (1 + f0) l s) := by
    unfold Hid
    rw [HN.out]
    exact play_any w1 (La.below HLA.out hb1) (by rw [← HN.out]; omega) (by omega) (by omega)
  go_wp2_with fail
  refine (HPLC.out _).mono ?_
  rintro ev wz ⟨rfl, hz⟩
  rw [hz]
  clear hz wz
  go_wp2_with fail
  refine Calls.mono HPL.out ?_
  rintro ev w2 ⟨X, s, rfl, g, e, mv, mp, f, ⟨F, col, va, vl, vr, us, hx⟩, hP, hf, hLt, hpl, hb2⟩
  have hb02 : Below W.heap.size W w2 := hb1.trans (hb2.mono hb1.size)
  have hll : l.length ≤ 60 := by rw [← HN.out]; omega
  have h1f : (1 : Int) ≤ 1 + f0 := by omega
  have h3 := hP.three
  have hpos := hP.inv.pos
  have hlk := hx.gr.len
  have hvn := hP.len
  have HPZ : Hid _ := hP
  have c0 : w2.cell? ⟨X, 0, none⟩ = some (.pointer (some ⟨g, 0, none⟩)) := cell_of hx.hd 0 rfl
  have c1 : w2.cell? ⟨X, 1, none⟩ = some (.pointer (some ⟨e, 0, none⟩)) := cell_of hx.hd 1 rfl
  have c2 : w2.cell? ⟨X, 2, none⟩ = some va := cell_of hx.hd 2 rfl
  have c3 : w2.cell? ⟨X, 3, none⟩ = some vl := cell_of hx.hd 3 rfl
  have c4 : w2.cell? ⟨X, 4, none⟩ = some vr := cell_of hx.hd 4 rfl
  have c5 : w2.cell? ⟨X, 5, none⟩ = some (.bool true) := cell_of hx.hd 5 rfl
  have hXl := hx.lt
  have hrL : s.Rs.length = s.Lt.length := by rw [hP.rt, List.length_map]
  have HEN : Hid (∀ wx, Below w2.heap.size w2 wx → En wx e g s.vars mv mp s.V (polF s.T)) := fun wx hb => hx.en.below hb
  have HGR : Hid (∀ wx, Below w2.heap.size w2 wx → Gr wx F g 60 s.ks) := fun wx hb => hx.gr.below hb
  have HOK : Hid (∀ c ∈ s.C, okC c ∧ c.length ≤ 1000) := hP.ok h1f (by omega)
  have hcl : s.C.length ≤ 300 := by have := hP.clen; omega
  have HLS : Hid (∀ wx, Below w2.heap.size w2 wx → ∃ B us, Ls wx B va us s.C) := fun wx hb => ⟨_, _, hx.al.below hb⟩
  obtain ⟨aa, ca, hva, -⟩ := hx.al.sl
  obtain ⟨al, cl, hvl, hla⟩ := hx.li.slice
  obtain ⟨ar, cr, hvr, hra⟩ := hx.ro.slice
  rw [nats_len] at hvl
  rw [hrL] at hvr
  obtain ⟨nC, hnC⟩ : ∃ y, y = s.C.length := ⟨_, rfl⟩
  obtain ⟨nL, hnL⟩ : ∃ y, y = s.Lt.length := ⟨_, rfl⟩
  have HNL : Hid _ := hnL
  have HNC : Hid _ := hnC
  have HLC : Hid (∀ wx : World, Below w2.heap.size w2 wx → ∀ (q yl : Nat), s.Lt[q]? = some yl → ∃ r3, al = some ⟨r3, 0, none⟩ ∧ wx.cell? ⟨r3, q, none⟩ = some (.int .i64 (yl : Int))) := fun wx hb q yl hy => by
    have hql : q < (nats s.Lt).length := by rw [nats_len]; exact (List.getElem?_eq_some_iff.1 hy).1
    obtain ⟨r3, e1, -, -, e2⟩ := hla.resolve_left (fun e => by rw [e] at hql; simp at hql)
    have e3 := e2 q hql
    rw [Nat.zero_add, nats_get hy] at e3
    exact ⟨r3, e1, keep_cell hb e3⟩
  have HRC4 : Hid (∀ wx : World, Below w2.heap.size w2 wx → ∀ (q yl : Nat), s.Lt[q]? = some yl → ∃ r4, ar = some ⟨r4, 0, none⟩ ∧ wx.cell? ⟨r4, q, none⟩ = some (.int .i64 (lit s.V yl))) := fun wx hb q yl hy => by
    have hql : q < s.Rs.length := by rw [hrL]; exact (List.getElem?_eq_some_iff.1 hy).1
    obtain ⟨r3, e1, -, -, e2⟩ := hra.resolve_left (fun e => by rw [e] at hql; simp at hql)
    have e3 := e2 q hql
    rw [Nat.zero_add, List.getD_eq_getElem?_getD, HPZ.out.rt, List.getElem?_map, hy] at e3
    exact ⟨r3, e1, keep_cell hb e3⟩
  rw [← hnC] at hva
  rw [← hnL] at hvl hvr
  subst hva hvl hvr
  have HAA : Hid (∀ (wx : World) (t : Nat), Below w2.heap.size w2 wx → t < 40000 → Calls Try.prog 12 #[.slice aa nC ca, .int .i64 (t : Int)] wx fun ev w' => ev = .returned (.bool (allF t s.C)) ∧ Below wx.heap.size wx w') := fun wx t hb ht => all_any (hx.al.below hb) HOK.out (by rw [← HNC.out]; omega) ht
  have HSM : Hid _ := small_any c2 hx.al HOK.out (by rw [← HNC.out]; omega)
  obtain ⟨vv, hvv⟩ : ∃ y, y = s.vars := ⟨_, rfl⟩
  have HVV : Hid _ := hvv
  have hvv0 : 0 ≤ vv ∧ vv ≤ 1150 := by omega
  have HV1 : Hid (vv ≤ 100000) := by unfold Hid; omega
  have HVR : Hid (∀ wx : World, Below w2.heap.size w2 wx → Calls Try.prog 9 #[.pointer (some ⟨e, 0, none⟩)] wx fun ev w' => ev = .returned (.int .i64 vv) ∧ w' = wx) := fun wx hb => by rw [HVV.out]; exact vars_any (HEN.out wx hb)
  have HVB : Hid (∀ n v, s.V n = some v → 1 ≤ v ∧ v ≤ 100000) := fun n v hv => by have := HPZ.out.rg n v hv; have := HVV.out; have := HV1.out; omega
  have HEV2 : Hid _ := insL_even (ks := s.ks) (by omega)
  obtain ⟨m, hm⟩ : ∃ m, m = (insL s.ks).length := ⟨_, rfl⟩
  have HMI : Hid _ := hm
  have hm5 : m ≤ 5 := by rw [hm]; exact playR_ins hpl (by show (insL [(0, 0)]).length ≤ 5; decide)
  have HC0 : Hid _ := c0
  have HC1 : Hid _ := c1
  have HC2 : Hid _ := c2
  have HC3 : Hid _ := c3
  have HC4 : Hid _ := c4
  have HC5 : Hid _ := c5
  have hnL2 : nL ≤ 60 := by omega
  have hnC2 : nC ≤ 300 := by omega
  have HKS : Hid (s.ks.length ≤ 61) := by unfold Hid; omega
  clear hlk hvn hP hrL hcl hla hra hnC hnL hvv hm hpl hLt hf hx c2 c3 c4
  obtain ⟨ti, ht0, hz0, hz1, hz2⟩ := info_any infoList
  have HI : Hid _ := (⟨ht0, hz0, hz1, hz2⟩ : Try.prog.info? 31 = some ti ∧ ti.zero = _ ∧ ti.size = 1 ∧ ti.bytes = 24)
  clear ht0 hz0 hz1 hz2
  obtain ⟨K, hK⟩ : ∃ K, K = s.ks.length - 1 := ⟨_, rfl⟩
  have HK : Hid (s.ks.length = K + 1) := by unfold Hid; omega
  have hK60 : K ≤ 60 := by have := HKS.out; omega
  have h3C : (nC : Int) ≤ 3 * (K : Int) + 1 := by rw [HNC.out]; omega
  have hd3 : decide (3 * (K : Int) + 1 < (nC : Int)) = false := decide_eq_false (by omega)
  have HNO : Hid (∀ wx, Below w2.heap.size w2 wx → Calls Try.prog 16 #[.pointer (some ⟨g, 0, none⟩)] wx fun e w' => e = .returned (.int .i64 (K : Int)) ∧ w' = wx) := fun wx hb => by
    have h := nodes_any (HGR.out wx hb)
    rw [show (s.ks.length : Int) - 1 = (K : Int) by have := HK.out; omega] at h
    exact h
  have HCK : Hid (∀ wx : World, Below w2.heap.size w2 wx → ∀ (q : Nat) (c : List Int), s.C[q]? = some c → ∃ r rc cc, aa = some ⟨r, 0, none⟩ ∧ wx.cell? ⟨r, q, none⟩ = some (.slice (some ⟨rc, 0, none⟩) c.length cc) ∧ Rl wx 0 (.slice (some ⟨rc, 0, none⟩) c.length cc) c) := fun wx hb q c hc => by
    obtain ⟨B, us, hl⟩ := HLS.out wx hb
    have hm := List.mem_of_getElem? hc
    obtain ⟨r, rc, cc, q1, q2, q3⟩ := hl.at hc (HPZ.out.ne c hm).1
    exact ⟨r, rc, cc, q1, q2, Is'.rl (own_mono q3 (Nat.zero_le _)) (by have := (HPZ.out.ne c hm).2; omega)⟩
  have d2 : w2.cell? ⟨X, 2, none⟩ = some (.slice aa nC ca) := HC2.out
  clear HSM h3 hpos hK
  go_wp2_with fail
  go_quiet ((go_at_call 16; refine Calls.quiet_of_same (HNO.out _ (below_drewN (Below.refl _ _) _))))
  obtain ⟨w3, hw3⟩ : ∃ w3, w3 = w2.drewN nq := ⟨_, rfl⟩
  rw [← hw3]
  have HB3 : Hid (Below w2.heap.size w2 w3) := by unfold Hid; rw [hw3]; exact below_drewN (Below.refl _ _) _
  have hs3 := HB3.out.size
  clear hw3 c0 c1 c5 d2
  go_wp2_with fail
  clear hd3 h3C
  go_loopw [6, 7] (fun u i wr => ∃ k : Nat, k ≤ nC ∧ i = .int .i64 (k : Int) ∧ ∃ us, Hid (Ls wr w2.heap.size u us ((s.C.take k).map setF) ∧ Below w2.heap.size w2 wr)) (fun u i wr => nC - (intOf i).toNat)
  case atStart => exact ⟨0, Nat.zero_le _, rfl, [], ⟨World.ownsRow_nil _ _ _ _, rfl, fun i u c hu _ => by simp at hu⟩, HB3.out⟩
  case round =>
    obtain ⟨k, hk, rfl, us6, hH⟩ := hrel
    have d2 : wr.cell? ⟨X, 2, none⟩ = some (.slice aa nC ca) := keep_cell hH.out.2 HC2.out
    have hsr := hH.out.2.size
    by_cases hkC : k < nC
    · obtain ⟨c, hck⟩ : ∃ c, s.C[k]? = some c := ⟨_, List.getElem?_eq_getElem (by rw [← HNC.out]; exact hkC)⟩
      have hcm := List.mem_of_getElem? hck
      obtain ⟨r, rc, cc, rfl, d3, hRl⟩ := HCK.out wr hH.out.2 k c hck
      have HST : Hid _ := set_any hRl (HOK.out c hcm).1 (HOK.out c hcm).2
      have hone := HPZ.out.once h1f c hcm
      have hsl := setF_len (once_nodup hone)
      have hcne := (HPZ.out.ne c hcm).1
      have hcle := (HPZ.out.ne c hcm).2
      obtain ⟨p, hp⟩ : ∃ p, p = c.length := ⟨_, rfl⟩
      have HLIT : Hid (∀ (q : Nat) (y : Int), (setF c)[q]? = some y → -100000 ≤ y ∧ y ≤ 100000 ∧ 1 + f0 ≤ max y (-y) ∧ max y (-y) ≤ vv ∧ ¬ (-y ∈ setF c)) := fun q y hy => by
        have hym := setF_mem.1 (List.mem_of_getElem? hy)
        obtain ⟨z1, z2, z3⟩ := (HOK.out c hcm).1 y hym
        obtain ⟨nn, v, e1, e2⟩ := HPZ.out.cl_lit c hcm y hym
        have e3 := HPZ.out.rg nn v e1
        rw [← HVV.out] at e3
        exact ⟨z2, z3, by omega, by omega, fun e4 => once_opp hone hym z1 (setF_mem.1 e4)⟩
      have HNE : Hid (∀ (q : Nat) (c' : List Int), q < k → s.C[q]? = some c' → decide (setF c' = setF c) = false ∧ c' ≠ []) := fun q c' hq hc' => by
        refine ⟨decide_eq_false (set_ne ?_), (HPZ.out.ne c' (List.mem_of_getElem? hc')).1⟩
        have h2 := List.pairwise_iff_getElem.1 (HPZ.out.none_twice h1f) q k (List.getElem?_eq_some_iff.1 hc').1 (List.getElem?_eq_some_iff.1 hck).1 hq
        rw [(List.getElem?_eq_some_iff.1 hc').2, (List.getElem?_eq_some_iff.1 hck).2] at h2
        exact h2
      have HTK : Hid ((s.C.take (k + 1)).map setF = (s.C.take k).map setF ++ [setF c]) := by unfold Hid; rw [List.take_add_one, hck, List.map_append]; rfl
      have hkI : (k : Int) < (nC : Int) := by omega
      rw [← hp] at d3 HST hsl hcle
      have hrl : r < wr.heap.size := World.block_lt_of_cell? _ _ d3
      have HD3 : Hid _ := d3
      have hXr : X < wr.heap.size := World.block_lt_of_cell? _ _ d2
      obtain ⟨wq, ewq⟩ : ∃ wq, wq = wr := ⟨_, rfl⟩
      rw [← ewq] at d2 d3 HST HD3 hsr hH hrl hXr
      rw [← ewq]
      clear hck hcm hRl hone hp ewq
      go_wp2_with fail
      refine Calls.mono HST.out ?_
      rintro ev w5 ⟨u8, rfl, hI5, hb5⟩
      obtain ⟨rs, cs, eu8, hrs, -, hLi5⟩ := hI5.li (setF_ne hcne)
      rw [hsl] at eu8
      subst eu8
      have HI5 : Hid (Is' w5 wq.heap.size (.slice (some ⟨rs, 0, none⟩) p cs) (setF c)) := hI5
      have HLI : Hid (Li w5 rs 0 (setF c)) := hLi5
      have HL5 : Hid (Ls w5 w2.heap.size u6 us6 ((s.C.take k).map setF)) := hH.out.1.below hb5
      have HB5 : Hid (Below w2.heap.size w2 w5) := hH.out.2.trans (hb5.mono hsr)
      have HU6 : Hid (∀ q, u6.ownBlock = some q → q < wq.heap.size) := fun q hq => (hH.out.1.row.lt q hq).2
      have hs5 : wq.heap.size ≤ w5.heap.size := hb5.size
      have e2 := keep_cell hb5 d2
      have e3 := keep_cell hb5 d3
      have HSL : Hid _ := hsl
      have zp : ((p : Int) == (p : Int)) = true := by simp
      have zp2 : ((p : Int) != (p : Int)) = false := by simp
      clear hI5 hLi5 hb5 d2 d3 HST hH hsl hrs
      go_wp2_with fail
      clear e2 e3 zp zp2
      go_loopw [10] (fun i wz => ∃ q : Nat, q ≤ p ∧ i = .int .i64 (q : Int) ∧ Hid (Below w5.heap.size w5 wz)) (fun i wz => p - (intOf i).toNat)
      case atStart => exact ⟨0, Nat.zero_le _, rfl, Below.refl _ _⟩
      case round =>
        obtain ⟨q, hq, rfl, hJ⟩ := hrel
        by_cases hqp : q < p
        · obtain ⟨y, hyq⟩ : ∃ y, (setF c)[q]? = some y := ⟨_, List.getElem?_eq_getElem (by rw [HSL.out]; exact hqp)⟩
          have hqI : (q : Int) < (p : Int) := by omega
          have e6 : wr.cell? ⟨rs, q, none⟩ = some (.int .i64 y) := by
            have h1 := HLI.out q (by rw [HSL.out]; exact hqp)
            rw [Nat.zero_add, List.getD_eq_getElem?_getD, hyq] at h1
            exact keep_cell hJ.out h1
          obtain ⟨hy1, hy2, hy3, hy4, hy5⟩ := HLIT.out q y hyq
          have hb2r : Below w2.heap.size w2 wr := HB5.out.trans (hJ.out.mono HB5.out.size)
          have e1 : wr.cell? ⟨X, 1, none⟩ = some (.pointer (some ⟨e, 0, none⟩)) := keep_cell hb2r HC1.out
          have HHS : Hid (∀ wx, Below wr.heap.size wr wx → Calls Try.prog 18 #[.slice (some ⟨rs, 0, none⟩) p cs, .int .i64 (-y)] wx fun ev w' => ev = .returned (.bool false) ∧ w' = wx) := fun wx hb => by
            have h := has12_any (Is'.rl (row_kept (row_kept HI5.out hJ.out.block) hb.block) (by rw [HSL.out]; omega)) (-y)
            rw [decide_eq_false hy5] at h
            exact h
          have HVW : Hid (∀ wx, Below wr.heap.size wr wx → Calls Try.prog 9 #[.pointer (some ⟨e, 0, none⟩)] wx fun ev w' => ev = .returned (.int .i64 vv) ∧ w' = wx) := fun wx hb => HVR.out wx (hb2r.trans (hb.mono hb2r.size))
          have HM1 : Hid (decide (max y (-y) < 1 + f0) = false) := decide_eq_false (by omega)
          have HM2 : Hid (decide (vv < max y (-y)) = false) := decide_eq_false (by omega)
          have hwy : IntKind.i64.wrap (-y) = -y := by rw [IntKind.wrap_i64]; omega
          have hXw : X < wr.heap.size := World.block_lt_of_cell? _ _ e1
          have hrw : rs < wr.heap.size := World.block_lt_of_cell? _ _ e6
          obtain ⟨wu, ewu⟩ : ∃ wu, wu = wr := ⟨_, rfl⟩
          rw [← ewu] at e1 e6 HHS HVW hJ hXw hrw
          rw [← ewu]
          clear hyq hy3 hy4 hy5 hb2r ewu
          go_wp2_with fail
          refine wp_named fun a0 ha0 => ?_
          have o1 := old_at ha0 (t := 1) rfl
          have o5 := old_at ha0 (t := 5) rfl
          have o8 := old_at ha0 (t := 8) rfl
          have o10 := old_at ha0 (t := 10) rfl
          refine wp_region_lin (S := fun _ _ x => Below wu.heap.size wu x) [] (fun _ => 0) (by kernel_rfl) (by kernel_rfl) (by rw [← ha0]; kernel_rfl) (drew_low _ _) ?_
          refine' LinAll.cons _ ?_ ?_ ?_
          rotate_left 1
          · intro gg L a x hLi haft hS hK
            have t8 := (hK.old 8 (by kernel_rfl)).trans o8
            (try dsimp only at t8)
            refine go_in (wanted_all rfl) ?_
            intro K hk
            clear haft hK hLi
            go_simp
            exact hk.out gg x (fun _ _ => rfl) (hS)
          · intro i hi; exact Or.inl (fun _ _ _ => rfl)
          refine' LinAll.cons _ ?_ ?_ ?_
          rotate_left 1
          · intro gg L a x hLi haft hS hK
            have t8 := (hK.old 8 (by kernel_rfl)).trans o8
            (try dsimp only at t8)
            refine go_in (wanted_all rfl) ?_
            intro K hk
            clear haft hK hLi
            go_simp
            exact hk.out gg x (fun _ _ => rfl) (hS)
          · intro i hi; exact Or.inl (fun _ _ _ => rfl)
          refine' LinAll.cons _ ?_ ?_ ?_
          rotate_left 1
          · intro gg L a x hLi haft hS hK
            have t10 := (hK.old 10 (by kernel_rfl)).trans o10
            (try dsimp only at t10)
            refine go_in (wanted_all rfl) ?_
            intro K hk
            clear haft hK hLi
            go_simp
            exact hk.out gg x (fun _ _ => rfl) (hS)
          · intro i hi; exact Or.inl (fun _ _ _ => rfl)
          refine' LinAll.cons _ ?_ ?_ ?_
          rotate_left 1
          · intro gg L a x hLi haft hS hK
            have t89 := hK.new 1 1 _ 89 _ rfl rfl rfl (by kernel_rfl) (waits haft 1 (by kernel_rfl))
            have t90 := hK.new 2 0 _ 90 _ rfl rfl rfl (by kernel_rfl) (waits haft 2 (by kernel_rfl))
            (try dsimp only at t89 t90)
            refine go_in (wanted_all rfl) ?_
            intro K hk
            clear haft hK hLi
            go_simp
            exact hk.out gg x (fun _ _ => rfl) (hS)
          · intro i hi; exact Or.inl (fun _ _ _ => rfl)
          refine' LinAll.cons _ ?_ ?_ ?_
          rotate_left 1
          · intro gg L a x hLi haft hS hK
            have t91 := hK.new 3 0 _ 91 _ rfl rfl rfl (by kernel_rfl) (waits haft 3 (by kernel_rfl))
            (try dsimp only at t91)
            have hS1 : Below wu.heap.size wu x := hS
            have cX := keep_cell hS1 e6
            refine go_in (wanted_all rfl) ?_
            intro K hk
            clear haft hK hLi
            go_simp
            exact hk.out gg x (fun _ _ => rfl) (hS)
          · intro i hi; exact Or.inl (fun _ _ _ => rfl)
          refine LinAll.cons (fun _ => .int .i64 (-y)) ?_ ?_ ?_
          · intro gg L a x hLi haft hS hK
            have t92 := hK.new 4 0 _ 92 _ rfl rfl rfl (by kernel_rfl) (waits haft 4 (by kernel_rfl))
            (try dsimp only at t92)
            refine go_in (wanted_all rfl) ?_
            intro K hk
            clear haft hK hLi
            go_simp
            (try rw [hwy])
            exact hk.out gg x (fun _ _ => rfl) hS
          · intro i hi; exact Or.inl (fun _ _ _ => rfl)
          refine' LinAll.cons _ ?_ ?_ ?_
          rotate_left 1
          · intro gg L a x hLi haft hS hK
            have t88 := hK.new 0 5 _ 88 _ rfl rfl rfl (by kernel_rfl) (waits haft 0 (by kernel_rfl))
            have t93 := hK.new 5 0 _ 93 _ rfl rfl rfl (by kernel_rfl) (waits haft 5 (by kernel_rfl))
            (try dsimp only at t88 t93)
            have hS1 : Below wu.heap.size wu x := hS
            refine go_in (wanted_all rfl) ?_
            intro K hk
            have HVX : Hid _ := HHS.out x hS1
            clear haft hK hLi
            go_simp
            refine Calls.mono HVX.out ?_
            rintro ev y9 ⟨rfl, rfl⟩
            exact hk.out gg y9 (fun _ _ => rfl) hS1
          · intro i hi; exact Or.inl (fun _ _ _ => rfl)
          refine' LinAll.cons _ ?_ ?_ ?_
          rotate_left 1
          · intro gg L a x hLi haft hS hK
            have t94 := hK.new 6 0 _ 94 _ rfl rfl rfl (by kernel_rfl) (waits haft 6 (by kernel_rfl))
            (try dsimp only at t94)
            refine go_in (wanted_all rfl) ?_
            intro K hk
            clear haft hK hLi
            go_simp
            exact hk.out gg x (fun _ _ => rfl) (hS)
          · intro i hi; exact Or.inl (fun _ _ _ => rfl)
          refine' LinAll.cons _ ?_ ?_ ?_
          rotate_left 1
          · intro gg L a x hLi haft hS hK
            have t8 := (hK.old 8 (by kernel_rfl)).trans o8
            have tg := hK.new 7 0 _ 95 _ rfl rfl rfl (by kernel_rfl) (waits haft 7 (by kernel_rfl))
            (try dsimp only at t8)
            refine go_in (wanted_at rfl rfl rfl tg rfl) ?_
            intro K hk
            clear haft hK tg hLi
            go_simp
            exact hk.out gg x (fun _ _ => rfl) (hS)
          · intro i hi; exact Or.inl (fun _ _ _ => rfl)
          refine' LinAll.cons _ ?_ ?_ ?_
          rotate_left 1
          · intro gg L a x hLi haft hS hK
            have t10 := (hK.old 10 (by kernel_rfl)).trans o10
            have tg := hK.new 7 1 _ 95 _ rfl rfl rfl (by kernel_rfl) (waits haft 7 (by kernel_rfl))
            (try dsimp only at t10)
            refine go_in (wanted_at rfl rfl rfl tg rfl) ?_
            intro K hk
            clear haft hK tg hLi
            go_simp
            exact hk.out gg x (fun _ _ => rfl) (hS)
          · intro i hi; exact Or.inl (fun _ _ _ => rfl)
          refine' LinAll.cons _ ?_ ?_ ?_
          rotate_left 1
          · intro gg L a x hLi haft hS hK
            have t96 := hK.new 8 1 _ 96 _ rfl rfl rfl (by kernel_rfl) (waits haft 8 (by kernel_rfl))
            have t97 := hK.new 9 0 _ 97 _ rfl rfl rfl (by kernel_rfl) (waits haft 9 (by kernel_rfl))
            have tg := hK.new 7 2 _ 95 _ rfl rfl rfl (by kernel_rfl) (waits haft 7 (by kernel_rfl))
            (try dsimp only at t96 t97)
            refine go_in (wanted_at rfl rfl rfl tg rfl) ?_
            intro K hk
            clear haft hK tg hLi
            go_simp
            exact hk.out gg x (fun _ _ => rfl) (hS)
          · intro i hi; exact Or.inl (fun _ _ _ => rfl)
          refine' LinAll.cons _ ?_ ?_ ?_
          rotate_left 1
          · intro gg L a x hLi haft hS hK
            have t98 := hK.new 10 0 _ 98 _ rfl rfl rfl (by kernel_rfl) (waits haft 10 (by kernel_rfl))
            have tg := hK.new 7 3 _ 95 _ rfl rfl rfl (by kernel_rfl) (waits haft 7 (by kernel_rfl))
            (try dsimp only at t98)
            have hS1 : Below wu.heap.size wu x := hS
            have cX := keep_cell hS1 e6
            refine go_in (wanted_at rfl rfl rfl tg rfl) ?_
            intro K hk
            clear haft hK tg hLi
            go_simp
            exact hk.out gg x (fun _ _ => rfl) (hS)
          · intro i hi; exact Or.inl (fun _ _ _ => rfl)
          refine' LinAll.cons _ ?_ ?_ ?_
          rotate_left 1
          · intro gg L a x hLi haft hS hK
            have t8 := (hK.old 8 (by kernel_rfl)).trans o8
            have tg := hK.new 7 4 _ 95 _ rfl rfl rfl (by kernel_rfl) (waits haft 7 (by kernel_rfl))
            (try dsimp only at t8)
            refine go_in (wanted_at rfl rfl rfl tg rfl) ?_
            intro K hk
            clear haft hK tg hLi
            go_simp
            exact hk.out gg x (fun _ _ => rfl) (hS)
          · intro i hi; exact Or.inl (fun _ _ _ => rfl)
          refine' LinAll.cons _ ?_ ?_ ?_
          rotate_left 1
          · intro gg L a x hLi haft hS hK
            have t10 := (hK.old 10 (by kernel_rfl)).trans o10
            have tg := hK.new 7 5 _ 95 _ rfl rfl rfl (by kernel_rfl) (waits haft 7 (by kernel_rfl))
            (try dsimp only at t10)
            refine go_in (wanted_at rfl rfl rfl tg rfl) ?_
            intro K hk
            clear haft hK tg hLi
            go_simp
            exact hk.out gg x (fun _ _ => rfl) (hS)
          · intro i hi; exact Or.inl (fun _ _ _ => rfl)
          refine' LinAll.cons _ ?_ ?_ ?_
          rotate_left 1
          · intro gg L a x hLi haft hS hK
            have t100 := hK.new 12 1 _ 100 _ rfl rfl rfl (by kernel_rfl) (waits haft 12 (by kernel_rfl))
            have t101 := hK.new 13 0 _ 101 _ rfl rfl rfl (by kernel_rfl) (waits haft 13 (by kernel_rfl))
            have tg := hK.new 7 6 _ 95 _ rfl rfl rfl (by kernel_rfl) (waits haft 7 (by kernel_rfl))
            (try dsimp only at t100 t101)
            refine go_in (wanted_at rfl rfl rfl tg rfl) ?_
            intro K hk
            clear haft hK tg hLi
            go_simp
            exact hk.out gg x (fun _ _ => rfl) (hS)
          · intro i hi; exact Or.inl (fun _ _ _ => rfl)
          refine' LinAll.cons _ ?_ ?_ ?_
          rotate_left 1
          · intro gg L a x hLi haft hS hK
            have t102 := hK.new 14 0 _ 102 _ rfl rfl rfl (by kernel_rfl) (waits haft 14 (by kernel_rfl))
            have tg := hK.new 7 7 _ 95 _ rfl rfl rfl (by kernel_rfl) (waits haft 7 (by kernel_rfl))
            (try dsimp only at t102)
            have hS1 : Below wu.heap.size wu x := hS
            have cX := keep_cell hS1 e6
            refine go_in (wanted_at rfl rfl rfl tg rfl) ?_
            intro K hk
            clear haft hK tg hLi
            go_simp
            exact hk.out gg x (fun _ _ => rfl) (hS)
          · intro i hi; exact Or.inl (fun _ _ _ => rfl)
          refine LinAll.cons (fun _ => .int .i64 (-y)) ?_ ?_ ?_
          · intro gg L a x hLi haft hS hK
            have t103 := hK.new 15 0 _ 103 _ rfl rfl rfl (by kernel_rfl) (waits haft 15 (by kernel_rfl))
            have tg := hK.new 7 8 _ 95 _ rfl rfl rfl (by kernel_rfl) (waits haft 7 (by kernel_rfl))
            (try dsimp only at t103)
            refine go_in (wanted_at rfl rfl rfl tg rfl) ?_
            intro K hk
            clear haft hK tg hLi
            go_simp
            (try rw [hwy])
            exact hk.out gg x (fun _ _ => rfl) hS
          · intro i hi; exact Or.inl (fun _ _ _ => rfl)
          refine' LinAll.cons _ ?_ ?_ ?_
          rotate_left 1
          · intro gg L a x hLi haft hS hK
            have t99 := hK.new 11 5 _ 99 _ rfl rfl rfl (by kernel_rfl) (waits haft 11 (by kernel_rfl))
            have t104 := hK.new 16 0 _ 104 _ rfl rfl rfl (by kernel_rfl) (waits haft 16 (by kernel_rfl))
            have tg := hK.new 7 9 _ 95 _ rfl rfl rfl (by kernel_rfl) (waits haft 7 (by kernel_rfl))
            (try dsimp only at t99 t104)
            refine go_in (wanted_at rfl rfl rfl tg rfl) ?_
            intro K hk
            clear haft hK tg hLi
            go_simp
            exact hk.out gg x (fun _ _ => rfl) (hS)
          · intro i hi; exact Or.inl (fun _ _ _ => rfl)
          refine' LinAll.cons _ ?_ ?_ ?_
          rotate_left 1
          · intro gg L a x hLi haft hS hK
            have t1 := (hK.old 1 (by kernel_rfl)).trans o1
            have tg := hK.new 7 10 _ 95 _ rfl rfl rfl (by kernel_rfl) (waits haft 7 (by kernel_rfl))
            (try dsimp only at t1)
            refine go_in (wanted_at rfl rfl rfl tg rfl) ?_
            intro K hk
            clear haft hK tg hLi
            go_simp
            exact hk.out gg x (fun _ _ => rfl) (hS)
          · intro i hi; exact Or.inl (fun _ _ _ => rfl)
          refine LinAll.cons (fun _ => .bool false) ?_ ?_ ?_
          · intro gg L a x hLi haft hS hK
            have t105 := hK.new 17 1 _ 105 _ rfl rfl rfl (by kernel_rfl) (waits haft 17 (by kernel_rfl))
            have t106 := hK.new 18 0 _ 106 _ rfl rfl rfl (by kernel_rfl) (waits haft 18 (by kernel_rfl))
            have tg := hK.new 7 11 _ 95 _ rfl rfl rfl (by kernel_rfl) (waits haft 7 (by kernel_rfl))
            (try dsimp only at t105 t106)
            refine go_in (wanted_at rfl rfl rfl tg rfl) ?_
            intro K hk
            have hdd := HM1.out
            clear haft hK tg hLi
            go_simp
            exact hk.out gg x (fun _ _ => rfl) hS
          · intro i hi; exact Or.inl (fun _ _ _ => rfl)
          refine' LinAll.cons _ ?_ ?_ ?_
          rotate_left 1
          · intro gg L a x hLi haft hS hK
            have t95 := hK.new 7 12 _ 95 _ rfl rfl rfl (by kernel_rfl) (waits haft 7 (by kernel_rfl))
            have t107 := hK.new 19 0 _ 107 _ rfl rfl rfl (by kernel_rfl) (waits haft 19 (by kernel_rfl))
            (try dsimp only at t95 t107)
            refine go_in (wanted_all rfl) ?_
            intro K hk
            clear haft hK hLi
            go_simp
            exact hk.out gg x (fun _ _ => rfl) (hS)
          · intro i hi; exact Or.inl (fun _ _ _ => rfl)
          refine' LinAll.cons _ ?_ ?_ ?_
          rotate_left 1
          · intro gg L a x hLi haft hS hK
            have t108 := hK.new 20 0 _ 108 _ rfl rfl rfl (by kernel_rfl) (waits haft 20 (by kernel_rfl))
            (try dsimp only at t108)
            refine go_in (wanted_all rfl) ?_
            intro K hk
            clear haft hK hLi
            go_simp
            exact hk.out gg x (fun _ _ => rfl) (hS)
          · intro i hi; exact Or.inl (fun _ _ _ => rfl)
          refine' LinAll.cons _ ?_ ?_ ?_
          rotate_left 1
          · intro gg L a x hLi haft hS hK
            have t8 := (hK.old 8 (by kernel_rfl)).trans o8
            have tg := hK.new 21 0 _ 109 _ rfl rfl rfl (by kernel_rfl) (waits haft 21 (by kernel_rfl))
            (try dsimp only at t8)
            refine go_in (wanted_at rfl rfl rfl tg rfl) ?_
            intro K hk
            clear haft hK tg hLi
            go_simp
            exact hk.out gg x (fun _ _ => rfl) (hS)
          · intro i hi; exact Or.inl (fun _ _ _ => rfl)
          refine' LinAll.cons _ ?_ ?_ ?_
          rotate_left 1
          · intro gg L a x hLi haft hS hK
            have t10 := (hK.old 10 (by kernel_rfl)).trans o10
            have tg := hK.new 21 1 _ 109 _ rfl rfl rfl (by kernel_rfl) (waits haft 21 (by kernel_rfl))
            (try dsimp only at t10)
            refine go_in (wanted_at rfl rfl rfl tg rfl) ?_
            intro K hk
            clear haft hK tg hLi
            go_simp
            exact hk.out gg x (fun _ _ => rfl) (hS)
          · intro i hi; exact Or.inl (fun _ _ _ => rfl)
          refine' LinAll.cons _ ?_ ?_ ?_
          rotate_left 1
          · intro gg L a x hLi haft hS hK
            have t110 := hK.new 22 1 _ 110 _ rfl rfl rfl (by kernel_rfl) (waits haft 22 (by kernel_rfl))
            have t111 := hK.new 23 0 _ 111 _ rfl rfl rfl (by kernel_rfl) (waits haft 23 (by kernel_rfl))
            have tg := hK.new 21 2 _ 109 _ rfl rfl rfl (by kernel_rfl) (waits haft 21 (by kernel_rfl))
            (try dsimp only at t110 t111)
            refine go_in (wanted_at rfl rfl rfl tg rfl) ?_
            intro K hk
            clear haft hK tg hLi
            go_simp
            exact hk.out gg x (fun _ _ => rfl) (hS)
          · intro i hi; exact Or.inl (fun _ _ _ => rfl)
          refine' LinAll.cons _ ?_ ?_ ?_
          rotate_left 1
          · intro gg L a x hLi haft hS hK
            have t112 := hK.new 24 0 _ 112 _ rfl rfl rfl (by kernel_rfl) (waits haft 24 (by kernel_rfl))
            have tg := hK.new 21 3 _ 109 _ rfl rfl rfl (by kernel_rfl) (waits haft 21 (by kernel_rfl))
            (try dsimp only at t112)
            have hS1 : Below wu.heap.size wu x := hS
            have cX := keep_cell hS1 e6
            refine go_in (wanted_at rfl rfl rfl tg rfl) ?_
            intro K hk
            clear haft hK tg hLi
            go_simp
            exact hk.out gg x (fun _ _ => rfl) (hS)
          · intro i hi; exact Or.inl (fun _ _ _ => rfl)
          refine' LinAll.cons _ ?_ ?_ ?_
          rotate_left 1
          · intro gg L a x hLi haft hS hK
            have t8 := (hK.old 8 (by kernel_rfl)).trans o8
            have tg := hK.new 21 4 _ 109 _ rfl rfl rfl (by kernel_rfl) (waits haft 21 (by kernel_rfl))
            (try dsimp only at t8)
            refine go_in (wanted_at rfl rfl rfl tg rfl) ?_
            intro K hk
            clear haft hK tg hLi
            go_simp
            exact hk.out gg x (fun _ _ => rfl) (hS)
          · intro i hi; exact Or.inl (fun _ _ _ => rfl)
          refine' LinAll.cons _ ?_ ?_ ?_
          rotate_left 1
          · intro gg L a x hLi haft hS hK
            have t10 := (hK.old 10 (by kernel_rfl)).trans o10
            have tg := hK.new 21 5 _ 109 _ rfl rfl rfl (by kernel_rfl) (waits haft 21 (by kernel_rfl))
            (try dsimp only at t10)
            refine go_in (wanted_at rfl rfl rfl tg rfl) ?_
            intro K hk
            clear haft hK tg hLi
            go_simp
            exact hk.out gg x (fun _ _ => rfl) (hS)
          · intro i hi; exact Or.inl (fun _ _ _ => rfl)
          refine' LinAll.cons _ ?_ ?_ ?_
          rotate_left 1
          · intro gg L a x hLi haft hS hK
            have t114 := hK.new 26 1 _ 114 _ rfl rfl rfl (by kernel_rfl) (waits haft 26 (by kernel_rfl))
            have t115 := hK.new 27 0 _ 115 _ rfl rfl rfl (by kernel_rfl) (waits haft 27 (by kernel_rfl))
            have tg := hK.new 21 6 _ 109 _ rfl rfl rfl (by kernel_rfl) (waits haft 21 (by kernel_rfl))
            (try dsimp only at t114 t115)
            refine go_in (wanted_at rfl rfl rfl tg rfl) ?_
            intro K hk
            clear haft hK tg hLi
            go_simp
            exact hk.out gg x (fun _ _ => rfl) (hS)
          · intro i hi; exact Or.inl (fun _ _ _ => rfl)
          refine' LinAll.cons _ ?_ ?_ ?_
          rotate_left 1
          · intro gg L a x hLi haft hS hK
            have t116 := hK.new 28 0 _ 116 _ rfl rfl rfl (by kernel_rfl) (waits haft 28 (by kernel_rfl))
            have tg := hK.new 21 7 _ 109 _ rfl rfl rfl (by kernel_rfl) (waits haft 21 (by kernel_rfl))
            (try dsimp only at t116)
            have hS1 : Below wu.heap.size wu x := hS
            have cX := keep_cell hS1 e6
            refine go_in (wanted_at rfl rfl rfl tg rfl) ?_
            intro K hk
            clear haft hK tg hLi
            go_simp
            exact hk.out gg x (fun _ _ => rfl) (hS)
          · intro i hi; exact Or.inl (fun _ _ _ => rfl)
          refine LinAll.cons (fun _ => .int .i64 (-y)) ?_ ?_ ?_
          · intro gg L a x hLi haft hS hK
            have t117 := hK.new 29 0 _ 117 _ rfl rfl rfl (by kernel_rfl) (waits haft 29 (by kernel_rfl))
            have tg := hK.new 21 8 _ 109 _ rfl rfl rfl (by kernel_rfl) (waits haft 21 (by kernel_rfl))
            (try dsimp only at t117)
            refine go_in (wanted_at rfl rfl rfl tg rfl) ?_
            intro K hk
            clear haft hK tg hLi
            go_simp
            (try rw [hwy])
            exact hk.out gg x (fun _ _ => rfl) hS
          · intro i hi; exact Or.inl (fun _ _ _ => rfl)
          refine' LinAll.cons _ ?_ ?_ ?_
          rotate_left 1
          · intro gg L a x hLi haft hS hK
            have t113 := hK.new 25 5 _ 113 _ rfl rfl rfl (by kernel_rfl) (waits haft 25 (by kernel_rfl))
            have t118 := hK.new 30 0 _ 118 _ rfl rfl rfl (by kernel_rfl) (waits haft 30 (by kernel_rfl))
            have tg := hK.new 21 9 _ 109 _ rfl rfl rfl (by kernel_rfl) (waits haft 21 (by kernel_rfl))
            (try dsimp only at t113 t118)
            refine go_in (wanted_at rfl rfl rfl tg rfl) ?_
            intro K hk
            clear haft hK tg hLi
            go_simp
            exact hk.out gg x (fun _ _ => rfl) (hS)
          · intro i hi; exact Or.inl (fun _ _ _ => rfl)
          refine' LinAll.cons _ ?_ ?_ ?_
          rotate_left 1
          · intro gg L a x hLi haft hS hK
            have t5 := (hK.old 5 (by kernel_rfl)).trans o5
            have tg := hK.new 21 10 _ 109 _ rfl rfl rfl (by kernel_rfl) (waits haft 21 (by kernel_rfl))
            (try dsimp only at t5)
            refine go_in (wanted_at rfl rfl rfl tg rfl) ?_
            intro K hk
            clear haft hK tg hLi
            go_simp
            exact hk.out gg x (fun _ _ => rfl) (hS)
          · intro i hi; exact Or.inl (fun _ _ _ => rfl)
          refine' LinAll.cons _ ?_ ?_ ?_
          rotate_left 1
          · intro gg L a x hLi haft hS hK
            have t120 := hK.new 32 0 _ 120 _ rfl rfl rfl (by kernel_rfl) (waits haft 32 (by kernel_rfl))
            have tg := hK.new 21 11 _ 109 _ rfl rfl rfl (by kernel_rfl) (waits haft 21 (by kernel_rfl))
            (try dsimp only at t120)
            refine go_in (wanted_at rfl rfl rfl tg rfl) ?_
            intro K hk
            clear haft hK tg hLi
            go_simp
            exact hk.out gg x (fun _ _ => rfl) (hS)
          · intro i hi; exact Or.inl (fun _ _ _ => rfl)
          refine' LinAll.cons _ ?_ ?_ ?_
          rotate_left 1
          · intro gg L a x hLi haft hS hK
            have t121 := hK.new 33 0 _ 121 _ rfl rfl rfl (by kernel_rfl) (waits haft 33 (by kernel_rfl))
            have tg := hK.new 21 12 _ 109 _ rfl rfl rfl (by kernel_rfl) (waits haft 21 (by kernel_rfl))
            (try dsimp only at t121)
            refine go_in (wanted_at rfl rfl rfl tg rfl) ?_
            intro K hk
            clear haft hK tg hLi
            go_simp
            exact hk.out gg x (fun _ _ => rfl) (hS)
          · intro i hi; exact Or.inl (fun _ _ _ => rfl)
          refine' LinAll.cons _ ?_ ?_ ?_
          rotate_left 1
          · intro gg L a x hLi haft hS hK
            have t122 := hK.new 34 0 _ 122 _ rfl rfl rfl (by kernel_rfl) (waits haft 34 (by kernel_rfl))
            have tg := hK.new 21 13 _ 109 _ rfl rfl rfl (by kernel_rfl) (waits haft 21 (by kernel_rfl))
            (try dsimp only at t122)
            have hS1 : Below wu.heap.size wu x := hS
            have cX := keep_cell hS1 e1
            refine go_in (wanted_at rfl rfl rfl tg rfl) ?_
            intro K hk
            clear haft hK tg hLi
            go_simp
            exact hk.out gg x (fun _ _ => rfl) (hS)
          · intro i hi; exact Or.inl (fun _ _ _ => rfl)
          refine' LinAll.cons _ ?_ ?_ ?_
          rotate_left 1
          · intro gg L a x hLi haft hS hK
            have t123 := hK.new 35 0 _ 123 _ rfl rfl rfl (by kernel_rfl) (waits haft 35 (by kernel_rfl))
            have tg := hK.new 21 14 _ 109 _ rfl rfl rfl (by kernel_rfl) (waits haft 21 (by kernel_rfl))
            (try dsimp only at t123)
            have hS1 : Below wu.heap.size wu x := hS
            refine go_in (wanted_at rfl rfl rfl tg rfl) ?_
            intro K hk
            have HVX : Hid _ := HVW.out x hS1
            clear haft hK tg hLi
            go_simp
            refine Calls.mono HVX.out ?_
            rintro ev y9 ⟨rfl, rfl⟩
            exact hk.out gg y9 (fun _ _ => rfl) hS1
          · intro i hi; exact Or.inl (fun _ _ _ => rfl)
          refine LinAll.cons (fun _ => .bool false) ?_ ?_ ?_
          · intro gg L a x hLi haft hS hK
            have t119 := hK.new 31 5 _ 119 _ rfl rfl rfl (by kernel_rfl) (waits haft 31 (by kernel_rfl))
            have t124 := hK.new 36 0 _ 124 _ rfl rfl rfl (by kernel_rfl) (waits haft 36 (by kernel_rfl))
            have tg := hK.new 21 15 _ 109 _ rfl rfl rfl (by kernel_rfl) (waits haft 21 (by kernel_rfl))
            (try dsimp only at t119 t124)
            refine go_in (wanted_at rfl rfl rfl tg rfl) ?_
            intro K hk
            have hdd := HM2.out
            clear haft hK tg hLi
            go_simp
            exact hk.out gg x (fun _ _ => rfl) hS
          · intro i hi; exact Or.inl (fun _ _ _ => rfl)
          refine' LinAll.cons _ ?_ ?_ ?_
          rotate_left 1
          · intro gg L a x hLi haft hS hK
            have t109 := hK.new 21 16 _ 109 _ rfl rfl rfl (by kernel_rfl) (waits haft 21 (by kernel_rfl))
            have t125 := hK.new 37 0 _ 125 _ rfl rfl rfl (by kernel_rfl) (waits haft 37 (by kernel_rfl))
            (try dsimp only at t109 t125)
            refine go_in (wanted_all rfl) ?_
            intro K hk
            clear haft hK hLi
            go_simp
            exact hk.out gg x (fun _ _ => rfl) (hS)
          · intro i hi; exact Or.inl (fun _ _ _ => rfl)
          refine LinAll.nil fun gg x hS => ?_
          subst ha0
          simp only [Act.put, List.setIfInBounds_toArray, List.set_cons_zero, List.set_cons_succ]
          clear o1 o5 o8 o10
          have hS2 : Below wu.heap.size wu x := hS
          have hbx : Below w5.heap.size w5 x := hJ.out.trans (hS2.mono hJ.out.size)
          clear hS hS2 e1 e6
          go_wp2_with fail
          exact ⟨⟨q + 1, by omega, by go_num, hbx⟩, by simp [intOf]; omega⟩
        · obtain rfl : q = p := by omega
          have hqI : ¬ (q : Int) < (q : Int) := by omega
          have HL6 : Hid (Ls wr w2.heap.size u6 us6 ((s.C.take k).map setF)) := HL5.out.below hJ.out
          have hlen6 : ((s.C.take k).map setF).length = k := by rw [List.length_map, List.length_take, ← HNC.out]; omega
          obtain ⟨a6, c6, eu6, -⟩ := HL6.out.sl
          rw [hlen6] at eu6
          subst eu6
          have HI6 : Hid (Is' wr wq.heap.size (.slice (some ⟨rs, 0, none⟩) q cs) (setF c)) := row_kept HI5.out hJ.out.block
          have HB6 : Hid (Below w2.heap.size w2 wr) := HB5.out.trans (hJ.out.mono HB5.out.size)
          have hs6 := hJ.out.size
          obtain ⟨w6, ew6⟩ : ∃ w6, w6 = wr := ⟨_, rfl⟩
          rw [← ew6] at HL6 HI6 HB6 hs6
          rw [← ew6]
          clear hlen6 HL5 HI5 HLI hJ ew6
          go_wp2_with fail
          go_loopw [11] (fun i wz => ∃ t : Nat, t ≤ k ∧ i = .int .i64 (t : Int) ∧ Hid (Below w6.heap.size w6 wz)) (fun i wz => k - (intOf i).toNat)
          case atStart => exact ⟨0, Nat.zero_le _, rfl, Below.refl _ _⟩
          case round =>
            obtain ⟨t, ht, rfl, hG⟩ := hrel
            by_cases htk : t < k
            · obtain ⟨c', hc'⟩ : ∃ c', s.C[t]? = some c' := ⟨_, List.getElem?_eq_getElem (by rw [← HNC.out]; omega)⟩
              obtain ⟨z1, z2⟩ := HNE.out t c' htk hc'
              obtain ⟨rr, rt, ct, e7, e8, e9⟩ := Ls.at (HL6.out.below hG.out) (k := t) (c := setF c') (by rw [List.getElem?_map, List.getElem?_take_of_lt htk, hc']; rfl) (setF_ne z2)
              have e11 := Is'.cells e9
              have hI7 : Is' wr wq.heap.size (.slice (some ⟨rs, 0, none⟩) q cs) (setF c) := row_kept HI6.out hG.out.block
              have e13 := Is'.cells hI7
              have HIN : Hid _ := ints_any (c := ct) (c' := cs) e11 e13 (by have := setF_le c'; have := (HPZ.out.ne c' (List.mem_of_getElem? hc')).2; omega) (by rw [HSL.out]; omega)
              rw [z1] at HIN
              rw [HSL.out] at HIN
              obtain ⟨lt, hlt⟩ : ∃ lt, lt = (setF c').length := ⟨_, rfl⟩
              rw [← hlt] at HIN e8
              rw [e7]
              have htI : (t : Int) < (k : Int) := by omega
              have hsg := hG.out.size
              clear hc' z1 z2 e9 e11 e13 hlt hI7
              go_wp2_with fail
              refine Calls.mono HIN.out ?_
              rintro ev w7 ⟨rfl, hb7⟩
              have hb67 : Below w6.heap.size w6 w7 := hG.out.trans (hb7.mono hsg)
              clear hb7 HIN e8
              go_wp2_with fail
              refine ⟨⟨t + 1, by omega, by go_num, ?_⟩, by simp [intOf]; omega⟩
              exact hb67
            · obtain rfl : t = k := by omega
              have htI : ¬ (t : Int) < (t : Int) := by omega
              have HL7 : Hid (Ls wr w2.heap.size (.slice a6 t c6) us6 ((s.C.take t).map setF)) := HL6.out.below hG.out
              have HI7 : Hid (Is' wr wq.heap.size (.slice (some ⟨rs, 0, none⟩) q cs) (setF c)) := row_kept HI6.out hG.out.block
              have HB7 : Hid (Below w2.heap.size w2 wr) := HB6.out.trans (hG.out.mono HB6.out.size)
              have hs7 := HB7.out.size
              have hul : us6.length = t := by rw [HL7.out.len, List.length_map, List.length_take, ← HNC.out]; omega
              obtain ⟨w7, ew7⟩ : ∃ w7, w7 = wr := ⟨_, rfl⟩
              rw [← ew7] at HL7 HI7 HB7 hs7
              rw [← ew7]
              clear hG HL6 HI6 HB6 ew7
              go_wp2_with (at_builtin; refine wpList_append_own_at _ rfl _ _ 30 rfl w2.heap.size 31 ti (.slice none 0 0) 1 24 underLists HI.out.1 HI.out.2.1 HI.out.2.2.1 HI.out.2.2.2 rfl (by decide) (.slice a6 t c6) us6.length us6 rfl (row_kept HL7.out.row (fun _ hq => heap_alloc_old _ _ hq)) ⟨w7.heap.size, 0, none⟩ 1 1 [.slice (some ⟨rs, 0, none⟩) q cs] rfl rfl (cell_one_new _ _ _) (by intro y hy; rw [List.mem_singleton.1 hy]; rfl) (by unfold maxLen; omega) (by omega) (by rw [size_alloc']; omega) ?_; intro v3 w8 hown hgrow hnil hat)
              have hb8 : Below w2.heap.size w2 w8 := low_grown HB7.out hs7 hgrow (fun z hz => (HL7.out.row.lt z hz).1)
              have HL8 : Hid (Ls w8 w2.heap.size v3 (us6 ++ [.slice (some ⟨rs, 0, none⟩) q cs]) ((s.C.take (t + 1)).map setF)) := by
                unfold Hid
                rw [HTK.out]
                exact HL7.out.push HI7.out HU6.out hsr hown hgrow hat
              clear hown hgrow hnil hat
              (try go_wp2_with fail)
              exact ⟨⟨t + 1, by omega, by go_num, _, HL8.out, hb8⟩, by simp [intOf]; omega⟩
    · obtain rfl : k = nC := by omega
      have hkI : ¬ (k : Int) < (k : Int) := by omega
      have HB9 : Hid (Below w2.heap.size w2 wr) := hH.out.2
      obtain ⟨ws, ews⟩ : ∃ ws, ws = wr := ⟨_, rfl⟩
      rw [← ews] at d2 HB9 hsr
      rw [← ews]
      have hmk : ∀ wx, (Instr.makeSlice 31 (.int .i64 1200) (.int .i64 1200)).run Try.prog wx = .ok (.slice (some ⟨wx.heap.size, 0, none⟩) 1200 1200) (wx.alloc (.cells (madeCells #[.int .i64 0] 1200) 3)) := fun wx => run_make_row' (P := Try.prog) 31 3 (.int .i64 0) 8 underInts infoInt rfl .i64 .i64 1200 (by decide) (by decide) wx
      have HROW : Hid (World.rowIs (ws.alloc (.cells (madeCells #[.int .i64 0] 1200) 3)) ws.heap.size 3 1200 (fun _ => .int .i64 0)) := World.rowIs_made ws (.int .i64 0) 1200 3
      clear hH ews
      go_wp2_with fail
      clear hmk d2
      go_loopw [13] (fun i wz => ∃ j : Nat, 1 ≤ j ∧ j ≤ K + 1 ∧ i = .int .i64 (j : Int) ∧ (∃ fs : Nat → Int, wz.rowIs ws.heap.size 3 1200 (fun z => .int .i64 (fs z)) ∧ Hid (∀ z : Nat, fs z ≠ 0 → ∃ n' : Nat, n' < j ∧ s.V (n' : Int) = some (z : Int))) ∧ ws.heap.size + 1 ≤ wz.heap.size ∧ Hid (Below ws.heap.size ws wz)) (fun i wz => K + 1 - (intOf i).toNat)
      case atStart => exact ⟨1, Nat.le_refl _, by omega, rfl, ⟨fun _ => 0, HROW.out, fun z h => absurd rfl h⟩, by simp, by unfold Hid; go_grown⟩
      case round =>
        clear HROW
        obtain ⟨j, hj1, hj2, rfl, ⟨fs, hrow, hfs⟩, hws, hbl⟩ := hrel
        have hb2r : Below w2.heap.size w2 wr := HB9.out.trans (hbl.out.mono hsr)
        have e0 : wr.cell? ⟨X, 0, none⟩ = some (.pointer (some ⟨g, 0, none⟩)) := keep_cell hb2r HC0.out
        have e1 : wr.cell? ⟨X, 1, none⟩ = some (.pointer (some ⟨e, 0, none⟩)) := keep_cell hb2r HC1.out
        have HNW : Hid _ := HNO.out wr hb2r
        by_cases hjK : j ≤ K
        · have hjI : (j : Int) ≤ (K : Int) := by omega
          have HOF : Hid _ := of_any (n := (j : Int)) (HEN.out wr hb2r) (by unfold w64; omega)
          have HVW : Hid _ := HVR.out wr hb2r
          have HRG : Hid (∀ v, s.V (j : Int) = some v → 1 + f0 ≤ v ∧ v ≤ vv ∧ (∀ z : Nat, (z : Int) = v → fs z = 0)) := fun v hv => by
            have h1 := HPZ.out.rg _ v hv
            rw [← HVV.out] at h1
            refine ⟨h1.1, h1.2, fun z hz => ?_⟩
            by_cases h0 : fs z = 0
            · exact h0
            · obtain ⟨n', q1, q2⟩ := hfs.out z h0
              rw [hz] at q2
              have := HPZ.out.ij _ _ _ hv q2
              omega
          have HNXN : Hid (∀ z : Nat, fs z ≠ 0 → ∃ n' : Nat, n' < j + 1 ∧ s.V (n' : Int) = some (z : Int)) := fun z h => by
            obtain ⟨n', q1, q2⟩ := hfs.out z h
            exact ⟨n', by omega, q2⟩
          have HVE : Hid (∀ (z : Nat), s.V (j : Int) = some (z : Int) → ∀ z2 : Nat, (if z2 = z then (j : Int) else fs z2) ≠ 0 → ∃ n' : Nat, n' < j + 1 ∧ s.V (n' : Int) = some (z2 : Int)) := fun z hz z2 h => by
            by_cases e : z2 = z
            · subst e
              exact ⟨j, by omega, hz⟩
            · rw [if_neg e] at h
              exact HNXN.out z2 h
          obtain ⟨o, ho⟩ : ∃ o, o = s.V (j : Int) := ⟨_, rfl⟩
          rw [← ho] at HOF HRG HVE
          clear ho
          cases o with
          | none =>
            have HO2 : Hid (Calls Try.prog 20 #[.pointer (some ⟨e, 0, none⟩), .int .i64 (j : Int)] wr fun ev w' => ev = .returned (.tuple #[.int .i64 0, .bool false]) ∧ w' = wr) := HOF.out
            have HRW : Hid _ := hrow
            clear HOF HRG HVE hrow
            go_wp2_with fail
            refine Calls.mono HNW.out ?_
            rintro ev wz ⟨rfl, hz⟩
            rw [hz]
            clear hz wz
            go_wp2_with fail
            refine Calls.mono HO2.out ?_
            rintro ev wz ⟨rfl, hz⟩
            rw [hz]
            clear hz wz
            go_wp2_with fail
            exact ⟨⟨j + 1, by omega, by omega, by go_num, ⟨fs, HRW.out, HNXN.out⟩, hws, hbl.out⟩, by simp [intOf]; omega⟩
          | some v =>
            obtain ⟨hv1, hv2, hv3⟩ := HRG.out v rfl
            obtain ⟨d, rfl⟩ : ∃ d : Nat, v = (d : Int) := ⟨v.toNat, by omega⟩
            have HO2 : Hid (Calls Try.prog 20 #[.pointer (some ⟨e, 0, none⟩), .int .i64 (j : Int)] wr fun ev w' => ev = .returned (.tuple #[.int .i64 (d : Int), .bool true]) ∧ w' = wr) := HOF.out
            have hd12 : d < 1200 := by omega
            have g1 : wr.cell? ⟨ws.heap.size, d, none⟩ = some (.int .i64 0) := by
              have h1 := hrow.cell hd12
              simp only [hv3 d rfl] at h1
              exact h1
            have g2 := hrow.frozen d
            have HR2 : Hid ((wr.setCell ⟨ws.heap.size, d, none⟩ (.int .i64 (j : Int))).rowIs ws.heap.size 3 1200 (fun z => .int .i64 (if z = d then (j : Int) else fs z))) := (hrow.set d (.int .i64 (j : Int))).congr (fun z _ => by split <;> rfl)
            have HF2 : Hid _ := HVE.out d rfl
            have hdI : (d : Int) < 1200 := by omega
            have k1 : decide ((d : Int) < 1 + f0) = false := decide_eq_false (by omega)
            have k2 : decide (vv < (d : Int)) = false := decide_eq_false (by omega)
            have k3 : decide ((1200 : Int) ≤ (d : Int)) = false := decide_eq_false (by omega)
            clear HOF HRG HVE hrow hv3
            go_wp2_with fail
            refine Calls.mono HNW.out ?_
            rintro ev wz ⟨rfl, hz⟩
            rw [hz]
            clear hz wz
            go_wp2_with fail
            refine Calls.mono HO2.out ?_
            rintro ev wz ⟨rfl, hz⟩
            rw [hz]
            clear hz wz
            go_wp2_with fail
            refine Calls.mono HVW.out ?_
            rintro ev wz ⟨rfl, hz⟩
            rw [hz]
            clear hz wz
            go_wp2_with fail
            refine ⟨⟨j + 1, by omega, by omega, by go_num, ⟨_, HR2.out, HF2.out⟩, by rw [World.size_setCell]; omega, ?_⟩, by simp [intOf]; omega⟩
            have hbl2 := hbl.out
            unfold Hid
            go_grown
        · obtain rfl : j = K + 1 := by omega
          have hjI : ¬ ((K + 1 : Nat) : Int) ≤ (K : Int) := by omega
          have hbw : Below W.heap.size W wr := hb02.trans (hb2r.mono hb02.size)
          clear hrow
          go_wp2_with fail
          refine Calls.mono HNW.out ?_
          rintro ev wz ⟨rfl, hz⟩
          rw [hz]
          clear hz wz
          go_wp2_with fail
          go_ret
          exact ⟨rfl, hbw⟩
end Go.Proofs.Ytajpnlmglkifcaa
