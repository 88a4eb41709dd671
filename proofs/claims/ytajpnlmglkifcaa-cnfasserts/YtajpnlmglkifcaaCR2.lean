/- The law CnfAsserts, walked. -/
import Derived.Test.YtajpnlmglkifcaaCN23
namespace Go.Proofs.Ytajpnlmglkifcaa
open Go.RowKit
set_option linter.unusedSimpArgs false
set_option linter.unusedVariables false

set_option maxRecDepth 20000 in
set_option maxHeartbeats 3200000 in
theorem walk_asserts {l : List Tp} {s0 : Option Addr} {cap : Nat} (W : World) (hLa : La W s0 l) (hmx : l.length ≤ maxLen) :
    Calls Try.prog 5 #[.slice s0 l.length cap] W fun ev W' => ev = .returned (.bool true) ∧ Below W.heap.size W W' := by
  have HKN : Hid _ := known_any W
  have HLA : Hid _ := hLa
  obtain ⟨n, hn⟩ : ∃ n, n = l.length := ⟨_, rfl⟩
  have HN : Hid _ := hn
  rw [← hn] at hmx ⊢
  clear hLa hn
  go_enter Try.func5, Try.ntmps5
  go_wp2_with fail
  refine Calls.mono HKN.out ?_
  rintro ev w1 ⟨rfl, hb1⟩
  by_cases h40 : (40 : Int) < (n : Int)
  · go_wp2_with fail
    go_ret
    exact ⟨rfl, hb1⟩
  have HPL : Hid (Calls Try.prog 7 #[.slice s0 n cap, .int .i64 1] w1 fun ev w' => ∃ X s, ev = .returned (.pointer (some ⟨X, 0, none⟩)) ∧ PL w1 w' X 1 l s) := by
    unfold Hid
    rw [HN.out]
    exact play_any w1 (La.below HLA.out hb1) (by rw [← HN.out]; omega) (by decide) (by decide)
  go_wp2_with fail
  refine Calls.mono HPL.out ?_
  rintro ev w2 ⟨X, s, rfl, g, e, mv, mp, f, ⟨F, col, va, vl, vr, us, hx⟩, hP, hf, hLt, hpl, hb2⟩
  have hb02 : Below W.heap.size W w2 := hb1.trans (hb2.mono hb1.size)
  have hll : l.length ≤ 60 := by rw [← HN.out]; omega
  have h1f : (1 : Int) ≤ 1 := by decide
  have hlk := hx.gr.len
  have hvn := hP.len
  have HPZ : Hid _ := hP
  have c0 : w2.cell? ⟨X, 0, none⟩ = some (.pointer (some ⟨g, 0, none⟩)) := cell_of hx.hd 0 rfl
  have c1 : w2.cell? ⟨X, 1, none⟩ = some (.pointer (some ⟨e, 0, none⟩)) := cell_of hx.hd 1 rfl
  have c2 : w2.cell? ⟨X, 2, none⟩ = some va := cell_of hx.hd 2 rfl
  have c3 : w2.cell? ⟨X, 3, none⟩ = some vl := cell_of hx.hd 3 rfl
  have c4 : w2.cell? ⟨X, 4, none⟩ = some vr := cell_of hx.hd 4 rfl
  have c5 : w2.cell? ⟨X, 5, none⟩ = some (.bool true) := cell_of hx.hd 5 rfl
  have hXl := hx.lt
  have hrL : s.Rs.length = s.Lt.length := by rw [hP.rt, List.length_map]
  have HEN : Hid (∀ wx, Below w2.heap.size w2 wx → En wx e g s.vars mv mp s.V (polF s.T)) := fun wx hb => hx.en.below hb
  have HGR : Hid (∀ wx, Below w2.heap.size w2 wx → Gr wx F g 60 s.ks) := fun wx hb => hx.gr.below hb
  have HOK : Hid (∀ c ∈ s.C, okC c ∧ c.length ≤ 1000) := hP.ok h1f (by omega)
  have hcl : s.C.length ≤ 300 := by have := hP.clen; omega
  have HLS : Hid (∀ wx, Below w2.heap.size w2 wx → ∃ B us, Ls wx B va us s.C) := fun wx hb => ⟨_, _, hx.al.below hb⟩
  obtain ⟨aa, ca, hva, -⟩ := hx.al.sl
  obtain ⟨al, cl, hvl, hla⟩ := hx.li.slice
  obtain ⟨ar, cr, hvr, hra⟩ := hx.ro.slice
  rw [nats_len] at hvl
  rw [hrL] at hvr
  obtain ⟨nC, hnC⟩ : ∃ y, y = s.C.length := ⟨_, rfl⟩
  obtain ⟨nL, hnL⟩ : ∃ y, y = s.Lt.length := ⟨_, rfl⟩
  have HNL : Hid _ := hnL
  have HNC : Hid _ := hnC
  have HLC : Hid (∀ wx : World, Below w2.heap.size w2 wx → ∀ (q yl : Nat), s.Lt[q]? = some yl → ∃ r3, al = some ⟨r3, 0, none⟩ ∧ wx.cell? ⟨r3, q, none⟩ = some (.int .i64 (yl : Int))) := fun wx hb q yl hy => by
    have hql : q < (nats s.Lt).length := by rw [nats_len]; exact (List.getElem?_eq_some_iff.1 hy).1
    obtain ⟨r3, e1, -, -, e2⟩ := hla.resolve_left (fun e => by rw [e] at hql; simp at hql)
    have e3 := e2 q hql
    rw [Nat.zero_add, nats_get hy] at e3
    exact ⟨r3, e1, keep_cell hb e3⟩
  have HRC4 : Hid (∀ wx : World, Below w2.heap.size w2 wx → ∀ (q yl : Nat), s.Lt[q]? = some yl → ∃ r4, ar = some ⟨r4, 0, none⟩ ∧ wx.cell? ⟨r4, q, none⟩ = some (.int .i64 (lit s.V yl))) := fun wx hb q yl hy => by
    have hql : q < s.Rs.length := by rw [hrL]; exact (List.getElem?_eq_some_iff.1 hy).1
    obtain ⟨r3, e1, -, -, e2⟩ := hra.resolve_left (fun e => by rw [e] at hql; simp at hql)
    have e3 := e2 q hql
    rw [Nat.zero_add, List.getD_eq_getElem?_getD, HPZ.out.rt, List.getElem?_map, hy] at e3
    exact ⟨r3, e1, keep_cell hb e3⟩
  rw [← hnC] at hva
  rw [← hnL] at hvl hvr
  subst hva hvl hvr
  have HAA : Hid (∀ (wx : World) (t : Nat), Below w2.heap.size w2 wx → t < 40000 → Calls Try.prog 12 #[.slice aa nC ca, .int .i64 (t : Int)] wx fun ev w' => ev = .returned (.bool (allF t s.C)) ∧ Below wx.heap.size wx w') := fun wx t hb ht => all_any (hx.al.below hb) HOK.out (by rw [← HNC.out]; omega) ht
  have HSM : Hid _ := small_any c2 hx.al HOK.out (by rw [← HNC.out]; omega)
  obtain ⟨vv, hvv⟩ : ∃ y, y = s.vars := ⟨_, rfl⟩
  have HVV : Hid _ := hvv
  have hvv0 : 0 ≤ vv ∧ vv ≤ 3000 := by omega
  have HV1 : Hid (vv ≤ 100000) := by unfold Hid; omega
  have HVR : Hid (∀ wx : World, Below w2.heap.size w2 wx → Calls Try.prog 9 #[.pointer (some ⟨e, 0, none⟩)] wx fun ev w' => ev = .returned (.int .i64 vv) ∧ w' = wx) := fun wx hb => by rw [HVV.out]; exact vars_any (HEN.out wx hb)
  have HVB : Hid (∀ n v, s.V n = some v → 1 ≤ v ∧ v ≤ 100000) := fun n v hv => by have := HPZ.out.rg n v hv; have := HVV.out; have := HV1.out; omega
  have HEV2 : Hid _ := insL_even (ks := s.ks) (by omega)
  obtain ⟨m, hm⟩ : ∃ m, m = (insL s.ks).length := ⟨_, rfl⟩
  have HMI : Hid _ := hm
  have hm5 : m ≤ 5 := by rw [hm]; exact playR_ins hpl (by decide)
  have HC0 : Hid _ := c0
  have HC1 : Hid _ := c1
  have HC2 : Hid _ := c2
  have HC3 : Hid _ := c3
  have HC4 : Hid _ := c4
  have HC5 : Hid _ := c5
  have hnL2 : nL ≤ 60 := by omega
  have hnC2 : nC ≤ 300 := by omega
  have HKS : Hid (s.ks.length ≤ 61) := by unfold Hid; omega
  clear hlk hvn hP hrL hcl hla hra hnC hnL hvv hm hpl hLt hf hx c2 c3 c4
  clear h1f
  go_wp2_with fail
  refine Calls.mono HSM.out ?_
  rintro ev w3 ⟨N, ok, rfl, hN0, hN14, hok, hb3⟩
  have d1 := keep_cell hb3 c1
  have d5 := keep_cell hb3 c5
  have hb03 : Below W.heap.size W w3 := hb02.trans (hb3.mono hb02.size)
  have HB3 : Hid _ := hb3
  have HV3 : Hid _ := HVR.out w3 hb3
  clear HSM
  cases ok
  · clear hok
    go_wp2_with fail
    go_ret
    exact ⟨rfl, hb03⟩
  have hN13 : N ≤ 13 := hok rfl
  clear hok
  by_cases hv13 : 13 < vv
  · have hdv : decide (13 < vv) = true := decide_eq_true hv13
    go_wp2_with fail
    refine Calls.mono HV3.out ?_
    rintro ev wz ⟨rfl, hz⟩
    rw [hz]
    clear hz wz
    go_wp2_with fail
    go_ret
    exact ⟨rfl, hb03⟩
  obtain ⟨M, hM⟩ : ∃ M : Nat, max N vv = (M : Int) := ⟨(max N vv).toNat, by omega⟩
  have hM14 : M ≤ 13 := by omega
  have HMV : Hid (vv ≤ (M : Int)) := by unfold Hid; omega
  go_wp2_with fail
  refine Calls.mono HV3.out ?_
  rintro ev wz ⟨rfl, hz⟩
  rw [hz]
  clear hz wz
  go_wp2_with fail
  refine Calls.mono HV3.out ?_
  rintro ev wz ⟨rfl, hz⟩
  rw [hz]
  clear hz wz
  have d0 := keep_cell hb3 c0
  have HIN : Hid _ := inputs_any (HGR.out w3 hb3)
  go_wp2_with fail
  refine Calls.mono HIN.out ?_
  rintro ev w4 ⟨uin, rfl, hI4, hb4⟩
  have hb24 : Below w2.heap.size w2 w4 := HB3.out.trans (hb4.mono HB3.out.size)
  obtain ⟨ai, ci, rfl, -⟩ := hI4.slice
  have hsl : Value.slice ai (insL s.ks).length ci = .slice ai m ci := by rw [HMI.out]
  have HRI : Hid (Rl w4 w3.heap.size (.slice ai m ci) (insL s.ks)) := by
    unfold Hid
    rw [← hsl]
    exact hI4.rl (by rw [← HMI.out]; omega)
  rw [hsl]
  clear hsl
  have HB4 : Hid _ := hb24
  have h4l := hb24.size
  obtain ⟨P, eP⟩ : ∃ P : Nat, P = 2 ^ m := ⟨_, rfl⟩
  have hP1 : (2 : Int) ^ m = (P : Int) := by rw [eP]; simp
  have hP64 : P ≤ 32 := by
    rw [eP]
    exact Nat.le_trans (Nat.pow_le_pow_right (by decide) hm5) (by decide)
  have HPE : Hid _ := eP
  have HPW : Hid _ := hP1
  clear hP1 hI4 hb4 HIN d0 d1 d5 HB3 HV3 eP hN0 hN14 hN13 hv13 hM hb3 hb24
  go_wp2_with fail
  go_loopw [7] (fun i wr => ∃ k : Nat, k ≤ nL ∧ i = .int .i64 (k : Int) ∧ Hid (Below w4.heap.size w4 wr)) (fun i wr => nL - (intOf i).toNat)
  case atStart => exact ⟨0, Nat.zero_le _, rfl, Below.refl _ _⟩
  case round =>
    obtain ⟨k, hk, rfl, hH⟩ := hrel
    obtain ⟨wq, ewq⟩ : ∃ wq, wq = wr := ⟨_, rfl⟩
    rw [← ewq] at hH
    rw [← ewq]
    clear ewq
    have h2q : Below w2.heap.size w2 wq := HB4.out.trans (hH.out.mono h4l)
    have d3 : wq.cell? ⟨X, 3, none⟩ = some (.slice al nL cl) := keep_cell h2q HC3.out
    have d5 : wq.cell? ⟨X, 5, none⟩ = some (.bool true) := keep_cell h2q HC5.out
    have hbw : Below W.heap.size W wq := hb02.trans (h2q.mono hb02.size)
    have hk60 : (k : Int) ≤ 60 := by omega
    have HQ4 : Hid _ := hH.out
    clear h2q
    by_cases hkL : k < nL
    case neg =>
      obtain rfl : k = nL := by omega
      have hkI : ¬ (k : Int) < (k : Int) := by omega
      go_wp2_with fail
      go_ret
      exact ⟨rfl, hbw⟩
    have hkI : (k : Int) < (nL : Int) := by omega
    by_cases hk6 : (k : Int) < 6
    case neg =>
      go_wp2_with fail
      go_ret
      exact ⟨rfl, hbw⟩
    obtain ⟨ya, hya⟩ : ∃ ya, s.Lt[k]? = some ya := ⟨_, List.getElem?_eq_getElem (by rw [← HNL.out]; exact hkL)⟩
    have HYA : Hid _ := hya
    clear hya
    go_wp2_with fail
    clear d3 d5 hbw
    go_loopw [8] (fun i wr => ∃ q : Nat, q ≤ k + 1 ∧ i = .int .i64 (q : Int) ∧ Hid (Below w4.heap.size w4 wr)) (fun i wr => k + 1 - (intOf i).toNat)
    case atStart => exact ⟨0, Nat.zero_le _, rfl, HQ4.out⟩
    case round =>
      clear hH HQ4
      obtain ⟨q, hq, rfl, hH⟩ := hrel
      obtain ⟨wp, ewp⟩ : ∃ wp, wp = wr := ⟨_, rfl⟩
      rw [← ewp] at hH
      rw [← ewp]
      clear ewp
      by_cases hqk : q ≤ k
      case neg =>
        obtain rfl : q = k + 1 := by omega
        have hqI : ¬ ((k + 1 : Nat) : Int) ≤ (k : Int) := by omega
        go_wp2_with fail
        exact ⟨⟨k + 1, by omega, by go_num, hH.out⟩, by simp [intOf]; omega⟩
      have hqI : (q : Int) ≤ (k : Int) := by omega
      have hqL : (q : Int) < (nL : Int) := by omega
      obtain ⟨yb, hyb⟩ : ∃ yb, s.Lt[q]? = some yb := ⟨_, List.getElem?_eq_getElem (by rw [← HNL.out]; omega)⟩
      have HYB : Hid _ := hyb
      have HCAN : Hid _ := HPZ.out.asserts (by rw [← HVV.out]; exact HMV.out) (by omega : M ≤ 14) HMI.out hm5 (List.mem_of_getElem? HYA.out) (List.mem_of_getElem? hyb)
      have h2p : Below w2.heap.size w2 wp := HB4.out.trans (hH.out.mono h4l)
      have H2P : Hid _ := h2p
      clear hyb h2p
      go_wp2_with fail
      go_loopw [9, 10] (fun cn i wr => ∃ (t : Nat) (y : Bool), t ≤ P ∧ i = .int .i64 (t : Int) ∧ cn = .bool y ∧ Hid (y = ((List.range t).any fun n => evV s.ks (ilF m n) ya && evV s.ks (ilF m n) yb) ∧ Below w4.heap.size w4 wr)) (fun cn i wr => P - (intOf i).toNat)
      case atStart => exact ⟨0, false, Nat.zero_le _, rfl, rfl, rfl, hH.out⟩
      case round =>
        obtain ⟨t, y, ht, rfl, rfl, hJ⟩ := hrel
        obtain ⟨wo, ewo⟩ : ∃ wo, wo = wr := ⟨_, rfl⟩
        rw [← ewo] at hJ
        rw [← ewo]
        clear ewo
        have ho4 := hJ.out.2.size
        by_cases htP : t < P
        · have htI : (t : Int) < (P : Int) := by omega
          have hmk : ∀ wx, (Instr.makeSlice 36 (.int .i64 (m : Int)) (.int .i64 (m : Int))).run Try.prog wx = .ok (.slice (some ⟨wx.heap.size, 0, none⟩) m m) (wx.alloc (.cells (madeCells #[.bool false] m) 4)) := fun wx => run_make_row' (P := Try.prog) 36 4 (.bool false) 1 underBools infoBool rfl .i64 .i64 m (by omega) (by omega) wx
          have HROW : Hid _ := World.rowIs_made wo (.bool false) m 4
          have hP1 := HPW.out
          go_wp2_with fail
          clear hmk hP1
          go_loopw [12] (fun i wr => ∃ j : Nat, j ≤ m ∧ i = .int .i64 (j : Int) ∧ wr.rowIs wo.heap.size 4 m (fun z => .bool (if z < j then bt t z else false)) ∧ wo.heap.size + 1 ≤ wr.heap.size ∧ Below wo.heap.size wo wr) (fun i wr => m - (intOf i).toNat)
          case atStart => exact ⟨0, Nat.zero_le _, rfl, World.rowIs.congr HROW.out (fun z _ => by rw [if_neg (Nat.not_lt_zero z)]), by simp, by go_grown⟩
          case round =>
            clear HROW
            obtain ⟨j, hj, rfl, hrow, hws, hbl⟩ := hrel
            have hjm64 : (j : Int) < 64 := by omega
            by_cases hjm : j < m
            · have hjI : (j : Int) < (m : Int) := by omega
              have c3 : wr.cell? ⟨wo.heap.size, j, none⟩ = some (.bool (if j < j then bt t j else false)) := hrow.cell hjm
              have f3 := hrow.frozen j
              have HR2 : Hid (∀ x : Bool, x = bt t j → (wr.setCell ⟨wo.heap.size, j, none⟩ (.bool x)).rowIs wo.heap.size 4 m (fun z => .bool (if z < j + 1 then bt t z else false))) := fun x hx => (hrow.set j (.bool x)).congr (fun z _ => by
                by_cases hz : z = j
                · rw [if_pos hz, hx, hz, if_pos (by omega)]
                · rw [if_neg hz]
                  by_cases hz2 : z < j
                  · rw [if_pos hz2, if_pos (by omega)]
                  · rw [if_neg hz2, if_neg (by omega)])
              clear hrow
              go_wp2_with fail
              refine ⟨⟨j + 1, by omega, by go_num, HR2.out _ (by unfold bt; rw [Nat.min_eq_left (by omega)]), by rw [World.size_setCell]; omega, ?_⟩, by simp [intOf]; omega⟩
              go_grown
            · obtain rfl : j = m := by omega
              have hjI : ¬ (j : Int) < (j : Int) := by omega
              have hIL : (List.range j).map (fun z => if z < j then bt t z else false) = ilF j t := by
                unfold ilF
                exact List.map_congr_left (fun z hz => by rw [if_pos (List.mem_range.1 hz)])
              have HBZ : Hid (Bz wr (.slice (some ⟨wo.heap.size, 0, none⟩) j j) (ilF j t)) := by
                unfold Hid
                rw [← hIL]
                exact row_bz hrow
              have h4v : Below w4.heap.size w4 wr := hJ.out.2.trans (hbl.mono ho4)
              have h2v : Below w2.heap.size w2 wr := HB4.out.trans (h4v.mono h4l)
              have H4V : Hid _ := h4v
              obtain ⟨ra, era, e6a⟩ := HLC.out wr h2v k ya HYA.out
              obtain ⟨rb, erb, e6b⟩ := HLC.out wr h2v q yb HYB.out
              have hrr : ra = rb := by rw [era] at erb; injection erb with erb; injection erb
              subst hrr
              have e0 : wr.cell? ⟨X, 0, none⟩ = some (.pointer (some ⟨g, 0, none⟩)) := keep_cell h2v HC0.out
              have e3 : wr.cell? ⟨X, 3, none⟩ = some (.slice al nL cl) := keep_cell h2v HC3.out
              rw [era] at e3
              have HEL : Hid (∀ (wx : World) (z : Nat), Below wr.heap.size wr wx → z ∈ s.Lt → Calls Try.prog 13 #[.pointer (some ⟨g, 0, none⟩), .int .i64 (z : Int), .slice (some ⟨wo.heap.size, 0, none⟩) j j] wx fun ev w' => ev = .returned (.tuple #[.bool (evV s.ks (ilF j t) z), .int .i64 0]) ∧ Below wx.heap.size wx w') := fun wx z hb hz => eval_yes (HGR.out wx (h2v.trans (hb.mono h2v.size))) (litB_iff.2 (by have := HPZ.out.root_lt hz; omega)) (Bz.below HBZ.out hb) (by rw [ilF_len]; exact HMI.out)
              have HEA : Hid (∀ wx, Below wr.heap.size wr wx → _) := fun wx hb => HEL.out wx ya hb (List.mem_of_getElem? HYA.out)
              have HEB : Hid (∀ wx, Below wr.heap.size wr wx → _) := fun wx hb => HEL.out wx yb hb (List.mem_of_getElem? HYB.out)
              have HNX : Hid ((y || (evV s.ks (ilF j t) ya && evV s.ks (ilF j t) yb)) = ((List.range (t + 1)).any fun n => evV s.ks (ilF j n) ya && evV s.ks (ilF j n) yb)) := by
                unfold Hid
                rw [any_snoc, ← hJ.out.1]
              obtain ⟨pa, hpa⟩ : ∃ p, p = evV s.ks (ilF j t) ya := ⟨_, rfl⟩
              obtain ⟨pb, hpb⟩ : ∃ p, p = evV s.ks (ilF j t) yb := ⟨_, rfl⟩
              rw [← hpa] at HEA HNX
              rw [← hpb] at HEB HNX
              obtain ⟨wv, ewv⟩ : ∃ wv, wv = wr := ⟨_, rfl⟩
              rw [← ewv] at e0 e3 e6a e6b HEA HEB H4V
              rw [← ewv]
              have hXv : X < wv.heap.size := World.block_lt_of_cell? _ _ e0
              have hrv : ra < wv.heap.size := World.block_lt_of_cell? _ _ e6a
              have hv4 := H4V.out.size
              clear hIL hrow hws hbl h4v h2v era erb hpa hpb HEL HBZ ewv
              go_wp2_with fail
              refine wp_named fun a0 ha0 => ?_
              have o3 := old_at ha0 (t := 3) rfl
              have o7 := old_at ha0 (t := 7) rfl
              have o11 := old_at ha0 (t := 11) rfl
              refine wp_region_lin (S := fun _ _ x => Below wv.heap.size wv x) [] (fun _ => 0) (by kernel_rfl) (by kernel_rfl) (by rw [← ha0]; kernel_rfl) (drew_low _ _) ?_
              refine' LinAll.cons _ ?_ ?_ ?_
              rotate_left 1
              · intro gg L a x hLi haft hS hK
                have t3 := (hK.old 3 (by kernel_rfl)).trans o3
                (try dsimp only at t3)
                refine go_in (wanted_all rfl) ?_
                intro K hk
                clear haft hK hLi
                go_simp
                exact hk.out gg x (fun _ _ => rfl) (hS)
              · intro i hi; exact Or.inl (fun _ _ _ => rfl)
              refine' LinAll.cons _ ?_ ?_ ?_
              rotate_left 1
              · intro gg L a x hLi haft hS hK
                have t99 := hK.new 0 0 _ 99 _ rfl rfl rfl (by kernel_rfl) (waits haft 0 (by kernel_rfl))
                (try dsimp only at t99)
                refine go_in (wanted_all rfl) ?_
                intro K hk
                clear haft hK hLi
                go_simp
                exact hk.out gg x (fun _ _ => rfl) (hS)
              · intro i hi; exact Or.inl (fun _ _ _ => rfl)
              refine' LinAll.cons _ ?_ ?_ ?_
              rotate_left 1
              · intro gg L a x hLi haft hS hK
                have t100 := hK.new 1 0 _ 100 _ rfl rfl rfl (by kernel_rfl) (waits haft 1 (by kernel_rfl))
                (try dsimp only at t100)
                refine go_in (wanted_all rfl) ?_
                intro K hk
                clear haft hK hLi
                go_simp
                exact hk.out gg x (fun _ _ => rfl) (hS)
              · intro i hi; exact Or.inl (fun _ _ _ => rfl)
              refine' LinAll.cons _ ?_ ?_ ?_
              rotate_left 1
              · intro gg L a x hLi haft hS hK
                have t101 := hK.new 2 0 _ 101 _ rfl rfl rfl (by kernel_rfl) (waits haft 2 (by kernel_rfl))
                (try dsimp only at t101)
                have hS1 : Below wv.heap.size wv x := hS
                have cX := keep_cell hS1 e0
                refine go_in (wanted_all rfl) ?_
                intro K hk
                clear haft hK hLi
                go_simp
                exact hk.out gg x (fun _ _ => rfl) (hS)
              · intro i hi; exact Or.inl (fun _ _ _ => rfl)
              refine' LinAll.cons _ ?_ ?_ ?_
              rotate_left 1
              · intro gg L a x hLi haft hS hK
                have t3 := (hK.old 3 (by kernel_rfl)).trans o3
                (try dsimp only at t3)
                refine go_in (wanted_all rfl) ?_
                intro K hk
                clear haft hK hLi
                go_simp
                exact hk.out gg x (fun _ _ => rfl) (hS)
              · intro i hi; exact Or.inl (fun _ _ _ => rfl)
              refine' LinAll.cons _ ?_ ?_ ?_
              rotate_left 1
              · intro gg L a x hLi haft hS hK
                have t103 := hK.new 4 0 _ 103 _ rfl rfl rfl (by kernel_rfl) (waits haft 4 (by kernel_rfl))
                (try dsimp only at t103)
                refine go_in (wanted_all rfl) ?_
                intro K hk
                clear haft hK hLi
                go_simp
                exact hk.out gg x (fun _ _ => rfl) (hS)
              · intro i hi; exact Or.inl (fun _ _ _ => rfl)
              refine' LinAll.cons _ ?_ ?_ ?_
              rotate_left 1
              · intro gg L a x hLi haft hS hK
                have t104 := hK.new 5 0 _ 104 _ rfl rfl rfl (by kernel_rfl) (waits haft 5 (by kernel_rfl))
                (try dsimp only at t104)
                refine go_in (wanted_all rfl) ?_
                intro K hk
                clear haft hK hLi
                go_simp
                exact hk.out gg x (fun _ _ => rfl) (hS)
              · intro i hi; exact Or.inl (fun _ _ _ => rfl)
              refine' LinAll.cons _ ?_ ?_ ?_
              rotate_left 1
              · intro gg L a x hLi haft hS hK
                have t105 := hK.new 6 0 _ 105 _ rfl rfl rfl (by kernel_rfl) (waits haft 6 (by kernel_rfl))
                (try dsimp only at t105)
                have hS1 : Below wv.heap.size wv x := hS
                have cX := keep_cell hS1 e3
                refine go_in (wanted_all rfl) ?_
                intro K hk
                clear haft hK hLi
                go_simp
                exact hk.out gg x (fun _ _ => rfl) (hS)
              · intro i hi; exact Or.inl (fun _ _ _ => rfl)
              refine' LinAll.cons _ ?_ ?_ ?_
              rotate_left 1
              · intro gg L a x hLi haft hS hK
                have t7 := (hK.old 7 (by kernel_rfl)).trans o7
                (try dsimp only at t7)
                refine go_in (wanted_all rfl) ?_
                intro K hk
                clear haft hK hLi
                go_simp
                exact hk.out gg x (fun _ _ => rfl) (hS)
              · intro i hi; exact Or.inl (fun _ _ _ => rfl)
              refine' LinAll.cons _ ?_ ?_ ?_
              rotate_left 1
              · intro gg L a x hLi haft hS hK
                have t106 := hK.new 7 1 _ 106 _ rfl rfl rfl (by kernel_rfl) (waits haft 7 (by kernel_rfl))
                have t107 := hK.new 8 0 _ 107 _ rfl rfl rfl (by kernel_rfl) (waits haft 8 (by kernel_rfl))
                (try dsimp only at t106 t107)
                refine go_in (wanted_all rfl) ?_
                intro K hk
                clear haft hK hLi
                go_simp
                exact hk.out gg x (fun _ _ => rfl) (hS)
              · intro i hi; exact Or.inl (fun _ _ _ => rfl)
              refine' LinAll.cons _ ?_ ?_ ?_
              rotate_left 1
              · intro gg L a x hLi haft hS hK
                have t108 := hK.new 9 0 _ 108 _ rfl rfl rfl (by kernel_rfl) (waits haft 9 (by kernel_rfl))
                (try dsimp only at t108)
                have hS1 : Below wv.heap.size wv x := hS
                have cX := keep_cell hS1 e6a
                refine go_in (wanted_all rfl) ?_
                intro K hk
                clear haft hK hLi
                go_simp
                exact hk.out gg x (fun _ _ => rfl) (hS)
              · intro i hi; exact Or.inl (fun _ _ _ => rfl)
              refine' LinAll.cons _ ?_ ?_ ?_
              rotate_left 1
              · intro gg L a x hLi haft hS hK
                have t11 := (hK.old 11 (by kernel_rfl)).trans o11
                (try dsimp only at t11)
                refine go_in (wanted_all rfl) ?_
                intro K hk
                clear haft hK hLi
                go_simp
                exact hk.out gg x (fun _ _ => rfl) (hS)
              · intro i hi; exact Or.inl (fun _ _ _ => rfl)
              refine' LinAll.cons _ ?_ ?_ ?_
              rotate_left 1
              · intro gg L a x hLi haft hS hK
                have t102 := hK.new 3 8 _ 102 _ rfl rfl rfl (by kernel_rfl) (waits haft 3 (by kernel_rfl))
                have t109 := hK.new 10 1 _ 109 _ rfl rfl rfl (by kernel_rfl) (waits haft 10 (by kernel_rfl))
                have t110 := hK.new 11 0 _ 110 _ rfl rfl rfl (by kernel_rfl) (waits haft 11 (by kernel_rfl))
                (try dsimp only at t102 t109 t110)
                have hS1 : Below wv.heap.size wv x := hS
                refine go_in (wanted_all rfl) ?_
                intro K hk
                have HVX : Hid _ := HEA.out x hS1
                clear haft hK hLi
                go_simp
                refine Calls.mono HVX.out ?_
                rintro ev y ⟨rfl, hby⟩
                exact hk.out gg y (fun _ _ => rfl) (hS1.trans (hby.mono hS1.size))
              · intro i hi; exact Or.inl (fun _ _ _ => rfl)
              refine' LinAll.cons _ ?_ ?_ ?_
              rotate_left 1
              · intro gg L a x hLi haft hS hK
                have t111 := hK.new 12 0 _ 111 _ rfl rfl rfl (by kernel_rfl) (waits haft 12 (by kernel_rfl))
                (try dsimp only at t111)
                refine go_in (wanted_all rfl) ?_
                intro K hk
                clear haft hK hLi
                go_simp
                exact hk.out gg x (fun _ _ => rfl) (hS)
              · intro i hi; exact Or.inl (fun _ _ _ => rfl)
              refine' LinAll.cons _ ?_ ?_ ?_
              rotate_left 1
              · intro gg L a x hLi haft hS hK
                have t98 := hK.new 13 0 _ 98 _ rfl rfl rfl (by kernel_rfl) (waits haft 13 (by kernel_rfl))
                (try dsimp only at t98)
                refine go_in (wanted_all rfl) ?_
                intro K hk
                clear haft hK hLi
                go_simp
                exact hk.out gg x (fun _ _ => rfl) (hS)
              · intro i hi; exact Or.inl (fun _ _ _ => rfl)
              refine' LinAll.cons _ ?_ ?_ ?_
              rotate_left 1
              · intro gg L a x hLi haft hS hK
                have t98 := hK.new 13 1 _ 98 _ rfl rfl rfl (by kernel_rfl) (waits haft 13 (by kernel_rfl))
                (try dsimp only at t98)
                refine go_in (wanted_all rfl) ?_
                intro K hk
                clear haft hK hLi
                go_simp
                exact hk.out gg x (fun _ _ => rfl) (hS)
              · intro i hi; exact Or.inl (fun _ _ _ => rfl)
              refine' LinAll.cons _ ?_ ?_ ?_
              rotate_left 1
              · intro gg L a x hLi haft hS hK
                have t112 := hK.new 14 1 _ 112 _ rfl rfl rfl (by kernel_rfl) (waits haft 14 (by kernel_rfl))
                (try dsimp only at t112)
                refine go_in (wanted_all rfl) ?_
                intro K hk
                clear haft hK hLi
                go_simp
                exact hk.out gg x (fun _ _ => rfl) (hS)
              · intro i hi; exact Or.inl (fun _ _ _ => rfl)
              refine' LinAll.cons _ ?_ ?_ ?_
              rotate_left 1
              · intro gg L a x hLi haft hS hK
                have t113 := hK.new 15 1 _ 113 _ rfl rfl rfl (by kernel_rfl) (waits haft 15 (by kernel_rfl))
                (try dsimp only at t113)
                refine go_in (wanted_all rfl) ?_
                intro K hk
                clear haft hK hLi
                go_simp
                exact hk.out gg x (fun _ _ => rfl) (hS)
              · intro i hi; exact Or.inl (fun _ _ _ => rfl)
              refine LinAll.nil fun gg x hS => ?_
              subst ha0
              simp only [Act.put, List.setIfInBounds_toArray, List.set_cons_zero, List.set_cons_succ]
              clear o3 o7 o11
              have hS2 : Below wv.heap.size wv x := hS
              have i0 := keep_cell hS2 e0
              have i3 := keep_cell hS2 e3
              have i6 := keep_cell hS2 e6b
              have hXx : X < x.heap.size := by have := hS2.size; omega
              have hrx : ra < x.heap.size := by have := hS2.size; omega
              have HEX : Hid (∀ wx, Below x.heap.size x wx → _) := fun wx hb => HEB.out wx (hS2.trans (hb.mono hS2.size))
              have HX4 : Hid (Below w4.heap.size w4 x) := H4V.out.trans (hS2.mono hv4)
              obtain ⟨wz, ewz⟩ : ∃ y, y = x := ⟨_, rfl⟩
              rw [← ewz] at i0 i3 i6 HEX HX4 hXx hrx
              rw [← ewz]
              clear hS hS2 e0 e3 e6a e6b HEA HEB ewz x
              go_wp2_with fail
              refine wp_named fun a0 ha0 => ?_
              have o3 := old_at ha0 (t := 3) rfl
              have o8 := old_at ha0 (t := 8) rfl
              have o11 := old_at ha0 (t := 11) rfl
              refine wp_region_lin (S := fun _ _ x => Below wz.heap.size wz x) [] (fun _ => 0) (by kernel_rfl) (by kernel_rfl) (by rw [← ha0]; kernel_rfl) (drew_low _ _) ?_
              refine' LinAll.cons _ ?_ ?_ ?_
              rotate_left 1
              · intro gg L a x hLi haft hS hK
                have t3 := (hK.old 3 (by kernel_rfl)).trans o3
                (try dsimp only at t3)
                refine go_in (wanted_all rfl) ?_
                intro K hk
                clear haft hK hLi
                go_simp
                exact hk.out gg x (fun _ _ => rfl) (hS)
              · intro i hi; exact Or.inl (fun _ _ _ => rfl)
              refine' LinAll.cons _ ?_ ?_ ?_
              rotate_left 1
              · intro gg L a x hLi haft hS hK
                have t115 := hK.new 0 0 _ 115 _ rfl rfl rfl (by kernel_rfl) (waits haft 0 (by kernel_rfl))
                (try dsimp only at t115)
                refine go_in (wanted_all rfl) ?_
                intro K hk
                clear haft hK hLi
                go_simp
                exact hk.out gg x (fun _ _ => rfl) (hS)
              · intro i hi; exact Or.inl (fun _ _ _ => rfl)
              refine' LinAll.cons _ ?_ ?_ ?_
              rotate_left 1
              · intro gg L a x hLi haft hS hK
                have t116 := hK.new 1 0 _ 116 _ rfl rfl rfl (by kernel_rfl) (waits haft 1 (by kernel_rfl))
                (try dsimp only at t116)
                refine go_in (wanted_all rfl) ?_
                intro K hk
                clear haft hK hLi
                go_simp
                exact hk.out gg x (fun _ _ => rfl) (hS)
              · intro i hi; exact Or.inl (fun _ _ _ => rfl)
              refine' LinAll.cons _ ?_ ?_ ?_
              rotate_left 1
              · intro gg L a x hLi haft hS hK
                have t117 := hK.new 2 0 _ 117 _ rfl rfl rfl (by kernel_rfl) (waits haft 2 (by kernel_rfl))
                (try dsimp only at t117)
                have hS1 : Below wz.heap.size wz x := hS
                have cX := keep_cell hS1 i0
                refine go_in (wanted_all rfl) ?_
                intro K hk
                clear haft hK hLi
                go_simp
                exact hk.out gg x (fun _ _ => rfl) (hS)
              · intro i hi; exact Or.inl (fun _ _ _ => rfl)
              refine' LinAll.cons _ ?_ ?_ ?_
              rotate_left 1
              · intro gg L a x hLi haft hS hK
                have t3 := (hK.old 3 (by kernel_rfl)).trans o3
                (try dsimp only at t3)
                refine go_in (wanted_all rfl) ?_
                intro K hk
                clear haft hK hLi
                go_simp
                exact hk.out gg x (fun _ _ => rfl) (hS)
              · intro i hi; exact Or.inl (fun _ _ _ => rfl)
              refine' LinAll.cons _ ?_ ?_ ?_
              rotate_left 1
              · intro gg L a x hLi haft hS hK
                have t119 := hK.new 4 0 _ 119 _ rfl rfl rfl (by kernel_rfl) (waits haft 4 (by kernel_rfl))
                (try dsimp only at t119)
                refine go_in (wanted_all rfl) ?_
                intro K hk
                clear haft hK hLi
                go_simp
                exact hk.out gg x (fun _ _ => rfl) (hS)
              · intro i hi; exact Or.inl (fun _ _ _ => rfl)
              refine' LinAll.cons _ ?_ ?_ ?_
              rotate_left 1
              · intro gg L a x hLi haft hS hK
                have t120 := hK.new 5 0 _ 120 _ rfl rfl rfl (by kernel_rfl) (waits haft 5 (by kernel_rfl))
                (try dsimp only at t120)
                refine go_in (wanted_all rfl) ?_
                intro K hk
                clear haft hK hLi
                go_simp
                exact hk.out gg x (fun _ _ => rfl) (hS)
              · intro i hi; exact Or.inl (fun _ _ _ => rfl)
              refine' LinAll.cons _ ?_ ?_ ?_
              rotate_left 1
              · intro gg L a x hLi haft hS hK
                have t121 := hK.new 6 0 _ 121 _ rfl rfl rfl (by kernel_rfl) (waits haft 6 (by kernel_rfl))
                (try dsimp only at t121)
                have hS1 : Below wz.heap.size wz x := hS
                have cX := keep_cell hS1 i3
                refine go_in (wanted_all rfl) ?_
                intro K hk
                clear haft hK hLi
                go_simp
                exact hk.out gg x (fun _ _ => rfl) (hS)
              · intro i hi; exact Or.inl (fun _ _ _ => rfl)
              refine' LinAll.cons _ ?_ ?_ ?_
              rotate_left 1
              · intro gg L a x hLi haft hS hK
                have t8 := (hK.old 8 (by kernel_rfl)).trans o8
                (try dsimp only at t8)
                refine go_in (wanted_all rfl) ?_
                intro K hk
                clear haft hK hLi
                go_simp
                exact hk.out gg x (fun _ _ => rfl) (hS)
              · intro i hi; exact Or.inl (fun _ _ _ => rfl)
              refine' LinAll.cons _ ?_ ?_ ?_
              rotate_left 1
              · intro gg L a x hLi haft hS hK
                have t122 := hK.new 7 1 _ 122 _ rfl rfl rfl (by kernel_rfl) (waits haft 7 (by kernel_rfl))
                have t123 := hK.new 8 0 _ 123 _ rfl rfl rfl (by kernel_rfl) (waits haft 8 (by kernel_rfl))
                (try dsimp only at t122 t123)
                refine go_in (wanted_all rfl) ?_
                intro K hk
                clear haft hK hLi
                go_simp
                exact hk.out gg x (fun _ _ => rfl) (hS)
              · intro i hi; exact Or.inl (fun _ _ _ => rfl)
              refine' LinAll.cons _ ?_ ?_ ?_
              rotate_left 1
              · intro gg L a x hLi haft hS hK
                have t124 := hK.new 9 0 _ 124 _ rfl rfl rfl (by kernel_rfl) (waits haft 9 (by kernel_rfl))
                (try dsimp only at t124)
                have hS1 : Below wz.heap.size wz x := hS
                have cX := keep_cell hS1 i6
                refine go_in (wanted_all rfl) ?_
                intro K hk
                clear haft hK hLi
                go_simp
                exact hk.out gg x (fun _ _ => rfl) (hS)
              · intro i hi; exact Or.inl (fun _ _ _ => rfl)
              refine' LinAll.cons _ ?_ ?_ ?_
              rotate_left 1
              · intro gg L a x hLi haft hS hK
                have t11 := (hK.old 11 (by kernel_rfl)).trans o11
                (try dsimp only at t11)
                refine go_in (wanted_all rfl) ?_
                intro K hk
                clear haft hK hLi
                go_simp
                exact hk.out gg x (fun _ _ => rfl) (hS)
              · intro i hi; exact Or.inl (fun _ _ _ => rfl)
              refine' LinAll.cons _ ?_ ?_ ?_
              rotate_left 1
              · intro gg L a x hLi haft hS hK
                have t118 := hK.new 3 8 _ 118 _ rfl rfl rfl (by kernel_rfl) (waits haft 3 (by kernel_rfl))
                have t125 := hK.new 10 1 _ 125 _ rfl rfl rfl (by kernel_rfl) (waits haft 10 (by kernel_rfl))
                have t126 := hK.new 11 0 _ 126 _ rfl rfl rfl (by kernel_rfl) (waits haft 11 (by kernel_rfl))
                (try dsimp only at t118 t125 t126)
                have hS1 : Below wz.heap.size wz x := hS
                refine go_in (wanted_all rfl) ?_
                intro K hk
                have HVX : Hid _ := HEX.out x hS1
                clear haft hK hLi
                go_simp
                refine Calls.mono HVX.out ?_
                rintro ev y ⟨rfl, hby⟩
                exact hk.out gg y (fun _ _ => rfl) (hS1.trans (hby.mono hS1.size))
              · intro i hi; exact Or.inl (fun _ _ _ => rfl)
              refine' LinAll.cons _ ?_ ?_ ?_
              rotate_left 1
              · intro gg L a x hLi haft hS hK
                have t127 := hK.new 12 0 _ 127 _ rfl rfl rfl (by kernel_rfl) (waits haft 12 (by kernel_rfl))
                (try dsimp only at t127)
                refine go_in (wanted_all rfl) ?_
                intro K hk
                clear haft hK hLi
                go_simp
                exact hk.out gg x (fun _ _ => rfl) (hS)
              · intro i hi; exact Or.inl (fun _ _ _ => rfl)
              refine' LinAll.cons _ ?_ ?_ ?_
              rotate_left 1
              · intro gg L a x hLi haft hS hK
                have t114 := hK.new 13 0 _ 114 _ rfl rfl rfl (by kernel_rfl) (waits haft 13 (by kernel_rfl))
                (try dsimp only at t114)
                refine go_in (wanted_all rfl) ?_
                intro K hk
                clear haft hK hLi
                go_simp
                exact hk.out gg x (fun _ _ => rfl) (hS)
              · intro i hi; exact Or.inl (fun _ _ _ => rfl)
              refine' LinAll.cons _ ?_ ?_ ?_
              rotate_left 1
              · intro gg L a x hLi haft hS hK
                have t114 := hK.new 13 1 _ 114 _ rfl rfl rfl (by kernel_rfl) (waits haft 13 (by kernel_rfl))
                (try dsimp only at t114)
                refine go_in (wanted_all rfl) ?_
                intro K hk
                clear haft hK hLi
                go_simp
                exact hk.out gg x (fun _ _ => rfl) (hS)
              · intro i hi; exact Or.inl (fun _ _ _ => rfl)
              refine' LinAll.cons _ ?_ ?_ ?_
              rotate_left 1
              · intro gg L a x hLi haft hS hK
                have t128 := hK.new 14 1 _ 128 _ rfl rfl rfl (by kernel_rfl) (waits haft 14 (by kernel_rfl))
                (try dsimp only at t128)
                refine go_in (wanted_all rfl) ?_
                intro K hk
                clear haft hK hLi
                go_simp
                exact hk.out gg x (fun _ _ => rfl) (hS)
              · intro i hi; exact Or.inl (fun _ _ _ => rfl)
              refine' LinAll.cons _ ?_ ?_ ?_
              rotate_left 1
              · intro gg L a x hLi haft hS hK
                have t129 := hK.new 15 1 _ 129 _ rfl rfl rfl (by kernel_rfl) (waits haft 15 (by kernel_rfl))
                (try dsimp only at t129)
                refine go_in (wanted_all rfl) ?_
                intro K hk
                clear haft hK hLi
                go_simp
                exact hk.out gg x (fun _ _ => rfl) (hS)
              · intro i hi; exact Or.inl (fun _ _ _ => rfl)
              refine LinAll.nil fun gg x hS => ?_
              subst ha0
              simp only [Act.put, List.setIfInBounds_toArray, List.set_cons_zero, List.set_cons_succ]
              clear o3 o8 o11
              have hS2 : Below wz.heap.size wz x := hS
              have hbx : Below w4.heap.size w4 x := HX4.out.trans (hS2.mono HX4.out.size)
              clear hS hS2 i0 i3 i6 HEX
              cases y
              · cases pa
                · go_wp2_with fail
                  exact ⟨⟨t + 1, false, by omega, by go_num, rfl, HNX.out, hbx⟩, by simp [intOf]; omega⟩
                · cases pb
                  · go_wp2_with fail
                    exact ⟨⟨t + 1, false, by omega, by go_num, rfl, HNX.out, hbx⟩, by simp [intOf]; omega⟩
                  · go_wp2_with fail
                    exact ⟨⟨t + 1, true, by omega, by go_num, rfl, HNX.out, hbx⟩, by simp [intOf]; omega⟩
              · have HN1 : Hid (true = ((List.range (t + 1)).any fun n => evV s.ks (ilF j n) ya && evV s.ks (ilF j n) yb)) := by
                  unfold Hid
                  rw [← HNX.out]
                  rfl
                go_wp2_with fail
                exact ⟨⟨t + 1, true, by omega, by go_num, rfl, HN1.out, hbx⟩, by simp [intOf]; omega⟩
        · obtain rfl : t = P := by omega
          have htI : ¬ (t : Int) < (t : Int) := by omega
          have h2o : Below w2.heap.size w2 wo := HB4.out.trans (hJ.out.2.mono h4l)
          have e2 : wo.cell? ⟨X, 2, none⟩ = some (.slice aa nC ca) := keep_cell h2o HC2.out
          have e4 : wo.cell? ⟨X, 4, none⟩ = some (.slice ar nL cr) := keep_cell h2o HC4.out
          obtain ⟨ra, era, e7a⟩ := HRC4.out wo h2o k ya HYA.out
          obtain ⟨rb, erb, e7b⟩ := HRC4.out wo h2o q yb HYB.out
          have hrr : ra = rb := by rw [era] at erb; injection erb with erb; injection erb
          subst hrr
          rw [era] at e4
          have HYE : Hid (canF M (s.C ++ [[lit s.V ya], [lit s.V yb]]) = y) := by
            unfold Hid
            rw [HCAN.out, hJ.out.1, HPE.out]
          have HOK2 : Hid (∀ c ∈ s.C ++ [[lit s.V ya], [lit s.V yb]], okC c ∧ c.length ≤ 1000) := fun c hc => by
            rcases List.mem_append.1 hc with hc | hc
            · exact HOK.out c hc
            · simp only [List.mem_cons, List.not_mem_nil, or_false] at hc
              rcases hc with rfl | rfl
              · exact ⟨HPZ.out.root_ok (by decide) (by rw [← HVV.out]; exact HV1.out) (List.mem_of_getElem? HYA.out), by simp⟩
              · exact ⟨HPZ.out.root_ok (by decide) (by rw [← HVV.out]; exact HV1.out) (List.mem_of_getElem? HYB.out), by simp⟩
          obtain ⟨qa, hqa⟩ : ∃ p, p = lit s.V ya := ⟨_, rfl⟩
          obtain ⟨qb, hqb⟩ : ∃ p, p = lit s.V yb := ⟨_, rfl⟩
          rw [← hqa] at e7a HYE HOK2
          rw [← hqb] at e7b HYE HOK2
          have HCL : Hid (∀ wx, Below wo.heap.size wo wx → Calls Try.prog 21 #[.slice aa nC ca] wx fun ev w' => ∃ v' us', ev = .returned v' ∧ Ls w' wx.heap.size v' us' s.C ∧ Below wx.heap.size wx w') := fun wx hb => by
            obtain ⟨B, us, hl⟩ := HLS.out wx (h2o.trans (hb.mono h2o.size))
            exact copyLists_any hl HPZ.out.ne (by rw [← HNC.out]; omega)
          have H4O : Hid _ := hJ.out.2
          have hXo : X < wo.heap.size := World.block_lt_of_cell? _ _ e2
          have hro : ra < wo.heap.size := World.block_lt_of_cell? _ _ e7a
          have hP1 := HPW.out
          clear hqa hqb h2o era erb HCAN
          go_wp2_with fail
          clear hP1
          refine wp_named fun a0 ha0 => ?_
          have o3 := old_at ha0 (t := 3) rfl
          have o7 := old_at ha0 (t := 7) rfl
          have o8 := old_at ha0 (t := 8) rfl
          refine wp_region_lin (S := WS wo qa qb s.C) [4, 12, 20, 21, 22] (fun _ => 0) (by kernel_rfl) (by kernel_rfl) (by rw [← ha0]; kernel_rfl) (WS.start (x := wo.drew) rfl rfl rfl rfl) ?_
          refine' LinAll.cons _ ?_ ?_ ?_
          rotate_left 1
          · intro gg L a x hLi haft hS hK
            have t3 := (hK.old 3 (by kernel_rfl)).trans o3
            (try dsimp only at t3)
            refine go_in (wanted_all rfl) ?_
            intro K hk
            clear haft hK hLi
            go_simp
            exact hk.out gg x (fun _ _ => rfl) (hS.go rfl)
          · intro i hi; exact Or.inl (fun _ _ _ => rfl)
          refine' LinAll.cons _ ?_ ?_ ?_
          rotate_left 1
          · intro gg L a x hLi haft hS hK
            have t137 := hK.new 0 0 _ 137 _ rfl rfl rfl (by kernel_rfl) (waits haft 0 (by kernel_rfl))
            (try dsimp only at t137)
            refine go_in (wanted_all rfl) ?_
            intro K hk
            clear haft hK hLi
            go_simp
            exact hk.out gg x (fun _ _ => rfl) (hS.go rfl)
          · intro i hi; exact Or.inl (fun _ _ _ => rfl)
          refine' LinAll.cons _ ?_ ?_ ?_
          rotate_left 1
          · intro gg L a x hLi haft hS hK
            have t138 := hK.new 1 0 _ 138 _ rfl rfl rfl (by kernel_rfl) (waits haft 1 (by kernel_rfl))
            (try dsimp only at t138)
            refine go_in (wanted_all rfl) ?_
            intro K hk
            clear haft hK hLi
            go_simp
            exact hk.out gg x (fun _ _ => rfl) (hS.go rfl)
          · intro i hi; exact Or.inl (fun _ _ _ => rfl)
          refine' LinAll.cons _ ?_ ?_ ?_
          rotate_left 1
          · intro gg L a x hLi haft hS hK
            have t139 := hK.new 2 0 _ 139 _ rfl rfl rfl (by kernel_rfl) (waits haft 2 (by kernel_rfl))
            (try dsimp only at t139)
            have hS1 := hS.low
            have cX := keep_cell hS1 e2
            refine go_in (wanted_all rfl) ?_
            intro K hk
            clear haft hK hLi
            go_simp
            exact hk.out gg x (fun _ _ => rfl) (hS.go rfl)
          · intro i hi; exact Or.inl (fun _ _ _ => rfl)
          refine LinAll.cons (fun gg => dec s.C.length (gg 4)) ?_ ?_ ?_
          · intro gg L a x hLi haft hS hK
            have t140 := hK.new 3 0 _ 140 _ rfl rfl rfl (by kernel_rfl) (waits haft 3 (by kernel_rfl))
            (try dsimp only at t140)
            have hS1 := hS.low
            refine go_in (wanted_all rfl) ?_
            intro K hk
            have HVX : Hid _ := HCL.out x hS1
            clear haft hK
            go_simp
            refine Calls.mono HVX.out ?_
            rintro ev y ⟨v2, us2, rfl, hL2, hb2⟩
            obtain ⟨p, hp⟩ := dec_of hL2.row
            rw [hL2.len] at hp
            subst hp
            have hq := hk.out (updG gg 4 p) y (updG_al (by rfl)) (hS.call hLi hb2 hL2)
            dsimp only at hq
            rw [updG_eq] at hq
            exact hq
          · intro i hi
            simp only [List.mem_cons, List.not_mem_nil, or_false] at hi
            rcases hi with rfl | rfl | rfl | rfl | rfl
            · exact Or.inr (by kernel_rfl)
            · exact Or.inl (fun g g' h => by simp only [h 4 (by decide)])
            · exact Or.inl (fun g g' h => by simp only [h 4 (by decide)])
            · exact Or.inl (fun g g' h => by simp only [h 4 (by decide)])
            · exact Or.inl (fun g g' h => by simp only [h 4 (by decide)])
          refine' LinAll.cons _ ?_ ?_ ?_
          rotate_left 1
          · intro gg L a x hLi haft hS hK
            have t3 := (hK.old 3 (by kernel_rfl)).trans o3
            (try dsimp only at t3)
            refine go_in (wanted_all rfl) ?_
            intro K hk
            clear haft hK hLi
            go_simp
            exact hk.out gg x (fun _ _ => rfl) (hS.go rfl)
          · intro i hi; exact Or.inl (fun _ _ _ => rfl)
          refine' LinAll.cons _ ?_ ?_ ?_
          rotate_left 1
          · intro gg L a x hLi haft hS hK
            have t142 := hK.new 5 0 _ 142 _ rfl rfl rfl (by kernel_rfl) (waits haft 5 (by kernel_rfl))
            (try dsimp only at t142)
            refine go_in (wanted_all rfl) ?_
            intro K hk
            clear haft hK hLi
            go_simp
            exact hk.out gg x (fun _ _ => rfl) (hS.go rfl)
          · intro i hi; exact Or.inl (fun _ _ _ => rfl)
          refine' LinAll.cons _ ?_ ?_ ?_
          rotate_left 1
          · intro gg L a x hLi haft hS hK
            have t143 := hK.new 6 0 _ 143 _ rfl rfl rfl (by kernel_rfl) (waits haft 6 (by kernel_rfl))
            (try dsimp only at t143)
            refine go_in (wanted_all rfl) ?_
            intro K hk
            clear haft hK hLi
            go_simp
            exact hk.out gg x (fun _ _ => rfl) (hS.go rfl)
          · intro i hi; exact Or.inl (fun _ _ _ => rfl)
          refine' LinAll.cons _ ?_ ?_ ?_
          rotate_left 1
          · intro gg L a x hLi haft hS hK
            have t144 := hK.new 7 0 _ 144 _ rfl rfl rfl (by kernel_rfl) (waits haft 7 (by kernel_rfl))
            (try dsimp only at t144)
            have hS1 := hS.low
            have cX := keep_cell hS1 e4
            refine go_in (wanted_all rfl) ?_
            intro K hk
            clear haft hK hLi
            go_simp
            exact hk.out gg x (fun _ _ => rfl) (hS.go rfl)
          · intro i hi; exact Or.inl (fun _ _ _ => rfl)
          refine' LinAll.cons _ ?_ ?_ ?_
          rotate_left 1
          · intro gg L a x hLi haft hS hK
            have t7 := (hK.old 7 (by kernel_rfl)).trans o7
            (try dsimp only at t7)
            refine go_in (wanted_all rfl) ?_
            intro K hk
            clear haft hK hLi
            go_simp
            exact hk.out gg x (fun _ _ => rfl) (hS.go rfl)
          · intro i hi; exact Or.inl (fun _ _ _ => rfl)
          refine' LinAll.cons _ ?_ ?_ ?_
          rotate_left 1
          · intro gg L a x hLi haft hS hK
            have t145 := hK.new 8 1 _ 145 _ rfl rfl rfl (by kernel_rfl) (waits haft 8 (by kernel_rfl))
            have t146 := hK.new 9 0 _ 146 _ rfl rfl rfl (by kernel_rfl) (waits haft 9 (by kernel_rfl))
            (try dsimp only at t145 t146)
            refine go_in (wanted_all rfl) ?_
            intro K hk
            clear haft hK hLi
            go_simp
            exact hk.out gg x (fun _ _ => rfl) (hS.go rfl)
          · intro i hi; exact Or.inl (fun _ _ _ => rfl)
          refine' LinAll.cons _ ?_ ?_ ?_
          rotate_left 1
          · intro gg L a x hLi haft hS hK
            have t147 := hK.new 10 0 _ 147 _ rfl rfl rfl (by kernel_rfl) (waits haft 10 (by kernel_rfl))
            (try dsimp only at t147)
            have hS1 := hS.low
            have cX := keep_cell hS1 e7a
            refine go_in (wanted_all rfl) ?_
            intro K hk
            clear haft hK hLi
            go_simp
            exact hk.out gg x (fun _ _ => rfl) (hS.go rfl)
          · intro i hi; exact Or.inl (fun _ _ _ => rfl)
          refine LinAll.cons (fun gg => .slice (some ⟨gg 12, 0, none⟩) 1 1) ?_ ?_ ?_
          · intro gg L a x hLi haft hS hK
            have t148 := hK.new 11 0 _ 148 _ rfl rfl rfl (by kernel_rfl) (waits haft 11 (by kernel_rfl))
            (try dsimp only at t148)
            refine go_in (wanted_all rfl) ?_
            intro K hk
            clear haft hK
            go_simp
            have hq := hk.out (updG gg 12 x.heap.size) _ (updG_al (by rfl)) (hS.b12 hLi)
            dsimp only at hq
            rw [updG_eq] at hq
            exact hq
          · intro i hi
            simp only [List.mem_cons, List.not_mem_nil, or_false] at hi
            rcases hi with rfl | rfl | rfl | rfl | rfl
            · exact Or.inl (fun g g' h => by simp only [h 12 (by decide)])
            · exact Or.inr (by kernel_rfl)
            · exact Or.inl (fun g g' h => by simp only [h 12 (by decide)])
            · exact Or.inl (fun g g' h => by simp only [h 12 (by decide)])
            · exact Or.inl (fun g g' h => by simp only [h 12 (by decide)])
          refine' LinAll.cons _ ?_ ?_ ?_
          rotate_left 1
          · intro gg L a x hLi haft hS hK
            have t3 := (hK.old 3 (by kernel_rfl)).trans o3
            (try dsimp only at t3)
            refine go_in (wanted_all rfl) ?_
            intro K hk
            clear haft hK hLi
            go_simp
            exact hk.out gg x (fun _ _ => rfl) (hS.go rfl)
          · intro i hi; exact Or.inl (fun _ _ _ => rfl)
          refine' LinAll.cons _ ?_ ?_ ?_
          rotate_left 1
          · intro gg L a x hLi haft hS hK
            have t150 := hK.new 13 0 _ 150 _ rfl rfl rfl (by kernel_rfl) (waits haft 13 (by kernel_rfl))
            (try dsimp only at t150)
            refine go_in (wanted_all rfl) ?_
            intro K hk
            clear haft hK hLi
            go_simp
            exact hk.out gg x (fun _ _ => rfl) (hS.go rfl)
          · intro i hi; exact Or.inl (fun _ _ _ => rfl)
          refine' LinAll.cons _ ?_ ?_ ?_
          rotate_left 1
          · intro gg L a x hLi haft hS hK
            have t151 := hK.new 14 0 _ 151 _ rfl rfl rfl (by kernel_rfl) (waits haft 14 (by kernel_rfl))
            (try dsimp only at t151)
            refine go_in (wanted_all rfl) ?_
            intro K hk
            clear haft hK hLi
            go_simp
            exact hk.out gg x (fun _ _ => rfl) (hS.go rfl)
          · intro i hi; exact Or.inl (fun _ _ _ => rfl)
          refine' LinAll.cons _ ?_ ?_ ?_
          rotate_left 1
          · intro gg L a x hLi haft hS hK
            have t152 := hK.new 15 0 _ 152 _ rfl rfl rfl (by kernel_rfl) (waits haft 15 (by kernel_rfl))
            (try dsimp only at t152)
            have hS1 := hS.low
            have cX := keep_cell hS1 e4
            refine go_in (wanted_all rfl) ?_
            intro K hk
            clear haft hK hLi
            go_simp
            exact hk.out gg x (fun _ _ => rfl) (hS.go rfl)
          · intro i hi; exact Or.inl (fun _ _ _ => rfl)
          refine' LinAll.cons _ ?_ ?_ ?_
          rotate_left 1
          · intro gg L a x hLi haft hS hK
            have t8 := (hK.old 8 (by kernel_rfl)).trans o8
            (try dsimp only at t8)
            refine go_in (wanted_all rfl) ?_
            intro K hk
            clear haft hK hLi
            go_simp
            exact hk.out gg x (fun _ _ => rfl) (hS.go rfl)
          · intro i hi; exact Or.inl (fun _ _ _ => rfl)
          refine' LinAll.cons _ ?_ ?_ ?_
          rotate_left 1
          · intro gg L a x hLi haft hS hK
            have t153 := hK.new 16 1 _ 153 _ rfl rfl rfl (by kernel_rfl) (waits haft 16 (by kernel_rfl))
            have t154 := hK.new 17 0 _ 154 _ rfl rfl rfl (by kernel_rfl) (waits haft 17 (by kernel_rfl))
            (try dsimp only at t153 t154)
            refine go_in (wanted_all rfl) ?_
            intro K hk
            clear haft hK hLi
            go_simp
            exact hk.out gg x (fun _ _ => rfl) (hS.go rfl)
          · intro i hi; exact Or.inl (fun _ _ _ => rfl)
          refine' LinAll.cons _ ?_ ?_ ?_
          rotate_left 1
          · intro gg L a x hLi haft hS hK
            have t155 := hK.new 18 0 _ 155 _ rfl rfl rfl (by kernel_rfl) (waits haft 18 (by kernel_rfl))
            (try dsimp only at t155)
            have hS1 := hS.low
            have cX := keep_cell hS1 e7b
            refine go_in (wanted_all rfl) ?_
            intro K hk
            clear haft hK hLi
            go_simp
            exact hk.out gg x (fun _ _ => rfl) (hS.go rfl)
          · intro i hi; exact Or.inl (fun _ _ _ => rfl)
          refine LinAll.cons (fun gg => .slice (some ⟨gg 20, 0, none⟩) 1 1) ?_ ?_ ?_
          · intro gg L a x hLi haft hS hK
            have t156 := hK.new 19 0 _ 156 _ rfl rfl rfl (by kernel_rfl) (waits haft 19 (by kernel_rfl))
            (try dsimp only at t156)
            refine go_in (wanted_all rfl) ?_
            intro K hk
            clear haft hK
            go_simp
            have hq := hk.out (updG gg 20 x.heap.size) _ (updG_al (by rfl)) (hS.b20 hLi)
            dsimp only at hq
            rw [updG_eq] at hq
            exact hq
          · intro i hi
            simp only [List.mem_cons, List.not_mem_nil, or_false] at hi
            rcases hi with rfl | rfl | rfl | rfl | rfl
            · exact Or.inl (fun g g' h => by simp only [h 20 (by decide)])
            · exact Or.inl (fun g g' h => by simp only [h 20 (by decide)])
            · exact Or.inr (by kernel_rfl)
            · exact Or.inl (fun g g' h => by simp only [h 20 (by decide)])
            · exact Or.inl (fun g g' h => by simp only [h 20 (by decide)])
          refine LinAll.cons (fun gg => .slice (some ⟨gg 21, 0, none⟩) 2 2) ?_ ?_ ?_
          · intro gg L a x hLi haft hS hK
            have t149 := hK.new 12 8 _ 149 _ rfl rfl rfl (by kernel_rfl) (waits haft 12 (by kernel_rfl))
            have t157 := hK.new 20 0 _ 157 _ rfl rfl rfl (by kernel_rfl) (waits haft 20 (by kernel_rfl))
            (try dsimp only at t149 t157)
            refine go_in (wanted_all rfl) ?_
            intro K hk
            have h12 := waits haft 12 (by kernel_rfl)
            have h20 := waits haft 20 (by kernel_rfl)
            clear haft hK
            go_simp
            have hq := hk.out (updG gg 21 x.heap.size) _ (updG_al (by rfl)) (hS.b21 hLi h12 h20)
            dsimp only at hq
            rw [updG_eq] at hq
            exact hq
          · intro i hi
            simp only [List.mem_cons, List.not_mem_nil, or_false] at hi
            rcases hi with rfl | rfl | rfl | rfl | rfl
            · exact Or.inl (fun g g' h => by simp only [h 21 (by decide)])
            · exact Or.inl (fun g g' h => by simp only [h 21 (by decide)])
            · exact Or.inl (fun g g' h => by simp only [h 21 (by decide)])
            · exact Or.inr (by kernel_rfl)
            · exact Or.inl (fun g g' h => by simp only [h 21 (by decide)])
          refine LinAll.cons (fun gg => dec (s.C.length + 2) (gg 22)) ?_ ?_ ?_
          · intro gg L a x hLi haft hS hK
            have t141 := hK.new 4 17 _ 141 _ rfl rfl rfl (by kernel_rfl) (waits haft 4 (by kernel_rfl))
            have t158 := hK.new 21 0 _ 158 _ rfl rfl rfl (by kernel_rfl) (waits haft 21 (by kernel_rfl))
            (try dsimp only at t141 t158)
            refine go_in (wanted_all rfl) ?_
            intro K hk
            have h21 := waits haft 21 (by kernel_rfl)
            have h4 := waits haft 4 (by kernel_rfl)
            obtain ⟨p, y, hap, hny⟩ := hS.app hLi h21 h4 (by rw [← HNC.out]; omega)
            refine wp_app_eq _ (.tmp 141) (.tmp 158) 30 rfl _ _ _ y (eval_tmp t141) (eval_tmp t158) hap ?_
            have hq := hk.out (updG gg 22 p) y (updG_al (by rfl)) hny
            dsimp only at hq
            rw [updG_eq] at hq
            exact hq
          · intro i hi
            simp only [List.mem_cons, List.not_mem_nil, or_false] at hi
            rcases hi with rfl | rfl | rfl | rfl | rfl
            · exact Or.inl (fun g g' h => by simp only [h 22 (by decide)])
            · exact Or.inl (fun g g' h => by simp only [h 22 (by decide)])
            · exact Or.inl (fun g g' h => by simp only [h 22 (by decide)])
            · exact Or.inl (fun g g' h => by simp only [h 22 (by decide)])
            · exact Or.inr (by kernel_rfl)
          refine' LinAll.cons _ ?_ ?_ ?_
          rotate_left 1
          · intro gg L a x hLi haft hS hK
            have t159 := hK.new 22 0 _ 159 _ rfl rfl rfl (by kernel_rfl) (waits haft 22 (by kernel_rfl))
            (try dsimp only at t159)
            refine go_in (wanted_all rfl) ?_
            intro K hk
            clear haft hK hLi
            go_simp
            exact hk.out gg x (fun _ _ => rfl) (hS.go rfl)
          · intro i hi
            simp only [List.mem_cons, List.not_mem_nil, or_false] at hi
            rcases hi with rfl | rfl | rfl | rfl | rfl
            · exact Or.inl (fun g g' h => by simp only [h 22 (by decide)])
            · exact Or.inl (fun g g' h => by simp only [h 22 (by decide)])
            · exact Or.inl (fun g g' h => by simp only [h 22 (by decide)])
            · exact Or.inl (fun g g' h => by simp only [h 22 (by decide)])
            · exact Or.inr (by kernel_rfl)
          refine LinAll.nil fun gg x hS => ?_
          subst ha0
          simp only [Act.put, List.setIfInBounds_toArray, List.set_cons_zero, List.set_cons_succ]
          clear o3 o7 o8
          obtain ⟨hbx, us3, hl3⟩ := hS.d rfl
          have HCN : Hid _ := can_any hl3 HOK2.out (by rw [List.length_append, ← HNC.out]; simp; omega) (by omega : M ≤ 14)
          rw [HYE.out] at HCN
          obtain ⟨da, dc, hde⟩ := dec_sl (s.C.length + 2) (gg 22)
          rw [hde] at HCN ⊢
          have HBX : Hid (Below w4.heap.size w4 x) := H4O.out.trans (hbx.mono ho4)
          clear hS hbx hl3 hde e2 e4 e7a e7b
          go_wp2_with fail
          refine Calls.mono HCN.out ?_
          rintro ev w7 ⟨rfl, hb7⟩
          have hb47 : Below w4.heap.size w4 w7 := HBX.out.trans (hb7.mono HBX.out.size)
          clear hb7 HCN
          cases y
          · go_wp2_with fail
            exact ⟨⟨q + 1, by omega, by go_num, hb47⟩, by simp [intOf]; omega⟩
          · go_wp2_with fail
            exact ⟨⟨q + 1, by omega, by go_num, hb47⟩, by simp [intOf]; omega⟩
end Go.Proofs.Ytajpnlmglkifcaa
