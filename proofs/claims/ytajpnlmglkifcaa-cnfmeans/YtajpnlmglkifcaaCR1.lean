/- The law CnfMeans, walked. -/
import Derived.Test.YtajpnlmglkifcaaCN22
namespace Go.Proofs.Ytajpnlmglkifcaa
open Go.RowKit
set_option linter.unusedSimpArgs false
set_option linter.unusedVariables false

set_option maxRecDepth 20000 in
set_option maxHeartbeats 3200000 in
theorem walk_means {l : List Tp} {s0 : Option Addr} {cap : Nat} (W : World) (hLa : La W s0 l) (hmx : l.length ≤ maxLen) :
    Calls Try.prog 3 #[.slice s0 l.length cap] W fun ev W' => ev = .returned (.bool true) ∧ Below W.heap.size W W' := by
  have HKN : Hid _ := known_any W
  have HLA : Hid _ := hLa
  obtain ⟨n, hn⟩ : ∃ n, n = l.length := ⟨_, rfl⟩
  have HN : Hid _ := hn
  rw [← hn] at hmx ⊢
  clear hLa hn
  go_enter Try.func3, Try.ntmps3
  go_wp2_with fail
  refine Calls.mono HKN.out ?_
  rintro ev w1 ⟨rfl, hb1⟩
  by_cases h40 : (40 : Int) < (n : Int)
  · go_wp2_with fail
    go_ret
    exact ⟨rfl, hb1⟩
  have HPL : Hid (Calls Try.prog 7 #[.slice s0 n cap, .int .i64 1] w1 fun ev w' => ∃ X s, ev = .returned (.pointer (some ⟨X, 0, none⟩)) ∧ PL w1 w' X 1 l s) := by
    unfold Hid
    rw [HN.out]
    exact play_any w1 (La.below HLA.out hb1) (by rw [← HN.out]; omega) (by decide) (by decide)
  go_wp2_with fail
  refine Calls.mono HPL.out ?_
  rintro ev w2 ⟨X, s, rfl, g, e, mv, mp, f, ⟨F, col, va, vl, vr, us, hx⟩, hP, hf, hLt, hpl, hb2⟩
  have hb02 : Below W.heap.size W w2 := hb1.trans (hb2.mono hb1.size)
  have hll : l.length ≤ 60 := by rw [← HN.out]; omega
  have h1f : (1 : Int) ≤ 1 := by decide
  have hlk := hx.gr.len
  have hvn := hP.len
  have HPZ : Hid _ := hP
  have c0 : w2.cell? ⟨X, 0, none⟩ = some (.pointer (some ⟨g, 0, none⟩)) := cell_of hx.hd 0 rfl
  have c1 : w2.cell? ⟨X, 1, none⟩ = some (.pointer (some ⟨e, 0, none⟩)) := cell_of hx.hd 1 rfl
  have c2 : w2.cell? ⟨X, 2, none⟩ = some va := cell_of hx.hd 2 rfl
  have c3 : w2.cell? ⟨X, 3, none⟩ = some vl := cell_of hx.hd 3 rfl
  have c4 : w2.cell? ⟨X, 4, none⟩ = some vr := cell_of hx.hd 4 rfl
  have c5 : w2.cell? ⟨X, 5, none⟩ = some (.bool true) := cell_of hx.hd 5 rfl
  have hXl := hx.lt
  have hrL : s.Rs.length = s.Lt.length := by rw [hP.rt, List.length_map]
  have HEN : Hid (∀ wx, Below w2.heap.size w2 wx → En wx e g s.vars mv mp s.V (polF s.T)) := fun wx hb => hx.en.below hb
  have HGR : Hid (∀ wx, Below w2.heap.size w2 wx → Gr wx F g 60 s.ks) := fun wx hb => hx.gr.below hb
  have HOK : Hid (∀ c ∈ s.C, okC c ∧ c.length ≤ 1000) := hP.ok h1f (by omega)
  have hcl : s.C.length ≤ 90000 := by have := hP.clen; omega
  have HLS : Hid (∀ wx, Below w2.heap.size w2 wx → ∃ B us, Ls wx B va us s.C) := fun wx hb => ⟨_, _, hx.al.below hb⟩
  obtain ⟨aa, ca, hva, -⟩ := hx.al.sl
  obtain ⟨al, cl, hvl, hla⟩ := hx.li.slice
  obtain ⟨ar, cr, hvr, hra⟩ := hx.ro.slice
  rw [nats_len] at hvl
  rw [hrL] at hvr
  obtain ⟨nC, hnC⟩ : ∃ y, y = s.C.length := ⟨_, rfl⟩
  obtain ⟨nL, hnL⟩ : ∃ y, y = s.Lt.length := ⟨_, rfl⟩
  have HNL : Hid _ := hnL
  have HNC : Hid _ := hnC
  have HLC : Hid (∀ wx : World, Below w2.heap.size w2 wx → ∀ (q yl : Nat), s.Lt[q]? = some yl → ∃ r3, al = some ⟨r3, 0, none⟩ ∧ wx.cell? ⟨r3, q, none⟩ = some (.int .i64 (yl : Int))) := fun wx hb q yl hy => by
    have hql : q < (nats s.Lt).length := by rw [nats_len]; exact (List.getElem?_eq_some_iff.1 hy).1
    obtain ⟨r3, e1, -, -, e2⟩ := hla.resolve_left (fun e => by rw [e] at hql; simp at hql)
    have e3 := e2 q hql
    rw [Nat.zero_add, nats_get hy] at e3
    exact ⟨r3, e1, keep_cell hb e3⟩
  have HRC4 : Hid (∀ wx : World, Below w2.heap.size w2 wx → ∀ (q yl : Nat), s.Lt[q]? = some yl → ∃ r4, ar = some ⟨r4, 0, none⟩ ∧ wx.cell? ⟨r4, q, none⟩ = some (.int .i64 (lit s.V yl))) := fun wx hb q yl hy => by
    have hql : q < s.Rs.length := by rw [hrL]; exact (List.getElem?_eq_some_iff.1 hy).1
    obtain ⟨r3, e1, -, -, e2⟩ := hra.resolve_left (fun e => by rw [e] at hql; simp at hql)
    have e3 := e2 q hql
    rw [Nat.zero_add, List.getD_eq_getElem?_getD, HPZ.out.rt, List.getElem?_map, hy] at e3
    exact ⟨r3, e1, keep_cell hb e3⟩
  rw [← hnC] at hva
  rw [← hnL] at hvl hvr
  subst hva hvl hvr
  have HAA : Hid (∀ (wx : World) (t : Nat), Below w2.heap.size w2 wx → t < 40000 → Calls Try.prog 12 #[.slice aa nC ca, .int .i64 (t : Int)] wx fun ev w' => ev = .returned (.bool (allF t s.C)) ∧ Below wx.heap.size wx w') := fun wx t hb ht => all_any (hx.al.below hb) HOK.out (by rw [← HNC.out]; omega) ht
  have HSM : Hid _ := small_any c2 hx.al HOK.out (by rw [← HNC.out]; omega)
  obtain ⟨vv, hvv⟩ : ∃ y, y = s.vars := ⟨_, rfl⟩
  have HVV : Hid _ := hvv
  have hvv0 : 0 ≤ vv ∧ vv ≤ 3000 := by omega
  have HV1 : Hid (vv ≤ 100000) := by unfold Hid; omega
  have HVR : Hid (∀ wx : World, Below w2.heap.size w2 wx → Calls Try.prog 9 #[.pointer (some ⟨e, 0, none⟩)] wx fun ev w' => ev = .returned (.int .i64 vv) ∧ w' = wx) := fun wx hb => by rw [HVV.out]; exact vars_any (HEN.out wx hb)
  have HVB : Hid (∀ n v, s.V n = some v → 1 ≤ v ∧ v ≤ 100000) := fun n v hv => by have := HPZ.out.rg n v hv; have := HVV.out; have := HV1.out; omega
  have HEV2 : Hid _ := insL_even (ks := s.ks) (by omega)
  obtain ⟨m, hm⟩ : ∃ m, m = (insL s.ks).length := ⟨_, rfl⟩
  have HMI : Hid _ := hm
  have hm5 : m ≤ 5 := by rw [hm]; exact playR_ins hpl (by decide)
  have HC0 : Hid _ := c0
  have HC1 : Hid _ := c1
  have HC2 : Hid _ := c2
  have HC3 : Hid _ := c3
  have HC4 : Hid _ := c4
  have HC5 : Hid _ := c5
  have hnL2 : nL ≤ 60 := by omega
  have hnC2 : nC ≤ 90000 := by omega
  have HKS : Hid (s.ks.length ≤ 61) := by unfold Hid; omega
  clear hlk hvn hP hrL hcl hla hra hnC hnL hvv hm hpl hLt hf hx c2 c3 c4
  clear h1f
  go_wp2_with fail
  refine Calls.mono HSM.out ?_
  rintro ev w3 ⟨N, ok, rfl, hN0, hN14, hok, hb3⟩
  have d1 := keep_cell hb3 c1
  have d5 := keep_cell hb3 c5
  have hb03 : Below W.heap.size W w3 := hb02.trans (hb3.mono hb02.size)
  have HB3 : Hid _ := hb3
  have HV3 : Hid _ := HVR.out w3 hb3
  clear HSM
  cases ok
  · clear hok
    go_wp2_with fail
    go_ret
    exact ⟨rfl, hb03⟩
  have hN13 : N ≤ 13 := hok rfl
  clear hok
  by_cases hv13 : 13 < vv
  · have hdv : decide (13 < vv) = true := decide_eq_true hv13
    go_wp2_with fail
    refine Calls.mono HV3.out ?_
    rintro ev wz ⟨rfl, hz⟩
    rw [hz]
    clear hz wz
    go_wp2_with fail
    go_ret
    exact ⟨rfl, hb03⟩
  obtain ⟨M, hM⟩ : ∃ M : Nat, max N vv = (M : Int) := ⟨(max N vv).toNat, by omega⟩
  have hM14 : M ≤ 13 := by omega
  have HMV : Hid (vv ≤ (M : Int)) := by unfold Hid; omega
  go_wp2_with fail
  refine Calls.mono HV3.out ?_
  rintro ev wz ⟨rfl, hz⟩
  rw [hz]
  clear hz wz
  go_wp2_with fail
  refine Calls.mono HV3.out ?_
  rintro ev wz ⟨rfl, hz⟩
  rw [hz]
  clear hz wz
  have d0 := keep_cell hb3 c0
  have HIN : Hid _ := inputs_any (HGR.out w3 hb3)
  go_wp2_with fail
  refine Calls.mono HIN.out ?_
  rintro ev w4 ⟨uin, rfl, hI4, hb4⟩
  have hb24 : Below w2.heap.size w2 w4 := HB3.out.trans (hb4.mono HB3.out.size)
  obtain ⟨ai, ci, rfl, -⟩ := hI4.slice
  have hsl : Value.slice ai (insL s.ks).length ci = .slice ai m ci := by rw [HMI.out]
  have HRI : Hid (Rl w4 w3.heap.size (.slice ai m ci) (insL s.ks)) := by
    unfold Hid
    rw [← hsl]
    exact hI4.rl (by rw [← HMI.out]; omega)
  rw [hsl]
  clear hsl
  have HB4 : Hid _ := hb24
  have h4l := hb24.size
  obtain ⟨P, eP⟩ : ∃ P : Nat, P = 2 ^ m := ⟨_, rfl⟩
  have hP1 : (2 : Int) ^ m = (P : Int) := by rw [eP]; simp
  have hP64 : P ≤ 32 := by
    rw [eP]
    exact Nat.le_trans (Nat.pow_le_pow_right (by decide) hm5) (by decide)
  obtain ⟨Q, eQ⟩ : ∃ Q : Nat, Q = 2 ^ M := ⟨_, rfl⟩
  have hQ1 : (2 : Int) ^ M = (Q : Int) := by rw [eQ]; simp
  have hQ64 : Q ≤ 8192 := by
    rw [eQ]
    exact Nat.le_trans (Nat.pow_le_pow_right (by decide) hM14) (by decide)
  have HQE : Hid _ := eQ
  have HPW : Hid _ := hP1
  have HQW : Hid _ := hQ1
  clear hP1 hQ1 hI4 hb4 HIN d0 d1 d5 HB3 HV3 eP eQ hN0 hN14 hN13 hv13 hM hb3 hb24
  go_wp2_with fail
  go_loopw [7] (fun i wr => ∃ k : Nat, k ≤ P ∧ i = .int .i64 (k : Int) ∧ Hid (Below w4.heap.size w4 wr)) (fun i wr => P - (intOf i).toNat)
  case atStart => exact ⟨0, Nat.zero_le _, rfl, Below.refl _ _⟩
  case round =>
    obtain ⟨k, hk, rfl, hH⟩ := hrel
    obtain ⟨wq, ewq⟩ : ∃ wq, wq = wr := ⟨_, rfl⟩
    rw [← ewq] at hH
    rw [← ewq]
    clear ewq
    have hq4 := hH.out.size
    by_cases hkP : k < P
    · have hkI : (k : Int) < (P : Int) := by omega
      have hmk : ∀ wx, (Instr.makeSlice 36 (.int .i64 (m : Int)) (.int .i64 (m : Int))).run Try.prog wx = .ok (.slice (some ⟨wx.heap.size, 0, none⟩) m m) (wx.alloc (.cells (madeCells #[.bool false] m) 4)) := fun wx => run_make_row' (P := Try.prog) 36 4 (.bool false) 1 underBools infoBool rfl .i64 .i64 m (by omega) (by omega) wx
      have HROW : Hid _ := World.rowIs_made wq (.bool false) m 4
      have hP1 := HPW.out
      go_wp2_with fail
      clear hmk hP1
      go_loopw [9] (fun i wr => ∃ j : Nat, j ≤ m ∧ i = .int .i64 (j : Int) ∧ (∃ fb : Nat → Bool, wr.rowIs wq.heap.size 4 m (fun t => .bool (fb t))) ∧ wq.heap.size + 1 ≤ wr.heap.size ∧ Below wq.heap.size wq wr) (fun i wr => m - (intOf i).toNat)
      case atStart => exact ⟨0, Nat.zero_le _, rfl, ⟨fun _ => false, HROW.out⟩, by simp, by go_grown⟩
      case round =>
        clear HROW
        obtain ⟨j, hj, rfl, ⟨fb, hrow⟩, hws, hbl⟩ := hrel
        have hjm64 : (j : Int) < 64 := by omega
        by_cases hjm : j < m
        · have hjI : (j : Int) < (m : Int) := by omega
          have c3 : wr.cell? ⟨wq.heap.size, j, none⟩ = some (.bool (fb j)) := hrow.cell hjm
          have f3 := hrow.frozen j
          have HR2 : Hid (∀ x : Bool, (wr.setCell ⟨wq.heap.size, j, none⟩ (.bool x)).rowIs wq.heap.size 4 m (fun t => .bool (if t = j then x else fb t))) := fun x => (hrow.set j (.bool x)).congr (fun t _ => by split <;> rfl)
          clear hrow
          go_wp2_with fail
          refine ⟨⟨j + 1, by omega, by go_num, ⟨_, HR2.out _⟩, by rw [World.size_setCell]; omega, ?_⟩, by simp [intOf]; omega⟩
          go_grown
        · obtain rfl : j = m := by omega
          have hjI : ¬ (j : Int) < (j : Int) := by omega
          have HBZ : Hid (Bz wr (.slice (some ⟨wq.heap.size, 0, none⟩) j j) ((List.range j).map fb)) := row_bz hrow
          obtain ⟨IL, hIL⟩ : ∃ y, y = (List.range j).map fb := ⟨_, rfl⟩
          have HIL : Hid (IL.length = j) := by unfold Hid; rw [hIL]; simp
          rw [← hIL] at HBZ
          have h2q : Below w2.heap.size w2 wr := HB4.out.trans ((hH.out.trans (hbl.mono hq4)).mono h4l)
          have H2Q : Hid _ := h2q
          have hq5 := hbl.size
          obtain ⟨wv, ewv⟩ : ∃ wv, wv = wr := ⟨_, rfl⟩
          have h4v : Below w4.heap.size w4 wr := hH.out.trans (hbl.mono hq4)
          have HRV : Hid (Rl wr w3.heap.size (.slice ai j ci) (insL s.ks)) := Rl.below HRI.out h4v
          have H4V : Hid _ := h4v
          rw [← ewv] at HBZ H2Q HRV H4V hq5
          rw [← ewv]
          obtain ⟨σ, hσ, hC⟩ := HPZ.out.compl (by decide) IL (by rw [← HVV.out]; exact HMV.out) (by omega : M ≤ 14)
          rw [← HQE.out] at hσ
          have HC : Hid _ := hC
          have HFI : Hid (∀ (wx : World) (t : Nat), Below wv.heap.size wv wx → t < 40000 → Calls Try.prog 11 #[.pointer (some ⟨X, 0, none⟩), .slice ai j ci, .slice (some ⟨wq.heap.size, 0, none⟩) j j, .int .i64 (t : Int)] wx fun ev w' => ev = .returned (.bool (fitB s.V (insL s.ks) IL t)) ∧ Below wx.heap.size wx w') := fun wx t hb ht => by
            have hb2 := H2Q.out.trans (hb.mono H2Q.out.size)
            exact fits_any (HEN.out wx hb2) (keep_cell hb2 HC1.out) (Rl.below HRV.out hb) HEV2.out HVB.out (Bz.below HBZ.out hb) (by rw [HIL.out]; exact HMI.out) ht
          have HAL : Hid (∀ (wx : World) (t : Nat), Below wv.heap.size wv wx → t < 40000 → Calls Try.prog 12 #[.slice aa nC ca, .int .i64 (t : Int)] wx fun ev w' => ev = .returned (.bool (allF t s.C)) ∧ Below wx.heap.size wx w') := fun wx t hb ht => HAA.out wx t (H2Q.out.trans (hb.mono H2Q.out.size)) ht
          have HEL : Hid (∀ (wx : World) (y : Nat), Below wv.heap.size wv wx → y ∈ s.Lt → Calls Try.prog 13 #[.pointer (some ⟨g, 0, none⟩), .int .i64 (y : Int), .slice (some ⟨wq.heap.size, 0, none⟩) j j] wx fun ev w' => ev = .returned (.tuple #[.bool (evV s.ks IL y), .int .i64 0]) ∧ Below wx.heap.size wx w') := fun wx y hb hy => eval_yes (HGR.out wx (H2Q.out.trans (hb.mono H2Q.out.size))) (litB_iff.2 (by have := HPZ.out.root_lt hy; omega)) (Bz.below HBZ.out hb) (by rw [HIL.out]; exact HMI.out)
          have HF1 : Hid (∀ t, fitB s.V (insL s.ks) IL t = true → Sat s IL t) := fun t h => fit_sat (fitB_iff.1 h)
          have HF2 : Hid (fitB s.V (insL s.ks) IL σ = true) := fitB_iff.2 (cmp_fit hC)
          have HA2 : Hid (allF σ s.C = true) := HPZ.out.compl_all (by decide) hC
          have HRS : Hid (∀ t y, Sat s IL t → allF t s.C = true → y ∈ s.Lt → ltT t (lit s.V y) = true → evV s.ks IL y = true) := fun t y h1 h2 h3 h4 => HPZ.out.root_sound (by decide) h1 h2 h3 h4
          have HRC : Hid (∀ y, y ∈ s.Lt → ltT σ (lit s.V y) = evV s.ks IL y) := fun y hy => HPZ.out.root_compl (by decide) hC hy
          have hvq : wq.heap.size < wv.heap.size := by rw [ewv]; omega
          clear hrow hbl hws hIL h2q h4v ewv HC hC
          go_wp2_with fail
          go_loopw [10, 11] (fun sm i wr => ∃ (t : Nat) (y : Bool), t ≤ Q ∧ i = .int .i64 (t : Int) ∧ sm = .bool y ∧ Hid ((σ < t → y = true) ∧ Below wv.heap.size wv wr)) (fun sm i wr => Q - (intOf i).toNat)
          case atStart => exact ⟨0, false, Nat.zero_le _, rfl, rfl, fun h => by omega, Below.refl _ _⟩
          case round =>
            obtain ⟨t, y, ht, rfl, rfl, hJ⟩ := hrel
            have hsv := hJ.out.2.size
            by_cases htQ : t < Q
            · have htI : (t : Int) < (Q : Int) := by omega
              have HFT : Hid _ := HFI.out wr t hJ.out.2 (by omega)
              obtain ⟨y1, hy1⟩ : ∃ y1, y1 = fitB s.V (insL s.ks) IL t := ⟨_, rfl⟩
              rw [← hy1] at HFT
              have HY1 : Hid _ := hy1
              clear hy1
              have hQ1 := HQW.out
              go_wp2_with fail
              clear hQ1
              refine Calls.mono HFT.out ?_
              rintro ev w5 ⟨rfl, hb5⟩
              have hbv5 : Below wv.heap.size wv w5 := hJ.out.2.trans (hb5.mono hsv)
              have e2 : w5.cell? ⟨X, 2, none⟩ = some (.slice aa nC ca) := keep_cell (H2Q.out.trans (hbv5.mono H2Q.out.size)) HC2.out
              clear HFT hb5
              cases y1
              · have HNX : Hid (σ < t + 1 → y = true) := fun h => by
                  by_cases hst : σ < t
                  · exact hJ.out.1 hst
                  · obtain rfl : σ = t := by omega
                    have := HF2.out
                    rw [← HY1.out] at this
                    cases this
                go_wp2_with fail
                exact ⟨⟨t + 1, y, by omega, by go_num, rfl, HNX.out, hbv5⟩, by simp [intOf]; omega⟩
              have HAT : Hid _ := HAL.out w5 t hbv5 (by omega)
              obtain ⟨y2, hy2⟩ : ∃ y2, y2 = allF t s.C := ⟨_, rfl⟩
              rw [← hy2] at HAT
              have HY2 : Hid _ := hy2
              clear hy2
              go_wp2_with fail
              refine Calls.mono HAT.out ?_
              rintro ev w6 ⟨rfl, hb6⟩
              have hbv6 : Below wv.heap.size wv w6 := hbv5.trans (hb6.mono hbv5.size)
              clear HAT hb6 e2
              cases y2
              · have HNX : Hid (σ < t + 1 → y = true) := fun h => by
                  by_cases hst : σ < t
                  · exact hJ.out.1 hst
                  · obtain rfl : σ = t := by omega
                    have := HA2.out
                    rw [← HY2.out] at this
                    cases this
                go_wp2_with fail
                exact ⟨⟨t + 1, y, by omega, by go_num, rfl, HNX.out, hbv6⟩, by simp [intOf]; omega⟩
              have hs6 := hbv6.size
              have HB6 : Hid _ := hbv6
              clear hbv5 hbv6
              go_wp2_with fail
              go_loopw [12, 13] (fun ex i wr => ∃ (q : Nat) (z : Bool), q ≤ nL ∧ i = .int .i64 (q : Int) ∧ ex = .bool z ∧ Hid ((σ = t → z = true) ∧ Below wv.heap.size wv wr)) (fun ex i wr => nL - (intOf i).toNat)
              case atStart => exact ⟨0, true, Nat.zero_le _, rfl, rfl, fun _ => rfl, HB6.out⟩
              case round =>
                obtain ⟨q, z, hq, rfl, rfl, hI⟩ := hrel
                have hb2r : Below w2.heap.size w2 wr := H2Q.out.trans (hI.out.2.mono H2Q.out.size)
                have e3 : wr.cell? ⟨X, 3, none⟩ = some (.slice al nL cl) := keep_cell hb2r HC3.out
                by_cases hqL : q < nL
                · have hqI : (q : Int) < (nL : Int) := by omega
                  obtain ⟨yl, hyl⟩ : ∃ yl, s.Lt[q]? = some yl := ⟨_, List.getElem?_eq_getElem (by rw [← HNL.out]; exact hqL)⟩
                  obtain ⟨r3, rfl, e6⟩ := HLC.out wr hb2r q yl hyl
                  obtain ⟨r4, hr4, e7⟩ := HRC4.out wr hb2r q yl hyl
                  have e0 : wr.cell? ⟨X, 0, none⟩ = some (.pointer (some ⟨g, 0, none⟩)) := keep_cell hb2r HC0.out
                  have e4 : wr.cell? ⟨X, 4, none⟩ = some (.slice ar nL cr) := keep_cell hb2r HC4.out
                  rw [hr4] at e4
                  have hym := List.mem_of_getElem? hyl
                  have HEVQ : Hid (∀ wx, Below wr.heap.size wr wx → _) := fun wx hb => HEL.out wx yl (hI.out.2.trans (hb.mono hI.out.2.size)) hym
                  have HTR : Hid (∀ (wx : World) (b : Nat), wx.cell? ⟨b, 0, none⟩ = some (.int .i64 (lit s.V yl)) → Calls Try.prog 14 #[.slice (some ⟨b, 0, none⟩) 1 1, .int .i64 (t : Int)] wx fun ev w' => ev = .returned (.bool (trF t [lit s.V yl])) ∧ Below wx.heap.size wx w') := fun wx b hc => true_any (rl_one (Nat.zero_le _) hc) (HPZ.out.root_ok (by decide) (by rw [← HVV.out]; exact HV1.out) hym) (by omega)
                  obtain ⟨vb, hvb⟩ : ∃ vb, vb = evV s.ks IL yl := ⟨_, rfl⟩
                  obtain ⟨rb, hrb⟩ : ∃ rb, rb = trF t [lit s.V yl] := ⟨_, rfl⟩
                  have hrb2 : rb = ltT t (lit s.V yl) := by rw [hrb]; unfold trF; simp
                  have HIM : Hid (rb = true → vb = true) := fun h => by
                    rw [hvb]
                    exact HRS.out t yl (HF1.out t HY1.out.symm) HY2.out.symm hym (by rw [← hrb2]; exact h)
                  have HEQ : Hid (σ = t → rb = vb) := fun h => by
                    rw [hrb2, hvb, ← h]
                    exact HRC.out yl hym
                  rw [← hvb] at HEVQ
                  rw [← hrb] at HTR
                  obtain ⟨rt, hrt⟩ : ∃ rt, rt = lit s.V yl := ⟨_, rfl⟩
                  rw [← hrt] at e7 HTR
                  obtain ⟨wu, ewu⟩ : ∃ wu, wu = wr := ⟨_, rfl⟩
                  rw [← ewu] at e0 e3 e4 e6 e7 HEVQ hI
                  rw [← ewu]
                  have hXu : X < wu.heap.size := World.block_lt_of_cell? _ _ e0
                  have hr4u : r4 < wu.heap.size := World.block_lt_of_cell? _ _ e7
                  have hsu := hI.out.2.size
                  clear hyl hym hvb hrb hrb2 hrt hb2r ewu
                  go_wp2_with fail
                  refine wp_named fun a0 ha0 => ?_
                  have o3 := old_at ha0 (t := 3) rfl
                  have o8 := old_at ha0 (t := 8) rfl
                  have o13 := old_at ha0 (t := 13) rfl
                  refine wp_region_lin (S := fun _ _ x => Below wu.heap.size wu x) [] (fun _ => 0) (by kernel_rfl) (by kernel_rfl) (by rw [← ha0]; kernel_rfl) (drew_low _ _) ?_
                  refine' LinAll.cons _ ?_ ?_ ?_
                  rotate_left 1
                  · intro gg L a x hLi haft hS hK
                    have t3 := (hK.old 3 (by kernel_rfl)).trans o3
                    (try dsimp only at t3)
                    refine go_in (wanted_all rfl) ?_
                    intro K hk
                    clear haft hK hLi
                    go_simp
                    exact hk.out gg x (fun _ _ => rfl) (hS)
                  · intro i hi; exact Or.inl (fun _ _ _ => rfl)
                  refine' LinAll.cons _ ?_ ?_ ?_
                  rotate_left 1
                  · intro gg L a x hLi haft hS hK
                    have t110 := hK.new 0 0 _ 110 _ rfl rfl rfl (by kernel_rfl) (waits haft 0 (by kernel_rfl))
                    (try dsimp only at t110)
                    refine go_in (wanted_all rfl) ?_
                    intro K hk
                    clear haft hK hLi
                    go_simp
                    exact hk.out gg x (fun _ _ => rfl) (hS)
                  · intro i hi; exact Or.inl (fun _ _ _ => rfl)
                  refine' LinAll.cons _ ?_ ?_ ?_
                  rotate_left 1
                  · intro gg L a x hLi haft hS hK
                    have t111 := hK.new 1 0 _ 111 _ rfl rfl rfl (by kernel_rfl) (waits haft 1 (by kernel_rfl))
                    (try dsimp only at t111)
                    refine go_in (wanted_all rfl) ?_
                    intro K hk
                    clear haft hK hLi
                    go_simp
                    exact hk.out gg x (fun _ _ => rfl) (hS)
                  · intro i hi; exact Or.inl (fun _ _ _ => rfl)
                  refine' LinAll.cons _ ?_ ?_ ?_
                  rotate_left 1
                  · intro gg L a x hLi haft hS hK
                    have t112 := hK.new 2 0 _ 112 _ rfl rfl rfl (by kernel_rfl) (waits haft 2 (by kernel_rfl))
                    (try dsimp only at t112)
                    have hS1 : Below wu.heap.size wu x := hS
                    have cX := keep_cell hS1 e0
                    refine go_in (wanted_all rfl) ?_
                    intro K hk
                    clear haft hK hLi
                    go_simp
                    exact hk.out gg x (fun _ _ => rfl) (hS)
                  · intro i hi; exact Or.inl (fun _ _ _ => rfl)
                  refine' LinAll.cons _ ?_ ?_ ?_
                  rotate_left 1
                  · intro gg L a x hLi haft hS hK
                    have t3 := (hK.old 3 (by kernel_rfl)).trans o3
                    (try dsimp only at t3)
                    refine go_in (wanted_all rfl) ?_
                    intro K hk
                    clear haft hK hLi
                    go_simp
                    exact hk.out gg x (fun _ _ => rfl) (hS)
                  · intro i hi; exact Or.inl (fun _ _ _ => rfl)
                  refine' LinAll.cons _ ?_ ?_ ?_
                  rotate_left 1
                  · intro gg L a x hLi haft hS hK
                    have t114 := hK.new 4 0 _ 114 _ rfl rfl rfl (by kernel_rfl) (waits haft 4 (by kernel_rfl))
                    (try dsimp only at t114)
                    refine go_in (wanted_all rfl) ?_
                    intro K hk
                    clear haft hK hLi
                    go_simp
                    exact hk.out gg x (fun _ _ => rfl) (hS)
                  · intro i hi; exact Or.inl (fun _ _ _ => rfl)
                  refine' LinAll.cons _ ?_ ?_ ?_
                  rotate_left 1
                  · intro gg L a x hLi haft hS hK
                    have t115 := hK.new 5 0 _ 115 _ rfl rfl rfl (by kernel_rfl) (waits haft 5 (by kernel_rfl))
                    (try dsimp only at t115)
                    refine go_in (wanted_all rfl) ?_
                    intro K hk
                    clear haft hK hLi
                    go_simp
                    exact hk.out gg x (fun _ _ => rfl) (hS)
                  · intro i hi; exact Or.inl (fun _ _ _ => rfl)
                  refine' LinAll.cons _ ?_ ?_ ?_
                  rotate_left 1
                  · intro gg L a x hLi haft hS hK
                    have t116 := hK.new 6 0 _ 116 _ rfl rfl rfl (by kernel_rfl) (waits haft 6 (by kernel_rfl))
                    (try dsimp only at t116)
                    have hS1 : Below wu.heap.size wu x := hS
                    have cX := keep_cell hS1 e3
                    refine go_in (wanted_all rfl) ?_
                    intro K hk
                    clear haft hK hLi
                    go_simp
                    exact hk.out gg x (fun _ _ => rfl) (hS)
                  · intro i hi; exact Or.inl (fun _ _ _ => rfl)
                  refine' LinAll.cons _ ?_ ?_ ?_
                  rotate_left 1
                  · intro gg L a x hLi haft hS hK
                    have t13 := (hK.old 13 (by kernel_rfl)).trans o13
                    (try dsimp only at t13)
                    refine go_in (wanted_all rfl) ?_
                    intro K hk
                    clear haft hK hLi
                    go_simp
                    exact hk.out gg x (fun _ _ => rfl) (hS)
                  · intro i hi; exact Or.inl (fun _ _ _ => rfl)
                  refine' LinAll.cons _ ?_ ?_ ?_
                  rotate_left 1
                  · intro gg L a x hLi haft hS hK
                    have t117 := hK.new 7 1 _ 117 _ rfl rfl rfl (by kernel_rfl) (waits haft 7 (by kernel_rfl))
                    have t118 := hK.new 8 0 _ 118 _ rfl rfl rfl (by kernel_rfl) (waits haft 8 (by kernel_rfl))
                    (try dsimp only at t117 t118)
                    refine go_in (wanted_all rfl) ?_
                    intro K hk
                    clear haft hK hLi
                    go_simp
                    exact hk.out gg x (fun _ _ => rfl) (hS)
                  · intro i hi; exact Or.inl (fun _ _ _ => rfl)
                  refine' LinAll.cons _ ?_ ?_ ?_
                  rotate_left 1
                  · intro gg L a x hLi haft hS hK
                    have t119 := hK.new 9 0 _ 119 _ rfl rfl rfl (by kernel_rfl) (waits haft 9 (by kernel_rfl))
                    (try dsimp only at t119)
                    have hS1 : Below wu.heap.size wu x := hS
                    have cX := keep_cell hS1 e6
                    refine go_in (wanted_all rfl) ?_
                    intro K hk
                    clear haft hK hLi
                    go_simp
                    exact hk.out gg x (fun _ _ => rfl) (hS)
                  · intro i hi; exact Or.inl (fun _ _ _ => rfl)
                  refine' LinAll.cons _ ?_ ?_ ?_
                  rotate_left 1
                  · intro gg L a x hLi haft hS hK
                    have t8 := (hK.old 8 (by kernel_rfl)).trans o8
                    (try dsimp only at t8)
                    refine go_in (wanted_all rfl) ?_
                    intro K hk
                    clear haft hK hLi
                    go_simp
                    exact hk.out gg x (fun _ _ => rfl) (hS)
                  · intro i hi; exact Or.inl (fun _ _ _ => rfl)
                  refine' LinAll.cons _ ?_ ?_ ?_
                  rotate_left 1
                  · intro gg L a x hLi haft hS hK
                    have t113 := hK.new 3 8 _ 113 _ rfl rfl rfl (by kernel_rfl) (waits haft 3 (by kernel_rfl))
                    have t120 := hK.new 10 1 _ 120 _ rfl rfl rfl (by kernel_rfl) (waits haft 10 (by kernel_rfl))
                    have t121 := hK.new 11 0 _ 121 _ rfl rfl rfl (by kernel_rfl) (waits haft 11 (by kernel_rfl))
                    (try dsimp only at t113 t120 t121)
                    have hS1 : Below wu.heap.size wu x := hS
                    refine go_in (wanted_all rfl) ?_
                    intro K hk
                    have HVX : Hid _ := HEVQ.out x hS1
                    clear haft hK hLi
                    go_simp
                    refine Calls.mono HVX.out ?_
                    rintro ev y ⟨rfl, hby⟩
                    exact hk.out gg y (fun _ _ => rfl) (hS1.trans (hby.mono hS1.size))
                  · intro i hi; exact Or.inl (fun _ _ _ => rfl)
                  refine' LinAll.cons _ ?_ ?_ ?_
                  rotate_left 1
                  · intro gg L a x hLi haft hS hK
                    have t122 := hK.new 12 0 _ 122 _ rfl rfl rfl (by kernel_rfl) (waits haft 12 (by kernel_rfl))
                    (try dsimp only at t122)
                    refine go_in (wanted_all rfl) ?_
                    intro K hk
                    clear haft hK hLi
                    go_simp
                    exact hk.out gg x (fun _ _ => rfl) (hS)
                  · intro i hi; exact Or.inl (fun _ _ _ => rfl)
                  refine' LinAll.cons _ ?_ ?_ ?_
                  rotate_left 1
                  · intro gg L a x hLi haft hS hK
                    have t109 := hK.new 13 0 _ 109 _ rfl rfl rfl (by kernel_rfl) (waits haft 13 (by kernel_rfl))
                    (try dsimp only at t109)
                    refine go_in (wanted_all rfl) ?_
                    intro K hk
                    clear haft hK hLi
                    go_simp
                    exact hk.out gg x (fun _ _ => rfl) (hS)
                  · intro i hi; exact Or.inl (fun _ _ _ => rfl)
                  refine' LinAll.cons _ ?_ ?_ ?_
                  rotate_left 1
                  · intro gg L a x hLi haft hS hK
                    have t109 := hK.new 13 1 _ 109 _ rfl rfl rfl (by kernel_rfl) (waits haft 13 (by kernel_rfl))
                    (try dsimp only at t109)
                    refine go_in (wanted_all rfl) ?_
                    intro K hk
                    clear haft hK hLi
                    go_simp
                    exact hk.out gg x (fun _ _ => rfl) (hS)
                  · intro i hi; exact Or.inl (fun _ _ _ => rfl)
                  refine' LinAll.cons _ ?_ ?_ ?_
                  rotate_left 1
                  · intro gg L a x hLi haft hS hK
                    have t123 := hK.new 14 1 _ 123 _ rfl rfl rfl (by kernel_rfl) (waits haft 14 (by kernel_rfl))
                    (try dsimp only at t123)
                    refine go_in (wanted_all rfl) ?_
                    intro K hk
                    clear haft hK hLi
                    go_simp
                    exact hk.out gg x (fun _ _ => rfl) (hS)
                  · intro i hi; exact Or.inl (fun _ _ _ => rfl)
                  refine' LinAll.cons _ ?_ ?_ ?_
                  rotate_left 1
                  · intro gg L a x hLi haft hS hK
                    have t124 := hK.new 15 1 _ 124 _ rfl rfl rfl (by kernel_rfl) (waits haft 15 (by kernel_rfl))
                    (try dsimp only at t124)
                    refine go_in (wanted_all rfl) ?_
                    intro K hk
                    clear haft hK hLi
                    go_simp
                    exact hk.out gg x (fun _ _ => rfl) (hS)
                  · intro i hi; exact Or.inl (fun _ _ _ => rfl)
                  refine LinAll.nil fun gg x hS => ?_
                  subst ha0
                  simp only [Act.put, List.setIfInBounds_toArray, List.set_cons_zero, List.set_cons_succ]
                  clear o3 o8 o13
                  have hS2 : Below wu.heap.size wu x := hS
                  have HS : Hid _ := hS2
                  have i4 := keep_cell hS2 e4
                  have i7 := keep_cell hS2 e7
                  have hbx : Below wv.heap.size wv x := hI.out.2.trans (hS2.mono hsu)
                  have hXx : X < x.heap.size := by have := hS2.size; omega
                  have hrx : r4 < x.heap.size := by have := hS2.size; omega
                  clear hS hS2 e0 e3 e4 e6 e7
                  go_wp2_with fail
                  refine Calls.mono (HTR.out _ _ (by simp [go_sem])) ?_
                  rintro ev w7 ⟨rfl, hb7⟩
                  have hbv7 : Below wv.heap.size wv w7 := hbx.trans (Below.trans (b := x.alloc (.cells #[.int .i64 rt] 3)) (Below.mono (by go_grown : Below x.heap.size x _) hbx.size) (hb7.mono (by simp; have := hbx.size; omega)))
                  clear hb7 HTR HEVQ i4 i7
                  cases rb
                  · cases vb
                    · have HZ : Hid (σ = t → z = true) := hI.out.1
                      cases z
                      · go_wp2_with fail
                        exact ⟨⟨q + 1, false, by omega, by go_num, rfl, HZ.out, hbv7⟩, by simp [intOf]; omega⟩
                      · go_wp2_with fail
                        exact ⟨⟨q + 1, true, by omega, by go_num, rfl, fun _ => rfl, hbv7⟩, by simp [intOf]; omega⟩
                    · have HZ : Hid (σ = t → False) := fun h => by have := HEQ.out h; cases this
                      cases z
                      · go_wp2_with fail
                        exact ⟨⟨q + 1, false, by omega, by go_num, rfl, fun h => (HZ.out h).elim, hbv7⟩, by simp [intOf]; omega⟩
                      · go_wp2_with fail
                        exact ⟨⟨q + 1, false, by omega, by go_num, rfl, fun h => (HZ.out h).elim, hbv7⟩, by simp [intOf]; omega⟩
                  · obtain rfl : vb = true := HIM.out rfl
                    have HZ : Hid (σ = t → z = true) := hI.out.1
                    cases z
                    · go_wp2_with fail
                      exact ⟨⟨q + 1, false, by omega, by go_num, rfl, HZ.out, hbv7⟩, by simp [intOf]; omega⟩
                    · go_wp2_with fail
                      exact ⟨⟨q + 1, true, by omega, by go_num, rfl, fun _ => rfl, hbv7⟩, by simp [intOf]; omega⟩
                · obtain rfl : q = nL := by omega
                  have hqI : ¬ (q : Int) < (q : Int) := by omega
                  have hbw := hI.out.2
                  have HNX : Hid (σ < t + 1 → (y || z) = true) := fun h => by
                    by_cases hst : σ < t
                    · rw [hJ.out.1 hst]; rfl
                    · rw [hI.out.1 (by omega), Bool.or_true]
                  cases y
                  · go_wp2_with fail
                    exact ⟨⟨t + 1, z, by omega, by go_num, rfl, HNX.out, hbw⟩, by simp [intOf]; omega⟩
                  · go_wp2_with fail
                    exact ⟨⟨t + 1, true, by omega, by go_num, rfl, fun _ => rfl, hbw⟩, by simp [intOf]; omega⟩
            · obtain rfl : t = Q := by omega
              have htI : ¬ (t : Int) < (t : Int) := by omega
              obtain rfl : y = true := hJ.out.1 hσ
              have hbw : Below w4.heap.size w4 wr := H4V.out.trans (hJ.out.2.mono H4V.out.size)
              have hQ1 := HQW.out
              go_wp2_with fail
              clear hQ1
              exact ⟨⟨k + 1, by omega, by go_num, hbw⟩, by simp [intOf]; omega⟩
    · obtain rfl : k = P := by omega
      have hkI : ¬ (k : Int) < (k : Int) := by omega
      have h2q : Below w2.heap.size w2 wq := HB4.out.trans (hH.out.mono h4l)
      have d5 : wq.cell? ⟨X, 5, none⟩ = some (.bool true) := keep_cell h2q HC5.out
      have hbw : Below W.heap.size W wq := hb02.trans (h2q.mono hb02.size)
      have hP1 := HPW.out
      go_wp2_with fail
      go_ret
      exact ⟨rfl, hbw⟩
end Go.Proofs.Ytajpnlmglkifcaa
