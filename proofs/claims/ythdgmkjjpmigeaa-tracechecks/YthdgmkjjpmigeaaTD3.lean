/- Contracts (the document's clauses): Derive. -/
import Derived.Test.YthdgmkjjpmigeaaTP6
namespace Go.Proofs.Ythdgmkjjpmigeaa
open Go.RowKit
set_option linter.unusedSimpArgs false
set_option linter.unusedVariables false

theorem Ga.at' {e : TypeId} {w : World} {B n c : Nat} {a : Option Addr} {C : List (List Int)} (h : Ga e w B (.slice a n c) C) {k : Nat} {x : List Int} (hx : C[k]? = some x) : ∃ r o u, a = some ⟨r, o, none⟩ ∧ w.cell? ⟨r, o + k, none⟩ = some u ∧ Sf w (own (.slice a n c)) u x := by
  obtain ⟨r, o, u, rfl, h1, h2⟩ := h.lr.at' hx
  obtain ⟨us, hus, hul, hue⟩ := h.ex
  have hk : k < us.length := by rw [hul]; exact (List.getElem?_eq_some_iff.1 hx).1
  obtain ⟨u', hu'⟩ : ∃ u', us[k]? = some u' := ⟨_, List.getElem?_eq_getElem hk⟩
  have h3 := hue k u' x hu' hx
  refine ⟨r, o, u, rfl, h1, ?_⟩
  rcases hus.2 with ⟨e1, -⟩ | ⟨g, cap, cur, e1, hb, hg, hc, _, hs, ht⟩
  · cases e1
  · injection e1 with e1 e2 e3
    injection e1 with e1
    injection e1 with e4 e5
    subst e4 e5
    have h4 : cur.toList[k]? = some u' := by
      rw [← ht, List.getElem?_take_of_lt (by omega)] at hu'
      exact hu'
    have h5 : w.cell? ⟨r, 0 + k, none⟩ = some u' := by
      rw [Nat.zero_add]
      exact cell_of hg k (by simpa using h4)
    rw [h5] at h1
    injection h1 with h1
    rw [← h1]; exact h3
theorem okZ_any {c : List Int} : c.any noL = !c.all okZ := by
  induction c with
  | nil => rfl
  | cons x c ih => rw [List.any_cons, List.all_cons, ih]; unfold noL; cases okZ x <;> simp
theorem clF_given {G D : List (List Int)} {p : Nat} {c : List Int} (h : G[p]? = some c) : clF G D (p : Int) = if c.all okZ then some c else none := by
  have hp : p < G.length := (List.getElem?_eq_some_iff.1 h).1
  unfold clF
  rw [if_neg (by omega), if_neg (by omega), Int.toNat_natCast, h]
  show (if c.any noL = true then none else some c) = _
  rw [okZ_any]
  cases c.all okZ <;> rfl
theorem clF_made {G D : List (List Int)} {p q : Nat} {d : List Int} (hq : p = G.length + q) (h : D[q]? = some d) : clF G D (p : Int) = some d := by
  have hp : q < D.length := (List.getElem?_eq_some_iff.1 h).1
  unfold clF
  rw [if_neg (by omega), if_pos (by omega), show ((p : Int) - (G.length : Int)).toNat = q by omega, h]
theorem clF_far {G D : List (List Int)} {x : Int} (h : x < 0 ∨ (G.length : Int) + (D.length : Int) ≤ x) : clF G D x = none := by unfold clF; rw [if_pos h]
def ofZ (Z : Option (List (List Int))) : List (List Int) × Int := match Z with
  | some D => (D, 0)
  | none => ([], 121)
set_option maxRecDepth 20000 in
set_option maxHeartbeats 25600000 in
theorem rderive_any {w : World} {vg vl : Value} {G L : List (List Int)} (hG : Lr w vg G) (hL : Lr w vl L) (gG : G.length + (G.map List.length).sum ≤ 2000) (gL : L.length ≤ 2000) (gLl : ∀ x ∈ L, x.length ≤ 2000 ∧ ∀ y ∈ x, w64 y) :
    Calls Try.prog 22 #[vg, vl] w fun ev w' => ∃ v', ev = .returned (.tuple #[v', .int .i64 (derF G L).2]) ∧ Lr w' v' (derF G L).1 ∧ Below w.heap.size w w' := by
  obtain ⟨ti, ht0, hz0, hz1, hz2⟩ := info_any infoList
  have HI : Hid _ := (⟨ht0, hz0, hz1, hz2⟩ : Try.prog.info? 51 = some ti ∧ ti.zero = _ ∧ ti.size = 1 ∧ ti.bytes = 24)
  clear ht0 hz0 hz1 hz2
  obtain ⟨X, hX⟩ : ∃ X, X = derF G L := ⟨_, rfl⟩
  rw [← hX]
  obtain ⟨Z, hZ⟩ : ∃ Z, Z = derL G [] L := ⟨_, rfl⟩
  have HX : Hid (X = ofZ Z) := by unfold Hid; rw [hX, hZ]; rfl
  have HZ0 : Hid (Z = derL G [] L) := hZ
  have HG : Hid _ := hG
  have HL : Hid _ := hL
  have HGB : Hid (G.length + (G.map List.length).sum ≤ 2000 ∧ ∀ x ∈ L, x.length ≤ 2000 ∧ ∀ y ∈ x, w64 y) := ⟨gG, gLl⟩
  have HUL : Hid (∀ d, Dc G.flatten d → d.length ≤ 2000) := fun d hd => by
    have h1 := hd.len
    rw [List.length_flatten] at h1
    omega
  obtain ⟨ag, cg, rfl⟩ := hG.out
  obtain ⟨al, cl, rfl⟩ := hL.out
  obtain ⟨g, hg⟩ : ∃ n, n = G.length := ⟨_, rfl⟩
  obtain ⟨n, hn⟩ : ∃ n, n = L.length := ⟨_, rfl⟩
  rw [← hg] at HG ⊢
  rw [← hn] at HL gL ⊢
  have HNG : Hid (g = G.length ∧ n = L.length) := ⟨hg, hn⟩
  have hgb : g ≤ 2000 := by omega
  clear hG hL gG gLl hX hZ hg hn
  go_enter Try.func22, Try.ntmps22
  go_wp2_with fail
  go_loopw [6, 7] (fun q i wr => ∃ (k : Nat) (D : List (List Int)), k ≤ n ∧ i = .int .i64 (k : Int) ∧ Hid (Z = derL G D (L.drop k) ∧ Ga 51 wr w.heap.size q D ∧ Below w.heap.size w wr ∧ D.length = k ∧ ∀ d ∈ D, Dc G.flatten d)) (fun q i wr => n - (intOf i).toNat)
  case atStart => exact ⟨0, [], Nat.zero_le _, rfl, by rw [List.drop_zero]; exact HZ0.out, Ga.nil _ _ _, Below.refl _ _, rfl, fun d hd => by simp at hd⟩
  case round =>
    obtain ⟨k, D, hk, rfl, hH⟩ := hrel
    obtain ⟨q, hqq⟩ : ∃ q, q = u6 := ⟨_, rfl⟩
    rw [← hqq] at hH ⊢
    clear hqq
    have hz0 := hH.out.2.2.1.size
    by_cases hlt : k < n
    rotate_left
    · obtain rfl : k = n := by omega
      have hltI : ¬ (k : Int) < (k : Int) := by omega
      have HE : Hid (X = (D, 0) ∧ Lr wr q D ∧ Below w.heap.size w wr) := by
        refine ⟨?_, hH.out.2.1.lr, hH.out.2.2.1⟩
        have h1 := hH.out.1
        rw [HNG.out.2, List.drop_length, derL] at h1
        rw [HX.out, h1]; rfl
      clear hH
      go_wp2_with fail
      go_ret2
      rw [HE.out.1]
      exact ⟨_, rfl, HE.out.2.1, HE.out.2.2⟩
    have hltI : (k : Int) < (n : Int) := by omega
    obtain ⟨F, hF⟩ : ∃ F, L[k]? = some F := ⟨_, List.getElem?_eq_getElem (by rw [← HNG.out.2]; exact hlt)⟩
    obtain ⟨r, o, u, rfl, hcu, hSu⟩ := (HL.out.below hH.out.2.2.1).at' hF
    have hro : r < wr.heap.size := World.block_lt_of_cell? _ _ hcu
    have HFB : Hid (F.length ≤ 2000 ∧ ∀ y ∈ F, w64 y) := HGB.out.2 F (List.mem_of_getElem? hF)
    have HDR : Hid (Z = (resF G D F).bind fun r => derL G (D ++ [r]) (L.drop (k + 1))) := by
      unfold Hid
      have h1 : L.drop k = F :: L.drop (k + 1) := by
        rw [List.drop_eq_getElem_cons (by rw [← HNG.out.2]; exact hlt)]
        rw [List.getElem?_eq_getElem (by rw [← HNG.out.2]; exact hlt)] at hF
        injection hF with hF
        rw [hF]
      rw [hH.out.1, h1, derL]
      cases resF G D F <;> rfl
    obtain ⟨au, nu, cu, hue, hnu⟩ := hSu.sl
    subst hue
    have HSU : Hid (Sr wr (.slice au nu cu) F) := hSu
    have HNU : Hid (nu = F.length) := hnu
    have hnub : nu ≤ 2000 := by rw [HNU.out]; exact HFB.out.1
    obtain ⟨R, hR⟩ : ∃ R, R = resF G D F := ⟨_, rfl⟩
    rw [← hR] at HDR
    have HR : Hid (R = resF G D F) := hR
    have HDD : Hid (D.length = k ∧ ∀ d ∈ D, Dc G.flatten d) := hH.out.2.2.2
    have HQ : Hid (Ga 51 wr w.heap.size q D) := hH.out.2.1
    have HBW : Hid (Below w.heap.size w wr) := hH.out.2.2.1
    have HBAD : Hid (R = none → X = ([], 121)) := fun e => by rw [HX.out, HDR.out, e]; rfl
    obtain ⟨aq, cq, hq⟩ := hH.out.2.1.sl
    have HQ0 : Hid (q = .slice aq k cq) := by unfold Hid; rw [← HDD.out.1]; exact hq
    obtain ⟨w2, hw2⟩ : ∃ w2, w2 = wr := ⟨_, rfl⟩
    subst hw2
    clear hSu hF hnu hR hH hq
    by_cases hnu0 : nu = 0
    · have HXX : Hid (X = ([], 121)) := HBAD.out (by
        rw [HR.out]; unfold resF; rw [if_pos]
        exact List.eq_nil_of_length_eq_zero (by rw [← HNU.out]; exact hnu0))
      subst hnu0
      go_wp2_with fail
      go_ret2
      rw [HXX.out]
      exact ⟨_, rfl, Lr.nil _, HBW.out⟩
    have hnuI : ((nu : Int) == 0) = false := by simp; omega
    have hnuP : (0 : Int) < (nu : Int) := by omega
    have HRG : Hid (R = goF G D [] true F) := by
      unfold Hid; rw [HR.out]; unfold resF; rw [if_neg]
      intro e; exact hnu0 (by rw [HNU.out, e]; rfl)
    have hq0 : q = .slice aq k cq := HQ0.out
    subst hq0
    go_wp2_with fail
    go_loopw [8, 9] (fun s i wr => ∃ (j : Nat) (cur : List Int), j ≤ nu ∧ i = .int .i64 (j : Int) ∧ Hid (R = goF G D cur (decide (j = 0)) (F.drop j) ∧ Sf wr (own (.slice aq k cq)) s cur ∧ Below w2.heap.size w2 wr ∧ Dc G.flatten cur ∧ (j = 0 → cur = []))) (fun s i wr => nu - (intOf i).toNat)
    case atStart => exact ⟨0, [], Nat.zero_le _, rfl, by rw [List.drop_zero]; exact HRG.out, ⟨none, 0, rfl, Or.inl rfl⟩, Below.refl _ _, ⟨fun x hx => by simp at hx, fun x hx => by simp at hx, List.Pairwise.nil⟩, fun _ => rfl⟩
    case round =>
      obtain ⟨j, cur, hj, rfl, hJ⟩ := hrel
      obtain ⟨s, hss⟩ : ∃ s, s = u8 := ⟨_, rfl⟩
      rw [← hss] at hJ ⊢
      clear hss
      have hz1 := hJ.out.2.2.1.size
      have hcu1 : wr.cell? ⟨r, o + k, none⟩ = some (.slice au nu cu) := keep_cell hJ.out.2.2.1 hcu
      have hro1 : r < wr.heap.size := World.block_lt_of_cell? _ _ hcu1
      by_cases hlt2 : j < nu
      rotate_left
      · obtain rfl : j = nu := by omega
        have hltJ : ¬ (j : Int) < (j : Int) := by omega
        have HRR : Hid (R = some cur) := by
          unfold Hid
          have h1 := hJ.out.1
          rw [HNU.out, List.drop_length, goF] at h1
          exact h1
        have HB3 : Hid (Below w.heap.size w wr) := below_step HBW.out hJ.out.2.2.1
        have HQ3 : Hid (Ga 51 wr w.heap.size (.slice aq k cq) D) := HQ.out.below hJ.out.2.2.1
        have HU3 : Hid (Sf wr (own (.slice aq k cq)) s cur) := hJ.out.2.1
        have HCD : Hid (Dc G.flatten cur) := hJ.out.2.2.2.1
        have HZN : Hid (Z = derL G (D ++ [cur]) (L.drop (k + 1))) := by unfold Hid; rw [HDR.out, HRR.out]; rfl
        obtain ⟨a3, n3, k3, hv3, -⟩ := HU3.out.sr.sl
        subst hv3
        obtain ⟨us, hus, husl, hu3⟩ := HQ3.out.ex
        have HUX : Hid (∀ (i : Nat) u c, us[i]? = some u → D[i]? = some c → Sf wr (own (.slice aq k cq)) u c) := hu3
        have HUS : Hid (wr.ownsRow w.heap.size 51 1 (.slice aq k cq) k us ∧ us.length = k) := by
          have e1 : us.length = k := by rw [husl, HDD.out.1]
          exact ⟨by rw [← e1]; exact e1 ▸ hus, e1⟩
        have hz3 := HB3.out.size
        clear hus husl hu3 hJ
        go_wp2_with (at_builtin; refine wpList_append_own_at _ rfl _ _ 22 rfl w.heap.size 51 ti (.slice none 0 0) 1 24 underLists HI.out.1 HI.out.2.1 HI.out.2.2.1 HI.out.2.2.2 rfl (by decide) (.slice aq k cq) k us rfl (row_kept HUS.out.1 (fun _ hq => heap_alloc_old _ _ hq)) ⟨wr.heap.size, 0, none⟩ 1 1 [.slice a3 n3 k3] rfl rfl (cell_one_new _ _ _) (by intro y hy; rw [List.mem_singleton.1 hy]; rfl) (by unfold maxLen; omega) (by omega) (by rw [size_alloc']; omega) ?_; intro v4 w4 hown hgrow hnil hat)
        have hG4 : Ga 51 w4 w.heap.size v4 (D ++ [cur]) := Ga.app (by rw [HUS.out.2, HDD.out.1]) HUX.out HU3.out hgrow (by rw [HUS.out.2]; exact hown) hat
        have hb4 : Below w.heap.size w w4 := low_grown HB3.out (by omega) hgrow (fun q e => (HUS.out.1.lt q e).1)
        refine ⟨⟨k + 1, D ++ [cur], by omega, by go_num, HZN.out, hG4, hb4, by rw [List.length_append, HDD.out.1]; rfl, fun d hd => ?_⟩, by simp [intOf]; omega⟩
        rcases List.mem_append.1 hd with e | e
        · exact HDD.out.2 d e
        · rw [List.mem_singleton.1 e]; exact HCD.out
      have hltJ : (j : Int) < (nu : Int) := by omega
      obtain ⟨x, hx⟩ : ∃ x, F[j]? = some x := ⟨_, List.getElem?_eq_getElem (by rw [← HNU.out]; exact hlt2)⟩
      obtain ⟨r', o', rfl, hcx⟩ := HSU.out.at' hJ.out.2.2.1 (k := j) (by rw [← HNU.out]; exact hlt2)
      rw [getD_at hx] at hcx
      have hro2 : r' < wr.heap.size := World.block_lt_of_cell? _ _ hcx
      obtain ⟨hx1, hx2⟩ := HFB.out.2 x (List.mem_of_getElem? hx)
      have HGO : Hid (R = goF G D cur (decide (j = 0)) (x :: F.drop (j + 1))) := by
        unfold Hid; rw [hJ.out.1, drop_cons hx]
      have HS : Hid (Sf wr (own (.slice aq k cq)) s cur) := hJ.out.2.1
      have HBJ : Hid (Below w2.heap.size w2 wr) := hJ.out.2.2.1
      have HCD : Hid (Dc G.flatten cur) := hJ.out.2.2.2.1
      have HC0 : Hid (j = 0 → cur = []) := hJ.out.2.2.2.2
      have HB3 : Hid (Below w.heap.size w wr) := below_step HBW.out hJ.out.2.2.1
      obtain ⟨sa, sn, sk, hse, -⟩ := HS.out.sr.sl
      subst hse
      clear hJ hx hlt2
      by_cases hxn : x < 0
      · have HXX : Hid (X = ([], 121)) := HBAD.out (by rw [HGO.out]; exact goF_none (clF_far (Or.inl hxn)))
        have hxd : decide (x < 0) = true := decide_eq_true hxn
        go_wp2_with fail
        go_ret2
        rw [HXX.out]
        exact ⟨_, rfl, Lr.nil _, HB3.out⟩
      obtain ⟨p, rfl⟩ : ∃ p : Nat, x = (p : Int) := ⟨x.toNat, by omega⟩
      have hxd : decide ((p : Int) < 0) = false := decide_eq_false hxn
      by_cases hxf : (g : Int) + (k : Int) ≤ (p : Int)
      · have HXX : Hid (X = ([], 121)) := HBAD.out (by rw [HGO.out]; exact goF_none (clF_far (Or.inr (by rw [← HNG.out.1, HDD.out.1]; exact hxf))))
        go_wp2_with fail
        go_ret2
        rw [HXX.out]
        exact ⟨_, rfl, Lr.nil _, HB3.out⟩
      by_cases hpg : p < g
      · have hpI : (p : Int) < (g : Int) := by omega
        obtain ⟨c, hc⟩ : ∃ c, G[p]? = some c := ⟨_, List.getElem?_eq_getElem (by rw [← HNG.out.1]; exact hpg)⟩
        obtain ⟨rc, oc, uc, rfl, hcc, hSc⟩ := (HG.out.below HB3.out).at' hc
        have hroc : rc < wr.heap.size := World.block_lt_of_cell? _ _ hcc
        have hcm := List.mem_of_getElem? hc
        have HST : Hid _ := set12_any hSc (by have := len_sum hcm; have := HGB.out.1; omega)
        have HCG : Hid _ := clF_given (D := D) hc
        have HCS : Hid (∀ x ∈ c, x ∈ G.flatten) := fun x hx => List.mem_flatten.2 ⟨c, hcm, hx⟩
        obtain ⟨ac, nc, kc, hce, -⟩ := hSc.sl
        subst hce
        obtain ⟨bb, hbb⟩ : ∃ b, b = c.all okZ := ⟨_, rfl⟩
        rw [← hbb] at HST HCG
        have HBBb : Hid (bb = c.all okZ) := hbb
        clear hc hSc hcm hbb
        cases bb with
        | false =>
          have HXX : Hid (X = ([], 121)) := HBAD.out (by rw [HGO.out]; exact goF_none HCG.out)
          go_wp2_with fail
          refine Calls.mono HST.out ?_
          rintro ev w4 ⟨u4, rfl, hI4, hb4⟩
          have HB4 : Hid (Below w.heap.size w w4) := below_step HB3.out hb4
          obtain ⟨a4, n4, k4, hu4, -⟩ := own_sl hI4
          subst hu4
          clear hI4 hb4
          go_wp2_with fail
          go_ret2
          rw [HXX.out]
          exact ⟨_, rfl, Lr.nil _, HB4.out⟩
        | true =>
          go_wp2_with fail
          refine Calls.mono HST.out ?_
          rintro ev w4 ⟨u4, rfl, hI4, hb4⟩
          obtain ⟨DX, hDX⟩ : ∃ X, X = setF c := ⟨_, rfl⟩
          have hI5 : Is' w4 wr.heap.size u4 DX := by rw [hDX]; exact hI4
          have HBX : Hid (Below w2.heap.size w2 w4) := below_step HBJ.out hb4
          have HDX : Hid (Sf w4 (own (.slice aq k cq)) u4 DX) := hI5.sf fun b hb => ((HQ.out.below HBJ.out).low b hb).2
          have HSX : Hid (Sf w4 (own (.slice aq k cq)) (.slice sa sn sk) cur) := HS.out.below hb4
          have HCL : Hid (clF G D (p : Int) = some c ∧ (∀ l ∈ c, okZ l = true) ∧ setF c = DX) := ⟨HCG.out, List.all_eq_true.1 HBBb.out.symm, hDX.symm⟩
          have HDC : Hid (Dc G.flatten DX) := by unfold Hid; rw [hDX]; exact set_dc HCL.out.2.1 HCS.out
          obtain ⟨a4, n4, k4, hu4, -⟩ := own_sl hI5
          subst hu4
          clear hI4 hI5 hb4 hDX
          by_cases hj0 : j = 0
          · have hjb : ((j : Int) == 0) = true := by simp [hj0]
            have HN1 : Hid (R = goF G D DX (decide (j + 1 = 0)) (F.drop (j + 1))) := by
              unfold Hid
              rw [HGO.out, HC0.out hj0, decide_eq_true hj0, goF_first HCL.out.1 HCL.out.2.1, HCL.out.2.2, decide_eq_false (by omega)]
            go_wp2_with fail
            exact ⟨⟨j + 1, DX, by omega, by go_num, HN1.out, HDX.out, HBX.out, HDC.out, fun e => by omega⟩, by simp [intOf]; omega⟩
          · have hjb : ((j : Int) == 0) = false := by simp [hj0]
            have HRS : Hid _ := resolve_any (HSX.out.sr) HDX.out.sr HCD.out.ok HDC.out.ok (by have := HUL.out _ HCD.out; omega) (by have := HUL.out _ HDC.out; omega)
            have HN1 : Hid (R = (resD cur DX).bind fun r => goF G D r false (F.drop (j + 1))) := by
              unfold Hid
              rw [HGO.out, decide_eq_false hj0, goF_next HCL.out.1 HCL.out.2.1 HCD.out.up, HCL.out.2.2]
              cases resD cur DX <;> rfl
            have HRD : Hid (∀ r, resD cur DX = some r → Dc G.flatten r) := fun r hr => resD_dc HCD.out HDC.out hr
            obtain ⟨Y, hY⟩ : ∃ Y, Y = resD cur DX := ⟨_, rfl⟩
            rw [← hY] at HRS HN1 HRD
            have hqlow : Hid (∀ b, own (.slice aq k cq) b → b < w4.heap.size) := fun b hb => ((HQ.out.below HBX.out).low b hb).2
            clear hY
            cases Y with
            | none =>
              have HXX : Hid (X = ([], 121)) := HBAD.out HN1.out
              go_wp2_with fail
              refine Calls.mono HRS.out ?_
              rintro ev w5 ⟨u5, rfl, hsl, -, hb5⟩
              obtain ⟨a5, n5, k5, hu5⟩ := hsl.ex
              subst hu5
              have HB5 : Hid (Below w.heap.size w w5) := below_step (below_step HBW.out HBX.out) hb5
              clear hb5 hsl
              go_wp2_with fail
              go_ret2
              rw [HXX.out]
              exact ⟨_, rfl, Lr.nil _, HB5.out⟩
            | some rr =>
              have HN2 : Hid (R = goF G D rr (decide (j + 1 = 0)) (F.drop (j + 1))) := by
                unfold Hid; rw [HN1.out, decide_eq_false (by omega)]; rfl
              go_wp2_with fail
              refine Calls.mono HRS.out ?_
              rintro ev w5 ⟨u5, rfl, hsl, hI5, hb5⟩
              obtain ⟨a5, n5, k5, hu5⟩ := hsl.ex
              subst hu5
              have HB5 : Hid (Below w2.heap.size w2 w5) := below_step HBX.out hb5
              have HS5 : Hid (Sf w5 (own (.slice aq k cq)) (.slice a5 n5 k5) rr) := (hI5 rr rfl).sf hqlow.out
              clear hb5 hsl hI5
              go_wp2_with fail
              exact ⟨⟨j + 1, rr, by omega, by go_num, HN2.out, HS5.out, HB5.out, HRD.out rr rfl, fun e => by omega⟩, by simp [intOf]; omega⟩
      · have hpI : ¬ (p : Int) < (g : Int) := by omega
        obtain ⟨y, hy⟩ : ∃ y, p = g + y := ⟨p - g, by omega⟩
        have hyI : (p : Int) - (g : Int) = (y : Int) := by omega
        have hyk : (y : Int) < (k : Int) := by omega
        have hykN : y < k := by omega
        obtain ⟨DX, hDX⟩ : ∃ d, D[y]? = some d := ⟨_, List.getElem?_eq_getElem (by rw [HDD.out.1]; exact hykN)⟩
        obtain ⟨ro, oo, uo, hao, hco, hSo⟩ := (HQ.out.below HBJ.out).at' hDX
        subst hao
        have hroo : ro < wr.heap.size := World.block_lt_of_cell? _ _ hco
        have HBX : Hid (Below w2.heap.size w2 wr) := HBJ.out
        have HSX : Hid _ := HS.out
        have HDX : Hid _ := hSo
        have HDC : Hid (Dc G.flatten DX) := HDD.out.2 DX (List.mem_of_getElem? hDX)
        have HCL : Hid (clF G D (p : Int) = some DX ∧ (∀ l ∈ DX, okZ l = true) ∧ setF DX = DX) := ⟨clF_made (by rw [← HNG.out.1]; exact hy) hDX, HDC.out.ok, setF_id HDC.out.up⟩
        obtain ⟨a4, n4, k4, hu4, -⟩ := hSo.sr.sl
        subst hu4
        clear hDX hSo hy
        by_cases hj0 : j = 0
        · have HN1 : Hid (R = goF G D DX (decide (0 + 1 = 0)) (F.drop (0 + 1))) := by
            unfold Hid
            have h1 := HGO.out
            rw [HC0.out hj0, decide_eq_true hj0, goF_first HCL.out.1 HCL.out.2.1, HCL.out.2.2, hj0] at h1
            exact h1
          subst hj0
          rw [Nat.add_zero] at hcx
          go_wp2_with fail
          exact ⟨⟨0 + 1, DX, by omega, by go_num, HN1.out, HDX.out, HBX.out, HDC.out, fun e => by omega⟩, by simp [intOf]; omega⟩
        · have hjb : ((j : Int) == 0) = false := by simp [hj0]
          have HRS : Hid _ := resolve_any (HSX.out.sr) HDX.out.sr HCD.out.ok HDC.out.ok (by have := HUL.out _ HCD.out; omega) (by have := HUL.out _ HDC.out; omega)
          have HN1 : Hid (R = (resD cur DX).bind fun r => goF G D r false (F.drop (j + 1))) := by
            unfold Hid
            rw [HGO.out, decide_eq_false hj0, goF_next HCL.out.1 HCL.out.2.1 HCD.out.up, HCL.out.2.2]
            cases resD cur DX <;> rfl
          have HRD : Hid (∀ r, resD cur DX = some r → Dc G.flatten r) := fun r hr => resD_dc HCD.out HDC.out hr
          obtain ⟨Y, hY⟩ : ∃ Y, Y = resD cur DX := ⟨_, rfl⟩
          rw [← hY] at HRS HN1 HRD
          have hqlow : Hid (∀ b, own (.slice (some ⟨ro, oo, none⟩) k cq) b → b < wr.heap.size) := fun b hb => ((HQ.out.below HBX.out).low b hb).2
          clear hY
          cases Y with
          | none =>
            have HXX : Hid (X = ([], 121)) := HBAD.out HN1.out
            go_wp2_with fail
            refine Calls.mono HRS.out ?_
            rintro ev w5 ⟨u5, rfl, hsl, -, hb5⟩
            obtain ⟨a5, n5, k5, hu5⟩ := hsl.ex
            subst hu5
            have HB5 : Hid (Below w.heap.size w w5) := below_step (below_step HBW.out HBX.out) hb5
            clear hb5 hsl
            go_wp2_with fail
            go_ret2
            rw [HXX.out]
            exact ⟨_, rfl, Lr.nil _, HB5.out⟩
          | some rr =>
            have HN2 : Hid (R = goF G D rr (decide (j + 1 = 0)) (F.drop (j + 1))) := by
              unfold Hid; rw [HN1.out, decide_eq_false (by omega)]; rfl
            go_wp2_with fail
            refine Calls.mono HRS.out ?_
            rintro ev w5 ⟨u5, rfl, hsl, hI5, hb5⟩
            obtain ⟨a5, n5, k5, hu5⟩ := hsl.ex
            subst hu5
            have HB5 : Hid (Below w2.heap.size w2 w5) := below_step HBX.out hb5
            have HS5 : Hid (Sf w5 (own (.slice (some ⟨ro, oo, none⟩) k cq)) (.slice a5 n5 k5) rr) := (hI5 rr rfl).sf hqlow.out
            clear hb5 hsl hI5
            go_wp2_with fail
            exact ⟨⟨j + 1, rr, by omega, by go_num, HN2.out, HS5.out, HB5.out, HRD.out rr rfl, fun e => by omega⟩, by simp [intOf]; omega⟩
end Go.Proofs.Ythdgmkjjpmigeaa
