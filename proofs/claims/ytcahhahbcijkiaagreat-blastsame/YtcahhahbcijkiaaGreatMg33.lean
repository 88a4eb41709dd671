import Derived.Test.YtcahhahbcijkiaaGreatMg32
import Derived.Lib.MinMax
namespace Go.Proofs.YtcahhahbcijkiaaGreat.Ag
set_option maxHeartbeats 12800000
set_option maxRecDepth 100000
open Go.RowKit
set_option linter.unusedSimpArgs false
set_option linter.unusedVariables false
def prodS (mo : Nat) (s : Gz) (O R : List Int) (p m : Int) (k : Nat) : List Int × Gz :=
 let m1 := wmaskedF mo s p R
 let s1 := sumF mo m1.2 (O.drop k) m1.1
 let m2 := wmaskedF mo s1.2 m R
 let d := diffF mo m2.2 s1.1 m2.1
 (O.take k ++ d.1, d.2)
def prodK (mo : Nat) (s : Gz) (X Y P M : List Int) : Nat → List Int × Gz
 | 0 => (List.replicate X.length 0, s)
 | k + 1 => prodS mo (prodK mo s X Y P M k).2 (prodK mo s X Y P M k).1 (Y.take (Y.length - k)) (P.getD k 0) (M.getD k 0) k
def prodF (mo : Nat) (s : Gz) (A B : List Int) : List Int × Gz :=
 prodK mo s (ordF A B).1 (ordF A B).2 (dgF (ordF A B).1).1 (dgF (ordF A B).1).2 (ordF A B).1.length
section
variable {w : World} {F : Nat → Prop} {gs g mo : Nat} {s : Gz} {ua ub : Value} {A B : List Int}
theorem getD_ok {P : List Int} {k : Nat} (hp : 0 < s.ks.length) (h : Oks s P) : OkG s (P.getD k 0) := by
 by_cases hk : k < P.length
 ·exact h _ (getD_mem hk)
 ·rw [List.getD_eq_getElem?_getD, List.getElem?_eq_none (by omega)]
  exact OkG.zero hp
theorem prodS_ok {O R : List Int} {p m : Int} {k n : Nat} (hp : 0 < s.ks.length) (hO : O.length = n) (hR : R.length = n - k) (hk : k < n) (oO : Oks s O) (oR : Oks s R) (op : OkG s p) (om : OkG s m) : WOk s (prodS mo s O R p m k) n := by
 have h1 := wmasked_wok (mo := mo) hp op oR
 have hp1 : 0 < (wmaskedF mo s p R).2.ks.length := by have := h1.pre.length_le; omega
 have h2 := sum_wok (mo := mo) (s := (wmaskedF mo s p R).2) (A := O.drop k) (B := (wmaskedF mo s p R).1) hp1
 have hp2 : 0 < (sumF mo (wmaskedF mo s p R).2 (O.drop k) (wmaskedF mo s p R).1).2.ks.length := by have := h2.pre.length_le; omega
 have h12 := h1.pre.trans h2.pre
 have h3 := wmasked_wok (mo := mo) hp2 (om.grow h12) (oR.grow h12)
 have hp3 := h3.pre.length_le
 have h4 := diff_wok (mo := mo) (s := (wmaskedF mo (sumF mo (wmaskedF mo s p R).2 (O.drop k) (wmaskedF mo s p R).1).2 m R).2) (A := (sumF mo (wmaskedF mo s p R).2 (O.drop k) (wmaskedF mo s p R).1).1) (B := (wmaskedF mo (sumF mo (wmaskedF mo s p R).2 (O.drop k) (wmaskedF mo s p R).1).2 m R).1) (by omega)
 have hall := (h12.trans h3.pre).trans h4.pre
 refine ⟨hall, ?_, Oks.app ((oO.take).grow hall) h4.ok⟩
 show (O.take k ++ _).length = n
 rw [List.length_append, List.length_take, h4.len, h2.len, List.length_drop]
 omega
theorem prodK_ok {X Y P M : List Int} (hp : 0 < s.ks.length) (hl : Y.length = X.length) (oX : Oks s Y) (oP : Oks s P) (oM : Oks s M) : ∀ k, k ≤ X.length → WOk s (prodK mo s X Y P M k) X.length
 | 0, _ => ⟨Pg.refl _, List.length_replicate, Oks.rep (OkG.zero hp) _⟩
 | k + 1, h => by
  have ih := prodK_ok hp hl oX oP oM k (by omega)
  have hq : 0 < (prodK mo s X Y P M k).2.ks.length := by have := ih.pre.length_le; omega
  have := prodS_ok (mo := mo) (R := Y.take (Y.length - k)) (p := P.getD k 0) (m := M.getD k 0) (k := k) hq ih.len (by rw [List.length_take]; omega) (by omega) ih.ok ((oX.take).grow ih.pre) ((getD_ok hp oP).grow ih.pre) ((getD_ok hp oM).grow ih.pre)
  exact ⟨ih.pre.trans this.pre, this.len, this.ok⟩
theorem ordF_len (hl : A.length = B.length) : (ordF A B).1.length = A.length ∧ (ordF A B).2.length = A.length := by
 unfold ordF
 split
 ·exact ⟨hl.symm, rfl⟩
 ·exact ⟨rfl, hl.symm⟩
theorem ordF_ok (oA : Oks s A) (oB : Oks s B) : Oks s (ordF A B).1 ∧ Oks s (ordF A B).2 := by
 unfold ordF
 split
 ·exact ⟨oB, oA⟩
 ·exact ⟨oA, oB⟩
theorem sdK_01 {L : List Int} : ∀ k, (∀ x ∈ (sdK L k).1, x = 0 ∨ x = 1) ∧ (∀ x ∈ (sdK L k).2.1, x = 0 ∨ x = 1)
 | 0 => ⟨fun x hx => Or.inl (List.eq_of_mem_replicate hx), fun x hx => Or.inl (List.eq_of_mem_replicate hx)⟩
 | k + 1 => by
  obtain ⟨h1, h2⟩ := sdK_01 (L := L) k
  have hs : ∀ P : List Int, (∀ x ∈ P, x = 0 ∨ x = 1) → ∀ x ∈ P.set k 1, x = 0 ∨ x = 1 := fun P hP x hx => by
   rcases List.mem_or_eq_of_mem_set hx with q | q
   ·exact hP x q
   ·exact Or.inr q
  unfold sdK
  split
  ·exact ⟨h1, h2⟩
  ·split
   ·exact ⟨h1, hs _ h2⟩
   ·exact ⟨hs _ h1, h2⟩
theorem oks_01 {P : List Int} (hp : 0 < s.ks.length) (h : ∀ x ∈ P, x = 0 ∨ x = 1) : Oks s P := fun x hx => by
 rcases h x hx with e | e
 ·rw [e]; exact OkG.zero hp
 ·rw [e]; exact OkG.one hp
theorem dgF_ok (hp : 0 < s.ks.length) (oA : Oks s A) : Oks s (dgF A).1 ∧ Oks s (dgF A).2 := by
 unfold dgF
 split
 ·exact ⟨oks_01 hp (sdK_01 _).1, oks_01 hp (sdK_01 _).2⟩
 ·exact ⟨oA, Oks.rep (OkG.zero hp) _⟩
theorem prod_wok (hp : 0 < s.ks.length) (hl : A.length = B.length) (oA : Oks s A) (oB : Oks s B) : WOk s (prodF mo s A B) A.length := by
 obtain ⟨l1, l2⟩ := ordF_len hl
 obtain ⟨o1, o2⟩ := ordF_ok oA oB
 obtain ⟨p1, p2⟩ := dgF_ok hp o1
 have := prodK_ok (mo := mo) (X := (ordF A B).1) (Y := (ordF A B).2) hp (by omega) o2 p1 p2 (ordF A B).1.length (Nat.le_refl _)
 rw [l1] at this
 unfold prodF
 rw [l1]
 exact this
theorem product_any (h : Gn w F gs g mo s) (hA : Wd w (FG F gs) ua A) (hB : Wd w (FG F gs) ub B) (hl : A.length = B.length) (oA : Oks s A) (oB : Oks s B) (hl2 : A.length ≤ 20000) :
  Calls Tryz.prog 110 #[.pointer (some ⟨gs, 0, none⟩), ua, ub] w (WG w F gs g mo (prodF mo s A B)) := by
 have HI : Hid _ := inOrder_any hA hB hl
 have H : Hid _ := h
 have hpos := h.pos
 obtain ⟨l1, l2⟩ := ordF_len hl
 have HO : Hid _ := ordF_ok oA oB
 obtain ⟨-, -, -, -, h5⟩ := hA.sl
 have HQ0 : Hid (prodF mo s A B = prodK mo s (ordF A B).1 (ordF A B).2 (dgF (ordF A B).1).1 (dgF (ordF A B).1).2 A.length) := by unfold Hid prodF; rw [l1]
 obtain ⟨R, hR⟩ : ∃ R, R = ordF A B := ⟨_, rfl⟩
 rw [← hR] at HI l1 l2 HO HQ0
 obtain ⟨q, hq⟩ : ∃ q, q = prodF mo s A B := ⟨_, rfl⟩
 rw [← hq] at HQ0 ⊢
 obtain ⟨n, hn⟩ : ∃ n, n = A.length := ⟨_, rfl⟩
 rw [← hn] at l1 l2 h5 HQ0 hl2
 obtain ⟨a1, c1, rfl, -, -⟩ := hA.sl
 obtain ⟨a2, c2, rfl, -, -⟩ := hB.sl
 obtain ⟨X, Y⟩ := R
 dsimp only at HI l1 l2 HO HQ0
 have HOX := HO.out.1
 have HOY : Hid _ := HO.out.2
 have HPO : Hid _ := dgF_ok hpos HOX
 obtain ⟨d1, d2⟩ := dgF_len (L := X)
 rw [l1] at d1 d2
 clear h hA hB hl oA oB hR hq hn HO
 go_enter Tryz.func110, Tryz.ntmps110
 go_wp2_with fail
 refine Calls.mono HI.out ?_
 rintro ev wz ⟨ux, uy, rfl, hX, hY, hz⟩
 rw [hz]
 have HX : Hid _ := hX
 have HY : Hid _ := hY
 have HDG : Hid _ := digits_any hX H.out.fd
 obtain ⟨ax, cx, e, -, -⟩ := hX.sl
 rw [l1] at e
 subst e
 obtain ⟨ay, cy, e, -, -⟩ := hY.sl
 rw [l2] at e
 subst e
 clear hz wz HI hX hY
 go_wp2_with fail
 refine Calls.mono HDG.out ?_
 rintro ev w2 ⟨up, um, rfl, hP, hM, hb2⟩
 have HFL : Hid _ := filled_any (w := w2) (D := FG F gs) (l := 0) (n := n) h5 (H.out.below hb2).fd
 obtain ⟨PM, hPM⟩ : ∃ y, y = dgF X := ⟨_, rfl⟩
 rw [← hPM] at hP hM HPO HQ0 d1 d2
 obtain ⟨P, M⟩ := PM
 dsimp only at hP hM HPO HQ0 d1 d2
 have HPM : Hid (Wd w2 (FG F gs) up P ∧ Wd w2 (FG F gs) um M) := ⟨hP, hM⟩
 have HB2 : Hid (Below w.heap.size w w2) := hb2
 obtain ⟨ap, cp, e, -, -⟩ := hP.sl
 rw [d1] at e
 subst e
 obtain ⟨am, cm, e, -, -⟩ := hM.sl
 rw [d2] at e
 subst e
 clear hP hM hb2 HDG hPM
 go_wp2_with fail
 refine Calls.mono HFL.out ?_
 rintro ev w3 ⟨u3, rfl, hW3, hb3⟩
 have HST : Hid (Wd w3 (FG F gs) u3 (prodK mo s X Y P M 0).1 ∧ Gn w3 F gs g mo s ∧ Ch w w3 (FG F gs) (FG F gs) ∧ Wd w3 (FG F gs) (.slice ay n cy) Y ∧ Wd w3 (FG F gs) (.slice ap n cp) P ∧ Wd w3 (FG F gs) (.slice am n cm) M) := by
  have hb : Below w.heap.size w w3 := HB2.out.trans (hb3.mono HB2.out.size)
  have e0 : (prodK mo s X Y P M 0).1 = List.replicate n 0 := by rw [← l1]; rfl
  rw [e0]
  exact ⟨hW3, H.out.below hb, Ch.of_below _ hb, HY.out.below hb, HPM.out.1.below hb3, HPM.out.2.below hb3⟩
 clear hW3 hb3 HFL HPM HB2
 go_wp2_with fail
 go_loopw [9, 29] (fun v i wr => ∃ k : Nat, k ≤ n ∧ i = .int .i64 (k : Int) ∧ Hid (∃ F', Wd wr (FG F' gs) v (prodK mo s X Y P M k).1 ∧ Gn wr F' gs g mo (prodK mo s X Y P M k).2 ∧ Ch w wr (FG F gs) (FG F' gs) ∧ Wd wr (FG F' gs) (.slice ay n cy) Y ∧ Wd wr (FG F' gs) (.slice ap n cp) P ∧ Wd wr (FG F' gs) (.slice am n cm) M)) (fun v i wr => n - (intOf i).toNat)
 case atStart => exact ⟨0, Nat.zero_le _, rfl, F, HST.out⟩
 case round =>
  clear HST
  obtain ⟨k, hk, rfl, F1, hW1, hG1, hC1, hY1, hP1, hM1⟩ := hrel
  have hok := prodK_ok (mo := mo) (X := X) (Y := Y) hpos (by omega) HOY.out HPO.out.1 HPO.out.2 k (by omega)
  rw [l1] at hok
  by_cases hkn : k < n
  ·have hkI : (k : Int) < (n : Int) := by omega
   have HSTEP : Hid (prodK mo s X Y P M (k + 1) = prodS mo (prodK mo s X Y P M k).2 (prodK mo s X Y P M k).1 (Y.take (n - k)) (P.getD k 0) (M.getD k 0) k) := by
    unfold Hid
    rw [← l2]
    rfl
   obtain ⟨K, hK⟩ : ∃ y, y = prodK mo s X Y P M k := ⟨_, rfl⟩
   rw [← hK] at hok hW1 hG1 HSTEP
   obtain ⟨O, s1⟩ := K
   dsimp only at hW1 hG1 HSTEP
   have hOl : O.length = n := hok.len
   have hpre : Pg s.ks s1.ks := hok.pre
   have hOo : Oks s1 O := hok.ok
   obtain ⟨rp, op, e, hrp, hcp⟩ := hP1.at rfl (k := k) (by omega)
   subst e
   obtain ⟨rm, om, e, hrm, hcm⟩ := hM1.at rfl (k := k) (by omega)
   subst e
   obtain ⟨ro, oo, co, e, -, -⟩ := hW1.cell (k := k) (by omega)
   rw [hOl] at e
   subst e
   have hco : n ≤ co := by
    obtain ⟨a', c', e, h1, -⟩ := hW1.ex
    injection e with e1 e2 e3
    omega
   have okp : OkG s1 (P.getD k 0) := (getD_ok hpos HPO.out.1).grow hpre
   have okm : OkG s1 (M.getD k 0) := (getD_ok hpos HPO.out.2).grow hpre
   have okR : Oks s1 (Y.take (n - k)) := Oks.grow (Oks.take HOY.out) hpre
   have hRl : (Y.take (n - k)).length = n - k := by rw [List.length_take]; omega
   have HCUT : Hid _ := cut_any hY1 (p := n - k) (q := 0) (by omega) (by omega)
   rw [List.drop_zero] at HCUT
   have eI : (((n - k : Nat) : Int) - 1) = (n : Int) - 1 - (k : Int) := by omega
   rw [eI] at HCUT
   obtain ⟨p, hp⟩ : ∃ p, p = P.getD k 0 := ⟨_, rfl⟩
   obtain ⟨m, hm⟩ : ∃ m, m = M.getD k 0 := ⟨_, rfl⟩
   rw [← hp] at hcp HSTEP okp
   rw [← hm] at hcm HSTEP okm
   obtain ⟨R, hR⟩ : ∃ R, R = Y.take (n - k) := ⟨_, rfl⟩
   rw [← hR] at HCUT HSTEP okR hRl
   have k1 := wmasked_wok (mo := mo) hG1.pos okp okR
   have HMA : Hid (∀ wx u', Below wr.heap.size wr wx → Wd wx (FG F1 gs) u' R → Calls Tryz.prog 142 #[.pointer (some ⟨gs, 0, none⟩), .int .i64 p, u'] wx (WG wx F1 gs g mo (wmaskedF mo s1 p R))) := fun wx u' hb hu => wmasked_any (hG1.below hb) okp hu okR
   have HSTEP2 : Hid (prodK mo s X Y P M (k + 1) = (O.take k ++ (diffF mo (wmaskedF mo (sumF mo (wmaskedF mo s1 p R).2 (O.drop k) (wmaskedF mo s1 p R).1).2 m R).2 (sumF mo (wmaskedF mo s1 p R).2 (O.drop k) (wmaskedF mo s1 p R).1).1 (wmaskedF mo (sumF mo (wmaskedF mo s1 p R).2 (O.drop k) (wmaskedF mo s1 p R).1).2 m R).1).1, (diffF mo (wmaskedF mo (sumF mo (wmaskedF mo s1 p R).2 (O.drop k) (wmaskedF mo s1 p R).1).2 m R).2 (sumF mo (wmaskedF mo s1 p R).2 (O.drop k) (wmaskedF mo s1 p R).1).1 (wmaskedF mo (sumF mo (wmaskedF mo s1 p R).2 (O.drop k) (wmaskedF mo s1 p R).1).2 m R).1).2)) := HSTEP.out
   obtain ⟨K1, hK1⟩ : ∃ y, y = wmaskedF mo s1 p R := ⟨_, rfl⟩
   rw [← hK1] at HMA HSTEP2 k1
   have hp1 : 0 < K1.2.ks.length := by have := k1.pre.length_le; have := hG1.pos; omega
   have k2 := sum_wok (mo := mo) (s := K1.2) (A := O.drop k) (B := K1.1) hp1
   have HSU : Hid (∀ wx F2 u', Gn wx F2 gs g mo K1.2 → Ch wr wx (FG F1 gs) (FG F2 gs) → Wd wx (FG F2 gs) u' K1.1 → Calls Tryz.prog 108 #[.pointer (some ⟨gs, 0, none⟩), .slice (some ⟨ro, oo + k, none⟩) (n - k) (co - k), u'] wx (WG wx F2 gs g mo (sumF mo K1.2 (O.drop k) K1.1))) := fun wx F2 u' hG hC hu => by
    have hd := (hW1.ch hC).from (n := k) (by omega)
    rw [hOl, addr_add] at hd
    exact sum_any hG hd hu (by rw [List.length_drop, k1.len]; omega) (Oks.grow hOo.drop k1.pre) k1.ok
   obtain ⟨K2, hK2⟩ : ∃ y, y = sumF mo K1.2 (O.drop k) K1.1 := ⟨_, rfl⟩
   rw [← hK2] at HSU HSTEP2 k2
   have hp2 : 0 < K2.2.ks.length := by have := k2.pre.length_le; omega
   have k12 := k1.pre.trans k2.pre
   have k3 := wmasked_wok (mo := mo) hp2 (okm.grow k12) (okR.grow k12)
   have HMB : Hid (∀ wx F2 u', Gn wx F2 gs g mo K2.2 → Wd wx (FG F2 gs) u' R → Calls Tryz.prog 142 #[.pointer (some ⟨gs, 0, none⟩), .int .i64 m, u'] wx (WG wx F2 gs g mo (wmaskedF mo K2.2 m R))) := fun wx F2 u' hG hu => wmasked_any hG (okm.grow k12) hu (okR.grow k12)
   obtain ⟨K3, hK3⟩ : ∃ y, y = wmaskedF mo K2.2 m R := ⟨_, rfl⟩
   rw [← hK3] at HMB HSTEP2 k3
   have hp3 : 0 < K3.2.ks.length := by have := k3.pre.length_le; omega
   have k4 := diff_wok (mo := mo) (s := K3.2) (A := K2.1) (B := K3.1) hp3
   have k2l : K2.1.length = n - k := by rw [k2.len, List.length_drop, hOl]
   have HDI : Hid (∀ wx F2 u' u'', Gn wx F2 gs g mo K3.2 → Wd wx (FG F2 gs) u' K2.1 → Wd wx (FG F2 gs) u'' K3.1 → Calls Tryz.prog 109 #[.pointer (some ⟨gs, 0, none⟩), u', u''] wx (WG wx F2 gs g mo (diffF mo K3.2 K2.1 K3.1))) := fun wx F2 u' u'' hG hu hv => difference_any hG hu hv (by rw [k2l, k3.len, hRl]) (Oks.grow k2.ok k3.pre) k3.ok
   obtain ⟨K4, hK4⟩ : ∃ y, y = diffF mo K3.2 K2.1 K3.1 := ⟨_, rfl⟩
   rw [← hK4] at HDI HSTEP2 k4
   have HLEN : Hid ((O.take k).length + K4.1.length ≤ 50000) := by unfold Hid; rw [List.length_take, k4.len, k2l]; omega
   have HG1 : Hid (Gn wr F1 gs g mo s1) := hG1
   have HC1 : Hid (Ch w wr (FG F gs) (FG F1 gs)) := hC1
   have HWS : Hid (Wd wr (FG F1 gs) (.slice (some ⟨ro, oo, none⟩) n co) O ∧ Wd wr (FG F1 gs) (.slice ay n cy) Y ∧ Wd wr (FG F1 gs) (.slice (some ⟨rp, op, none⟩) n cp) P ∧ Wd wr (FG F1 gs) (.slice (some ⟨rm, om, none⟩) n cm) M) := ⟨hW1, hY1, hP1, hM1⟩
   have HOL : Hid (O.length = n ∧ M.length = n ∧ m = M.getD k 0) := ⟨hOl, d2, hm⟩
   have dcp : wr.drew.cell? ⟨rp, op + k, none⟩ = some (.int .i64 p) := hcp
   clear hW1 hG1 hC1 hY1 hP1 hM1 hK hK1 hK2 hK3 hK4 k1 k2 k3 k4 k12 hp1 hp2 hp3 k2l okp okm okR hRl hR hp hm hOl hOo hok hpre HSTEP eI
   go_wp2_with fail
   refine Calls.mono HCUT.out ?_
   rintro ev wz ⟨uR, rfl, hWR, hz⟩
   rw [hz] at hWR
   rw [hz]
   clear hz wz HCUT
   have HWR : Hid (Wd wr (FG F1 gs) uR R) := hWR
   clear hWR
   go_wp2_with fail
   go_region_with (first | (go_at_call 142; refine (HMA.out _ _ (drew_b _) (HWR.out.below (drew_b _))).mono ?_; rintro ev w4 ⟨u4, rfl, F4, hW4, hG4, hC4⟩) | (go_at_call 108; refine (HSU.out _ _ _ hG4 ((Ch.of_below _ (drew_b wr)).trans hC4) hW4).mono ?_; rintro ev w5 ⟨u5, rfl, F5, hW5, hG5, hC5⟩))
   all_goals
    have HC5 : Hid (Ch wr w5 (FG F1 gs) (FG F5 gs)) := ((Ch.of_below _ (drew_b wr)).trans hC4).trans hC5
    have HW5 : Hid (Wd w5 (FG F5 gs) u5 K2.1) := hW5
    have hmc := (HWS.out.2.2.2.ch HC5.out).at rfl (k := k) (by rw [HOL.out.2.1]; exact hkn)
    have HMM : Hid _ := HMB.out w5 F5 uR hG5 (HWR.out.ch HC5.out)
    obtain ⟨r', o', e', -, hcm5⟩ := hmc
    injection e' with e'
    injection e' with e1 e2
    subst e1
    subst e2
    rw [← HOL.out.2.2] at hcm5
    have hcm6 : w5.cell? ⟨rm, om + k, none⟩ = some (.int .i64 m) := hcm5
    clear hW4 hG4 hC4 hW5 hG5 hC5 hcm5
    go_wp2_with fail
    refine Calls.mono HMM.out ?_
    rintro ev w6 ⟨u6, rfl, F6, hW6, hG6, hC6⟩
    have HDD : Hid _ := HDI.out w6 F6 u5 u6 hG6 (HW5.out.ch hC6) hW6
    have HC6 : Hid (Ch wr w6 (FG F1 gs) (FG F6 gs)) := HC5.out.trans hC6
    clear hW6 hG6 hC6 HMM
    go_wp2_with fail
    refine Calls.mono HDD.out ?_
    rintro ev w7 ⟨u7, rfl, F7, hW7, hG7, hC7⟩
    have hC : Ch wr w7 (FG F1 gs) (FG F7 gs) := HC6.out.trans hC7
    have HCU : Hid _ := cut_any (HWS.out.1.ch hC) (p := k) (q := 0) (by omega) (by rw [HOL.out.1]; omega)
    rw [List.drop_zero] at HCU
    have HBE : Hid (∀ u', Wd w7 (FG F7 gs) u' (O.take k) → Calls Tryz.prog 106 #[u', u7] w7 fun ev w' => ∃ u'', ev = .returned u'' ∧ Wd w' (FG F7 gs) u'' (O.take k ++ K4.1) ∧ Below w7.heap.size w7 w') := fun u' hu => below_any hu hW7 hG7.fd HLEN.out
    have HG7 : Hid (Gn w7 F7 gs g mo K4.2) := hG7
    have HC7 : Hid (Ch wr w7 (FG F1 gs) (FG F7 gs)) := hC
    clear hW7 hG7 hC7 hC HDD
    go_wp2_with fail
    refine Calls.mono HCU.out ?_
    rintro ev wz ⟨u8, rfl, hW8, hz⟩
    rw [hz] at hW8
    rw [hz]
    clear hz wz
    have HB8 : Hid _ := HBE.out u8 hW8
    clear hW8 HCU HBE
    go_wp2_with fail
    refine Calls.mono HB8.out ?_
    rintro ev w9 ⟨u9, rfl, hW9, hb9⟩
    have HF : Hid (∃ F', Wd w9 (FG F' gs) u9 (prodK mo s X Y P M (k + 1)).1 ∧ Gn w9 F' gs g mo (prodK mo s X Y P M (k + 1)).2 ∧ Ch w w9 (FG F gs) (FG F' gs) ∧ Wd w9 (FG F' gs) (.slice ay n cy) Y ∧ Wd w9 (FG F' gs) (.slice (some ⟨rp, op, none⟩) n cp) P ∧ Wd w9 (FG F' gs) (.slice (some ⟨rm, om, none⟩) n cm) M) := by
     rw [HSTEP2.out]
     have hc9 : Ch wr w9 (FG F1 gs) (FG F7 gs) := HC7.out.trans (Ch.of_below _ hb9)
     exact ⟨F7, hW9, HG7.out.below hb9, HC1.out.trans hc9, HWS.out.2.1.ch hc9, HWS.out.2.2.1.ch hc9, HWS.out.2.2.2.ch hc9⟩
    clear hW9 hb9 HB8
    go_wp2_with fail
    exact ⟨⟨k + 1, by omega, by go_num, HF.out⟩, by simp [intOf]; omega⟩
  ·obtain rfl : k = n := by omega
   have hkI : ¬ (k : Int) < (k : Int) := by omega
   have HF : Hid (∃ F', Wd wr (FG F' gs) u9 q.1 ∧ Gn wr F' gs g mo q.2 ∧ Ch w wr (FG F gs) (FG F' gs)) := by
    rw [HQ0.out]
    exact ⟨F1, hW1, hG1, hC1⟩
   clear hW1 hG1 hC1 hY1 hP1 hM1 hok
   go_wp2_with fail
   go_ret
   exact ⟨_, rfl, HF.out⟩
end
open Go.RowKit
section
variable {w : World} {D : Nat → Prop} {u : Value} {L : List Int}
def shN (B : List Int) : Nat → Nat
 | 0 => 0
 | k + 1 => if B.getD k 0 = 0 then shN B k else k + 1
def shortF (B : List Int) : List Int := if 1 ∈ B then B.take (shN B B.length) else B
theorem shortF_len {B : List Int} : (shortF B).length ≤ B.length := by
 unfold shortF
 split
 ·rw [List.length_take]; omega
 ·exact Nat.le_refl _
theorem Oks.short {s : Gz} {B : List Int} (h : Oks s B) : Oks s (shortF B) := by
 unfold shortF
 split
 ·exact h.take
 ·exact h
theorem Wd.lown {a : Option Addr} {n c : Nat} (h : Wd w D (.slice a L.length c) L) (hn : n ≤ L.length) : Wd w D (.slice a n n) (L.take n) := by
 obtain ⟨a', c', e, h1, h2, h3, h4⟩ := h.ex
 injection e with e1 e2 e3
 subst e1
 have hl : (L.take n).length = n := by rw [List.length_take]; omega
 refine ⟨a, n, by rw [hl], by omega, by omega, fun e => ?_, ?_⟩
 ·have := h3 e; omega
 ·rcases h4 with h4 | ⟨r, o, q1, q2, q3, q4⟩
  ·left; rw [h4]; simp
  ·right
   refine ⟨r, o, q1, q2, q3, fun j hj => ?_⟩
   rw [q4 j (by omega)]
   congr 2
   rw [List.getD_eq_getElem?_getD, List.getD_eq_getElem?_getD, List.getElem?_take_of_lt (by omega)]
theorem Wd.lowc {a : Option Addr} {n c : Nat} (h : Wd w D (.slice a L.length c) L) (hn : n ≤ L.length) : Wd w D (.slice a n c) (L.take n) := by
 obtain ⟨a', c', e, h1, h2, h3, h4⟩ := h.ex
 injection e with e1 e2 e3
 subst e1
 subst e3
 have hl : (L.take n).length = n := by rw [List.length_take]; omega
 refine ⟨a, c, by rw [hl], by omega, by omega, h3, ?_⟩
 rcases h4 with h4 | ⟨r, o, q1, q2, q3, q4⟩
 ·left; rw [h4]; simp
 ·right
  refine ⟨r, o, q1, q2, q3, fun j hj => ?_⟩
  rw [q4 j (by omega)]
  congr 2
  rw [List.getD_eq_getElem?_getD, List.getD_eq_getElem?_getD, List.getElem?_take_of_lt (by omega)]
theorem shortened_any (h : Wd w D u L) :
  Calls Tryz.prog 145 #[u] w fun ev w' => ∃ u', ev = .returned u' ∧ Wd w D u' (shortF L) ∧ w' = w := by
 have HC : Hid _ := contains_any (l := 1) h
 obtain ⟨a, c, rfl, h1, h5⟩ := h.sl
 have HA : Hid (∀ k, k < L.length → ∃ r o, a = some ⟨r, o, none⟩ ∧ r < w.heap.size ∧ w.cell? ⟨r, o + k, none⟩ = some (.int .i64 (L.getD k 0))) := fun k hk => h.at rfl hk
 have HL : Hid (∀ n, n ≤ L.length → Wd w D (.slice a n n) (L.take n)) := fun n hn => h.lown hn
 have H : Hid _ := h
 have HT : Hid (∀ k, k < L.length → L.take (k + 1) = L.take k ++ [L.getD k 0]) := fun k hk => take_at hk
 have HS1 : Hid (1 ∈ L → shortF L = L.take (shN L L.length)) := fun e => by unfold shortF; rw [if_pos e]
 have HS0 : Hid (¬ 1 ∈ L → shortF L = L) := fun e => by unfold shortF; rw [if_neg e]
 have HM : Hid (1 ∈ L → 1 ∈ L.take L.length) := fun e => by rw [List.take_length]; exact e
 obtain ⟨n, hn⟩ : ∃ n, n = L.length := ⟨_, rfl⟩
 rw [← hn] at h5 HA HC HL H HT HS1 HM h1 ⊢
 obtain ⟨S, hS⟩ : ∃ S, S = shortF L := ⟨_, rfl⟩
 rw [← hS] at HS1 HS0 ⊢
 clear h hn hS
 by_cases hin : 1 ∈ L
 ·have HIN : Hid _ := HM.out hin
  have HS : Hid _ := HS1.out hin
  have zd : decide ((1 : Int) ∈ L) = true := decide_eq_true hin
  rw [zd] at HC
  clear hin HS1 HS0 HM zd
  go_enter Tryz.func145, Tryz.ntmps145
  go_wp2_with fail
  refine Calls.mono HC.out ?_
  rintro ev wz ⟨rfl, hz⟩
  rw [hz]
  clear hz wz HC
  go_wp2_with fail
  go_loopw [3] (fun i wr => ∃ k : Nat, k ≤ n ∧ i = .int .i64 (k : Int) ∧ Hid (Weq wr w ∧ 1 ∈ L.take k ∧ shN L n = shN L k)) (fun i wr => (intOf i).toNat)
  case atStart => exact ⟨n, Nat.le_refl _, rfl, rfl, HIN.out, rfl⟩
  case round =>
   obtain ⟨k, hk, rfl, hw⟩ := hrel
   have hw' : wr = w := hw.out.1
   subst hw'
   have HK : Hid (1 ∈ L.take k ∧ shN L n = shN L k) := hw.out.2
   clear hw
   cases k with
   | zero => exact absurd HK.out.1 (by simp)
   | succ k =>
    obtain ⟨r, o, rfl, hr, hc⟩ := HA.out k (by omega)
    have HTK : Hid _ := HT.out k (by omega)
    have eI : (((k + 1 : Nat) : Int) - 1) = (k : Int) := by omega
    obtain ⟨x, hx⟩ : ∃ x, x = L.getD k 0 := ⟨_, rfl⟩
    rw [← hx] at hc HTK
    have HSN : Hid (shN L (k + 1) = if x = 0 then shN L k else k + 1) := by unfold Hid; rw [hx]; rfl
    have hkn : k + 1 ≤ n := hk
    obtain ⟨kk, hkk⟩ : ∃ kk : Int, kk = ((k + 1 : Nat) : Int) := ⟨_, rfl⟩
    rw [← hkk] at eI ⊢
    have hk5 : (k : Int) < 50000 := by omega
    have hke : kk = (k : Int) + 1 := by omega
    clear hx HT
    by_cases hx0 : x = 0
    ·have z0 : (x == 0) = true := by simp [hx0]
     have HF : Hid (1 ∈ L.take k ∧ shN L n = shN L k) := by
      obtain ⟨q1, q2⟩ := HK.out
      rw [HTK.out, hx0] at q1
      rw [HSN.out, if_pos hx0] at q2
      refine ⟨?_, q2⟩
      rcases List.mem_append.1 q1 with q | q
      ·exact q
      ·simp at q
     have HE : Hid _ := hke
     subst hke
     clear HK HSN HTK hkk eI
     go_wp2_with fail
     exact ⟨⟨k, by omega, by go_num, rfl, HF.out⟩, by first | (simp [intOf]; done) | (simp [intOf]; omega)⟩
    ·have z0 : (x == 0) = false := by simp [hx0]
     have HF : Hid (Wd wr D (.slice (some ⟨r, o, none⟩) (k + 1) (k + 1)) S) := by
      have q2 := HK.out.2
      rw [HSN.out, if_neg hx0] at q2
      unfold Hid
      rw [HS.out, q2]
      exact HL.out (k + 1) hk
     subst hke
     clear HK HSN HTK hkk eI
     have hkc : (k : Int) + 1 ≤ (c : Int) := by omega
     go_wp2_with fail
     go_ret
     exact ⟨_, rfl, HF.out, rfl⟩
 ·have HS : Hid _ := HS0.out hin
  have zd : decide ((1 : Int) ∈ L) = false := decide_eq_false hin
  rw [zd] at HC
  have HF : Hid (Wd w D (.slice a n c) S) := by unfold Hid; rw [HS.out]; exact H.out
  clear hin HS1 HS0 HM zd
  go_enter Tryz.func145, Tryz.ntmps145
  go_wp2_with fail
  refine Calls.mono HC.out ?_
  rintro ev wz ⟨rfl, hz⟩
  rw [hz]
  clear hz wz HC
  go_wp2_with fail
  go_ret
  exact ⟨_, rfl, HF.out, rfl⟩
end
open Go.RowKit
def bhF (mo : Nat) (s : Gz) (L Fs : List Int) (fi : Int) (n : Nat) : List Int × Gz :=
 wunlikeF mo (wmaskedF mo s fi (Fs.take (min n L.length))).2 (L.take (min n L.length)) (wmaskedF mo s fi (Fs.take (min n L.length))).1
section
variable {w : World} {F : Nat → Prop} {gs g mo : Nat} {s : Gz} {ua ub : Value} {L Fs : List Int} {fi : Int}
theorem bh_wok {n : Nat} (hp : 0 < s.ks.length) (hl : Fs.length = L.length) (oL : Oks s L) (oF : Oks s Fs) (of : OkG s fi) : WOk s (bhF mo s L Fs fi n) (min n L.length) := by
 have h1 := wmasked_wok (mo := mo) hp of (oF.take (n := min n L.length))
 have hp1 := h1.pre.length_le
 have h2 := wunlike_wok (mo := mo) (s := (wmaskedF mo s fi (Fs.take (min n L.length))).2) (A := L.take (min n L.length)) (B := (wmaskedF mo s fi (Fs.take (min n L.length))).1) (by omega) (Oks.grow oL.take h1.pre) h1.ok (by rw [h1.len, List.length_take, List.length_take]; omega)
 exact ⟨h1.pre.trans h2.pre, by rw [bhF, h2.len, List.length_take]; omega, h2.ok⟩
theorem behind_any {n : Nat} (h : Gn w F gs g mo s) (hA : Wd w (FG F gs) ua L) (hB : Wd w (FG F gs) ub Fs) (hl : Fs.length = L.length) (oL : Oks s L) (oF : Oks s Fs) (of : OkG s fi) (hn5 : n ≤ 50000) (hnil : (ua = .slice none 0 0 ∧ ub = .slice none 0 0) ∨ 0 < L.length) :
  Calls Tryz.prog 144 #[.pointer (some ⟨gs, 0, none⟩), .agg #[ua, ub, .int .i64 fi], .int .i64 (n : Int)] w (WG w F gs g mo (bhF mo s L Fs fi n)) := by
 obtain ⟨a1, c1, rfl, hc1, h51⟩ := hA.sl
 obtain ⟨a2, c2, rfl, hc2, h52⟩ := hB.sl
 have hpos := h.pos
 obtain ⟨m, hm⟩ : ∃ m, m = min n L.length := ⟨_, rfl⟩
 have hmL : m ≤ L.length := by omega
 have hA1 := hA.lowc hmL
 have hB1 := hB.lowc (n := m) (by omega)
 have hmI : min (n : Int) (L.length : Int) = (m : Int) := by omega
 have hz : (a1 = none ∧ a2 = none ∧ L.length = 0 ∧ c1 = 0 ∧ c2 = 0) ∨ ∃ b1 b2, a1 = some b1 ∧ a2 = some b2 := by
  rcases hnil with ⟨e1, e2⟩ | e
  ·injection e1 with x1 x2 x3
   injection e2 with y1 y2 y3
   exact Or.inl ⟨x1, y1, x2, x3, y3⟩
  ·obtain ⟨b1, c1', x, -⟩ := hA.addr e
   obtain ⟨b2, c2', y, -⟩ := hB.addr (by omega)
   injection x with x1
   injection y with y1
   exact Or.inr ⟨b1, b2, x1, y1⟩
 have k1 := wmasked_wok (mo := mo) hpos of (oF.take (n := m))
 have HMA : Hid (∀ wx, Below w.heap.size w wx → Calls Tryz.prog 142 #[.pointer (some ⟨gs, 0, none⟩), .int .i64 fi, .slice a2 m c2] wx (WG wx F gs g mo (wmaskedF mo s fi (Fs.take m)))) := fun wx hb => wmasked_any (h.below hb) of (hB1.below hb) oF.take
 have HQ : Hid (bhF mo s L Fs fi n = wunlikeF mo (wmaskedF mo s fi (Fs.take m)).2 (L.take m) (wmaskedF mo s fi (Fs.take m)).1) := by unfold Hid; rw [hm]; rfl
 obtain ⟨q, hq⟩ : ∃ q, q = bhF mo s L Fs fi n := ⟨_, rfl⟩
 rw [← hq] at HQ ⊢
 obtain ⟨K, hK⟩ : ∃ q, q = wmaskedF mo s fi (Fs.take m) := ⟨_, rfl⟩
 rw [← hK] at HMA HQ k1
 have HUN : Hid (∀ wx F2 u', Gn wx F2 gs g mo K.2 → Wd wx (FG F2 gs) (.slice a1 m c1) (L.take m) → Wd wx (FG F2 gs) u' K.1 → Calls Tryz.prog 86 #[.pointer (some ⟨gs, 0, none⟩), .slice a1 m c1, u'] wx (WG wx F2 gs g mo q)) := fun wx F2 u' hG hu hv => by
  rw [HQ.out]
  exact wunlike_any hG hu hv (by rw [k1.len, List.length_take, List.length_take]; omega) (Oks.grow oL.take k1.pre) k1.ok
 have H : Hid (Gn w F gs g mo s) := h
 have HAB : Hid (Wd w (FG F gs) (.slice a1 m c1) (L.take m)) := hA1
 have hgs := h.lt
 have HKP : Hid (∀ wx wy F2, Below w.heap.size w wx → w.heap.size < wx.heap.size → Ch wx wy (FG F gs) (FG F2 gs) → wy.heap[w.heap.size]? = wx.heap[w.heap.size]?) := fun wx wy F2 hb hlt hC => hC.block _ hlt (fun e => by have := h.fd _ e; omega)
 obtain ⟨nl, hnl⟩ : ∃ nl, nl = L.length := ⟨_, rfl⟩
 rw [hl, ← hnl]
 rw [← hnl] at hmI hmL hc1 h51 hz
 have hc1m : (m : Int) ≤ (c1 : Int) := by omega
 have hc2m : (m : Int) ≤ (c2 : Int) := by omega
 clear h hA hB hl oL oF of hm hnil hA1 hB1 k1 hK hq hpos hnl hc2 h52
 go_enter Tryz.func144, Tryz.ntmps144
 go_wp2_with fail
 obtain ⟨wb, hwb⟩ : ∃ wb, wb = w.alloc (Obj.cells #[Value.slice a1 nl c1, Value.slice a2 nl c2, Value.int IntKind.i64 fi] 162) := ⟨_, rfl⟩
 rw [← hwb]
 have hnew : wb.heap[w.heap.size]? = some (Obj.cells #[Value.slice a1 nl c1, Value.slice a2 nl c2, Value.int IntKind.i64 fi] 162) := by rw [hwb]; exact heap_alloc_new w _
 have HBW : Hid (Below w.heap.size w wb) := by unfold Hid; rw [hwb]; go_grown
 have HC0 : Hid (∀ wx : World, wx.heap[w.heap.size]? = wb.heap[w.heap.size]? → wx.cell? ⟨w.heap.size, 0, none⟩ = some (.slice a1 nl c1) ∧ wx.cell? ⟨w.heap.size, 1, none⟩ = some (.slice a2 nl c2) ∧ wx.cell? ⟨w.heap.size, 2, none⟩ = some (.int .i64 fi)) := fun wx e => ⟨cell_of (e.trans hnew) 0 rfl, cell_of (e.trans hnew) 1 rfl, cell_of (e.trans hnew) 2 rfl⟩
 obtain ⟨d0, d1, d2⟩ := HC0.out wb rfl
 obtain ⟨e0, e1, e2⟩ := HC0.out wb.drew rfl
 have hlt : w.heap.size < wb.heap.size := (Array.getElem?_eq_some_iff.1 hnew).1
 have HLT : Hid _ := hlt
 clear hwb hnew
 have fin : ∀ w5 u5 F5, Wd w5 (FG F5 gs) u5 q.1 → Gn w5 F5 gs g mo q.2 → Ch w w5 (FG F gs) (FG F5 gs) → ∃ u, Ending.returned u5 = .returned u ∧ ∃ F', Wd w5 (FG F' gs) u q.1 ∧ Gn w5 F' gs g mo q.2 ∧ Ch w w5 (FG F gs) (FG F' gs) := fun w5 u5 F5 x y z => ⟨u5, rfl, F5, x, y, z⟩
 have FIN : Hid _ := fin
 clear fin
 rcases hz with ⟨rfl, rfl, rfl, rfl, rfl⟩ | ⟨b1, b2, rfl, rfl⟩
 ·obtain rfl : m = 0 := by omega
  rw [show ((0 : Nat) : Int) = 0 from rfl]
  go_region_with (first | (go_at_call 142; refine (HMA.out _ (HBW.out.trans ((drew_b _).mono HBW.out.size))).mono ?_; rintro ev w4 ⟨u4, rfl, F4, hW4, hG4, hC4⟩; obtain ⟨f0, f1, f2⟩ := HC0.out w4 (HKP.out wb.drew w4 F4 (HBW.out.trans ((drew_b _).mono HBW.out.size)) HLT.out hC4)) | (go_at_call 86; refine (HUN.out _ _ _ hG4 (HAB.out.ch ((Ch.of_below _ (HBW.out.trans ((drew_b _).mono HBW.out.size))).trans hC4)) hW4).mono ?_; rintro ev w5 ⟨u5, rfl, F5, hW5, hG5, hC5⟩))
  all_goals
   have HF : Hid _ := FIN.out w5 u5 F5 hW5 hG5 (((Ch.of_below _ (HBW.out.trans ((drew_b _).mono HBW.out.size))).trans hC4).trans hC5)
   clear hW4 hG4 hC4 hW5 hG5 hC5
   go_wp2_with fail
   go_ret
   exact HF.out
 ·go_region_with (first | (go_at_call 142; refine (HMA.out _ (HBW.out.trans ((drew_b _).mono HBW.out.size))).mono ?_; rintro ev w4 ⟨u4, rfl, F4, hW4, hG4, hC4⟩; obtain ⟨f0, f1, f2⟩ := HC0.out w4 (HKP.out wb.drew w4 F4 (HBW.out.trans ((drew_b _).mono HBW.out.size)) HLT.out hC4)) | (go_at_call 86; refine (HUN.out _ _ _ hG4 (HAB.out.ch ((Ch.of_below _ (HBW.out.trans ((drew_b _).mono HBW.out.size))).trans hC4)) hW4).mono ?_; rintro ev w5 ⟨u5, rfl, F5, hW5, hG5, hC5⟩))
  all_goals
   have HF : Hid _ := FIN.out w5 u5 F5 hW5 hG5 (((Ch.of_below _ (HBW.out.trans ((drew_b _).mono HBW.out.size))).trans hC4).trans hC5)
   clear hW4 hG4 hC4 hW5 hG5 hC5
   go_wp2_with fail
   go_ret
   exact HF.out
end
end Go.Proofs.YtcahhahbcijkiaaGreat.Ag
