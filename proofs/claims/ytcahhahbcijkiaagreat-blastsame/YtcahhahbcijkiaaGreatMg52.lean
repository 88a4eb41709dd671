import Derived.Test.YtcahhahbcijkiaaGreatMg50
import Derived.Test.YtcahhahbcijkiaaGreatMg21
import Derived.Test.YtcahhahbcijkiaaGreatBM8
namespace Go.Proofs.YtcahhahbcijkiaaGreat
set_option maxHeartbeats 12800000
set_option maxRecDepth 100000
open Go.RowKit
set_option linter.unusedSimpArgs false
set_option linter.unusedVariables false
theorem bvar_none {ns : List Nd} {w0 : W0} {w : World} {F : Nat → Prop} {bl gA tg mk mi mv B mt : Nat} {v nv : Value} {f : Int → Option (List Int)} {ids : List Int} (hT : Gt w0 B tg mi mv v mt ns) (hB : Bh ns w0 w F bl gA tg mk nv f ids) {s : ByteArray} (hs : s.size ≤ maxLen) (hid : varAt ns s = 0) :
  Calls Tryz.prog 21 #[.pointer (some ⟨bl, 0, none⟩), .string s] w fun ev w' => ev = .returned (.tuple #[.slice none 0 0, .bool false]) ∧ w' = w := by
 have HV : Hid (Calls Tryz.prog 22 #[.pointer (some ⟨tg, 0, none⟩), .string s] w fun e w' => e = .returned (.tuple #[.int .i64 0, .bool false]) ∧ w' = w) := by
  have := var_any (hT.at hB.bw) hs
  rw [hid, show (!decide ((0 : Int) = 0)) = false by simp] at this
  exact this
 have hc0 : w.cell? ⟨bl, 0, none⟩ = some (.pointer (some ⟨tg, 0, none⟩)) := Ag.cell_of hB.hd 0 rfl
 have hbl := hB.lt
 clear hT hB hid
 go_enter Tryz.func21, Tryz.ntmps21
 go_wp2_with fail
 refine Calls.mono HV.out ?_
 rintro ev w1 ⟨rfl, hw1⟩
 obtain rfl : w = w1 := hw1.symm
 clear hw1 HV
 go_wp2_with fail
 go_ret2
 exact ⟨rfl, rfl⟩
theorem zok_new9 (ns : List Nd) (mo : Nat) : Zok ns mo ⟨fun _ => none, [], [(0, 0)]⟩ := by
 refine ⟨(fun id L e => by cases e), (fun id h => nomatch h), Or.inl ?_, by simp, by simp⟩
 decide
theorem wd_li {w : World} {D : Nat → Prop} {r o n c : Nat} {L : List Int} (h : Ag.Wd w D (.slice (some ⟨r, o, none⟩) n c) L) (hL : L ≠ []) : Ag.Li w r o L ∧ r < w.heap.size := by
 obtain ⟨a, c', e, -, -, -, h4⟩ := h.ex
 obtain ⟨r', o', e2, h5, -, h6⟩ := h4.resolve_left hL
 injection e with e3
 rw [e2] at e3
 injection e3 with e3
 injection e3 with e4 e5
 subst e4 e5
 exact ⟨h6, h5⟩
theorem own_n {w : World} {B : Nat} {e : TypeId} {v : Value} {n : Nat} {xs : List Value} (h : w.ownsRow B e 1 v n xs) : ∃ a c, v = .slice a n c := by
 rcases h.2 with ⟨e1, e2⟩ | ⟨q, cap, cur, e1, -⟩
 ·exact ⟨none, 0, by rw [e1, e2]⟩
 ·exact ⟨_, _, e1⟩
def E1 : Nd := ⟨2, 2, 0, 0, 0, 0, 0, 0, 0, 0, ⟨#[120]⟩⟩
def E2 : Nd := ⟨2, 2, 0, 0, 0, 0, 0, 0, 0, 0, ⟨#[121]⟩⟩
def E3 : Nd := ⟨12, 0, 1, 2, 0, 0, 0, 0, 0, 0, ⟨#[]⟩⟩
def NS : List Nd := [E1, E2, E3.wi 2]
def z00 : Zb := ⟨fun _ => none, [], [(0, 0)]⟩
def Z33 : Zb := (teF NS 50 z00 3).1
theorem t3 : (teF NS 50 z00 3).2 = 0 := by decide
theorem t3a : Z33.gf 3 = [10, 12] := by decide
theorem t3b : Z33.f 1 = some [2, 4] := by decide
theorem t3c : Z33.ids = [1, 2] := by decide
theorem t3d : Ag.insL Z33.ks = [2, 4, 6, 8] := by decide
theorem t3e : Ag.evF Z33.ks 10 [true, true, true, true] = (true, 0) := by decide
theorem t3f : Ag.evF Z33.ks 12 [false, false, false, false] = (false, 0) := by decide
theorem t4a : coneL NS 4 = [] := by decide
theorem t4 : teF NS 50 Z33 4 = (Z33, 90) := by unfold teF; rw [if_pos t4a]
theorem t5 : coneL NS 3 = [1, 2, 3] := by decide
theorem v1x : varAt NS ⟨#[120]⟩ = 1 := by decide
theorem v0z : varAt NS ⟨#[122]⟩ = 0 := by decide
theorem ok1 : Ok E1 := ⟨⟨by decide, by decide, by decide, by decide, by decide⟩, by unfold w64; decide, by unfold w64; decide, by unfold w64; decide, by unfold w64; decide, by unfold w64; decide, by unfold w64; decide, by unfold w64; decide, by unfold w64; decide⟩
theorem ok2 : Ok E2 := ⟨⟨by decide, by decide, by decide, by decide, by decide⟩, by unfold w64; decide, by unfold w64; decide, by unfold w64; decide, by unfold w64; decide, by unfold w64; decide, by unfold w64; decide, by unfold w64; decide, by unfold w64; decide⟩
theorem ok3 : Ok E3 := ⟨⟨by decide, by decide, by decide, by decide, by decide⟩, by unfold w64; decide, by unfold w64; decide, by unfold w64; decide, by unfold w64; decide, by unfold w64; decide, by unfold w64; decide, by unfold w64; decide, by unfold w64; decide⟩
theorem e12 : E1 ≠ E2 := fun h => by have := congrArg Nd.nm h; revert this; decide
theorem m1 : Mkd 50 [] E1 1 0 [E1] := .new (s := 2) (by decide) (fun h => nomatch h) (by decide)
theorem m2 : Mkd 50 [E1] E2 2 0 [E1, E2] := .new (s := 2) (by decide) (fun h => e12 (List.mem_singleton.1 h).symm) (by decide)
theorem m3 : Mkd 50 [E1, E2] E3 3 0 NS := .new (s := 2) (by decide) (fun h => by
 have : (E3.wi 2).op = 2 := by
  rcases List.mem_cons.1 h with h | h
  ·rw [h]; rfl
  ·rw [List.mem_singleton.1 h]; rfl
 revert this; decide) (by decide)
theorem nkNS {w : World} {B g mi mv mo : Nat} {v : Value} (h1 : Inv []) (h2 : Inv [E1]) (h3 : Inv [E1, E2]) : Nk NS :=
 (nk_mkd h3 (nk_mkd h2 (nk_mkd h1 nk_nil ok1 (by decide) (by decide) m1).1 ok2 (by decide) (by decide) m2).1 ok3 (by decide) (by decide) m3).1
theorem keep_step {w w' : World} {B tg mi mv mt z2 gA mo : Nat} {v v' : Value} {ns : List Nd} {F : Nat → Prop} {ks : List Ag.Kd} (hG : Gr w B tg mi mv v mt ns) (hA : Ag.Gr w F gA mo ks) (hF : ∀ k, F k → tg < k ∧ mi < k ∧ mv < k ∧ k < z2) (hv : ∀ k, v.ownBlock = some k → z2 ≤ k) (hz : z2 ≤ w.heap.size) (hB : B ≤ w.heap.size) (hC : Chg w w' tg mi mv v) (hv' : v'.ownBlock = v.ownBlock ∨ ∃ b, v'.ownBlock = some b ∧ w.heap.size ≤ b) :
  Ag.Gr w' F gA mo ks ∧ (∀ k, v'.ownBlock = some k → z2 ≤ k) ∧ z2 ≤ w'.heap.size ∧ Below B w w' := by
 refine ⟨hA.kept (fun k hk hf => ?_), fun k e => ?_, Nat.le_trans hz hC.size, hC.low hG hB⟩
 ·have h4 := hF k hf
  exact hC.block k hk (by omega) (by omega) (by omega) (fun e => by have := hv k e.symm; omega)
 ·rcases hv' with q | ⟨b, q, hb⟩
  ·exact hv k (by rw [← q]; exact e)
  ·rw [q] at e; injection e with e; omega
theorem bel_low {w0 : W0} {w' : World} {B : Nat} (h : Bel w0 w') (hT : ∀ k, w0.T k → B ≤ k) (hB : B ≤ w0.heap.size) : Below B w0.toWorld w' :=
 ⟨h.os, h.tape, h.output, h.size, fun k hk => h.block k (by omega) (fun e => by have := hT k e; omega)⟩
theorem Bz_four (w : World) (b : Bool) : Ag.Bz (w.alloc (.cells #[.bool b, .bool b, .bool b, .bool b] 4)) (.slice (some ⟨w.heap.size, 0, none⟩) 4 4) [b, b, b, b] := by
 refine ⟨_, 4, rfl, Or.inr ⟨w.heap.size, 0, rfl, fun j hj => ?_⟩⟩
 have : j = 0 ∨ j = 1 ∨ j = 2 ∨ j = 3 := by simp at hj; omega
 rcases this with rfl | rfl | rfl | rfl <;> simp [go_sem]
theorem room50 : roomOf 50 = 50 := by decide
theorem aroom50 : Ag.roomOf 50 = 50 := by decide
theorem known9 (w : World) :
  Rt 5 #[] w (.bool true) := by
 go_enter Tryz.func5, Tryz.ntmps5
 go_wp2_with fail
 refine (gnew_any 50 _).mono ?_
 rintro e w1 ⟨rfl, hb1, hG1⟩
 rw [room50] at hG1
 obtain ⟨tg, htg⟩ : ∃ x, x = w.heap.size + 2 := ⟨_, rfl⟩
 obtain ⟨mv, hmv⟩ : ∃ x, x = w.heap.size + 1 := ⟨_, rfl⟩
 obtain ⟨mi, hmi⟩ : ∃ x, x = w.heap.size := ⟨_, rfl⟩
 have HG1 : Hid (Gr w1 w.heap.size tg mi mv (.slice none 0 0) 50 []) := by unfold Hid; rw [htg, hmv, hmi]; exact hG1
 have HT : Hid (tg < w1.heap.size ∧ mi < w1.heap.size ∧ mv < w1.heap.size) := by have := hG1.lt; exact ⟨by omega, by omega, by omega⟩
 have HB1 : Hid (Below w.heap.size w w1) := hb1
 rw [← htg]
 clear hG1 hb1 htg hmv hmi
 go_wp2_with fail
 refine (Ag.gnew_any 50 _).mono ?_
 rintro e w2 ⟨rfl, hb2, hz2, hA2⟩
 rw [aroom50] at hA2
 obtain ⟨gA, hgA⟩ : ∃ x, x = w1.heap.size + 2 := ⟨_, rfl⟩
 rw [← hgA] at hA2 ⊢
 obtain ⟨F, hF⟩ : ∃ F : Nat → Prop, F = fun k => w1.heap.size ≤ k ∧ k < w2.heap.size := ⟨_, rfl⟩
 rw [← hF] at hA2
 have HF : Hid (∀ k, F k → w1.heap.size ≤ k ∧ k < w2.heap.size) := fun k hk => by rw [hF] at hk; exact hk
 have HFF : Hid (∀ k, F k → tg < k ∧ mi < k ∧ mv < k ∧ k < w2.heap.size) := fun k hk => by have h1 := HF.out k hk; have h2 := HT.out; exact ⟨by omega, by omega, by omega, h1.2⟩
 have HB2 : Hid (Below w.heap.size w w2) := HB1.out.trans (hb2.mono HB1.out.size)
 have HG2 : Hid (Gr w2 w.heap.size tg mi mv (.slice none 0 0) 50 []) := HG1.out.below hb2
 have HA2 : Hid (Ag.Gr w2 F gA 50 [(0, 0)]) := hA2
 clear hb2 hz2 hA2 hgA hF HG1
 go_wp2_with fail
 refine (mk_any HG2.out ok1 m1 HB2.out.size).mono ?_
 rintro e w3 ⟨rfl, v3, hG3, hC3, hv3⟩
 obtain ⟨hA3, hV3, hz3, hb3⟩ := keep_step HG2.out HA2.out HFF.out (fun k e => by cases e) (Nat.le_refl _) HB2.out.size hC3 hv3
 have HG3 : Hid (Gr w3 w.heap.size tg mi mv v3 50 [E1] ∧ Ag.Gr w3 F gA 50 [(0, 0)] ∧ (∀ k, v3.ownBlock = some k → w2.heap.size ≤ k) ∧ w2.heap.size ≤ w3.heap.size ∧ Below w.heap.size w w3) := ⟨hG3, hA3, hV3, hz3, HB2.out.trans hb3⟩
 have HI1 : Hid (Inv []) := HG2.out.inv
 clear hG3 hC3 hv3 hA3 hV3 hz3 hb3 HA2 HG2
 go_wp2_with fail
 refine (mk_any HG3.out.1 ok2 m2 HG3.out.2.2.2.2.size).mono ?_
 rintro e w4 ⟨rfl, v4, hG4, hC4, hv4⟩
 obtain ⟨hA4, hV4, hz4, hb4⟩ := keep_step HG3.out.1 HG3.out.2.1 HFF.out HG3.out.2.2.1 HG3.out.2.2.2.1 HG3.out.2.2.2.2.size hC4 hv4
 have HG4 : Hid (Gr w4 w.heap.size tg mi mv v4 50 [E1, E2] ∧ Ag.Gr w4 F gA 50 [(0, 0)] ∧ (∀ k, v4.ownBlock = some k → w2.heap.size ≤ k) ∧ w2.heap.size ≤ w4.heap.size ∧ Below w.heap.size w w4) := ⟨hG4, hA4, hV4, hz4, HG3.out.2.2.2.2.trans hb4⟩
 have HI2 : Hid (Inv [E1]) := HG3.out.1.inv
 clear hG4 hC4 hv4 hA4 hV4 hz4 hb4 HG3
 go_wp2_with fail
 refine (mk_any HG4.out.1 ok3 m3 HG4.out.2.2.2.2.size).mono ?_
 rintro e w5 ⟨rfl, v5, hG5, hC5, hv5⟩
 obtain ⟨hA5, hV5, hz5, hb5⟩ := keep_step HG4.out.1 HG4.out.2.1 HFF.out HG4.out.2.2.1 HG4.out.2.2.2.1 HG4.out.2.2.2.2.size hC5 hv5
 have HGT : Hid (Gt ⟨w5, F⟩ w.heap.size tg mi mv v5 50 NS) := ⟨hG5, (fun e => by have := HFF.out _ e; omega), (fun e => by have := HFF.out _ e; omega), (fun e => by have := HFF.out _ e; omega), (fun k e f => by have := HFF.out _ f; have := hV5 k e; omega)⟩
 have HB5 : Hid (Below w.heap.size w w5) := HG4.out.2.2.2.2.trans hb5
 have HLO : Hid (∀ k, F k → w.heap.size ≤ k) := fun k hk => by have := HF.out k hk; have := HB1.out.size; omega
 have HNK : Hid (Nk NS) := nkNS (w := w5) (B := 0) (g := 0) (mi := 0) (mv := 0) (mo := 0) (v := v5) HI1.out HI2.out HG4.out.1.inv
 have HBN : Hid _ := bnew_any (ns := NS) (w0 := ⟨w5, F⟩) (w := w5) (tg := tg) (Bel.of (w0 := ⟨w5, F⟩) (Below.refl _ _)) hA5 (fun k hk => by have := HF.out k hk; omega) (fun k hk => Or.inl hk)
 have hwd : Hid (∀ wx, Bel ⟨w5, F⟩ wx → Below w.heap.size w wx) := fun wx h => HB5.out.trans (bel_low h HLO.out HB5.out.size)
 clear hG5 hC5 hv5 hA5 hV5 hz5 hb5 HG4 HFF HF HT HB1 HB2 HI1 HI2
 go_wp2_with fail
 refine Calls.mono HBN.out ?_
 rintro e w6 ⟨rfl, hB6, hA6, hb6⟩
 obtain ⟨bl, hbl⟩ : ∃ x, x = w5.heap.size + 1 := ⟨_, rfl⟩
 obtain ⟨mk, hmk⟩ : ∃ x, x = w5.heap.size := ⟨_, rfl⟩
 rw [← hbl] at hB6 ⊢
 rw [← hmk] at hB6
 have HTE : Hid _ := term_any (mo := 50) (z := z00) HGT.out HNK.out hB6 hA6 (zok_new9 NS 50) (id := 3) (by unfold w64; decide)
 clear hbl hmk hB6 hA6 hb6 HBN
 go_wp2_with fail
 refine Calls.mono HTE.out ?_
 rintro e w7 ⟨u7, rfl, ⟨a7, n7, c7, hu7⟩, F7, nv7, hB7, hG7, -, hZ7, hW7, -⟩
 subst hu7
 rw [t3]
 obtain ⟨hwd7, -⟩ := hW7 t3
 have hwe : (teF NS 50 z00 3).1 = Z33 := rfl
 rw [hwe] at hB7 hG7 hZ7 hwd7
 rw [t3a] at hwd7
 have HB7 : Hid (Bh NS ⟨w5, F⟩ w7 F7 bl gA tg mk nv7 Z33.f Z33.ids ∧ Ag.Gr w7 F7 gA 50 Z33.ks ∧ Zok NS 50 Z33) := ⟨hB7, hG7, hZ7⟩
 obtain ⟨ax, cx, ex, -, -, -, hx4⟩ := hwd7.ex
 obtain ⟨r7, o7, hr7, -, -, -⟩ := hx4.resolve_left (by simp)
 injection ex with ex1 ex2 ex3
 rw [hr7] at ex1
 subst ex1 ex2
 have HL7 : Hid (Ag.Wd w7 (DB F7 bl mk nv7) (.slice (some ⟨r7, o7, none⟩) [(10 : Int), 12].length c7) [10, 12]) := hwd7
 have HVX : Hid _ := bvar_any (mo := 50) HGT.out hB7 hZ7 (s := ⟨#[120]⟩) (by decide) v1x (by decide) (by unfold w64; decide) t3b
 clear hB7 hG7 hZ7 hW7 hwd7 hwe ex3 hx4 hr7 HTE
 go_wp2_with fail
 refine Calls.mono HVX.out ?_
 rintro e w8 ⟨u8, rfl, ⟨a8, c8, hu8⟩, -, hb8⟩
 subst hu8
 have HB8 : Hid (Bh NS ⟨w5, F⟩ w8 F7 bl gA tg mk nv7 Z33.f Z33.ids ∧ Ag.Gr w8 F7 gA 50 Z33.ks ∧ Zok NS 50 Z33) := ⟨HB7.out.1.below hb8, HB7.out.2.1.below hb8, HB7.out.2.2⟩
 have HH8 : Hid (Below w7.heap.size w7 w8) := hb8
 have HVZ : Hid _ := bvar_none HGT.out HB8.out.1 (s := ⟨#[122]⟩) (by decide) v0z
 have HT4 : Hid _ := term_any (mo := 50) HGT.out HNK.out HB8.out.1 HB8.out.2.1 HB8.out.2.2 (id := 4) (by unfold w64; decide)
 rw [t4] at HT4
 clear hb8 HB7 HVX
 go_wp2_with fail
 refine Calls.mono HVZ.out ?_
 rintro e wq ⟨rfl, hq⟩
 rw [hq]
 clear hq wq HVZ
 go_wp2_with fail
 refine Calls.mono HT4.out ?_
 rintro e w9 ⟨u9, rfl, ⟨a9, n9, c9, hu9⟩, F9, nv9, hB9, hG9, hC9, -⟩
 subst hu9
 have HB9 : Hid (Bh NS ⟨w5, F⟩ w9 F9 bl gA tg mk nv9 Z33.f Z33.ids ∧ Ag.Gr w9 F9 gA 50 Z33.ks) := ⟨hB9, hG9⟩
 have HC9 : Hid (Ag.Ch w8 w9 (DB F7 bl mk nv7) (DB F9 bl mk nv9)) := hC9
 have HNM : Hid _ := bnames_any hB9 (by rw [t3c]; decide)
 rw [t3c] at HNM
 clear hB9 hG9 hC9 HT4
 go_wp2_with fail
 refine Calls.mono HNM.out ?_
 rintro e w10 ⟨u10, rfl, hr10, hb10⟩
 obtain ⟨a10, c10, hu10⟩ := own_n hr10
 subst hu10
 have HC10 : Hid (Ag.Ch w8 w10 (DB F7 bl mk nv7) (DB F9 bl mk nv9)) := HC9.out.trans (Ag.Ch.of_below _ hb10)
 have HB10 : Hid (Bh NS ⟨w5, F⟩ w10 F9 bl gA tg mk nv9 Z33.f Z33.ids ∧ Ag.Gr w10 F9 gA 50 Z33.ks) := ⟨HB9.out.1.below hb10, HB9.out.2.below hb10⟩
 have HIN : Hid _ := Ag.inputs_any HB10.out.2
 rw [t3d] at HIN
 clear hr10 hb10 HNM HB9 HC9
 go_wp2_with fail
 refine Calls.mono HIN.out ?_
 rintro e w11 ⟨u11, rfl, hI11, hb11⟩
 obtain ⟨a11, c11, hu11⟩ := own_n hI11
 subst hu11
 have HB11 : Hid (Bh NS ⟨w5, F⟩ w11 F9 bl gA tg mk nv9 Z33.f Z33.ids ∧ Ag.Gr w11 F9 gA 50 Z33.ks) := ⟨HB10.out.1.below hb11, HB10.out.2.below hb11⟩
 have HW11 : Hid (Ag.Wd w11 (DB F9 bl mk nv9) (.slice (some ⟨r7, o7, none⟩) [(10 : Int), 12].length c7) [10, 12]) := ((HL7.out.below HH8.out).ch HC10.out).below hb11
 obtain ⟨hli, hlr⟩ := wd_li HW11.out (by simp)
 have c0 : w11.cell? ⟨r7, o7, none⟩ = some (.int .i64 10) := hli 0 (by decide)
 have c1 : w11.cell? ⟨r7, o7 + 1, none⟩ = some (.int .i64 12) := hli 1 (by decide)
 have HEV : Hid (∀ wx u b, Below w11.heap.size w11 wx → Ag.Bz wx u [b, b, b, b] → ∀ l : Int, Rt 26 #[.pointer (some ⟨gA, 0, none⟩), .int .i64 l, u] wx (.tuple #[.bool (Ag.evF Z33.ks l [b, b, b, b]).1, .int .i64 (Ag.evF Z33.ks l [b, b, b, b]).2])) := fun wx u b hb hz l => Ag.eval_any (HB11.out.2.below hb) l hz
 have HWB : Hid (Below w.heap.size w w11) := hwd.out w11 HB11.out.1.bw
 clear hI11 hb11 HIN HB10 HC10 hli HL7 HH8 HB8
 simp only [List.length_cons, List.length_nil]
 go_wp2_with fail
 refine Calls.mono (HEV.out _ _ true (by go_grown) (Bz_four w11 true) 10) ?_
 rintro e w12 ⟨rfl, hb12⟩
 rw [t3e]
 have hbx : Below w11.heap.size w11 w12 := Below.trans (by go_grown) (hb12.mono (by simp))
 have c1' : w12.cell? ⟨r7, o7 + 1, none⟩ = some (.int .i64 12) := bel_cell hbx hlr c1
 have HX : Hid (Below w11.heap.size w11 w12) := hbx
 clear hb12 hbx c0 c1
 have hlr2 : r7 < w12.heap.size := World.block_lt_of_cell? _ _ c1'
 dsimp only
 go_wp2_with fail
 refine Calls.mono (HEV.out _ _ false (HX.out.trans (Below.mono (B := w12.heap.size) (by go_grown) HX.out.size)) (Bz_four w12 false) 12) ?_
 rintro e w13 ⟨rfl, hb13⟩
 rw [t3f]
 have hby : Below w.heap.size w w13 := HWB.out.trans ((HX.out.trans (Below.trans (Below.mono (B := w12.heap.size) (by go_grown) HX.out.size) (hb13.mono (by simp; have := HX.out.size; omega)))).mono HWB.out.size)
 have HY : Hid (Below w.heap.size w w13) := hby
 clear hb13 hby
 dsimp only
 go_wp2_with fail
 go_ret
 exact ⟨rfl, HY.out⟩
theorem same_all (most : Int) (W : World) {a0 a1 : Option Addr} {c0 c1 : Nat} {l : List Nd} {ids : List Int} (hL : La W a0 l) (hok : ∀ n ∈ l, Ok n) (hmx : l.length ≤ maxLen) (hI : ids = [] ∨ ∃ r o, a1 = some ⟨r, o, none⟩ ∧ Li W r o ids) (hIl : ids.length ≤ maxLen) :
  Calls Tryz.prog 4 #[.slice a0 l.length c0, .slice a1 ids.length c1, .int .i64 most] W fun ev w' => ev = .returned (.bool true) ∧ Below W.heap.size W w' :=
 same_law known9 most W hL hok hmx hI hIl
end Go.Proofs.YtcahhahbcijkiaaGreat
