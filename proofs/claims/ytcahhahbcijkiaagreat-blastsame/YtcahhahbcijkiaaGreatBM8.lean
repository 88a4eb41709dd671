import Derived.Test.YtcahhahbcijkiaaGreatMg50
namespace Go.Proofs.YtcahhahbcijkiaaGreat
set_option maxHeartbeats 12800000
set_option maxRecDepth 100000
open Go.RowKit
set_option linter.unusedSimpArgs false
set_option linter.unusedVariables false
theorem wints {w : World} {D D' : Nat → Prop} {u v : Value} {L M : List Int} (h : Ag.Wd w D u L) (h' : Ag.Wd w D' v M) (hL : L ≠ []) (hM : M ≠ []) :
  Rt 19 #[u, v] w (.bool (decide (L = M))) := by
 obtain ⟨a, c, rfl, -, h2, -, h4⟩ := h.ex
 obtain ⟨a', c', rfl, -, h2', -, h4'⟩ := h'.ex
 obtain ⟨r, o, rfl, -, -, q⟩ := h4.resolve_left hL
 obtain ⟨r', o', rfl, -, -, q'⟩ := h4'.resolve_left hM
 exact Ag.ints_any q q' (by omega) (by omega)
theorem ints_ne {w : World} {a a' : Option Addr} {n n' c c' : Nat} (h : n ≠ n') :
  Rt 19 #[.slice a n c, .slice a' n' c'] w (.bool false) := by
 have hb : ((n : Int) != (n' : Int)) = true := by simp; omega
 go_enter Tryz.func19, Tryz.ntmps19
 go_wp2_with fail
 go_ret
 exact ⟨rfl, Below.refl _ _⟩
def alL (z : Zb) (t : Nat) : List Int := (z.ids.take t).flatMap z.gf
theorem alL_step {z : Zb} {t : Nat} {id : Int} (h : z.ids[t]? = some id) : alL z (t + 1) = alL z t ++ z.gf id := by
 unfold alL; rw [List.take_add_one, h]; simp
theorem alL_len (z : Zb) (t : Nat) : (alL z t).length ≤ (z.ids.flatMap z.gf).length := by
 have : z.ids.flatMap z.gf = alL z t ++ (z.ids.drop t).flatMap z.gf := by
  unfold alL
  rw [← List.flatMap_append, List.take_append_drop]
 rw [this, List.length_append]; omega
structure BS (ns : List Nd) (mo : Nat) (w0 w : World) (bl g tg mk : Nat) : Prop where
 ex : ∃ F nv z, Bh ns ⟨w0, fun _ => False⟩ w F bl g tg mk nv z.f z.ids ∧ Ag.Gr w F g mo z.ks ∧ Zok ns mo z
theorem BS.bw {ns : List Nd} {mo : Nat} {w0 w : World} {bl g tg mk : Nat} (h : BS ns mo w0 w bl g tg mk) : Below w0.heap.size w0 w := by
 obtain ⟨F, nv, z, h1, -⟩ := h.ex
 exact h1.bw.below
theorem zok_new (ns : List Nd) (mo : Nat) : Zok ns mo ⟨fun _ => none, [], [(0, 0)]⟩ := by
 refine ⟨(fun id L e => by cases e), (fun id h => nomatch h), Or.inl ?_, by simp, by simp⟩
 decide
theorem same_law (hkn : ∀ w, Calls Tryz.prog 5 #[] w fun ev w' => ev = .returned (.bool true) ∧ Below w.heap.size w w') (most : Int) (W : World) {a0 a1 : Option Addr} {c0 c1 : Nat} {l : List Nd} {ids : List Int} (hL : La W a0 l) (hok : ∀ n ∈ l, Ok n) (hmx : l.length ≤ maxLen) (hI : ids = [] ∨ ∃ r o, a1 = some ⟨r, o, none⟩ ∧ Li W r o ids) (hIl : ids.length ≤ maxLen) :
  Calls Tryz.prog 4 #[.slice a0 l.length c0, .slice a1 ids.length c1, .int .i64 most] W fun ev w' => ev = .returned (.bool true) ∧ Below W.heap.size W w' := by
 have HKN : Hid _ := hkn
 have HLA : Hid (La W a0 l ∧ (∀ n ∈ l, Ok n) ∧ l.length ≤ maxLen) := ⟨hL, hok, hmx⟩
 have HII : Hid (ids = [] ∨ ∃ r o, a1 = some ⟨r, o, none⟩ ∧ Li W r o ids) := hI
 obtain ⟨n0, hn0⟩ : ∃ n, n = l.length := ⟨_, rfl⟩
 obtain ⟨n1, hn1⟩ : ∃ n, n = ids.length := ⟨_, rfl⟩
 have HN : Hid (n0 = l.length ∧ n1 = ids.length) := ⟨hn0, hn1⟩
 have hn1m : (n1 : Int) ≤ 9223372036854775807 := by unfold maxLen at hIl; omega
 rw [← hn0, ← hn1]
 clear hkn hL hok hmx hI hIl hn0 hn1
 go_enter Tryz.func4, Tryz.ntmps4
 go_wp2_with fail
 refine Calls.mono (HKN.out W) ?_
 rintro ev w1 ⟨rfl, hb1⟩
 have HB1 : Hid (Below W.heap.size W w1) := hb1
 clear hb1 HKN
 have HMD : Hid (Calls Tryz.prog 6 #[.slice a0 n0 c0] w1 (MdE w1)) := by
  unfold Hid; rw [HN.out.1]
  refine made9_any w1 ?_ HLA.out.2.1 HLA.out.2.2
  rcases HLA.out.1 with e | ⟨gl, o, e1, e2, e3⟩
  ·exact Or.inl e
  ·exact Or.inr ⟨gl, o, e1, Nat.lt_of_lt_of_le e2 HB1.out.size, fun k m hm j x hj => bel_cell HB1.out e2 (e3 k m hm j x hj)⟩
 go_wp2_with fail
 refine Calls.mono HMD.out ?_
 rintro ev w2 hmd
 rcases hmd with ⟨p, rfl, hb2⟩ | ⟨tg, mi, mv, v, ns, rfl, hG2, hNk, hpos, h40, hs40, hb2⟩
 ·have HB2 : Hid (Below W.heap.size W w2) := HB1.out.trans (hb2.mono HB1.out.size)
  clear hb2 HMD
  go_wp2_with fail
  go_ret
  exact ⟨rfl, HB2.out⟩
 have HB2 : Hid (Below W.heap.size W w2) := HB1.out.trans (hb2.mono HB1.out.size)
 have HG2 : Hid (Gr w2 w1.heap.size tg mi mv v 4096 ns ∧ Nk ns ∧ 0 < ns.length ∧ ns.length ≤ 40 ∧ ∀ n ∈ ns, n.s ≤ 40) := ⟨hG2, hNk, hpos, h40, hs40⟩
 clear hb2 HMD hG2 hNk hpos h40 hs40
 by_cases hl20 : n1 ≤ 20
 rotate_left
 ·have hl20I : (20 : Int) < (n1 : Int) := by omega
  go_wp2_with fail
  go_ret
  exact ⟨rfl, HB2.out⟩
 have hl20I : ¬ (20 : Int) < (n1 : Int) := by omega
 obtain ⟨mo, hmo⟩ : ∃ mo, mo = Ag.roomOf most := ⟨_, rfl⟩
 have HMO : Hid (mo = Ag.roomOf most) := hmo
 have HAN : Hid _ := Ag.gnew_any most w2
 rw [← hmo] at HAN
 clear hmo
 go_wp2_with fail
 refine Calls.mono HAN.out ?_
 rintro ev w3 ⟨rfl, hb3, hz3, hG3⟩
 have HBN : Hid _ := bnew_any (ns := ns) (w0 := ⟨w2, fun _ => False⟩) (tg := tg) (Bel.of hb3) hG3 (fun k hk => hk.2) (fun k hk => Or.inr hk.1)
 have HB3 : Hid (Below w2.heap.size w2 w3) := hb3
 obtain ⟨gA, hgA⟩ : ∃ gA, gA = w2.heap.size + 2 := ⟨_, rfl⟩
 rw [← hgA] at HBN ⊢
 clear hb3 hz3 hG3 HAN hgA
 go_wp2_with fail
 refine Calls.mono HBN.out ?_
 rintro ev w4 ⟨rfl, hB4, hG4, hb4⟩
 obtain ⟨bl, hbl⟩ : ∃ bl, bl = w3.heap.size + 1 := ⟨_, rfl⟩
 obtain ⟨mk, hmk⟩ : ∃ mk, mk = w3.heap.size := ⟨_, rfl⟩
 rw [← hbl, ← hmk] at hB4
 rw [← hmk] at hG4
 rw [← hbl]
 have HS4 : Hid (BS ns mo w2 w4 bl gA tg mk) := ⟨_, _, ⟨fun _ => none, [], [(0, 0)]⟩, hB4, hG4, zok_new ns mo⟩
 clear hB4 hG4 hb4 HBN hbl hmk
 go_wp2_with fail
 go_loopw [11] (fun i wr => ∃ k : Nat, k ≤ 2 ∧ i = .int .i64 (k : Int) ∧ Hid (BS ns mo w2 wr bl gA tg mk)) (fun i wr => 2 - (intOf i).toNat)
 case atStart => exact ⟨0, Nat.zero_le _, rfl, HS4.out⟩
 case round =>
  obtain ⟨k, hk, rfl, hH⟩ := hrel
  by_cases hk2 : k < 2
  ·have hk2I : (k : Int) < 2 := by omega
   go_wp2_with fail
   go_loopw [12] (fun i wr => ∃ j : Nat, j ≤ n1 ∧ i = .int .i64 (j : Int) ∧ Hid (BS ns mo w2 wr bl gA tg mk)) (fun i wr => n1 - (intOf i).toNat)
   case atStart => exact ⟨0, Nat.zero_le _, rfl, hH.out⟩
   case round =>
    obtain ⟨j, hj, rfl, hJ⟩ := hrel
    by_cases hj1 : j < n1
    ·have hjI : (j : Int) < (n1 : Int) := by omega
     have hjl : j < ids.length := by rw [← HN.out.2]; exact hj1
     obtain ⟨r, o, hr1, hr2⟩ := HII.out.resolve_left (fun e => by rw [e] at hjl; simp at hjl)
     subst hr1
     have hcW := hr2 j hjl
     have hbw : Below W.heap.size W wr := HB2.out.trans (hJ.out.bw.mono HB2.out.size)
     have hcj : wr.cell? ⟨r, o + j, none⟩ = some (.int .i64 (ids.getD j 0)) := bel_cell hbw (World.block_lt_of_cell? _ _ hcW) hcW
     obtain ⟨y, hy⟩ : ∃ y, y = ids.getD j 0 := ⟨_, rfl⟩
     rw [← hy] at hcj
     have hrj : r < wr.heap.size := World.block_lt_of_cell? _ _ hcj
     obtain ⟨N, hNN⟩ : ∃ N, N = ns.length := ⟨_, rfl⟩
     have hN0 : 0 < N := by rw [hNN]; exact HG2.out.2.2.1
     have hN40 : N ≤ 40 := by rw [hNN]; exact HG2.out.2.2.2.1
     have HNN : Hid (N = ns.length) := hNN
     obtain ⟨P, hP, hPN⟩ : ∃ P : Nat, (P : Int) = y % (N : Int) ∧ P < N := by
      have e1 := Int.emod_nonneg y (show (N : Int) ≠ 0 by omega)
      have e2 := Int.emod_lt_of_pos y (show (0 : Int) < (N : Int) by omega)
      exact ⟨(y % (N : Int)).toNat, by omega, by omega⟩
     have HLE : Hid (∀ wx, Below wr.heap.size wr wx → Calls Tryz.prog 8 #[.pointer (some ⟨tg, 0, none⟩)] wx fun e w' => e = .returned (.int .i64 (N : Int)) ∧ w' = wx) := fun wx hb => by
      rw [HNN.out]
      exact glen_any ((HG2.out.1.below hJ.out.bw).below hb)
     have HPL : Hid (∀ wx, Calls Tryz.prog 7 #[.int .i64 y, .int .i64 (N : Int)] wx fun e w' => e = .returned (.int .i64 (P : Int)) ∧ w' = wx) := fun wx => by rw [hP]; exact Ag.place_any (by omega) (by omega) wx
     clear hcW hr2 hbw hy hP hNN hjl
     go_wp2_with fail
     go_quiet (first | (go_at_call 8; refine Calls.quiet_of_same (HLE.out _ (below_drewN (Below.refl _ _) _))) | (go_at_call 7; refine Calls.quiet_of_same (HPL.out _)))
     obtain ⟨wx, hwx⟩ : ∃ wx, wx = wr.drewN nq := ⟨_, rfl⟩
     have HBX : Hid (Below wr.heap.size wr wx) := by unfold Hid; rw [hwx]; exact below_drewN (Below.refl _ _) _
     rw [← hwx]
     clear hwx hcj
     obtain ⟨id, hid⟩ : ∃ id, id = 1 + (P : Int) := ⟨_, rfl⟩
     rw [← hid]
     obtain ⟨m, hm⟩ : ∃ m, ns[P]? = some m := ⟨_, List.getElem?_eq_getElem (by rw [← HNN.out]; exact hPN)⟩
     have HID : Hid (1 ≤ id ∧ id ≤ (ns.length : Int) ∧ nAt ns id = m ∧ ns[P]? = some m ∧ id = (P : Int) + 1 ∧ m.s ≤ 40 ∧ 0 ≤ m.s) := by
      have h8 := HNN.out
      have hmn := List.mem_of_getElem? hm
      exact ⟨by omega, by omega, by rw [hid, show 1 + (P : Int) = (P : Int) + 1 by omega]; exact nAt_of hm, hm, by omega, HG2.out.2.2.2.2 m hmn, (HG2.out.1.inv.sorts m hmn).1⟩
     have hidw : w64 id := by unfold w64; omega
     clear hid hm
     obtain ⟨F1, nv1, z1, hB1, hG1, hZ1⟩ := hJ.out.ex
     have HTE : Hid _ := term_any (mo := mo) (Gt.of HG2.out.1) HG2.out.2.1 (hB1.below HBX.out) (hG1.below HBX.out) hZ1 hidw
     have HCN : Hid (coneL ns id ≠ [] ∧ id ∈ coneL ns id) := by
      have := cone_self HG2.out.1.inv HID.out.1 HID.out.2.1
      exact ⟨fun e => by rw [e] at this; simp at this, this⟩
     obtain ⟨R, hR⟩ : ∃ R, R = teF ns mo z1 id := ⟨_, rfl⟩
     rw [← hR] at HTE
     clear hB1 hG1 hR
     go_wp2_with fail
     refine Calls.mono HTE.out ?_
     rintro ev w5 ⟨u5, rfl, ⟨a5, n5, c5, hu5⟩, F5, nv5, hB5, hG5, hC5, hZ5, hW5, hE5, hU5⟩
     subst hu5
     have HB5 : Hid (Bh ns ⟨w2, fun _ => False⟩ w5 F5 bl gA tg mk nv5 R.1.f R.1.ids ∧ Ag.Gr w5 F5 gA mo R.1.ks ∧ Zok ns mo R.1) := ⟨hB5, hG5, hZ5⟩
     have HW5 : Hid (R.2 = 0 → Ag.Wd w5 (DB F5 bl mk nv5) (.slice a5 n5 c5) (R.1.gf id) ∧ ∀ x ∈ coneL ns id, (R.1.f x).isSome = true) := hW5
     have HE5 : Hid (R.2 ≠ 0 → R.2 = 81 ∧ R.1.ks.length = mo + 1) := fun e => hE5 e HCN.out.1
     have HND : Hid _ := Ag.nodes_any hG5
     have HTF : Hid _ := term_any (mo := mo) (Gt.of HG2.out.1) HG2.out.2.1 hB5 hG5 hZ5 hidw
     obtain ⟨R2, hR2⟩ : ∃ R2, R2 = teF ns mo R.1 id := ⟨_, rfl⟩
     rw [← hR2] at HTF
     have HAG : Hid (R.2 = 0 → R2 = (R.1, 0)) := fun e => by rw [hR2]; exact teF_again HCN.out.1 (hW5 e).2
     obtain ⟨nn, hnn⟩ : ∃ nn : Int, nn = (R.1.ks.length : Int) - 1 := ⟨_, rfl⟩
     rw [← hnn] at HND
     have HNN5 : Hid (nn = (R.1.ks.length : Int) - 1) := hnn
     clear hB5 hG5 hC5 hZ5 hW5 hE5 hU5 hnn hR2 HTE hZ1 hJ
     obtain ⟨re, hre⟩ : ∃ re, re = R.2 := ⟨_, rfl⟩
     have HRE : Hid (re = R.2) := hre
     rw [← hre]
     clear hre
     go_wp2_with fail
     refine Calls.mono HND.out ?_
     rintro ev w6 ⟨rfl, hw6⟩
     obtain rfl : w5 = w6 := hw6.symm
     clear hw6 HND
     go_wp2_with fail
     refine Calls.mono HTF.out ?_
     rintro ev w7 ⟨u7, rfl, ⟨a7, n7, c7, hu7⟩, F7, nv7, hB7, hG7, hC7, hZ7, hW7, hE7, hU7⟩
     subst hu7
     have HB7 : Hid (Bh ns ⟨w2, fun _ => False⟩ w7 F7 bl gA tg mk nv7 R2.1.f R2.1.ids ∧ Ag.Gr w7 F7 gA mo R2.1.ks ∧ Zok ns mo R2.1) := ⟨hB7, hG7, hZ7⟩
     have HC7 : Hid (Ag.Ch w5 w7 (DB F5 bl mk nv5) (DB F7 bl mk nv7) ∧ R.1.ks.length ≤ R2.1.ks.length) := ⟨hC7, hU7⟩
     have HW7 : Hid (R2.2 = 0 → Ag.Wd w7 (DB F7 bl mk nv7) (.slice a7 n7 c7) (R2.1.gf id)) := fun e => (hW7 e).1
     have HNY : Hid (Rt 18 #[.pointer (some ⟨tg, 0, none⟩), .int .i64 id] w7 (.tuple #[.agg #[.int .i64 m.op, .int .i64 m.s, .int .i64 m.a, .int .i64 m.b, .int .i64 m.c, .int .i64 m.p, .int .i64 m.q, .int .i64 m.w, .int .u64 m.lo, .int .u64 m.hi, .string m.nm], .bool true])) := by
      unfold Hid; rw [HID.out.2.2.2.2.1]; exact node_yes (HG2.out.1.below hB7.bw.below) HID.out.2.2.2.1
     obtain ⟨rf, hrf⟩ : ∃ rf, rf = R2.2 := ⟨_, rfl⟩
     have HRF : Hid (rf = R2.2) := hrf
     rw [← hrf]
     clear hB7 hG7 hC7 hZ7 hW7 hE7 hU7 hrf HTF
     go_wp2_with fail
     refine Calls.mono HNY.out ?_
     rintro ev w8 ⟨rfl, hb8⟩
     obtain ⟨w9, hw9⟩ : ∃ wb, wb = w8.alloc (.cells #[.int .i64 m.op, .int .i64 m.s, .int .i64 m.a, .int .i64 m.b, .int .i64 m.c, .int .i64 m.p, .int .i64 m.q, .int .i64 m.w, .int .u64 m.lo, .int .u64 m.hi, .string m.nm] 50) := ⟨_, rfl⟩
     have HB9 : Hid (Below w7.heap.size w7 w9) := by
      have : Below w8.heap.size w8 w9 := by rw [hw9]; go_grown
      exact hb8.trans (this.mono hb8.size)
     have HS9 : Hid (BS ns mo w2 w9 bl gA tg mk) := ⟨F7, nv7, R2.1, HB7.out.1.below HB9.out, HB7.out.2.1.below HB9.out, HB7.out.2.2⟩
     have HND9 : Hid _ := Ag.nodes_any (HB7.out.2.1.below HB9.out)
     have c91 : w9.cell? ⟨w8.heap.size, 1, none⟩ = some (.int .i64 m.s) := by rw [hw9]; exact Ag.cell_of (heap_alloc_new w8 _) 1 rfl
     have hl9 : w8.heap.size < w9.heap.size := World.block_lt_of_cell? _ _ c91
     clear hb8 HNY
     have hmoI : min (max most 1) 32768 = (mo : Int) := by
      have h8 := HMO.out
      unfold Ag.roomOf at h8
      omega
     by_cases he : re = 0
     rotate_left
     ·have hre81 : re = 81 := by rw [HRE.out]; exact (HE5.out (by rw [← HRE.out]; exact he)).1
      have hfull : ((R2.1.ks.length : Int) - 1) = (mo : Int) := by
       have h8 := (HE5.out (by rw [← HRE.out]; exact he)).2
       have h9 := HC7.out.2
       have h10 := HB7.out.2.2.room
       omega
      rw [hfull] at HND9
      subst hre81
      rw [hw9] at HND9 HS9
      have hmb : ((mo : Int) != (mo : Int)) = false := by simp
      clear hfull he
      go_wp2_with fail
      refine Calls.mono HND9.out ?_
      rintro ev w10 ⟨rfl, hw10⟩
      subst hw10
      go_wp2_with fail
      exact ⟨⟨j + 1, by omega, by go_num, HS9.out⟩, by simp [intOf]; omega⟩
     ·subst he
      have hR0 : R.2 = 0 := HRE.out.symm
      have hR2 := HAG.out hR0
      have hrf0 : rf = 0 := by rw [HRF.out, hR2]
      have hLn : (R.1.gf id).length = wl m.s ∧ R.1.gf id ≠ [] := by
       obtain ⟨L, hL⟩ := Option.isSome_iff_exists.1 ((HW5.out hR0).2 id HCN.out.2)
       have h8 := (HB5.out.2.2.wd id L hL).2.2.1
       rw [HID.out.2.2.1] at h8
       have e : R.1.gf id = L := by unfold Zb.gf; rw [hL]; rfl
       rw [e]
       refine ⟨h8, fun e2 => ?_⟩
       rw [e2] at h8
       unfold wl at h8
       simp at h8
       omega
      have HX9 : Hid (Ag.Wd w9 (DB F7 bl mk nv7) (.slice a5 n5 c5) (R.1.gf id)) := ((HW5.out hR0).1.ch HC7.out.1).below HB9.out
      have HY9 : Hid (Ag.Wd w9 (DB F7 bl mk nv7) (.slice a7 n7 c7) (R.1.gf id)) := by
       have h8 := (HW7.out (by rw [hR2])).below HB9.out
       rw [hR2] at h8
       exact h8
      have hn5 : (n5 : Int) = max m.s 1 := by
       obtain ⟨a, c, e, -, -⟩ := HX9.out.sl
       injection e with e1 e2 e3
       rw [e2, hLn.1]; unfold wl; omega
      have HIN9 : Hid _ := wints HX9.out HY9.out hLn.2 hLn.2
      rw [show decide (R.1.gf id = R.1.gf id) = true by simp] at HIN9
      have hnn2 : (R2.1.ks.length : Int) - 1 = nn := by rw [hR2, HNN5.out]
      have HND10 : Hid (∀ wx, Below w9.heap.size w9 wx → Calls Tryz.prog 12 #[.pointer (some ⟨gA, 0, none⟩)] wx fun e w' => e = .returned (.int .i64 nn) ∧ w' = wx) := fun wx hb => by
       rw [← hnn2]; exact Ag.nodes_any ((HB7.out.2.1.below HB9.out).below hb)
      have HS10 : Hid (∀ wx, Below w9.heap.size w9 wx → BS ns mo w2 wx bl gA tg mk ∧ wx.cell? ⟨w8.heap.size, 1, none⟩ = some (.int .i64 m.s)) := fun wx hb => ⟨⟨F7, nv7, R2.1, (HB7.out.1.below HB9.out).below hb, (HB7.out.2.1.below HB9.out).below hb, HB7.out.2.2⟩, bel_cell hb hl9 c91⟩
      have hnb : (nn != nn) = false := by simp
      have hnmx : ((n5 : Int) != max m.s 1) = false := by simp [hn5]
      subst hrf0
      have HN5 : Hid ((n5 : Int) = max m.s 1) := hn5
      clear hR0 hR2 hLn hn5 hnn2 HND9 HX9 HY9
      rw [hw9] at HIN9
      go_wp2_with fail
      refine Calls.mono HIN9.out ?_
      rintro ev w10 ⟨rfl, hb10⟩
      rw [← hw9] at hb10
      have HB10 : Hid (Below w9.heap.size w9 w10) := hb10
      clear hb10
      go_wp2_with fail
      refine Calls.mono (HND10.out w10 HB10.out) ?_
      rintro ev w11 ⟨rfl, hw11⟩
      subst hw11
      obtain ⟨hS11, c11⟩ := HS10.out _ HB10.out
      have HS11 : Hid (BS ns mo w2 w11 bl gA tg mk) := hS11
      have hl11 : w8.heap.size < w11.heap.size := World.block_lt_of_cell? _ _ c11
      clear hS11 hw9 c91 hl9
      go_wp2_with fail
      exact ⟨⟨j + 1, by omega, by go_num, HS11.out⟩, by simp [intOf]; omega⟩
    ·obtain rfl : j = n1 := by omega
     have hjI : ¬ (j : Int) < (j : Int) := by omega
     go_wp2_with fail
     exact ⟨⟨k + 1, by omega, by go_num, hJ.out⟩, by simp [intOf]; omega⟩
  ·obtain rfl : k = 2 := by omega
   obtain ⟨F, nv, z, hBE, hGE, hZE⟩ := hH.out.ex
   obtain ⟨wE, hwE⟩ : ∃ wE, wE = wr := ⟨_, rfl⟩
   subst hwE
   have HBE : Hid (Bh ns ⟨w2, fun _ => False⟩ wE F bl gA tg mk nv z.f z.ids ∧ Ag.Gr wE F gA mo z.ks ∧ Zok ns mo z) := ⟨hBE, hGE, hZE⟩
   have hMb : z.ids.length ≤ 40000 := by have := hZE.ids_len; have := hZE.room; have := hGE.len.2; omega
   have hAb : (z.ids.flatMap z.gf).length ≤ 40000 ∧ (Ag.insL z.ks).length ≤ 40000 := by
    have h8 := Ag.insL_len z.ks
    have h9 := hZE.room
    have h10 := hGE.len.2
    refine ⟨?_, by omega⟩
    rcases hZE.ins with q | ⟨-, q⟩
    ·rw [← q]; omega
    ·omega
   have HAB : Hid ((z.ids.flatMap z.gf).length ≤ 40000 ∧ (Ag.insL z.ks).length ≤ 40000) := hAb
   have HNM : Hid _ := bnames_any hBE (by omega)
   obtain ⟨M, hM⟩ : ∃ M, M = z.ids.length := ⟨_, rfl⟩
   rw [← hM] at HNM hMb
   have HM : Hid (M = z.ids.length) := hM
   obtain ⟨tj, jt0, jz0, jz1, jz2⟩ := info_any (Ag.infoInt)
   have HJI : Hid _ := (⟨jt0, jz0, jz1, jz2⟩ : Tryz.prog.info? 3 = some tj ∧ tj.zero = _ ∧ tj.size = 1 ∧ tj.bytes = 8)
   clear jt0 jz0 jz1 jz2 hBE hGE hZE hH hAb hM
   go_wp2_with fail
   refine Calls.mono HNM.out ?_
   rintro ev wN ⟨un, rfl, hrN, hbN⟩
   have HRN : Hid (wN.ownsRow wE.heap.size 9 1 un M (nmV ns z.ids)) := hrN
   have HBN2 : Hid (Below wE.heap.size wE wN) := hbN
   obtain ⟨aN, nN, cN, huN, hnN⟩ : ∃ a n c, un = .slice a n c ∧ n = M := by
    rcases hrN.2 with ⟨e1, e2⟩ | ⟨q, cap, cur, e1, -⟩
    ·exact ⟨none, 0, 0, e1, e2.symm⟩
    ·exact ⟨_, _, _, e1, rfl⟩
   subst huN
   subst hnN
   clear hrN hbN HNM
   go_wp2_with fail
   go_loopw [21, 23] (fun q i wr => ∃ t : Nat, t ≤ nN ∧ i = .int .i64 (t : Int) ∧ Hid (Ag.Is' wr wN.heap.size q (alL z t) ∧ Below wN.heap.size wN wr)) (fun q i wr => nN - (intOf i).toNat)
   case atStart => exact ⟨0, Nat.zero_le _, rfl, World.ownsRow_nil _ _ _ _, Below.refl _ _⟩
   case round =>
    obtain ⟨t, ht, rfl, hJ⟩ := hrel
    obtain ⟨q, hqq⟩ : ∃ q, q = u21 := ⟨_, rfl⟩
    rw [← hqq] at hJ ⊢
    clear hqq
    have HBR : Hid (Below wE.heap.size wE wr) := HBN2.out.trans (hJ.out.2.mono HBN2.out.size)
    have HBh : Hid (Bh ns ⟨w2, fun _ => False⟩ wr F bl gA tg mk nv z.f z.ids ∧ Ag.Gr wr F gA mo z.ks) := ⟨HBE.out.1.below HBR.out, HBE.out.2.1.below HBR.out⟩
    obtain ⟨qa, qn, qc, hqv, hqn⟩ : ∃ a n c, q = .slice a n c ∧ n = (alL z t).length := by
     rcases hJ.out.1.2 with ⟨e1, e2⟩ | ⟨r, cap, cur, e1, -⟩
     ·exact ⟨none, 0, 0, e1, e2.symm⟩
     ·exact ⟨_, _, _, e1, rfl⟩
    subst hqv
    have HQN : Hid (qn = (alL z t).length) := hqn
    have hqnb : qn ≤ 40000 := by rw [hqn]; have := alL_len z t; have := HAB.out.1; omega
    clear hqn
    by_cases hlt : t < nN
    ·have hltI : (t : Int) < (nN : Int) := by omega
     obtain ⟨id, hid⟩ : ∃ id, z.ids[t]? = some id := ⟨_, List.getElem?_eq_getElem (by rw [← HM.out]; exact hlt)⟩
     obtain ⟨hks, hop⟩ := HBE.out.2.2.vs id (List.mem_of_getElem? hid)
     obtain ⟨L, hL⟩ := Option.isSome_iff_exists.1 hks
     obtain ⟨hi1, hi2, hLl, -⟩ := HBE.out.2.2.wd id L hL
     obtain ⟨P, hP⟩ : ∃ P : Nat, id = (P : Int) + 1 := ⟨(id - 1).toNat, by omega⟩
     obtain ⟨m, hm⟩ : ∃ m, ns[P]? = some m := ⟨_, List.getElem?_eq_getElem (by omega)⟩
     have hAt : nAt ns id = m := by rw [hP]; exact nAt_of hm
     rw [hAt] at hop hLl
     have hmn := List.mem_of_getElem? hm
     have hva : varAt ns m.nm = id := by rw [hP]; exact varAt_some HG2.out.1.inv hm hop rfl
     have hnm2 : m.nm.size ≤ maxLen := by have := HG2.out.2.1.nm m hmn; unfold maxLen; omega
     have hs0 := (HG2.out.1.inv.sorts m hmn).1
     have hs1 := HG2.out.2.2.2.2 m hmn
     have hidw : w64 id := by have := HG2.out.2.2.2.1; unfold w64; omega
     have hnv : (nmV ns z.ids)[t]? = some (.string m.nm) := by unfold nmV; rw [List.getElem?_map, hid]; show some (Value.string (nAt ns id).nm) = _; rw [hAt]
     obtain ⟨rN, rfl, hcN⟩ : ∃ rN, aN = some ⟨rN, 0, none⟩ ∧ wr.cell? ⟨rN, t, none⟩ = some (.string m.nm) := by
      rcases HRN.out.2 with ⟨e1, e2⟩ | ⟨r, cap, cur, e1, hb, hg, -⟩
      ·omega
      ·injection e1 with e1
       refine ⟨r, e1, ?_⟩
       have h8 := HRN.out.cells (g := r) (by rw [e1]; rfl) t _ hnv
       have e9 : (⟨r, 0, none⟩ : Addr).add t = ⟨r, t, none⟩ := by simp [Addr.add]; try (intro hq; exact hq.symm)
       rw [e9] at h8
       exact bel_cell hJ.out.2 (World.block_lt_of_cell? _ _ h8) h8
     have hrN : rN < wr.heap.size := World.block_lt_of_cell? _ _ hcN
     have HVA : Hid _ := bvar_any (mo := mo) (Gt.of HG2.out.1) HBh.out.1 HBE.out.2.2 hnm2 hva hi1 hidw hL
     obtain ⟨n5, hn5⟩ : ∃ n, n = L.length := ⟨_, rfl⟩
     rw [← hn5] at HVA
     have hn5m : ((n5 : Int) != max m.s 1) = false := by
      have : (n5 : Int) = max m.s 1 := by rw [hn5, hLl]; unfold wl; omega
      simp [this]
     have hn5b : n5 ≤ 100 := by rw [hn5, hLl]; unfold wl; omega
     have HID : Hid (z.ids[t]? = some id ∧ z.f id = some L ∧ n5 = L.length ∧ 0 < L.length ∧ ns[P]? = some m ∧ id = (P : Int) + 1) := ⟨hid, hL, hn5, by rw [hLl]; unfold wl; omega, hm, hP⟩
     have HGV : Hid (∀ wx, Below wE.heap.size wE wx → Calls Tryz.prog 22 #[.pointer (some ⟨tg, 0, none⟩), .string m.nm] wx fun e w' => e = .returned (.tuple #[.int .i64 id, .bool true]) ∧ w' = wx) := fun wx hb => by
      have h8 := var_any ((HG2.out.1.below HBE.out.1.bw.below).below hb) hnm2
      rw [hva, show (!decide (id = 0)) = true by simp; omega] at h8
      exact h8
     have HGN : Hid (∀ wx, Below wE.heap.size wE wx → Rt 18 #[.pointer (some ⟨tg, 0, none⟩), .int .i64 id] wx (.tuple #[.agg #[.int .i64 m.op, .int .i64 m.s, .int .i64 m.a, .int .i64 m.b, .int .i64 m.c, .int .i64 m.p, .int .i64 m.q, .int .i64 m.w, .int .u64 m.lo, .int .u64 m.hi, .string m.nm], .bool true])) := fun wx hb => by
      rw [HID.out.2.2.2.2.2]; exact node_yes ((HG2.out.1.below HBE.out.1.bw.below).below hb) HID.out.2.2.2.2.1
     clear hid hks hop hL hi1 hi2 hLl hP hm hAt hmn hva hnm2 hidw hnv hn5 hs0 hs1
     go_wp2_with fail
     refine Calls.mono HVA.out ?_
     rintro ev w5 ⟨u5, rfl, ⟨a5, c5, hu5⟩, hW5, hb5⟩
     subst hu5
     have HW5 : Hid (Ag.Wd w5 (DB F bl mk nv) (.slice a5 n5 c5) L) := hW5
     have HB5 : Hid (Below wr.heap.size wr w5) := hb5
     have HBE5 : Hid (Below wE.heap.size wE w5) := HBR.out.trans (hb5.mono HBR.out.size)
     have hcN5 : w5.cell? ⟨rN, t, none⟩ = some (.string m.nm) := bel_cell hb5 hrN hcN
     have hrN5 : rN < w5.heap.size := World.block_lt_of_cell? _ _ hcN5
     clear hW5 hb5 HVA
     go_wp2_with fail
     refine Calls.mono (HGV.out w5 HBE5.out) ?_
     rintro ev w6 ⟨rfl, hw6⟩
     obtain rfl : w5 = w6 := hw6.symm
     clear hw6
     go_wp2_with fail
     refine Calls.mono (HGN.out w5 HBE5.out) ?_
     rintro ev w7 ⟨rfl, hb7⟩
     obtain ⟨w8, hw8⟩ : ∃ wb, wb = w7.alloc (.cells #[.int .i64 m.op, .int .i64 m.s, .int .i64 m.a, .int .i64 m.b, .int .i64 m.c, .int .i64 m.p, .int .i64 m.q, .int .i64 m.w, .int .u64 m.lo, .int .u64 m.hi, .string m.nm] 50) := ⟨_, rfl⟩
     have hb8 : Below w5.heap.size w5 w8 := by
      have : Below w7.heap.size w7 w8 := by rw [hw8]; go_grown
      exact hb7.trans (this.mono hb7.size)
     have hbr8 : Below wr.heap.size wr w8 := HB5.out.trans (hb8.mono HB5.out.size)
     have HR8 : Hid (w8.ownsRow wN.heap.size 3 1 (.slice qa qn qc) qn ((alL z t).map (Value.int .i64)) ∧ Below wN.heap.size wN w8) := by
      have h8 : w8.ownsRow wN.heap.size 3 1 (.slice qa qn qc) (alL z t).length ((alL z t).map (Value.int .i64)) := Ag.row_kept hJ.out.1 hbr8.block
      rw [← HQN.out] at h8
      exact ⟨h8, hJ.out.2.trans (hbr8.mono hJ.out.2.size)⟩
     have HW8 : Hid (Ag.Wd w8 (DB F bl mk nv) (.slice a5 n5 c5) L) := HW5.out.below hb8
     obtain ⟨ax, cx, ex, -, -, -, hx4⟩ := HW8.out.ex
     obtain ⟨r9, o9, hr91, -, -, hLi9⟩ := hx4.resolve_left (fun e => by have := HID.out.2.2.2.1; rw [e] at this; simp at this)
     injection ex with ex1 ex2 ex3
     rw [hr91] at ex1
     subst ex1
     have HLI : Hid (Ag.Li w8 r9 o9 L) := hLi9
     have hsz8 := HR8.out.2.size
     clear hb7 hb8 hbr8 ex2 ex3 hx4 hLi9 hr91
     have HNL : Hid (n5 = L.length) := HID.out.2.2.1
     have HZG : Hid (z.gf id = L) := by unfold Hid Zb.gf; rw [HID.out.2.1]; rfl
     have c81 : w8.cell? ⟨w7.heap.size, 1, none⟩ = some (.int .i64 m.s) := by rw [hw8]; exact Ag.cell_of (heap_alloc_new w7 _) 1 rfl
     have hl8 : w7.heap.size < w8.heap.size := World.block_lt_of_cell? _ _ c81
     go_wp2_with (at_builtin; rw [← hw8]; refine wpList_append_own_at _ rfl _ _ 34 rfl wN.heap.size 3 tj _ 1 8 Ag.underInts HJI.out.1 HJI.out.2.1 HJI.out.2.2.1 HJI.out.2.2.2 rfl (by decide) (.slice qa qn qc) qn _ rfl HR8.out.1 ⟨r9, o9, none⟩ n5 c5 (L.map (Value.int .i64)) rfl (by rw [List.length_map, HNL.out, Nat.mul_one]) (Ag.li_at HLI.out) (fun u hu => by obtain ⟨y, -, rfl⟩ := List.mem_map.1 hu; rfl) (by unfold maxLen; omega) (by omega) hsz8 ?_; intro v1 w10 hown hgrow hnil hat)
     have hI10 : Ag.Is' w10 wN.heap.size v1 (alL z (t + 1)) := by
      unfold Ag.Is'
      rw [alL_step HID.out.1, HZG.out, List.length_append, List.map_append, ← HQN.out, ← HNL.out]
      exact hown
     have hb10 : Below wN.heap.size wN w10 := HR8.out.2.trans ⟨hgrow.os, hgrow.tape, hgrow.output, hgrow.size, fun k hk => hgrow.block k (by omega) (fun e => by have := (HR8.out.1.lt k e.symm).1; omega)⟩
     exact ⟨⟨t + 1, by omega, by go_num, hI10, hb10⟩, by simp [intOf]; omega⟩
    ·obtain rfl : t = nN := by omega
     have hltI : ¬ (t : Int) < (t : Int) := by omega
     have HIN : Hid _ := Ag.inputs_any HBh.out.2
     have HAE : Hid (alL z t = z.ids.flatMap z.gf) := by unfold Hid alL; rw [HM.out, List.take_length]
     have hmoI : min (max most 1) 32768 = (mo : Int) := by
      have h8 := HMO.out
      unfold Ag.roomOf at h8
      omega
     go_wp2_with fail
     refine Calls.mono HIN.out ?_
     rintro ev w5 ⟨u5, rfl, hI5, hb5⟩
     have HI5 : Hid (Ag.Is' w5 wr.heap.size u5 (Ag.insL z.ks)) := hI5
     have HQ5 : Hid (Ag.Is' w5 wN.heap.size (.slice qa qn qc) (z.ids.flatMap z.gf)) := by
      unfold Hid; rw [← HAE.out]; exact Ag.row_kept hJ.out.1 hb5.block
     have HB5 : Hid (Below W.heap.size W w5) := HB2.out.trans ((HBE.out.1.bw.below.trans ((HBR.out.trans (hb5.mono HBR.out.size)).mono HBE.out.1.bw.size)).mono HB2.out.size)
     have HND5 : Hid (∀ wx, Below w5.heap.size w5 wx → Calls Tryz.prog 12 #[.pointer (some ⟨gA, 0, none⟩)] wx fun e w' => e = .returned (.int .i64 ((z.ks.length : Int) - 1)) ∧ w' = wx) := fun wx hb => Ag.nodes_any ((HBh.out.2.below hb5).below hb)
     obtain ⟨a5, n6, c5, hu5, hn6⟩ : ∃ a n c, u5 = .slice a n c ∧ n = (Ag.insL z.ks).length := by
      rcases hI5.2 with ⟨e1, e2⟩ | ⟨r, cap, cur, e1, -⟩
      ·exact ⟨none, 0, 0, e1, e2.symm⟩
      ·exact ⟨_, _, _, e1, rfl⟩
     subst hu5
     have HN6 : Hid (n6 = (Ag.insL z.ks).length) := hn6
     have hn6b : n6 ≤ 40000 := by rw [hn6]; exact HAB.out.2
     clear hn6
     clear hI5 hb5 HIN
     rcases HBE.out.2.2.ins with hins | ⟨hfull, hmore⟩
     ·have HSM : Hid _ := Ag.ints_same (HQ5.out.rl (by have := HAB.out.1; omega)) (by have h8 := HI5.out; rw [hins] at h8; exact Ag.Is'.rl h8 (by have := HAB.out.1; omega))
      clear hins
      go_wp2_with fail
      refine Calls.mono HSM.out ?_
      rintro ev w6 ⟨rfl, hb6⟩
      have HB6 : Hid (Below W.heap.size W w6) := HB5.out.trans (hb6.mono HB5.out.size)
      clear hb6
      go_wp2_with fail
      refine bodyPost_ret (results_tmp rfl _ _ _) rfl ?_
      exact ⟨rfl, HB6.out⟩
     ·have hqn6 : qn < n6 := by rw [HQN.out, HN6.out, HAE.out]; exact hmore
      have hqnI : (qn : Int) < (n6 : Int) := by omega
      have hnd : (z.ks.length : Int) - 1 = (mo : Int) := by omega
      rw [hnd] at HND5
      have heq : ((mo : Int) == (mo : Int)) = true := by simp
      have HNE : Hid _ := ints_ne (w := w5) (a := qa) (a' := a5) (c := qc) (c' := c5) (n := qn) (n' := n6) (by omega)
      clear hfull hmore hnd
      go_wp2_with fail
      refine Calls.mono HNE.out ?_
      rintro ev w6 ⟨rfl, hb6⟩
      have HB6 : Hid (Below W.heap.size W w6 ∧ Below w5.heap.size w5 w6) := ⟨HB5.out.trans (hb6.mono HB5.out.size), hb6⟩
      clear hb6
      go_wp2_with fail
      refine Calls.mono (HND5.out w6 HB6.out.2) ?_
      rintro ev w7 ⟨rfl, hw7⟩
      obtain rfl : w6 = w7 := hw7.symm
      clear hw7
      go_wp2_with fail
      refine bodyPost_ret (results_tmp rfl _ _ _) rfl ?_
      exact ⟨rfl, HB6.out.1⟩
end Go.Proofs.YtcahhahbcijkiaaGreat
