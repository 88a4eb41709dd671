import Derived.Test.YtejljdbkocnhlaaGreatMg33
import Derived.Test.YtejljdbkocnhlaaGreatMg11
namespace Go.Proofs.YtejljdbkocnhlaaGreat
set_option maxHeartbeats 12800000
set_option maxRecDepth 100000
open Go.RowKit
set_option linter.unusedSimpArgs false
set_option linter.unusedVariables false
theorem mem_take {l : List Int} {j : Nat} {p q : Int} (h : l[j]? = some q) : (p ∈ l.take (j + 1)) ↔ (p ∈ l.take j ∨ q = p) := by
 rw [List.take_add_one, h]
 simp [eq_comm]
def OwI (ns : List Nd) (G : List (Int × Bt)) (J : Int) (w0 wr : World) (u : Value) (k : Nat) : Prop := Nv' wr w0.heap.size u (mixL ns G J k) ∧ Below w0.heap.size w0 wr
theorem walk_own_of {a a1 a2 : Option Addr} {c c1 c2 : Nat} {l : List Nd} {l1 l2 : List Nv} (id : Int) (w : World) (hL : La w a l) (hok : ∀ n ∈ l, Ok n) (hmx : l.length ≤ maxLen)
  (he1 : Le w a1 l1) (hk1 : ∀ b ∈ l1, Bk b.v) (hn1 : ∀ b ∈ l1, b.nm.size ≤ maxLen) (hm1 : l1.length ≤ 50)
  (he2 : Le w a2 l2) (hk2 : ∀ b ∈ l2, Bk b.v) (hn2 : ∀ b ∈ l2, b.nm.size ≤ maxLen) (hm2 : l2.length ≤ 50) :
  Rt 5 #[.slice a l.length c, .slice a1 l1.length c1, .slice a2 l2.length c2, .int .i64 id] w (.bool true) := by
 obtain ⟨A, hA⟩ := ap_fun
 have HMA : Hid (∀ wx, Below w.heap.size w wx → Calls Tryz.prog 8 #[.slice a l.length c] wx fun e w' => (e = .returned (.tuple #[.pointer none, .pointer none, .bool false]) ∧ Below wx.heap.size wx w') ∨ ∃ B D v u ns, e = .returned (.tuple #[.pointer (some ⟨B + 2, 0, none⟩), .pointer (some ⟨D, 0, none⟩), .bool true]) ∧ Tg wx w' B D v u 4096 ns ∧ Md ns ∧ ns.length ≤ 120) := fun wx hb => made_any wx (hL.below hb) hok hmx
 have HE1 : Hid (Le w a1 l1) := he1
 have HK1 : Hid _ := hk1
 have HN1 : Hid _ := hn1
 have HE2 : Hid (Le w a2 l2) := he2
 have HK2 : Hid _ := hk2
 have HN2 : Hid _ := hn2
 have HA : Hid _ := hA
 obtain ⟨n0, hn0⟩ : ∃ n, n = l.length := ⟨_, rfl⟩
 obtain ⟨n1, hn1'⟩ : ∃ n, n = l1.length := ⟨_, rfl⟩
 obtain ⟨n2, hn2'⟩ : ∃ n, n = l2.length := ⟨_, rfl⟩
 have HL1 : Hid _ := hn1'
 have HL2 : Hid _ := hn2'
 rw [← hn0] at HMA
 rw [← hn0, ← hn1', ← hn2']
 have hi1 : ¬ (50 : Int) < (n1 : Int) := by omega
 have hi2 : ¬ (50 : Int) < (n2 : Int) := by omega
 have hm1' : n1 ≤ 50 := by omega
 have hm2' : n2 ≤ 50 := by omega
 have hqe := eqb
 clear hL hok hmx he1 hk1 hn1 he2 hk2 hn2 hn0 hn1' hn2' hm1 hm2 hA
 go_enter Tryz.func5, Tryz.ntmps5
 go_wp2_with fail
 refine (known4 _).mono ?_
 rintro e w1 ⟨rfl, hb1⟩
 have HB1 : Hid _ := hb1
 clear hb1
 go_wp2_with fail
 refine (HMA.out _ HB1.out).mono ?_
 rintro e w2 (⟨rfl, hb2⟩ | ⟨B, D, v, u, ns, rfl, hT, hMd, hns⟩)
 ·go_wp2_with fail
  go_ret
  exact ⟨rfl, HB1.out.trans (hb2.mono HB1.out.size)⟩
 ·have HB2 : Hid (Below w.heap.size w w2) := HB1.out.trans (hT.bel.mono HB1.out.size)
  have HG : Hid _ := hT.gr
  have HMD : Hid _ := hMd
  have HV : Hid _ := hT.gr.inv
  obtain ⟨N, hN⟩ : ∃ N, N = ns.length := ⟨_, rfl⟩
  have HN : Hid _ := hN
  have HLN : Hid (∀ wx, Below w2.heap.size w2 wx → Calls Tryz.prog 17 #[.pointer (some ⟨B + 2, 0, none⟩)] wx fun e w' => e = .returned (.int .i64 (N : Int)) ∧ w' = wx) := fun wx hb => by rw [hN]; exact glen_any (HG.out.below hb)
  rw [← hN] at hns
  clear hT hMd hN HMA HB1
  by_cases h0 : N = 0
  ·subst h0
   go_wp2_with fail
   refine (HLN.out _ (Below.refl _ _)).mono ?_
   rintro e wq ⟨rfl, hq⟩
   rw [hq]
   clear hq wq
   go_wp2_with fail
   go_ret
   exact ⟨rfl, HB2.out⟩
  ·have hN0 : ((N : Int) == 0) = false := by simp; omega
   obtain ⟨P, hP, hPN⟩ : ∃ P : Nat, (P : Int) = id % (N : Int) ∧ P < N := by
    have h1 := Int.emod_nonneg id (show (N : Int) ≠ 0 by omega)
    have h2 := Int.emod_lt_of_pos id (show (0 : Int) < (N : Int) by omega)
    exact ⟨(id % (N : Int)).toNat, by omega, by omega⟩
   have HPL : Hid (∀ wx, Calls Tryz.prog 18 #[.int .i64 id, .int .i64 (N : Int)] wx fun e w' => e = .returned (.int .i64 (P : Int)) ∧ w' = wx) := fun wx => by rw [hP]; exact place_any (by omega) (by omega) wx
   clear hP
   obtain ⟨G, hGe⟩ : ∃ G, G = fvF ns l1 := ⟨_, rfl⟩
   have HGB : Hid (∀ p ∈ G, Bk p.2) := by unfold Hid; rw [hGe]; exact fvF_bk HK1.out
   have HCO : Hid (∀ wx, Below w2.heap.size w2 wx → Calls Tryz.prog 13 #[.pointer (some ⟨B + 2, 0, none⟩), .slice a1 n1 c1] wx fun e w' => ∃ u, e = .returned u ∧ Nv' w' wx.heap.size u ((vsF ns).map (cmpV ns G)) ∧ Below wx.heap.size wx w') := fun wx hb => by
    rw [hGe, HL1.out]
    exact comp_any (HG.out.below hb) (by rw [← HN.out]; omega) (Le.below HE1.out (HB2.out.trans (hb.mono HB2.out.size))) HN1.out (by rw [← HL1.out]; omega) (fvF_bk HK1.out)
   obtain ⟨E, hE⟩ : ∃ E, E = (vsF ns).map (cmpV ns G) := ⟨_, rfl⟩
   have HEE : Hid _ := hE
   have hEl : E.length ≤ 120 := by rw [hE, List.length_map]; have := vsF_len ns; have := HN.out; omega
   have HEB : Hid (∀ x ∈ E, Bk x.v) := by unfold Hid; rw [hE]; exact cmp_bk HV.out HGB.out
   have HEN : Hid (∀ x ∈ E, x.nm.size ≤ 100) := by unfold Hid; rw [hE]; exact cmp_names HMD.out.nm
   rw [← hE] at HCO
   obtain ⟨J, hJ⟩ : ∃ J : Int, J = 1 + (P : Int) := ⟨_, rfl⟩
   have hJn : J = ((P + 1 : Nat) : Int) := by omega
   obtain ⟨m, hm⟩ : ∃ m, ns[P]? = some m := ⟨_, List.getElem?_eq_getElem (by rw [← HN.out]; exact hPN)⟩
   obtain ⟨r, hr⟩ : ∃ r, r = vG A ns (fvF ns E) [] J := ⟨_, rfl⟩
   have hok : r.2.2 = 0 ∧ sof r.2.1 = m.s := by
    have h1 := vG_ok HA.out HV.out HMD.out.gd.nok HMD.out.gd.sok HMD.out.gd.upo (G := fvF ns E) (M := []) (fvF_bk HEB.out) ⟨(fun _ h => nomatch h), fun q v h => by simp [getM] at h⟩ (id := P + 1) (by omega) (by rw [← HN.out]; omega) (fun i n _ hi h2 => by rw [HEE.out]; exact comp_fits HV.out hi h2)
    rw [hr, hJn]
    refine ⟨h1.1, h1.2.2.trans (sAt_is (by rw [show (((P + 1 : Nat) : Int) - 1).toNat = P by omega]; exact hm))⟩
   obtain ⟨V, hVr⟩ : ∃ V : Bt, V = r.2.1 := ⟨_, rfl⟩
   have hVw : V.w = m.s := by rw [hVr]; exact sof_w hok.2 (HV.out.sorts m (List.mem_of_getElem? hm)).1
   have hVn : (V.w != m.s) = false := by rw [hVw]; simp
   have hJ64 : w64 (1 + (P : Int)) := by unfold w64; omega
   have HEV : Hid (∀ wx ad cd, Below w2.heap.size w2 wx → ∀ L : List Nv, Le wx ad L → L.length ≤ 1000 → (∀ x ∈ L, x.nm.size ≤ maxLen) → (∀ x ∈ L, Bk x.v) → vG A ns (fvF ns L) [] J = r → Rt 9 #[.pointer (some ⟨B + 2, 0, none⟩), .int .i64 (1 + (P : Int)), .slice ad L.length cd] wx (.tuple #[.agg #[.int .i64 V.w, .int .u64 V.lo, .int .u64 V.hi], .int .i64 0])) := fun wx ad cd hb L hLe hl hnm hbk hq => by
    have h1 := evalg (c := cd) HA.out (HG.out.below hb) HMD.out.gd.nok hLe hnm hl hbk hJ64
    rw [← hJ, hq, hok.1, ← hVr, hJ] at h1
    exact h1
   have HND : Hid (∀ wx, Below w2.heap.size w2 wx → Rt 19 #[.pointer (some ⟨B + 2, 0, none⟩), .int .i64 (1 + (P : Int))] wx (.tuple #[.agg #[.int .i64 m.op, .int .i64 m.s, .int .i64 m.a, .int .i64 m.b, .int .i64 m.c, .int .i64 m.p, .int .i64 m.q, .int .i64 m.w, .int .u64 m.lo, .int .u64 m.hi, .string m.nm], .bool true])) := fun wx hb => by
    rw [show 1 + (P : Int) = (P : Int) + 1 by omega]
    exact node_yes (HG.out.below hb) hm
   have HCN : Hid (∀ wx, Below w2.heap.size w2 wx → Calls Tryz.prog 20 #[.pointer (some ⟨B + 2, 0, none⟩), .int .i64 (1 + (P : Int))] wx fun e w' => ∃ u, e = .returned u ∧ Rl w' wx.heap.size u (coneL ns J) ∧ Below wx.heap.size wx w') := fun wx hb => by
    rw [hJ]; exact cone_any (HG.out.below hb) _
   have HR : Hid _ := hr
   clear hJn hm hr hok hVr hVw hJ64 hGe hE hJ
   go_wp2_with fail
   refine (HLN.out _ (Below.refl _ _)).mono ?_
   rintro e wq ⟨rfl, hq⟩
   rw [hq]
   clear hq wq
   go_wp2_with fail
   refine (HLN.out _ (Below.refl _ _)).mono ?_
   rintro e wq ⟨rfl, hq⟩
   rw [hq]
   clear hq wq
   go_wp2_with fail
   refine (HPL.out _).mono ?_
   rintro e wq ⟨rfl, hq⟩
   rw [hq]
   clear hq wq HPL HLN
   go_wp2_with fail
   refine (HCO.out _ (Below.refl _ _)).mono ?_
   rintro e w3 ⟨u3, rfl, hN3, hb3⟩
   obtain ⟨a3, c3, rfl, hL3⟩ := le_of hN3
   obtain ⟨n3, hn3⟩ : ∃ n, n = E.length := ⟨_, rfl⟩
   have HN3 : Hid _ := hn3
   have HL3 : Hid (Le w3 a3 E) := hL3
   have HB3 : Hid (Below w2.heap.size w2 w3) := hb3
   have HE3 : Hid (Rt 9 #[.pointer (some ⟨B + 2, 0, none⟩), .int .i64 (1 + (P : Int)), .slice a3 n3 c3] w3 (.tuple #[.agg #[.int .i64 V.w, .int .u64 V.lo, .int .u64 V.hi], .int .i64 0])) := by
    rw [hn3]
    exact HEV.out w3 a3 c3 hb3 E hL3 (by omega) (fun x hx => by have := HEN.out x hx; unfold maxLen; omega) HEB.out HR.out.symm
   rw [← hn3]
   rw [← hn3] at hEl
   clear hN3 hb3 hn3 hL3 HCO
   go_wp2_with fail
   refine HE3.out.mono ?_
   rintro e w4 ⟨rfl, hb4⟩
   have HB4 : Hid (Below w3.heap.size w3 w4) := hb4
   have s4 := hb4.size
   clear hb4 HE3
   go_wp2_with fail
   have hb4' : Below w2.heap.size w2 (w4.alloc (.cells #[.int .i64 V.w, .int .u64 V.lo, .int .u64 V.hi] 34)) := by
    have h1 := HB3.out.trans (HB4.out.mono HB3.out.size)
    exact h1.alloc h1.size _
   refine (HND.out _ hb4').mono ?_
   rintro e w5 ⟨rfl, hb5⟩
   have s5 := hb5.size
   rw [size_alloc'] at s5
   have hx5 : w5.heap[w4.heap.size]? = some (.cells #[.int .i64 V.w, .int .u64 V.lo, .int .u64 V.hi] 34) := (hb5.block _ (by rw [size_alloc']; omega)).trans (heap_alloc_new w4 _)
   have x0 : w5.cell? ⟨w4.heap.size, 0, none⟩ = some (.int .i64 V.w) := cell_of hx5 0 rfl
   have hl5 : w4.heap.size < w5.heap.size := by omega
   have HX5 : Hid _ := hx5
   have HB5 : Hid (Below w2.heap.size w2 w5) := hb4'.trans (hb5.mono hb4'.size)
   have HC5 : Hid (Below w3.heap.size w3 w5) := (HB4.out.alloc HB4.out.size (.cells #[.int .i64 V.w, .int .u64 V.lo, .int .u64 V.hi] 34)).trans (hb5.mono (by rw [size_alloc']; omega))
   clear hb5 hb4' hx5 HND HB4
   go_wp2_with fail
   obtain ⟨w6, hw6⟩ : ∃ w6, w6 = w5.alloc (.cells #[.int .i64 m.op, .int .i64 m.s, .int .i64 m.a, .int .i64 m.b, .int .i64 m.c, .int .i64 m.p, .int .i64 m.q, .int .i64 m.w, .int .u64 m.lo, .int .u64 m.hi, .string m.nm] 53) := ⟨_, rfl⟩
   rw [← hw6]
   have hb6 : Below w5.heap.size w5 w6 := by rw [hw6]; exact (Below.refl _ _).alloc (Nat.le_refl _) _
   refine (HCN.out _ (HB5.out.trans (hb6.mono HB5.out.size))).mono ?_
   rintro e w7 ⟨u7, rfl, hR7, hb7⟩
   have hb57 : Below w5.heap.size w5 w7 := hb6.trans (hb7.mono hb6.size)
   obtain ⟨a7, c7, rfl, hc7, hl7, hLi⟩ := hR7
   obtain ⟨M, hM⟩ : ∃ M, M = (coneL ns J).length := ⟨_, rfl⟩
   have HM : Hid _ := hM
   have HLI : Hid _ := hLi
   have HX7 : Hid (w7.heap[w4.heap.size]? = some (.cells #[.int .i64 V.w, .int .u64 V.lo, .int .u64 V.hi] 34)) := (hb57.block _ hl5).trans HX5.out
   have HG7 : Hid (Below w2.heap.size w2 w7) := HB5.out.trans (hb57.mono HB5.out.size)
   have HC7 : Hid (Below w3.heap.size w3 w7) := HC5.out.trans (hb57.mono HC5.out.size)
   have hs7 : w4.heap.size < w7.heap.size := by have := hb57.size; omega
   have hs37 : w3.heap.size ≤ w7.heap.size := by omega
   rw [← hM] at hc7 hl7
   rw [← hM]
   clear hw6 hb6 hb7 hb57 hLi hM HCN HX5 HB5 HC5 x0 hl5 s5 s4
   obtain ⟨ti, ht0, hz0, hz1, hz2⟩ := info_anyN infoN
   have HI : Hid _ := (⟨ht0, hz0, hz1, hz2⟩ : Tryz.prog.info? 60 = some ti ∧ ti.zero = _ ∧ ti.size = 4 ∧ ti.bytes = 40)
   clear ht0 hz0 hz1 hz2
   go_wp2_with fail
   go_loopw [17, 18] (fun u i wr => ∃ k : Nat, k ≤ n3 ∧ i = .int .i64 (k : Int) ∧ Hid (OwI ns G J w7 wr u k)) (fun u i wr => n3 - (intOf i).toNat)
   case atStart => exact ⟨0, Nat.zero_le _, rfl, World.ownsRow_nil _ _ _ _, Below.refl _ _⟩
   case round =>
    obtain ⟨k, hk, rfl, hH⟩ := hrel
    have hsr := hH.out.2.size
    have HBR : Hid (Below w3.heap.size w3 wr) := HC7.out.trans (hH.out.2.mono hs37)
    by_cases hlt : k < n3
    ·obtain ⟨p0, hp⟩ : ∃ p, (vsF ns)[k]? = some p := ⟨_, List.getElem?_eq_getElem (by have := HN3.out; rw [HEE.out, List.length_map] at this; omega)⟩
     obtain ⟨i, mv, hpi, hi, hi2⟩ := vs_var (List.mem_of_getElem? hp)
     obtain ⟨x, hx⟩ : ∃ x, x = cmpV ns G p0 := ⟨_, rfl⟩
     have hEk : E[k]? = some x := by rw [HEE.out, List.getElem?_map, hp, hx]; rfl
     obtain ⟨g3, o3, rfl, hg3, hc3⟩ := HL3.out.resolve_left (fun e => by rw [e] at hEk; simp at hEk)
     have hxn : x.nm.size ≤ 100 := HEN.out x (List.mem_of_getElem? hEk)
     have d0 : wr.cell? ⟨g3, o3 + k * 4, none⟩ = some (.string x.nm) := bel_cell HBR.out hg3 (hc3 k x hEk 0 _ rfl)
     have d1 : wr.cell? ⟨g3, o3 + k * 4 + 1, none⟩ = some (.int .i64 x.v.w) := bel_cell HBR.out hg3 (hc3 k x hEk 1 _ rfl)
     have d2 : wr.cell? ⟨g3, o3 + k * 4 + 2, none⟩ = some (.int .u64 x.v.lo) := bel_cell HBR.out hg3 (hc3 k x hEk 2 _ rfl)
     have d3 : wr.cell? ⟨g3, o3 + k * 4 + 3, none⟩ = some (.int .u64 x.v.hi) := bel_cell HBR.out hg3 (hc3 k x hEk 3 _ rfl)
     have hltI : (k : Int) < (n3 : Int) := by omega
     have HVA : Hid (Calls Tryz.prog 21 #[.pointer (some ⟨B + 2, 0, none⟩), .string x.nm] wr fun e w' => e = .returned (.tuple #[.int .i64 p0, .bool true]) ∧ w' = wr) := by
      have h1 := var_any (HG.out.below (HG7.out.trans (hH.out.2.mono HG7.out.size))) (s := x.nm) (by unfold maxLen; omega)
      rw [varAt_some HV.out hi hi2 (by rw [hx, hpi]; exact (cmp_nm hi).symm), ← hpi, show (!decide (p0 = 0)) = true by simp; omega] at h1
      exact h1
     have HSN : Hid (mixL ns G J (k + 1) = mixL ns G J k ++ (if p0 ∈ coneL ns J then [x] else [])) := by unfold Hid; rw [mix_snoc hp, hx]
     have HML : Hid ((mixL ns G J k).length ≤ 120) := by unfold Hid; have h1 := mix_len (ns := ns) (G := G) (id := J) (k := k); have := HN3.out; rw [HEE.out, List.length_map] at this; omega
     clear hp hi hi2 hx hEk hc3 hpi hxn
     go_wp2_with fail
     refine HVA.out.mono ?_
     rintro e wq ⟨rfl, hq⟩
     rw [hq]
     clear hq wq HVA
     go_wp2_with fail
     go_loopw [21, 22] (fun ow i wq => ∃ j : Nat, j ≤ M ∧ i = .int .i64 (j : Int) ∧ (∃ b : Bool, ow = .bool b ∧ Hid (b = decide (p0 ∈ (coneL ns J).take j))) ∧ wq = wr) (fun ow i wq => M - (intOf i).toNat)
     case atStart => exact ⟨0, Nat.zero_le _, rfl, ⟨false, rfl, by unfold Hid; simp⟩, rfl⟩
     case round =>
      obtain ⟨j, hj, rfl, ⟨b, rfl, hb⟩, rfl⟩ := hrel
      by_cases hl2 : j < M
      ·obtain ⟨q, hq⟩ : ∃ q, (coneL ns J)[j]? = some q := ⟨_, List.getElem?_eq_getElem (by rw [← HM.out]; exact hl2)⟩
       obtain ⟨r7, rfl, hr7, hli⟩ := HLI.out.resolve_left (fun e => by rw [e] at hq; simp at hq)
       have dq : wr.cell? ⟨r7, j, none⟩ = some (.int .i64 q) := by
        have h1 := hli j (by rw [← HM.out]; exact hl2)
        rw [Nat.zero_add, List.getD_eq_getElem?_getD, hq] at h1
        exact bel_cell hH.out.2 (World.block_lt_of_cell? _ ⟨r7, j, none⟩ h1) h1
       have HST : Hid (decide (p0 ∈ (coneL ns J).take (j + 1)) = (b || decide (q = p0))) := by
        unfold Hid
        rw [hb.out, ← Bool.decide_or]
        exact decide_eq_decide.2 (mem_take hq)
       have hlI : (j : Int) < (M : Int) := by omega
       clear hq hli hb
       cases b
       ·by_cases hqp : q = p0
        ·have hq1 : (q == p0) = true := by simp [hqp]
         have HQP : Hid _ := hqp
         clear hqp
         go_wp2_with fail
         exact ⟨⟨j + 1, by omega, by go_num, ⟨true, by first | rfl | trivial, by unfold Hid; rw [HST.out]; simp [HQP.out]⟩, by first | rfl | trivial⟩, by simp [intOf]; omega⟩
        ·have hq1 : (q == p0) = false := by simp [hqp]
         have HQP : Hid _ := hqp
         clear hqp
         go_wp2_with fail
         exact ⟨⟨j + 1, by omega, by go_num, ⟨false, by first | rfl | trivial, by unfold Hid; rw [HST.out]; simpa using HQP.out⟩, by first | rfl | trivial⟩, by simp [intOf]; omega⟩
       ·go_wp2_with fail
        exact ⟨⟨j + 1, by omega, by go_num, ⟨true, by first | rfl | trivial, by unfold Hid; rw [HST.out]; simp⟩, by first | rfl | trivial⟩, by simp [intOf]; omega⟩
      ·obtain rfl : j = M := by omega
       have hlI : ¬ (j : Int) < (j : Int) := by omega
       have HB : Hid (b = decide (p0 ∈ coneL ns J)) := by
        have h1 := hb.out
        rw [HM.out, List.take_length] at h1; exact h1
       clear hb
       cases b
       ·have HI2 : Hid (mixL ns G J (k + 1) = mixL ns G J k) := by
         unfold Hid
         rw [HSN.out, if_neg (by have := HB.out; simpa using this.symm), List.append_nil]
        go_wp2_with fail
        exact ⟨⟨k + 1, by omega, by go_num, ⟨by rw [HI2.out]; exact hH.out.1, hH.out.2⟩⟩, by simp [intOf]; omega⟩
       ·have HI2 : Hid (mixL ns G J (k + 1) = mixL ns G J k ++ [x]) := by
         unfold Hid
         rw [HSN.out, if_pos (by have := HB.out; simpa using this.symm)]
        go_wp2_with (at_builtin; refine wpList_append_own_at _ rfl _ _ 23 rfl w7.heap.size 60 ti (.agg #[.string ⟨#[]⟩, .int .i64 0, .int .u64 0, .int .u64 0]) 4 40 underN HI.out.1 HI.out.2.1 HI.out.2.2.1 HI.out.2.2.2 rfl (by decide) u17 _ _ rfl (row_kept hH.out.1 (fun _ hq => heap_alloc_old _ _ hq)) ⟨wr.heap.size, 0, none⟩ 1 1 [.string x.nm, .int .i64 x.v.w, .int .u64 x.v.lo, .int .u64 x.v.hi] rfl rfl (cells_new4 rfl) (one_nv x) (by have := HML.out; unfold maxLen; omega) (by have := HML.out; omega) (by rw [size_alloc']; omega) ?_; intro v6 w6 hown hgrow hnil hat)
        have hc6 : Below w7.heap.size w7 w6 := low_grown hH.out.2 hsr hgrow (fun q hq => (hH.out.1.lt q hq).1)
        have HO6 : Hid (Nv' w6 w7.heap.size v6 (mixL ns G J (k + 1))) := by
         unfold Hid Nv'
         rw [HI2.out, List.flatMap_append, List.length_append]
         exact hown
        clear hown hgrow hnil hat
        exact ⟨⟨k + 1, by omega, by go_num, ⟨HO6.out, hc6⟩⟩, by simp [intOf]; omega⟩
    ·obtain rfl : k = n3 := by omega
     have hltI : ¬ (k : Int) < (k : Int) := by omega
     have HML : Hid ((mixL ns G J k).length ≤ 120) := by unfold Hid; have h1 := mix_len (ns := ns) (G := G) (id := J) (k := k); have := HN3.out; rw [HEE.out, List.length_map] at this; omega
     have hb27 : Below w2.heap.size w2 wr := HG7.out.trans (hH.out.2.mono HG7.out.size)
     have hbw : Below w.heap.size w wr := HB2.out.trans (hb27.mono HB2.out.size)
     go_wp2_with (at_builtin; refine wpList_app_le rfl _ _ rfl w7.heap.size u17 _ _ rfl hH.out.1 a2 l2 c2 n2 rfl HL2.out (Le.below HE2.out hbw) (by have := HML.out; have := HL2.out; omega) hsr ?_; intro v8 w8 hown hgrow)
     have hN8 : Nv' w8 w7.heap.size v8 (mixL ns G J k ++ l2) := by
      unfold Nv'
      rw [List.flatMap_append, List.length_append]; exact hown
     obtain ⟨a8, c8, rfl, hL8⟩ := le_of hN8
     have h78 : Below w7.heap.size w7 w8 := hH.out.2.trans ⟨hgrow.os, hgrow.tape, hgrow.output, hgrow.size, fun b hb => hgrow.block b (by omega) (fun e => by have := (hH.out.1.lt b e.symm).1; omega)⟩
     have h28 : Below w2.heap.size w2 w8 := HG7.out.trans (h78.mono HG7.out.size)
     have HX8 : Hid (w8.heap[w4.heap.size]? = some (.cells #[.int .i64 V.w, .int .u64 V.lo, .int .u64 V.hi] 34)) := (h78.block _ hs7).trans HX7.out
     have HB8 : Hid (Below w.heap.size w w8) := HB2.out.trans (h28.mono HB2.out.size)
     have hs8 : w4.heap.size < w8.heap.size := by have := h78.size; omega
     have HE8 := HEV.out w8 a8 c8 h28 (mixL ns G J k ++ l2) hL8 (by rw [List.length_append]; have := HML.out; have := HL2.out; omega) (fun x hx => by
      rcases List.mem_append.1 hx with hx | hx
      ·have h1 := mix_sub x hx
       rw [← HEE.out] at h1
       have := HEN.out x h1; unfold maxLen; omega
      ·exact HN2.out x hx) (fun x hx => by
      rcases List.mem_append.1 hx with hx | hx
      ·have h1 := mix_sub x hx
       rw [← HEE.out] at h1
       exact HEB.out x h1
      ·exact HK2.out x hx) (by
      have h1 := mix_same (A := A) HV.out (G := G) (id := J) (other := l2) (k := k) (by have := HN3.out; rw [HEE.out, List.length_map] at this; omega)
      rw [← HEE.out] at h1
      rw [← h1]; exact HR.out.symm)
     obtain ⟨n8, hn8⟩ : ∃ n, n = (mixL ns G J k ++ l2).length := ⟨_, rfl⟩
     rw [← hn8] at HE8
     have HE9 : Hid (Rt 9 #[.pointer (some ⟨B + 2, 0, none⟩), .int .i64 (1 + (P : Int)), .slice a8 n8 c8] w8 (.tuple #[.agg #[.int .i64 V.w, .int .u64 V.lo, .int .u64 V.hi], .int .i64 0])) := HE8
     rw [← hn8]
     clear hn8 HE8
     clear hown hgrow hN8 hL8 h78 h28 hb27 hbw hH HBR
     go_wp2_with fail
     refine Calls.mono HE9.out ?_
     rintro e w9 ⟨rfl, hb9⟩
     have hx9 : w9.heap[w4.heap.size]? = some (.cells #[.int .i64 V.w, .int .u64 V.lo, .int .u64 V.hi] 34) := (hb9.block _ hs8).trans HX8.out
     have x0 : w9.cell? ⟨w4.heap.size, 0, none⟩ = some (.int .i64 V.w) := cell_of hx9 0 rfl
     have x1 : w9.cell? ⟨w4.heap.size, 1, none⟩ = some (.int .u64 V.lo) := cell_of hx9 1 rfl
     have x2 : w9.cell? ⟨w4.heap.size, 2, none⟩ = some (.int .u64 V.hi) := cell_of hx9 2 rfl
     have hs9 : w4.heap.size < w9.heap.size := by have := hb9.size; omega
     have HB9 : Hid (Below w.heap.size w w9) := HB8.out.trans (hb9.mono HB8.out.size)
     clear hx9 hb9 HE9
     go_wp2_with fail
     go_ret
     exact ⟨by first | rfl | trivial, HB9.out.alloc HB9.out.size _⟩
theorem walk_own {a a1 a2 : Option Addr} {c c1 c2 : Nat} {l : List Nd} {l1 l2 : List Nv} (id : Int) (w : World) (hL : La w a l) (hok : ∀ n ∈ l, Ok n) (hmx : l.length ≤ maxLen)
  (he1 : Le w a1 l1) (hk1 : ∀ b ∈ l1, Bk b.v) (hn1 : ∀ b ∈ l1, b.nm.size ≤ maxLen) (hm1 : l1.length ≤ maxLen)
  (he2 : Le w a2 l2) (hk2 : ∀ b ∈ l2, Bk b.v) (hn2 : ∀ b ∈ l2, b.nm.size ≤ maxLen) (hm2 : l2.length ≤ maxLen) :
  Rt 5 #[.slice a l.length c, .slice a1 l1.length c1, .slice a2 l2.length c2, .int .i64 id] w (.bool true) := by
 by_cases h1 : l1.length ≤ 50
 ·by_cases h2 : l2.length ≤ 50
  ·exact walk_own_of id w hL hok hmx he1 hk1 hn1 h1 he2 hk2 hn2 h2
  ·have i1 : ¬ (50 : Int) < (l1.length : Int) := by omega
   have i2 : (50 : Int) < (l2.length : Int) := by omega
   clear hL hok hmx he1 hk1 hn1 hm1 he2 hk2 hn2 hm2 h1 h2
   go_enter Tryz.func5, Tryz.ntmps5
   go_wp2_with fail
   refine (known4 _).mono ?_
   rintro e w1 ⟨rfl, hb1⟩
   go_wp2_with fail
   go_ret
   exact ⟨rfl, hb1⟩
 ·have i1 : (50 : Int) < (l1.length : Int) := by omega
  clear hL hok hmx he1 hk1 hn1 hm1 he2 hk2 hn2 hm2 h1
  go_enter Tryz.func5, Tryz.ntmps5
  go_wp2_with fail
  refine (known4 _).mono ?_
  rintro e w1 ⟨rfl, hb1⟩
  go_wp2_with fail
  go_ret
  exact ⟨rfl, hb1⟩
def nval (A : Int → Int → Int → List Bt → Bt × Int) (G : List (Int × Bt)) (f : Int → Bt) (p : Int) (n : Nd) : Bt := if n.op = 1 then ⟨n.w, n.lo, n.hi⟩ else if n.op = 2 then kn G p else (A n.op n.p n.q ((used n).map f)).1
def Cst (A : Int → Int → Int → List Bt → Bt × Int) (ns : List Nd) (G M : List (Int × Bt)) : Prop := ∀ p v, getM M p = some v → 1 ≤ p ∧ ∃ n, ns[(p - 1).toNat]? = some n ∧ v = nval A G (kn M) p n ∧ ∀ q ∈ used n, (getM M q).isSome = true
theorem kn_app {M : List (Int × Bt)} {p q : Int} {v : Bt} (h : (getM M q).isSome = true) : kn (M ++ [(p, v)]) q = kn M q := by
 obtain ⟨x, hx⟩ := Option.isSome_iff_exists.1 h
 unfold kn
 rw [getM_app, hx]; rfl
theorem nval_app {A : Int → Int → Int → List Bt → Bt × Int} {G M : List (Int × Bt)} {p q : Int} {v : Bt} {n : Nd} (h : ∀ q ∈ used n, (getM M q).isSome = true) : nval A G (kn (M ++ [(p, v)])) q n = nval A G (kn M) q n := by
 unfold nval
 rw [List.map_congr_left (fun x hx => kn_app (h x hx))]
theorem pv_nval {A : Int → Int → Int → List Bt → Bt × Int} {ns : List Nd} {G M : List (Int × Bt)} {p : Int} {n : Nd} (hg : Good ns G p n) : (PVg A ns G M p).1 = nval A G (kn M) p n := by
 obtain ⟨hn, -, hv⟩ := hg
 unfold PVg nval
 rw [hn]
 simp only
 by_cases h1 : n.op = 1
 ·rw [if_pos h1, if_pos h1]
 ·rw [if_neg h1, if_neg h1]
  by_cases h2 : n.op = 2
  ·rw [if_pos h2, if_pos h2, hv h2]; rfl
  ·rw [if_neg h2, if_neg h2]
   have e : ([n.a, n.b, n.c].map (kn M)).take (ari n.op).toNat = (used n).map (kn M) := by unfold used; rw [List.map_take]
   rw [e]
theorem cst_snoc {A : Int → Int → Int → List Bt → Bt × Int} {ns : List Nd} {G M : List (Int × Bt)} (h : Cst A ns G M) {p : Int} {n : Nd} (hg : Good ns G p n) (hu : ∀ q ∈ used n, (getM M q).isSome = true) : Cst A ns G (M ++ [(p, (PVg A ns G M p).1)]) := by
 intro q v hv
 rw [getM_app] at hv
 cases hq : getM M q with
 | some x =>
  rw [hq] at hv
  obtain rfl : x = v := by simpa using hv
  obtain ⟨h1, m, hm, e, hum⟩ := h q x hq
  exact ⟨h1, m, hm, by rw [nval_app hum]; exact e, fun y hy => getM_mono (hum y hy)⟩
 | none =>
  rw [hq] at hv
  by_cases hpq : p = q
  ·subst hpq
   have e : (PVg A ns G M p).1 = v := by simpa using hv
   exact ⟨hg.2.1, n, hg.1, by rw [nval_app hu, ← e]; exact pv_nval hg, fun y hy => getM_mono (hu y hy)⟩
  ·simp [hpq] at hv
theorem vloop_cst {A : Int → Int → Int → List Bt → Bt × Int} (hA : ApF A) {ns : List Nd} (hN : Nok ns) (hS : Sok ns) {G : List (Int × Bt)} (hG : ∀ p ∈ G, Bk p.2) :
  ∀ (L : List Int) (M : List (Int × Bt)), Kok ns M → Cst A ns G M → (∀ (j : Nat) (p : Int), L[j]? = some p → ∃ n, Good ns G p n ∧ ∀ q ∈ used n, (getM M q).isSome = true ∨ ∃ i, i < j ∧ L[i]? = some q) → Cst A ns G (vLoop (PVg A ns G) L M).1
 | [], M, _, hC, _ => hC
 | p :: ps, M, hK, hC, hL => by
  obtain ⟨n, hg, hu⟩ := hL 0 p rfl
  have hu' : ∀ q ∈ used n, (getM M q).isSome = true := fun q hq => by
   rcases hu q hq with h | ⟨i, hi, -⟩
   ·exact h
   ·omega
  have shift : ∀ M' : List (Int × Bt), (∀ q, (getM M q).isSome = true → (getM M' q).isSome = true) → (getM M' p).isSome = true → ∀ (j : Nat) (x : Int), ps[j]? = some x → ∃ n, Good ns G x n ∧ ∀ q ∈ used n, (getM M' q).isSome = true ∨ ∃ i, i < j ∧ ps[i]? = some q := by
   intro M' hmono hp j x hx
   obtain ⟨m, hm, hum⟩ := hL (j + 1) x hx
   refine ⟨m, hm, fun q hq => ?_⟩
   rcases hum q hq with h | ⟨i, hi, hiq⟩
   ·exact Or.inl (hmono q h)
   ·cases i with
    | zero =>
     have : p = q := Option.some.inj hiq
     subst this
     exact Or.inl hp
    | succ i => exact Or.inr ⟨i, by omega, hiq⟩
  by_cases hk : (getM M p).isSome = true
  ·have e : vLoop (PVg A ns G) (p :: ps) M = vLoop (PVg A ns G) ps M := by simp only [vLoop]; rw [if_pos hk]
   rw [e]
   exact vloop_cst hA hN hS hG ps M hK hC (shift M (fun _ h => h) hk)
  ·obtain ⟨p0, ps'⟩ := pv_ok hA hN hS hK hg hu'
   have e : vLoop (PVg A ns G) (p :: ps) M = vLoop (PVg A ns G) ps (M ++ [(p, (PVg A ns G M p).1)]) := by simp only [vLoop]; rw [if_neg hk, if_pos p0]
   rw [e]
   have hK' : Kok ns (M ++ [(p, (PVg A ns G M p).1)]) := by
    have h1 := (vloop_ok hA hN hS hG [p] M hK (fun j x hx => by
     cases j with
     | zero =>
      obtain rfl : p = x := by simpa using hx
      exact ⟨n, hg, fun q hq => Or.inl (hu' q hq)⟩
     | succ j => simp at hx)).2.1
    have e2 : vLoop (PVg A ns G) [p] M = (M ++ [(p, (PVg A ns G M p).1)], 0) := by simp only [vLoop]; rw [if_neg hk, if_pos p0]
    rw [e2] at h1; exact h1
   exact vloop_cst hA hN hS hG ps _ hK' (cst_snoc hC hg hu') (shift _ (fun _ h => getM_mono h) (getM_last _ _ _))
theorem vG_cst {A : Int → Int → Int → List Bt → Bt × Int} (hA : ApF A) {ns : List Nd} (hv : Inv ns) (hd : Gd ns) {G : List (Int × Bt)} (hG : ∀ p ∈ G, Bk p.2) {id : Nat} (h1 : 1 ≤ id) (hid : id ≤ ns.length)
  (hf : ∀ (i : Nat) (n : Nd), ns[i]? = some n → n.op = 2 → fits G ((i : Int) + 1) n.s = true) :
  (vG A ns G [] (id : Int)).2.2 = 0 ∧ sof (vG A ns G [] (id : Int)).2.1 = sAt ns (id : Int) ∧ ∃ M, Cst A ns G M ∧ getM M (id : Int) = some (vG A ns G [] (id : Int)).2.1 := by
 have hK : Kok ns [] := ⟨(fun _ h => nomatch h), fun q v h => by simp [getM] at h⟩
 obtain ⟨c1, c2, c3⟩ := vG_ok hA hv hd.nok hd.sok hd.upo hG hK h1 hid (fun i n _ hi h2 => hf i n hi h2)
 refine ⟨c1, c3, ?_⟩
 have hsh := cone_shut hv hd.upo hid (G := G) (M := []) (fun i n _ hi h2 => hf i n hi h2)
 have hne : ¬ coneL ns (id : Int) = [] := by
  intro e
  have : ((id : Nat) : Int) ∈ coneL ns (id : Int) := (mem_coneL hv h1 hid).2 .here
  rw [e] at this; cases this
 obtain ⟨d1, -, d3⟩ := vloop_ok hA hd.nok hd.sok hG (coneL ns (id : Int)) [] hK hsh
 refine ⟨_, vloop_cst hA hd.nok hd.sok hG (coneL ns (id : Int)) [] hK (fun p v h => by simp [getM] at h) hsh, ?_⟩
 obtain ⟨x, hx⟩ := Option.isSome_iff_exists.1 (d3 _ (Or.inr ((mem_coneL hv h1 hid).2 .here)))
 have e : (vG A ns G [] (id : Int)).2.1 = kn (vLoop (PVg A ns G) (coneL ns (id : Int)) []).1 (id : Int) := by
  unfold vG
  show (if _ then _ else _ : List (Int × Bt) × Bt × Int).2.1 = _
  rw [if_neg hne, if_pos d1]
 rw [e, hx]
 unfold kn
 rw [hx]; rfl
theorem cst_uniq {A : Int → Int → Int → List Bt → Bt × Int} {ns r : List Nd} {G M M' : List (Int × Bt)} (hv : Inv ns) (h : Cst A ns G M) (h' : Cst A (ns ++ r) G M') : ∀ (k : Nat) (p : Int) (v v' : Bt), p.toNat ≤ k → getM M p = some v → getM M' p = some v' → v = v'
 | k, p, v, v', hk, e, e' => by
  obtain ⟨h1, n, hn, hvv, hu⟩ := h p v e
  obtain ⟨-, n', hn', hvv', hu'⟩ := h' p v' e'
  have hl : (p - 1).toNat < ns.length := (List.getElem?_eq_some_iff.1 hn).1
  obtain rfl : n = n' := by
   rw [List.getElem?_append_left hl, hn] at hn'
   exact Option.some.inj hn'
  rw [hvv, hvv']
  have hk2 := hv.kids _ n hn
  have hm : (used n).map (kn M) = (used n).map (kn M') := by
   refine List.map_congr_left fun q hq => ?_
   obtain ⟨x, hx⟩ := Option.isSome_iff_exists.1 (hu q hq)
   obtain ⟨y, hy⟩ := Option.isSome_iff_exists.1 (hu' q hq)
   have hkid := used_kid hq
   have hq1 := (h q x hx).1
   match k with
   | 0 => omega
   | k + 1 =>
    have := cst_uniq hv h h' k q x y (by omega) hx hy
    unfold kn
    rw [hx, hy, this]
  unfold nval
  rw [hm]
def Nd.wa (n : Nd) (x : Int) : Nd := { n with a := x }
theorem ari_pos {N : Nat} {n : Nd} (hp : prt N n = true) (ha : ¬ n.a = 0) : 1 ≤ ari n.op ∧ ari n.op ≤ 3 ∧ ¬ n.op = 1 ∧ ¬ n.op = 2 := by
 have h3 := ari_le n.op
 rw [prt_eq rfl] at hp
 simp only [Bool.and_eq_true, decide_eq_true_eq] at hp
 have h0 := hp.1.1.1.1.2
 have hpos : 1 ≤ ari n.op := by
  apply Classical.byContradiction
  intro hc
  unfold opB at h0
  rw [if_neg (by omega)] at h0
  exact ha (by simpa using h0)
 refine ⟨hpos, h3, fun e => ?_, fun e => ?_⟩
 ·rw [e] at hpos; exact absurd hpos (by decide)
 ·rw [e] at hpos; exact absurd hpos (by decide)
theorem used_wa {n : Nd} (h1 : 1 ≤ ari n.op) (x : Int) : ∃ R, used n = n.a :: R ∧ used (n.wa x) = x :: R := by
 obtain ⟨k, hk⟩ : ∃ k, (ari n.op).toNat = k + 1 := ⟨(ari n.op).toNat - 1, by omega⟩
 refine ⟨[n.b, n.c].take k, ?_, ?_⟩
 ·unfold used; rw [hk]; rfl
 ·unfold used; show [x, n.b, n.c].take (ari n.op).toNat = _; rw [hk]; rfl
theorem prt_wa {N : Nat} {n : Nd} {x : Int} (hp : prt N n = true) (h1 : 1 ≤ ari n.op) (hx : hasB N x = true) : prt N (n.wa x) = true := by
 unfold prt at hp ⊢
 simp only [Bool.and_eq_true] at hp ⊢
 refine ⟨⟨⟨⟨⟨hp.1.1.1.1.1, ?_⟩, hp.1.1.1.2⟩, hp.1.1.2⟩, hp.1.2⟩, hp.2⟩
 show opB N (ari n.op) 0 x = true
 unfold opB
 rw [if_pos (by omega)]; exact hx
theorem swap_srt {ns : List Nd} (hd : Md ns) {i : Nat} {n : Nd} {x : Int} (hi : ns[i]? = some n) (ha : ¬ n.a = 0) (hx : hasB ns.length x = true) (hs : sAt ns x = sAt ns n.a) : srtOf ns (n.wa x) = (n.s, 0) := by
 have hm := List.mem_of_getElem? hi
 obtain ⟨h1, h3, n1, n2⟩ := ari_pos (hd.po n hm).1 ha
 obtain ⟨R, e1, e2⟩ := used_wa h1 x
 unfold srtOf
 rw [if_neg (by rw [prt_wa (hd.po n hm).1 h1 hx]; decide), if_neg (show ¬ (n.wa x).op = 1 from n1), if_neg (show ¬ (n.wa x).op = 2 from n2)]
 have h := hd.gd.sok.ops n hm n1 n2
 have e3 : oss ns (n.wa x) = (used (n.wa x)).map (sAt ns) := rfl
 rw [e3, e2, List.map_cons, hs, ← List.map_cons, ← e1]
 exact h
theorem swap_val {A : Int → Int → Int → List Bt → Bt × Int} (hA : ApF A) {ns r : List Nd} (hv : Inv ns) (hd : Md ns) (hv' : Inv (ns ++ r)) (hd' : Gd (ns ++ r)) {G : List (Int × Bt)} (hG : ∀ p ∈ G, Bk p.2)
  (hf : ∀ (i : Nat) (n : Nd), ns[i]? = some n → n.op = 2 → fits G ((i : Int) + 1) n.s = true) (hf' : ∀ (i : Nat) (n : Nd), (ns ++ r)[i]? = some n → n.op = 2 → fits G ((i : Int) + 1) n.s = true)
  {i j t u : Nat} {n : Nd} (hi : ns[i]? = some n) (hu : n.a = (u : Int)) (hu0 : 1 ≤ u) (ht : 1 ≤ t) (htl : t ≤ ns.length) (hj : (ns ++ r)[j]? = some (n.wa (t : Int)))
  (he : (vG A ns G [] (u : Int)).2.1 = (vG A ns G [] (t : Int)).2.1) :
  (vG A (ns ++ r) G [] ((j + 1 : Nat) : Int)).2.2 = 0 ∧ (vG A (ns ++ r) G [] ((j + 1 : Nat) : Int)).2.1 = (vG A ns G [] ((i + 1 : Nat) : Int)).2.1 := by
 have hm := List.mem_of_getElem? hi
 have hil : i < ns.length := (List.getElem?_eq_some_iff.1 hi).1
 have hjl : j < (ns ++ r).length := (List.getElem?_eq_some_iff.1 hj).1
 obtain ⟨h1, h3, n1, n2⟩ := ari_pos (hd.po n hm).1 (by omega)
 obtain ⟨R, e1, e2⟩ := used_wa h1 (t : Int)
 have hul : u ≤ ns.length := by have := (hv.kids i n hi); omega
 obtain ⟨-, -, Mi, ci, gi⟩ := vG_cst hA hv hd.gd hG (id := i + 1) (by omega) (by omega) hf
 obtain ⟨-, -, Mu, cu, gu⟩ := vG_cst hA hv hd.gd hG (id := u) hu0 hul hf
 obtain ⟨-, -, Mt, ct, gt⟩ := vG_cst hA hv hd.gd hG (id := t) ht htl hf
 obtain ⟨er, -, Mj, cj, gj⟩ := vG_cst hA hv' hd' hG (id := j + 1) (by omega) (by omega) hf'
 refine ⟨er, ?_⟩
 have ci' : Cst A (ns ++ []) G Mi := by rw [List.append_nil]; exact ci
 obtain ⟨-, m, hm1, ev, hui⟩ := ci _ _ gi
 rw [show (((i + 1 : Nat) : Int) - 1).toNat = i by omega, hi] at hm1
 obtain rfl := Option.some.inj hm1
 obtain ⟨-, m, hm2, ev', huj⟩ := cj _ _ gj
 rw [show (((j + 1 : Nat) : Int) - 1).toNat = j by omega, hj] at hm2
 obtain rfl := Option.some.inj hm2
 rw [ev, ev']
 have n1' : ¬ (n.wa (t : Int)).op = 1 := n1
 have n2' : ¬ (n.wa (t : Int)).op = 2 := n2
 unfold nval
 rw [if_neg n1, if_neg n2, if_neg n1', if_neg n2', e1, e2]
 rw [e1] at hui
 rw [e2] at huj
 have ha : kn Mj (t : Int) = kn Mi n.a := by
  obtain ⟨x, hx⟩ := Option.isSome_iff_exists.1 (hui n.a (by simp))
  obtain ⟨y, hy⟩ := Option.isSome_iff_exists.1 (huj (t : Int) (by simp))
  have q1 := cst_uniq hv cu ci' u _ _ _ (by omega) gu (by rw [← hu]; exact hx)
  have q2 := cst_uniq hv ct cj t _ _ _ (by omega) gt hy
  unfold kn
  rw [hx, hy, ← q1, ← q2]
  exact he.symm ▸ rfl
 have hR : R.map (kn Mj) = R.map (kn Mi) := by
  refine List.map_congr_left fun q hq => ?_
  obtain ⟨x, hx⟩ := Option.isSome_iff_exists.1 (hui q (List.mem_cons_of_mem _ hq))
  obtain ⟨y, hy⟩ := Option.isSome_iff_exists.1 (huj q (List.mem_cons_of_mem _ hq))
  have q1 := cst_uniq hv ci cj q.toNat q _ _ (Nat.le_refl _) hx hy
  unfold kn
  rw [hx, hy, q1]
 rw [List.map_cons, List.map_cons, ha, hR]
 rfl
theorem varAt_snoc {ns : List Nd} {n : Nd} {s : ByteArray} (h : ¬ n.op = 2) : varAt (ns ++ [n]) s = varAt ns s := by
 unfold varAt
 have e : ([n].findIdx? fun m => decide (m.op = 2) && decide (m.nm = s)) = none := by simp [h]
 rw [List.findIdx?_append, e]
 cases ns.findIdx? (fun m => decide (m.op = 2) && decide (m.nm = s)) <;> rfl
theorem fvF_snoc' {ns : List Nd} {n : Nd} (h : ¬ n.op = 2) (l : List Nv) : fvF (ns ++ [n]) l = fvF ns l := by
 unfold fvF
 have : ∀ (l : List Nv) (M : List (Int × Bt)), l.foldl (fvS (ns ++ [n])) M = l.foldl (fvS ns) M := by
  intro l
  induction l with
  | nil => intro M; rfl
  | cons x xs ih =>
   intro M
   rw [List.foldl_cons, List.foldl_cons, ih]
   congr 1
   unfold fvS
   rw [varAt_snoc h]
 exact this l []
theorem swap_mk {ns : List Nd} (hv : Inv ns) (hd : Md ns) (hl : ns.length ≤ 120) {i : Nat} {n : Nd} {x : Int} (hi : ns[i]? = some n) (ha : ¬ n.a = 0) (hx : hasB ns.length x = true) (hs : sAt ns x = sAt ns n.a) :
  ∃ (j : Nat) (r : List Nd), Mkd 4096 ns (n.wa x) ((j : Int) + 1) 0 (ns ++ r) ∧ (ns ++ r)[j]? = some (n.wa x) ∧ (r = [] ∨ r = [n.wa x]) := by
 have h := swap_srt hd hi ha hx hs
 have e : (n.wa x).wi n.s = n.wa x := rfl
 by_cases hm : n.wa x ∈ ns
 ·obtain ⟨j, hj, e2⟩ := List.getElem_of_mem hm
  have hj2 : ns[j]? = some (n.wa x) := by rw [List.getElem?_eq_getElem hj, e2]
  refine ⟨j, [], ?_, by rw [List.append_nil]; exact hj2, Or.inl rfl⟩
  rw [List.append_nil]
  exact .old h (by rw [e]; exact hj2)
 ·refine ⟨ns.length, [n.wa x], ?_, by simp, Or.inr rfl⟩
  exact .new h (by rw [e]; exact hm) (by omega)
theorem neq3 (a b : Bt) (w : World) : (binOp .neq 34 (.agg #[.int .i64 a.w, .int .u64 a.lo, .int .u64 a.hi]) (.agg #[.int .i64 b.w, .int .u64 b.lo, .int .u64 b.hi])).run Tryz.prog w = .ok (.bool (!eqT a b)) w := by
 unfold eqT
 by_cases h1 : a.w = b.w
 ·by_cases h2 : a.lo = b.lo
  ·by_cases h3 : a.hi = b.hi <;> simp [go_sem, h1, h2, h3]
  ·simp [go_sem, h1, h2]
 ·simp [go_sem, h1]
theorem le_of2 {w : World} {base : Nat} {u : Value} {l : List Nv} (h : Nv' w base u l) : ∃ a c, u = .slice a l.length c ∧ Le w a l ∧ (l = [] ∨ ∃ g, a = some ⟨g, 0, none⟩ ∧ base ≤ g) := by
 obtain ⟨a, c, hu, hL⟩ := le_of h
 refine ⟨a, c, hu, hL, ?_⟩
 rcases h.2 with ⟨rfl, h0⟩ | ⟨g, cap, cur, rfl, hb, -⟩
 ·exact Or.inl (List.eq_nil_of_length_eq_zero h0)
 ·injection hu with e
  exact Or.inr ⟨g, e.symm, hb⟩
theorem Le.kept {w w' : World} {a : Option Addr} {l : List Nv} {base : Nat} (h : Le w a l) (hb : l = [] ∨ ∃ g, a = some ⟨g, 0, none⟩ ∧ base ≤ g) (hs : w.heap.size ≤ w'.heap.size) (hk : ∀ b, base ≤ b → b < w.heap.size → w'.heap[b]? = w.heap[b]?) : Le w' a l := by
 rcases h with h | ⟨g, o, ha, hg, hc⟩
 ·exact Or.inl h
 ·rcases hb with hb | ⟨g', ha', hb⟩
  ·exact Or.inl hb
  ·have e : g = g' := by rw [ha] at ha'; injection ha' with e; injection e
   subst e
   exact Or.inr ⟨g, o, ha, by omega, fun j y hj t u hu => (World.cell?_of_block (a := ⟨g, _, none⟩) (hk g hb hg)).trans (hc j y hj t u hu)⟩
theorem walk_swap_of {a a1 : Option Addr} {c c1 : Nat} {l : List Nd} {l1 : List Nv} (id tt : Int) (w : World) (hL : La w a l) (hok : ∀ n ∈ l, Ok n) (hmx : l.length ≤ maxLen)
  (he1 : Le w a1 l1) (hk1 : ∀ b ∈ l1, Bk b.v) (hn1 : ∀ b ∈ l1, b.nm.size ≤ maxLen) (hm1 : l1.length ≤ 50) :
  Rt 6 #[.slice a l.length c, .slice a1 l1.length c1, .int .i64 id, .int .i64 tt] w (.bool true) := by
 obtain ⟨A, hA⟩ := ap_fun
 have HMA : Hid (∀ wx, Below w.heap.size w wx → Calls Tryz.prog 8 #[.slice a l.length c] wx fun e w' => (e = .returned (.tuple #[.pointer none, .pointer none, .bool false]) ∧ Below wx.heap.size wx w') ∨ ∃ B D v u ns, e = .returned (.tuple #[.pointer (some ⟨B + 2, 0, none⟩), .pointer (some ⟨D, 0, none⟩), .bool true]) ∧ Tg wx w' B D v u 4096 ns ∧ Md ns ∧ ns.length ≤ 120) := fun wx hb => made_any wx (hL.below hb) hok hmx
 have HE1 : Hid (Le w a1 l1) := he1
 have HK1 : Hid _ := hk1
 have HN1 : Hid _ := hn1
 have HA : Hid _ := hA
 obtain ⟨n0, hn0⟩ : ∃ n, n = l.length := ⟨_, rfl⟩
 obtain ⟨n1, hn1'⟩ : ∃ n, n = l1.length := ⟨_, rfl⟩
 have HL1 : Hid _ := hn1'
 rw [← hn0] at HMA
 rw [← hn0, ← hn1']
 have hi1 : ¬ (50 : Int) < (n1 : Int) := by omega
 have hm1' : n1 ≤ 50 := by omega
 have hqe := eqb
 have hqn := neq3
 clear hL hok hmx he1 hk1 hn1 hn0 hn1' hm1 hA
 go_enter Tryz.func6, Tryz.ntmps6
 go_wp2_with fail
 refine (known4 _).mono ?_
 rintro e w1 ⟨rfl, hb1⟩
 have HB1 : Hid _ := hb1
 clear hb1
 go_wp2_with fail
 refine (HMA.out _ HB1.out).mono ?_
 rintro e w2 (⟨rfl, hb2⟩ | ⟨B, D, v, u, ns, rfl, hT, hMd, hns⟩)
 ·go_wp2_with fail
  go_ret
  exact ⟨rfl, HB1.out.trans (hb2.mono HB1.out.size)⟩
 ·have HB2 : Hid (Below w.heap.size w w2) := HB1.out.trans (hT.bel.mono HB1.out.size)
  have HG : Hid (Gr w2 B (B + 2) B (B + 1) v 4096 ns) := hT.gr
  have hwB : w.heap.size ≤ B := Nat.le_trans HB1.out.size hT.lo
  have HMD : Hid _ := hMd
  have HV : Hid _ := hT.gr.inv
  obtain ⟨N, hN⟩ : ∃ N, N = ns.length := ⟨_, rfl⟩
  have HN : Hid _ := hN
  have HLN : Hid (∀ wx, Below w2.heap.size w2 wx → Calls Tryz.prog 17 #[.pointer (some ⟨B + 2, 0, none⟩)] wx fun e w' => e = .returned (.int .i64 (N : Int)) ∧ w' = wx) := fun wx hb => by rw [hN]; exact glen_any (HG.out.below hb)
  rw [← hN] at hns
  clear hT hMd hN HMA HB1
  by_cases h0 : N = 0
  ·subst h0
   go_wp2_with fail
   refine (HLN.out _ (Below.refl _ _)).mono ?_
   rintro e wq ⟨rfl, hq⟩
   rw [hq]
   clear hq wq
   go_wp2_with fail
   go_ret
   exact ⟨rfl, HB2.out⟩
  ·have hN0 : ((N : Int) == 0) = false := by simp; omega
   have hplace : ∀ x : Int, ∃ P : Nat, (P : Int) = x % (N : Int) ∧ P < N := fun x => by
    have h1 := Int.emod_nonneg x (show (N : Int) ≠ 0 by omega)
    have h2 := Int.emod_lt_of_pos x (show (0 : Int) < (N : Int) by omega)
    exact ⟨(x % (N : Int)).toNat, by omega, by omega⟩
   obtain ⟨P, hP, hPN⟩ := hplace id
   obtain ⟨Q, hQ, hQN⟩ := hplace tt
   have HPL : Hid (∀ wx, Calls Tryz.prog 18 #[.int .i64 id, .int .i64 (N : Int)] wx fun e w' => e = .returned (.int .i64 (P : Int)) ∧ w' = wx) := fun wx => by rw [hP]; exact place_any (by omega) (by omega) wx
   have HQL : Hid (∀ wx, Calls Tryz.prog 18 #[.int .i64 tt, .int .i64 (N : Int)] wx fun e w' => e = .returned (.int .i64 (Q : Int)) ∧ w' = wx) := fun wx => by rw [hQ]; exact place_any (by omega) (by omega) wx
   clear hP hQ hplace
   obtain ⟨G0, hGe⟩ : ∃ G, G = fvF ns l1 := ⟨_, rfl⟩
   have HGB : Hid (∀ p ∈ G0, Bk p.2) := by unfold Hid; rw [hGe]; exact fvF_bk HK1.out
   have HCO : Hid (∀ wx, Below w2.heap.size w2 wx → Calls Tryz.prog 13 #[.pointer (some ⟨B + 2, 0, none⟩), .slice a1 n1 c1] wx fun e w' => ∃ u, e = .returned u ∧ Nv' w' wx.heap.size u ((vsF ns).map (cmpV ns G0)) ∧ Below wx.heap.size wx w') := fun wx hb => by
    rw [hGe, HL1.out]
    exact comp_any (HG.out.below hb) (by rw [← HN.out]; omega) (Le.below HE1.out (HB2.out.trans (hb.mono HB2.out.size))) HN1.out (by rw [← HL1.out]; omega) (fvF_bk HK1.out)
   obtain ⟨E, hE⟩ : ∃ E, E = (vsF ns).map (cmpV ns G0) := ⟨_, rfl⟩
   have HEE : Hid _ := hE
   have hEl : E.length ≤ 120 := by rw [hE, List.length_map]; have := vsF_len ns; have := HN.out; omega
   have HEB : Hid (∀ x ∈ E, Bk x.v) := by unfold Hid; rw [hE]; exact cmp_bk HV.out HGB.out
   have HEN : Hid (∀ x ∈ E, x.nm.size ≤ maxLen) := fun x hx => by have := cmp_names HMD.out.nm x (by rw [← hE]; exact hx); unfold maxLen; omega
   rw [← hE] at HCO
   obtain ⟨G, hG⟩ : ∃ G, G = fvF ns E := ⟨_, rfl⟩
   have HGG : Hid (G = fvF ns E) := hG
   have HGK : Hid (∀ p ∈ G, Bk p.2) := by unfold Hid; rw [hG]; exact fvF_bk HEB.out
   have HFI : Hid (∀ (i : Nat) (n : Nd), ns[i]? = some n → n.op = 2 → fits G ((i : Int) + 1) n.s = true) := fun i n hi h2 => by rw [hG, HEE.out]; exact comp_fits HV.out hi h2
   obtain ⟨m, hm⟩ : ∃ m, ns[P]? = some m := ⟨_, List.getElem?_eq_getElem (by rw [← HN.out]; exact hPN)⟩
   have HMI : Hid _ := hm
   obtain ⟨F, hF⟩ : ∃ F : Nat → Bt, ∀ k, F k = (vG A ns G [] (k : Int)).2.1 := ⟨fun k => (vG A ns G [] (k : Int)).2.1, fun _ => rfl⟩
   have HF : Hid _ := hF
   have HEV : Hid (∀ wx ad cd, Below w2.heap.size w2 wx → Le wx ad E → ∀ (k : Nat) (z : Int), z = (k : Int) → 1 ≤ k → k ≤ N → Rt 9 #[.pointer (some ⟨B + 2, 0, none⟩), .int .i64 z, .slice ad E.length cd] wx (.tuple #[.agg #[.int .i64 (F k).w, .int .u64 (F k).lo, .int .u64 (F k).hi], .int .i64 0])) := fun wx ad cd hb hLe k z hz h1 h2 => by
    subst hz
    have h3 := evalg (c := cd) (id := (k : Int)) HA.out (HG.out.below hb) HMD.out.gd.nok hLe HEN.out (by omega) HEB.out (by unfold w64; omega)
    rw [← HGG.out, (vG_cst HA.out HV.out HMD.out.gd HGK.out h1 (by rw [← HN.out]; exact h2) HFI.out).1, ← HF.out k] at h3
    exact h3
   have HND : Hid (∀ wx, Below w2.heap.size w2 wx → Rt 19 #[.pointer (some ⟨B + 2, 0, none⟩), .int .i64 (1 + (P : Int))] wx (.tuple #[.agg #[.int .i64 m.op, .int .i64 m.s, .int .i64 m.a, .int .i64 m.b, .int .i64 m.c, .int .i64 m.p, .int .i64 m.q, .int .i64 m.w, .int .u64 m.lo, .int .u64 m.hi, .string m.nm], .bool true])) := fun wx hb => by
    rw [show 1 + (P : Int) = (P : Int) + 1 by omega]
    exact node_yes (HG.out.below hb) HMI.out
   have hkd := HV.out.kids P m hm
   clear hm hF hG hE hGe
   go_wp2_with fail
   refine (HLN.out _ (Below.refl _ _)).mono ?_
   rintro e wq ⟨rfl, hq⟩
   rw [hq]
   clear hq wq
   go_wp2_with fail
   refine (HLN.out _ (Below.refl _ _)).mono ?_
   rintro e wq ⟨rfl, hq⟩
   rw [hq]
   clear hq wq
   go_wp2_with fail
   refine (HPL.out _).mono ?_
   rintro e wq ⟨rfl, hq⟩
   rw [hq]
   clear hq wq HPL
   go_wp2_with fail
   refine (HLN.out _ (Below.refl _ _)).mono ?_
   rintro e wq ⟨rfl, hq⟩
   rw [hq]
   clear hq wq HLN
   go_wp2_with fail
   refine (HQL.out _).mono ?_
   rintro e wq ⟨rfl, hq⟩
   rw [hq]
   clear hq wq HQL
   go_wp2_with fail
   refine (HCO.out _ (Below.refl _ _)).mono ?_
   rintro e w3 ⟨u3, rfl, hN3, hb3⟩
   obtain ⟨a3, c3, rfl, hL3, hat3⟩ := le_of2 hN3
   obtain ⟨n3, hn3⟩ : ∃ n, n = E.length := ⟨_, rfl⟩
   have HN3 : Hid _ := hn3
   have HL3 : Hid (Le w3 a3 E) := hL3
   have HT3 : Hid (E = [] ∨ ∃ g, a3 = some ⟨g, 0, none⟩ ∧ w2.heap.size ≤ g) := hat3
   have HB3 : Hid (Below w2.heap.size w2 w3) := hb3
   have hs3 := hb3.size
   have HE3 : Hid (∀ wx, Below w3.heap.size w3 wx → ∀ (k : Nat) (z : Int), z = (k : Int) → 1 ≤ k → k ≤ N → Rt 9 #[.pointer (some ⟨B + 2, 0, none⟩), .int .i64 z, .slice a3 n3 c3] wx (.tuple #[.agg #[.int .i64 (F k).w, .int .u64 (F k).lo, .int .u64 (F k).hi], .int .i64 0])) := fun wx hb k z hz h1 h2 => by
    rw [HN3.out]
    exact HEV.out wx a3 c3 (HB3.out.trans (hb.mono HB3.out.size)) (Le.below HL3.out hb) k z hz h1 h2
   rw [← hn3]
   rw [← hn3] at hEl
   clear hN3 hb3 hn3 hL3 hat3 HCO HEV
   go_wp2_with fail
   refine (HND.out _ HB3.out).mono ?_
   rintro e w4 ⟨rfl, hb4⟩
   have HB4 : Hid (Below w3.heap.size w3 w4) := hb4
   have s4 := hb4.size
   clear hb4 HND
   by_cases hz : m.a = 0
   ·have hz1 : (m.a == 0) = true := by simp [hz]
    go_wp2_with fail
    go_ret
    have h1 := HB3.out.trans (HB4.out.mono HB3.out.size)
    have h2 := HB2.out.trans (h1.mono HB2.out.size)
    exact ⟨rfl, h2.alloc h2.size _⟩
   ·have hz1 : (m.a == 0) = false := by simp [hz]
    obtain ⟨U, hU⟩ : ∃ U : Nat, m.a = (U : Int) := ⟨m.a.toNat, by omega⟩
    have hU1 : 1 ≤ U := by omega
    have hUN : U ≤ N := by omega
    have HZ : Hid _ := hz
    have HU : Hid _ := hU
    have hC4 : Below w3.heap.size w3 (w4.alloc (.cells #[.int .i64 m.op, .int .i64 m.s, .int .i64 m.a, .int .i64 m.b, .int .i64 m.c, .int .i64 m.p, .int .i64 m.q, .int .i64 m.w, .int .u64 m.lo, .int .u64 m.hi, .string m.nm] 53)) := HB4.out.alloc HB4.out.size _
    have HEU : Hid (Calls Tryz.prog 9 #[.pointer (some ⟨B + 2, 0, none⟩), .int .i64 m.a, .slice a3 n3 c3] (w4.alloc (.cells #[.int .i64 m.op, .int .i64 m.s, .int .i64 m.a, .int .i64 m.b, .int .i64 m.c, .int .i64 m.p, .int .i64 m.q, .int .i64 m.w, .int .u64 m.lo, .int .u64 m.hi, .string m.nm] 53)) fun e w' => e = .returned (.tuple #[.agg #[.int .i64 (F U).w, .int .u64 (F U).lo, .int .u64 (F U).hi], .int .i64 0]) ∧ Below (w4.alloc (.cells #[.int .i64 m.op, .int .i64 m.s, .int .i64 m.a, .int .i64 m.b, .int .i64 m.c, .int .i64 m.p, .int .i64 m.q, .int .i64 m.w, .int .u64 m.lo, .int .u64 m.hi, .string m.nm] 53)).heap.size (w4.alloc (.cells #[.int .i64 m.op, .int .i64 m.s, .int .i64 m.a, .int .i64 m.b, .int .i64 m.c, .int .i64 m.p, .int .i64 m.q, .int .i64 m.w, .int .u64 m.lo, .int .u64 m.hi, .string m.nm] 53)) w') := HE3.out _ hC4 U m.a hU hU1 hUN
    clear hz hU hkd
    go_wp2_with fail
    refine Calls.mono HEU.out ?_
    rintro e w5 ⟨rfl, hb5⟩
    have s5 := hb5.size
    rw [size_alloc'] at s5
    have HX5 : Hid (w5.heap[w4.heap.size]? = some (.cells #[.int .i64 m.op, .int .i64 m.s, .int .i64 m.a, .int .i64 m.b, .int .i64 m.c, .int .i64 m.p, .int .i64 m.q, .int .i64 m.w, .int .u64 m.lo, .int .u64 m.hi, .string m.nm] 53 (0, 0))) := (hb5.block _ (by rw [size_alloc']; omega)).trans (heap_alloc_new w4 _)
    have HB5 : Hid (Below w3.heap.size w3 w5) := hC4.trans (hb5.mono hC4.size)
    clear hb5 hC4 HEU HB4
    go_wp2_with fail
    have hC5 : Below w3.heap.size w3 (w5.alloc (.cells #[.int .i64 (F U).w, .int .u64 (F U).lo, .int .u64 (F U).hi] 34)) := HB5.out.alloc HB5.out.size _
    have HEQ : Hid (Calls Tryz.prog 9 #[.pointer (some ⟨B + 2, 0, none⟩), .int .i64 (1 + (Q : Int)), .slice a3 n3 c3] (w5.alloc (.cells #[.int .i64 (F U).w, .int .u64 (F U).lo, .int .u64 (F U).hi] 34)) fun e w' => e = .returned (.tuple #[.agg #[.int .i64 (F (Q + 1)).w, .int .u64 (F (Q + 1)).lo, .int .u64 (F (Q + 1)).hi], .int .i64 0]) ∧ Below (w5.alloc (.cells #[.int .i64 (F U).w, .int .u64 (F U).lo, .int .u64 (F U).hi] 34)).heap.size (w5.alloc (.cells #[.int .i64 (F U).w, .int .u64 (F U).lo, .int .u64 (F U).hi] 34)) w') := HE3.out _ hC5 (Q + 1) (1 + (Q : Int)) (by omega) (by omega) (by omega)
    refine Calls.mono HEQ.out ?_
    rintro e w6 ⟨rfl, hb6⟩
    have s6 := hb6.size
    rw [size_alloc'] at s6
    have hx6 : w6.heap[w5.heap.size]? = some (.cells #[.int .i64 (F U).w, .int .u64 (F U).lo, .int .u64 (F U).hi] 34 (0, 0)) := (hb6.block _ (by rw [size_alloc']; omega)).trans (heap_alloc_new w5 _)
    have HX6 : Hid (w6.heap[w4.heap.size]? = some (.cells #[.int .i64 m.op, .int .i64 m.s, .int .i64 m.a, .int .i64 m.b, .int .i64 m.c, .int .i64 m.p, .int .i64 m.q, .int .i64 m.w, .int .u64 m.lo, .int .u64 m.hi, .string m.nm] 53 (0, 0))) := (hb6.block _ (by rw [size_alloc']; omega)).trans ((heap_alloc_old _ _ (by omega)).trans HX5.out)
    have HB6 : Hid (Below w3.heap.size w3 w6) := hC5.trans (hb6.mono hC5.size)
    have x0 := cell_of hx6 0 rfl
    have x1 := cell_of hx6 1 rfl
    have x2 := cell_of hx6 2 rfl
    have hl6 : w5.heap.size < w6.heap.size := by omega
    clear hb6 hC5 HEQ hx6 HX5 HB5
    by_cases hq : F U = F (Q + 1)
    ·have hqt : eqT (F U) (F (Q + 1)) = true := by unfold eqT; rw [hq]; simp
     have HQ : Hid _ := hq
     clear hq
     have hC6 : Below w3.heap.size w3 (w6.alloc (.cells #[.int .i64 (F (Q + 1)).w, .int .u64 (F (Q + 1)).lo, .int .u64 (F (Q + 1)).hi] 34)) := HB6.out.alloc HB6.out.size _
     have HEP : Hid (Calls Tryz.prog 9 #[.pointer (some ⟨B + 2, 0, none⟩), .int .i64 (1 + (P : Int)), .slice a3 n3 c3] (w6.alloc (.cells #[.int .i64 (F (Q + 1)).w, .int .u64 (F (Q + 1)).lo, .int .u64 (F (Q + 1)).hi] 34)) fun e w' => e = .returned (.tuple #[.agg #[.int .i64 (F (P + 1)).w, .int .u64 (F (P + 1)).lo, .int .u64 (F (P + 1)).hi], .int .i64 0]) ∧ Below (w6.alloc (.cells #[.int .i64 (F (Q + 1)).w, .int .u64 (F (Q + 1)).lo, .int .u64 (F (Q + 1)).hi] 34)).heap.size (w6.alloc (.cells #[.int .i64 (F (Q + 1)).w, .int .u64 (F (Q + 1)).lo, .int .u64 (F (Q + 1)).hi] 34)) w') := HE3.out _ hC6 (P + 1) (1 + (P : Int)) (by omega) (by omega) (by omega)
     go_wp2_with fail
     refine Calls.mono HEP.out ?_
     rintro e w7 ⟨rfl, hb7⟩
     have s7 := hb7.size
     rw [size_alloc'] at s7
     have hx7 : w7.heap[w4.heap.size]? = some (.cells #[.int .i64 m.op, .int .i64 m.s, .int .i64 m.a, .int .i64 m.b, .int .i64 m.c, .int .i64 m.p, .int .i64 m.q, .int .i64 m.w, .int .u64 m.lo, .int .u64 m.hi, .string m.nm] 53 (0, 0)) := (hb7.block _ (by rw [size_alloc']; omega)).trans ((heap_alloc_old _ _ (by omega)).trans HX6.out)
     have HX7 : Hid _ := hx7
     have HB7 : Hid (Below w3.heap.size w3 w7) := hC6.trans (hb7.mono hC6.size)
     have y0 := cell_of hx7 0 rfl
     have y1 := cell_of hx7 1 rfl
     have y2 := cell_of hx7 2 rfl
     have y3 := cell_of hx7 3 rfl
     have y4 := cell_of hx7 4 rfl
     have y5 := cell_of hx7 5 rfl
     have y6 := cell_of hx7 6 rfl
     have y7 := cell_of hx7 7 rfl
     have y8 := cell_of hx7 8 rfl
     have y9 := cell_of hx7 9 rfl
     have y10 := cell_of hx7 10 rfl
     have yf : ∀ o, w7.frozen? ⟨w4.heap.size, o, none⟩ = false := fun o => by simp [World.frozen?, hx7]
     have hl7 : w4.heap.size < w7.heap.size := by omega
     clear hb7 hC6 HEP hx7 HX6 HB6 x0 x1 x2
     go_wp2_with fail
     obtain ⟨wS, hwS⟩ : ∃ wS, wS = (w7.setCell ⟨w4.heap.size, 2, none⟩ (.int .i64 (1 + (Q : Int)))).alloc (.cells #[.int .i64 (F (P + 1)).w, .int .u64 (F (P + 1)).lo, .int .u64 (F (P + 1)).hi] 34) := ⟨_, rfl⟩
     rw [← hwS]
     have hput : Below w3.heap.size w7 (w7.setCell ⟨w4.heap.size, 2, none⟩ (.int .i64 (1 + (Q : Int)))) := ⟨rfl, rfl, rfl, by simp, fun b hb => heap_setCell_other _ _ _ _ (by show b ≠ w4.heap.size; omega)⟩
     have hszp : (w7.setCell ⟨w4.heap.size, 2, none⟩ (.int .i64 (1 + (Q : Int)))).heap.size = w7.heap.size := World.size_setCell ..
     have hsS : wS.heap.size = w7.heap.size + 1 := by rw [hwS, size_alloc', hszp]
     have hxS : wS.heap[w7.heap.size]? = some (.cells #[.int .i64 (F (P + 1)).w, .int .u64 (F (P + 1)).lo, .int .u64 (F (P + 1)).hi] 34 (0, 0)) := by
      rw [hwS]
      have h1 := heap_alloc_new (w7.setCell ⟨w4.heap.size, 2, none⟩ (.int .i64 (1 + (Q : Int)))) (.cells #[.int .i64 (F (P + 1)).w, .int .u64 (F (P + 1)).lo, .int .u64 (F (P + 1)).hi] 34)
      rw [hszp] at h1; exact h1
     have hCS : Below w3.heap.size w3 wS := by
      rw [hwS]
      have h1 := HB7.out.trans hput
      exact h1.alloc h1.size _
     have h2S : Below w2.heap.size w2 wS := HB3.out.trans (hCS.mono HB3.out.size)
     have hGS := HG.out.below h2S
     have hgl := HG.out.lt
     have hmem := List.mem_of_getElem? HMI.out
     have hPl : ns.length = N := HN.out.symm
     obtain ⟨-, sU, -⟩ := vG_cst HA.out HV.out HMD.out.gd HGK.out (id := U) hU1 (by omega) HFI.out
     obtain ⟨-, sQ, -⟩ := vG_cst HA.out HV.out HMD.out.gd HGK.out (id := Q + 1) (by omega) (by omega) HFI.out
     have hsrt : sAt ns ((Q + 1 : Nat) : Int) = sAt ns m.a := by
      rw [HU.out, ← sU, ← sQ, ← HF.out, ← HF.out, HQ.out]
     obtain ⟨j, r, hM, hj, hr⟩ := swap_mk HV.out HMD.out (by omega) HMI.out HZ.out (x := ((Q + 1 : Nat) : Int)) (by simp [hasB]; omega) hsrt
     have hOk : Ok (m.wa ((Q + 1 : Nat) : Int)) := by
      have h := (HMD.out.po m hmem).2
      obtain ⟨f1, f2, f3, f4, f5⟩ := h.fi
      exact ⟨⟨f1, f2, f3, f4, f5⟩, h.op, h.s, (by show w64 ((Q + 1 : Nat) : Int); unfold w64; omega), h.b, h.c, h.p, h.q, h.w⟩
     have hop2 : ¬ (m.wa ((Q + 1 : Nat) : Int)).op = 2 := (ari_pos (HMD.out.po m hmem).1 HZ.out).2.2.2
     have hGf : fvF (ns ++ r) E = G := by
      rcases hr with rfl | rfl
      ·rw [List.append_nil]; exact HGG.out.symm
      ·rw [fvF_snoc' hop2]; exact HGG.out.symm
     have hfi' : ∀ (i : Nat) (n : Nd), (ns ++ r)[i]? = some n → n.op = 2 → fits G ((i : Int) + 1) n.s = true := by
      intro i n hi h2
      by_cases hil : i < ns.length
      ·rw [List.getElem?_append_left hil] at hi
       exact HFI.out i n hi h2
      ·rw [List.getElem?_append_right (by omega)] at hi
       rcases hr with rfl | rfl
       ·simp at hi
       ·have := List.mem_of_getElem? hi
        rw [List.mem_singleton.1 this] at h2
        exact absurd h2 hop2
     have HMK : Hid (Calls Tryz.prog 22 #[.pointer (some ⟨B + 2, 0, none⟩), .agg #[.int .i64 m.op, .int .i64 m.s, .int .i64 (1 + (Q : Int)), .int .i64 m.b, .int .i64 m.c, .int .i64 m.p, .int .i64 m.q, .int .i64 m.w, .int .u64 m.lo, .int .u64 m.hi, .string m.nm]] wS fun e w' => e = .returned (.tuple #[.int .i64 ((j : Int) + 1), .int .i64 0]) ∧ ∃ v', Gr w' B (B + 2) B (B + 1) v' 4096 (ns ++ r) ∧ Chg wS w' (B + 2) B (B + 1) v ∧ (v'.ownBlock = v.ownBlock ∨ ∃ b, v'.ownBlock = some b ∧ wS.heap.size ≤ b)) := by
      have h1 := mk_any hGS hOk hM (by omega)
      rw [show (1 + (Q : Int)) = ((Q + 1 : Nat) : Int) by omega]
      exact h1
     have HD9 : Hid (Gd (ns ++ r)) := gd_mkd HV.out HMD.out.gd hOk hM
     have HJ : Hid _ := hj
     have HGF : Hid _ := hGf
     have HFI' : Hid _ := hfi'
     have HXS : Hid _ := hxS
     have HCS : Hid _ := hCS
     have H2S : Hid _ := h2S
     have hjl : j < (ns ++ r).length := (List.getElem?_eq_some_iff.1 hj).1
     have hrl : (ns ++ r).length ≤ 121 := by
      rw [List.length_append]
      rcases hr with rfl | rfl <;> simp <;> omega
     clear hwS hput hszp hxS hCS h2S hGS hsrt hM hj hr hOk hop2 hGf hfi' sU sQ y0 y1 y2 y3 y4 y5 y6 y7 y8 y9 y10 yf
     refine Calls.mono HMK.out ?_
     rintro e w9 ⟨rfl, v', hG9, hC9, -⟩
     have hk9 : ∀ b, w2.heap.size ≤ b → b < wS.heap.size → w9.heap[b]? = wS.heap[b]? := fun b hb hl => hC9.block b hl (by omega) (by omega) (by omega) (fun e => by have := (HG.out.row.lt b e.symm).2; omega)
     have HX9 : Hid (w9.heap[w7.heap.size]? = some (.cells #[.int .i64 (F (P + 1)).w, .int .u64 (F (P + 1)).lo, .int .u64 (F (P + 1)).hi] 34 (0, 0))) := (hk9 _ (by omega) (by omega)).trans HXS.out
     have HB9 : Hid (Below w.heap.size w w9) := by
      have h1 : Below w.heap.size w wS := HB2.out.trans (H2S.out.mono HB2.out.size)
      exact h1.trans ((hC9.low (HG.out.below H2S.out) (by omega)).mono hwB)
     have hs9 : w7.heap.size < w9.heap.size := by have := hC9.size; omega
     have HE9 : Hid (Rt 9 #[.pointer (some ⟨B + 2, 0, none⟩), .int .i64 ((j : Int) + 1), .slice a3 n3 c3] w9 (.tuple #[.agg #[.int .i64 (F (P + 1)).w, .int .u64 (F (P + 1)).lo, .int .u64 (F (P + 1)).hi], .int .i64 0])) := by
      have h1 := evalg (c := c3) (id := ((j + 1 : Nat) : Int)) HA.out hG9 HD9.out.nok (Le.kept (Le.below HL3.out HCS.out) HT3.out hC9.size hk9) HEN.out (by have := HN3.out; omega) HEB.out (by unfold w64; omega)
      have h2 := swap_val HA.out HV.out HMD.out hG9.inv HD9.out HGK.out HFI.out HFI'.out HMI.out HU.out hU1 (t := Q + 1) (by omega) (by omega) HJ.out (by rw [← HF.out, ← HF.out]; exact HQ.out)
      rw [HGF.out, h2.1, h2.2, ← HF.out, ← HN3.out] at h1
      exact h1
     clear hG9 hC9 hk9
     go_wp2_with fail
     refine Calls.mono HE9.out ?_
     rintro e w10 ⟨rfl, hb10⟩
     have hx10 := (hb10.block _ hs9).trans HX9.out
     have z0 := cell_of hx10 0 rfl
     have z1 := cell_of hx10 1 rfl
     have z2 := cell_of hx10 2 rfl
     have hs10 : w7.heap.size < w10.heap.size := by have := hb10.size; omega
     have HB10 : Hid (Below w.heap.size w w10) := HB9.out.trans (hb10.mono HB9.out.size)
     clear hb10 hx10 HE9
     go_wp2_with fail
     go_ret
     exact ⟨by first | rfl | trivial, HB10.out.alloc HB10.out.size _⟩
    ·have hqf : eqT (F U) (F (Q + 1)) = false := by
      cases e : eqT (F U) (F (Q + 1))
      ·rfl
      ·unfold eqT at e
       simp only [Bool.and_eq_true, decide_eq_true_eq] at e
       exact absurd (by
        cases h1 : F U
        cases h2 : F (Q + 1)
        rw [h1, h2] at e
        simp at e
        simp [e]) hq
     clear hq
     go_wp2_with fail
     go_ret
     have h1 := HB3.out.trans (HB6.out.mono HB3.out.size)
     have h2 := HB2.out.trans (h1.mono HB2.out.size)
     exact ⟨rfl, h2.alloc h2.size _⟩
theorem walk_swap {a a1 : Option Addr} {c c1 : Nat} {l : List Nd} {l1 : List Nv} (id tt : Int) (w : World) (hL : La w a l) (hok : ∀ n ∈ l, Ok n) (hmx : l.length ≤ maxLen)
  (he1 : Le w a1 l1) (hk1 : ∀ b ∈ l1, Bk b.v) (hn1 : ∀ b ∈ l1, b.nm.size ≤ maxLen) (hm1 : l1.length ≤ maxLen) :
  Rt 6 #[.slice a l.length c, .slice a1 l1.length c1, .int .i64 id, .int .i64 tt] w (.bool true) := by
 by_cases h1 : l1.length ≤ 50
 ·exact walk_swap_of id tt w hL hok hmx he1 hk1 hn1 h1
 ·have i1 : (50 : Int) < (l1.length : Int) := by omega
  clear hL hok hmx he1 hk1 hn1 hm1 h1
  go_enter Tryz.func6, Tryz.ntmps6
  go_wp2_with fail
  refine (known4 _).mono ?_
  rintro e w1 ⟨rfl, hb1⟩
  go_wp2_with fail
  go_ret
  exact ⟨rfl, hb1⟩
end Go.Proofs.YtejljdbkocnhlaaGreat
