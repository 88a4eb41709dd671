import Derived.Test.YtedldoobmmhloaaLM2
import Derived.Test.YtedldoobmmhloaaMg51
import Derived.Test.YtedldoobmmhloaaMg49
import Derived.Test.YtedldoobmmhloaaMg21
namespace Go.Proofs.Ytedldoobmmhloaa
open Go.RowKit
set_option linter.unusedSimpArgs false
set_option linter.unusedVariables false
set_option maxHeartbeats 400000 in
theorem named_nil {a b : Option Addr} {N c d : Nat} (hN : N = 0) (w : World) :
  Calls Try.prog 16 #[.slice a N c, .slice b N d] w fun e w' => e = .returned (.bool true) ∧ Below w.heap.size w w' := by
 have hlt : ¬ (0 : Int) < (N : Int) := by omega
 have y1 : ((N : Int) != N) = false := by simp
 clear hN
 go_enter Try.func16, Try.ntmps16
 go_wp2_with fail
 go_loopw [5] (fun i wr => i = .int .i64 0 ∧ wr = w) (fun i wr => 0)
 case atStart => exact ⟨rfl, rfl⟩
 case round =>
  obtain ⟨rfl, rfl⟩ := hrel
  go_wp2_with fail
  go_ret
  exact ⟨rfl, Below.refl _ _⟩
theorem named_le {w : World} {a b : Option Addr} {c d : Nat} {l : List Nv} (ha : Le w a l) (hb : Le w b l) (hl : l.length ≤ 100000) :
  Calls Try.prog 16 #[.slice a l.length c, .slice b l.length d] w fun e w' => e = .returned (.bool true) ∧ Below w.heap.size w w' := by
 cases l with
 | nil => exact named_nil rfl w
 | cons x l =>
  obtain ⟨g, o, rfl, hg, hc⟩ := ha.resolve_left (by simp)
  obtain ⟨g', o', rfl, hg', hc'⟩ := hb.resolve_left (by simp)
  exact named_same hc hc' hl hg hg'
theorem mkd_nm {mo B : Nat} {ns ns' : List Nd} {n : Nd} {id er : Int} (h : ∀ m ∈ ns, m.nm.size ≤ B) (hn : n.nm.size ≤ B) (hM : Mkd mo ns n id er ns') : (∀ m ∈ ns', m.nm.size ≤ B) ∧ ns'.length ≤ ns.length + 1 := by
 refine ⟨?_, by cases hM <;> simp⟩
 cases hM with
 | err _ _ => exact h
 | old _ _ => exact h
 | full _ _ _ => exact h
 | new _ _ _ =>
  intro m hm
  rcases List.mem_append.1 hm with hm | hm
  ·exact h m hm
  ·rw [List.mem_singleton.1 hm]; exact hn
def Lr (w : World) (a : Option Addr) (l : List Int) : Prop := l = [] ∨ ∃ g o, a = some ⟨g, o, none⟩ ∧ g < w.heap.size ∧ Li w g o l
theorem Lr.below {w x : World} {a : Option Addr} {l : List Int} (h : Lr w a l) (hb : Below w.heap.size w x) : Lr x a l := by
 rcases h with e | ⟨g, o, h1, h2, h3⟩
 ·exact Or.inl e
 ·exact Or.inr ⟨g, o, h1, Nat.lt_of_lt_of_le h2 hb.size, fun j hj => bel_cell hb h2 (h3 j hj)⟩
structure Mk (w wr : World) (B : Nat) (v : Value) (ns : List Nd) : Prop where
 gr : Gr wr B (B + 2) B (B + 1) v 4096 ns
 gd : Gd ns
 nm : ∀ n ∈ ns, n.nm.size ≤ 100
 lo : w.heap.size ≤ B
 bel : Below w.heap.size w wr
set_option maxRecDepth 20000 in
set_option maxHeartbeats 25600000 in
theorem walk_models_of {a a1 a2 : Option Addr} {c c1 c2 : Nat} {l : List Nd} {l1 : List Nv} {ids : List Int} (w : World) (hL : La w a l) (hok : ∀ n ∈ l, Ok n) (hmx : l.length ≤ 60)
  (he1 : Le w a1 l1) (hk1 : ∀ b ∈ l1, Bk b.v) (hn1 : ∀ b ∈ l1, b.nm.size ≤ maxLen) (hm1 : l1.length ≤ 40)
  (hi2 : Lr w a2 ids) (hm2 : ids.length ≤ 20) (h64 : ∀ p ∈ ids, w64 p) :
  Calls Try.prog 4 #[.slice a l.length c, .slice a1 l1.length c1, .slice a2 ids.length c2] w fun e w' => e = .returned (.bool true) ∧ Below w.heap.size w w' := by
 obtain ⟨A, hA⟩ := ap_fun
 have HA : Hid _ := hA
 have HLa : Hid _ := hL
 have HOK : Hid _ := hok
 have HE1 : Hid (Le w a1 l1) := he1
 have HK1 : Hid _ := hk1
 have HN1 : Hid _ := hn1
 have HI2 : Hid (Lr w a2 ids) := hi2
 have H64 : Hid _ := h64
 have HNW : Hid (∀ wx, Calls Try.prog 13 #[.int .i64 4096] wx fun e w' => e = .returned (.pointer (some ⟨wx.heap.size + 2, 0, none⟩)) ∧ Below wx.heap.size wx w' ∧ Gr w' wx.heap.size (wx.heap.size + 2) wx.heap.size (wx.heap.size + 1) (.slice none 0 0) 4096 []) := fun wx => gnew_any 4096 wx
 obtain ⟨n0, hn0⟩ : ∃ n, n = l.length := ⟨_, rfl⟩
 obtain ⟨n1, hn1'⟩ : ∃ n, n = l1.length := ⟨_, rfl⟩
 obtain ⟨n2, hn2'⟩ : ∃ n, n = ids.length := ⟨_, rfl⟩
 have HL0 : Hid _ := hn0
 have HL1 : Hid _ := hn1'
 have HL2 : Hid _ := hn2'
 rw [← hn0, ← hn1', ← hn2']
 have i0 : ¬ (60 : Int) < (n0 : Int) := by omega
 have i1 : ¬ (40 : Int) < (n1 : Int) := by omega
 have i2 : ¬ (20 : Int) < (n2 : Int) := by omega
 have m0 : n0 ≤ 60 := by omega
 have m1 : n1 ≤ 40 := by omega
 have m2 : n2 ≤ 20 := by omega
 clear hL hok hmx he1 hk1 hn1 hm1 hi2 hm2 h64 hn0 hn1' hn2' hA
 go_enter Try.func4, Try.ntmps4
 go_wp2_with fail
 refine (known16 _).mono ?_
 rintro e wa ⟨rfl, hba⟩
 have HBA : Hid _ := hba
 clear hba
 go_wp2_with fail
 refine (HNW.out _).mono ?_
 rintro e wb ⟨rfl, hbb, hG⟩
 have HM0 : Hid (Mk w wb wa.heap.size (.slice none 0 0) []) := ⟨hG, gd_nil, (fun _ h => nomatch h), HBA.out.size, HBA.out.trans (hbb.mono HBA.out.size)⟩
 clear hbb hG HNW HBA
 go_wp2_with fail
 go_loopw [8] (fun i wr => ∃ k : Nat, k ≤ n0 ∧ i = .int .i64 (k : Int) ∧ ∃ v ns, Hid (Mk w wr wa.heap.size v ns ∧ ns.length ≤ k)) (fun i wr => n0 - (intOf i).toNat)
 case atStart => exact ⟨0, Nat.zero_le _, rfl, _, _, HM0.out, Nat.le_refl _⟩
 case round =>
  clear HM0
  obtain ⟨k, hk, rfl, v, ns, hH⟩ := hrel
  by_cases hlt : k < n0
  ·obtain ⟨m, hm⟩ : ∃ m, l[k]? = some m := ⟨_, List.getElem?_eq_getElem (by rw [← HL0.out]; exact hlt)⟩
   obtain ⟨gl, o, rfl, hgl, hLn⟩ : ∃ gl o, a = some ⟨gl, o, none⟩ ∧ gl < w.heap.size ∧ Ln w gl o l := by
    rcases HLa.out with e | h
    ·rw [e] at hm; simp at hm
    ·exact h
   have hc := hLn k m hm
   have hbl := hH.out.1.bel
   have d10 : wr.cell? ⟨gl, o + k * 11 + 10, none⟩ = some (.string m.nm) := bel_cell hbl hgl (hc 10 _ rfl)
   have hlt' : (k : Int) < (n0 : Int) := by omega
   by_cases hnm : m.nm.size ≤ 60
   ·have hnmI : ¬ (60 : Int) < (m.nm.size : Int) := by omega
    have d0 : wr.cell? ⟨gl, o + k * 11, none⟩ = some (.int .i64 m.op) := bel_cell hbl hgl (hc 0 _ rfl)
    have d1 : wr.cell? ⟨gl, o + k * 11 + 1, none⟩ = some (.int .i64 m.s) := bel_cell hbl hgl (hc 1 _ rfl)
    have d2 : wr.cell? ⟨gl, o + k * 11 + 2, none⟩ = some (.int .i64 m.a) := bel_cell hbl hgl (hc 2 _ rfl)
    have d3 : wr.cell? ⟨gl, o + k * 11 + 3, none⟩ = some (.int .i64 m.b) := bel_cell hbl hgl (hc 3 _ rfl)
    have d4 : wr.cell? ⟨gl, o + k * 11 + 4, none⟩ = some (.int .i64 m.c) := bel_cell hbl hgl (hc 4 _ rfl)
    have d5 : wr.cell? ⟨gl, o + k * 11 + 5, none⟩ = some (.int .i64 m.p) := bel_cell hbl hgl (hc 5 _ rfl)
    have d6 : wr.cell? ⟨gl, o + k * 11 + 6, none⟩ = some (.int .i64 m.q) := bel_cell hbl hgl (hc 6 _ rfl)
    have d7 : wr.cell? ⟨gl, o + k * 11 + 7, none⟩ = some (.int .i64 m.w) := bel_cell hbl hgl (hc 7 _ rfl)
    have d8 : wr.cell? ⟨gl, o + k * 11 + 8, none⟩ = some (.int .u64 m.lo) := bel_cell hbl hgl (hc 8 _ rfl)
    have d9 : wr.cell? ⟨gl, o + k * 11 + 9, none⟩ = some (.int .u64 m.hi) := bel_cell hbl hgl (hc 9 _ rfl)
    obtain ⟨id', er, ns', hM⟩ := mkd_any 4096 ns m hH.out.1.gr.room
    have hOm := HOK.out m (List.mem_of_getElem? hm)
    have HMK : Hid _ := mk_any hH.out.1.gr hOm hM (by have := hH.out.1.gr.lt; omega)
    obtain ⟨hnm', hln'⟩ := mkd_nm hH.out.1.nm (by omega) hM
    have HND : Hid (Gd ns' ∧ (∀ n ∈ ns', n.nm.size ≤ 100) ∧ ns'.length ≤ k + 1) := ⟨gd_mkd hH.out.1.gr.inv hH.out.1.gd hOm hM, hnm', by have := hH.out.2; omega⟩
    clear hc hLn hm hM hOm hnm' hln'
    go_wp2_with fail
    refine Calls.mono HMK.out ?_
    rintro e w2 ⟨rfl, v', hG', hC, hv'⟩
    have HM2 : Hid (Mk w w2 wa.heap.size v' ns') := ⟨hG', HND.out.1, HND.out.2.1, hH.out.1.lo, hH.out.1.bel.trans ((hC.low hH.out.1.gr (by have := hH.out.1.gr.lt; omega)).mono hH.out.1.lo)⟩
    clear hG' hC hv' HMK d0 d1 d2 d3 d4 d5 d6 d7 d8 d9 d10 hbl
    go_wp2_with fail
    exact ⟨⟨k + 1, by omega, by go_num, _, _, HM2.out, HND.out.2.2⟩, by simp [intOf]; omega⟩
   ·have hnmI : (60 : Int) < (m.nm.size : Int) := by omega
    clear hc hLn hm
    go_wp2_with fail
    go_ret
    exact ⟨rfl, hbl⟩
  ·obtain rfl : k = n0 := by omega
   have hlt' : ¬ (k : Int) < (k : Int) := by omega
   obtain ⟨wg, rfl⟩ : ∃ x, x = wr := ⟨_, rfl⟩
   have HG : Hid _ := hH.out.1.gr
   have HGD : Hid _ := hH.out.1.gd
   have HNM : Hid _ := hH.out.1.nm
   have HLO : Hid (w.heap.size ≤ wa.heap.size) := hH.out.1.lo
   have HBL : Hid (Below w.heap.size w wg) := hH.out.1.bel
   have hns : ns.length ≤ 60 := Nat.le_trans hH.out.2 m0
   obtain ⟨B, hB⟩ : ∃ B, B = wa.heap.size := ⟨_, rfl⟩
   rw [← hB] at HG HLO ⊢
   have HV : Hid _ := HG.out.inv
   have HE0 : Hid (Le wg a1 l1) := Le.below HE1.out HBL.out
   have HI0 : Hid (Lr wg a2 ids) := HI2.out.below HBL.out
   obtain ⟨E, hE⟩ : ∃ E, E = cmpF ns (fvF ns l1) := ⟨_, rfl⟩
   have hEl : E.length ≤ 60 := by rw [hE]; unfold cmpF; rw [List.length_map]; have := vsF_len ns; omega
   have HEB : Hid (∀ x ∈ E, Bk x.v) := by unfold Hid; rw [hE]; exact cmp_bk HV.out (fvF_bk HK1.out)
   have HEN : Hid (∀ x ∈ E, x.nm.size ≤ maxLen) := by unfold Hid; rw [hE]; intro x hx; have := cmp_names HNM.out x hx; unfold maxLen; omega
   have HEF : Hid (Full ns (fvF ns E)) := by unfold Hid; rw [hE]; exact full_cmp HV.out _
   have HEA : Hid (cmpF ns (fvF ns E) = E) := by unfold Hid; rw [hE]; exact cmp_again HV.out _
   have HMO : Hid (∀ wx, Below wg.heap.size wg wx → Calls Try.prog 15 #[.pointer (some ⟨B + 2, 0, none⟩), .slice a1 n1 c1] wx fun e w' => ∃ u, e = .returned u ∧ Nv' w' wx.heap.size u E ∧ Below wx.heap.size wx w') := fun wx hb => by
    rw [HL1.out, hE]; exact model_any (HG.out.below hb) (Le.below HE0.out hb) HN1.out (by rw [← HL1.out]; omega) HK1.out
   have HCO : Hid (∀ wx, Below wg.heap.size wg wx → Calls Try.prog 17 #[.pointer (some ⟨B + 2, 0, none⟩), .slice a1 n1 c1] wx fun e w' => ∃ u, e = .returned u ∧ Nv' w' wx.heap.size u E ∧ Below wx.heap.size wx w') := fun wx hb => by
    rw [HL1.out, hE]; exact comp_all (HG.out.below hb) (Le.below HE0.out hb) HN1.out (by rw [← HL1.out]; omega) HK1.out
   obtain ⟨R, hR⟩ : ∃ R, R = hldF A ns (fvF ns E) ids := ⟨_, rfl⟩
   have HHO : Hid (∀ wx, Below wg.heap.size wg wx → Calls Try.prog 20 #[.pointer (some ⟨B + 2, 0, none⟩), .slice a2 n2 c2, .slice a1 n1 c1] wx fun e w' => e = .returned (.bool R) ∧ Below wx.heap.size wx w') := fun wx hb => by
    have h1 := holds_any (c := c1) (ci := c2) HA.out (HG.out.below hb) HGD.out HNM.out (Le.below HE0.out hb) HN1.out (by rw [← HL1.out]; omega) (by omega) HK1.out (HI0.out.below hb) (by rw [← HL2.out]; omega) H64.out
    rw [← hE, ← hR, ← HL1.out, ← HL2.out] at h1
    exact h1
   have HHM : Hid (∀ wx ad cd, Below wg.heap.size wg wx → Le wx ad E → Calls Try.prog 20 #[.pointer (some ⟨B + 2, 0, none⟩), .slice a2 n2 c2, .slice ad E.length cd] wx fun e w' => e = .returned (.bool R) ∧ Below wx.heap.size wx w') := fun wx ad cd hb hle => by
    have h1 := holds_any (c := cd) (ci := c2) HA.out (HG.out.below hb) HGD.out HNM.out hle HEN.out (by omega) (by omega) HEB.out (HI0.out.below hb) (by rw [← HL2.out]; omega) H64.out
    rw [HEA.out, ← hR, ← HL2.out] at h1
    exact h1
   have HEV : Hid (∀ wx ad cd p, Below wg.heap.size wg wx → Le wx ad E → w64 p → Calls Try.prog 19 #[.pointer (some ⟨B + 2, 0, none⟩), .int .i64 p, .slice ad E.length cd] wx fun e w' => e = .returned (.tuple #[.agg #[.int .i64 (val A ns (fvF ns E) p).w, .int .u64 (val A ns (fvF ns E) p).lo, .int .u64 (val A ns (fvF ns E) p).hi], .int .i64 (vG A ns (fvF ns E) [] p).2.2]) ∧ Below wx.heap.size wx w') := fun wx ad cd p hb hle hp =>
    evalg (c := cd) HA.out (HG.out.below hb) HGD.out.nok hle HEN.out (by omega) HEB.out hp
   have HNO : Hid (∀ wx p, Below wg.heap.size wg wx → hasB ns.length p = false → Calls Try.prog 18 #[.pointer (some ⟨B + 2, 0, none⟩), .int .i64 p] wx fun e w' => e = .returned (.tuple #[.agg #[.int .i64 0, .int .i64 0, .int .i64 0, .int .i64 0, .int .i64 0, .int .i64 0, .int .i64 0, .int .i64 0, .int .u64 0, .int .u64 0, .string ⟨#[]⟩], .bool false]) ∧ Below wx.heap.size wx w') := fun wx p hb hh => node_no (HG.out.below hb) hh
   have HNY : Hid (∀ (wx : World) (i : Nat) (n : Nd), Below wg.heap.size wg wx → ns[i]? = some n → Calls Try.prog 18 #[.pointer (some ⟨B + 2, 0, none⟩), .int .i64 ((i : Int) + 1)] wx fun e w' => e = .returned (.tuple #[.agg #[.int .i64 n.op, .int .i64 n.s, .int .i64 n.a, .int .i64 n.b, .int .i64 n.c, .int .i64 n.p, .int .i64 n.q, .int .i64 n.w, .int .u64 n.lo, .int .u64 n.hi, .string n.nm], .bool true]) ∧ Below wx.heap.size wx w') := fun wx i n hb hi => node_yes (HG.out.below hb) hi
   have HR : Hid _ := hR
   obtain ⟨n3, hn3⟩ : ∃ n3, n3 = E.length := ⟨_, rfl⟩
   rw [← hn3] at HHM HEV hEl
   have HN3 : Hid _ := hn3
   clear hH hE hB hR hn3 HE0 HN1 HK1 HE1 HI2 HG HLa HOK
   go_wp2_with fail
   refine (HMO.out _ (Below.refl _ _)).mono ?_
   rintro e w3 ⟨u3, rfl, hN3, hb3⟩
   obtain ⟨a3, c3, rfl, hL3⟩ := le_of hN3
   have HL3 : Hid (Le w3 a3 E) := hL3
   have HB3 : Hid (Below wg.heap.size wg w3) := hb3
   rw [← HN3.out]
   clear HMO hN3 hL3 hb3
   go_wp2_with fail
   refine (HCO.out _ HB3.out).mono ?_
   rintro e w4 ⟨u4, rfl, hN4, hb4⟩
   obtain ⟨a4, c4, rfl, hL4⟩ := le_of hN4
   have HNA : Hid (Calls Try.prog 16 #[.slice a3 n3 c3, .slice a4 n3 c4] w4 fun e w' => e = .returned (.bool true) ∧ Below w4.heap.size w4 w') := by
    rw [HN3.out]; exact named_le (Le.below HL3.out hb4) hL4 (by rw [← HN3.out]; omega)
   have HB4 : Hid (Below w3.heap.size w3 w4) := hb4
   rw [← HN3.out]
   clear HCO hN4 hL4 hb4
   go_wp2_with fail
   refine HNA.out.mono ?_
   rintro e w5 ⟨rfl, hb5⟩
   have HB5 : Hid (Below w3.heap.size w3 w5) := HB4.out.trans (hb5.mono HB4.out.size)
   clear hb5 HNA HB4
   go_wp2_with fail
   go_loopw [10, 11] (fun q i wq => ∃ k : Nat, k ≤ n2 ∧ i = .int .i64 (k : Int) ∧ (∃ b : Bool, q = .bool b ∧ Hid (b = (ids.take k).all fun p => hasB ns.length p && tru (val A ns (fvF ns E) p))) ∧ Hid (Below w3.heap.size w3 wq)) (fun q i wq => n2 - (intOf i).toNat)
   case atStart => exact ⟨0, Nat.zero_le _, rfl, ⟨true, rfl, by unfold Hid; simp⟩, HB5.out⟩
   case round =>
    clear HB5
    obtain ⟨j, hj, rfl, ⟨b, rfl, hb⟩, hbq⟩ := hrel
    have HBQ : Hid (Below wg.heap.size wg wr) := HB3.out.trans (hbq.out.mono HB3.out.size)
    by_cases hlt : j < n2
    ·obtain ⟨p, hp⟩ : ∃ p, ids[j]? = some p := ⟨_, List.getElem?_eq_getElem (by rw [← HL2.out]; exact hlt)⟩
     obtain ⟨gi, oi, rfl, hgi, hLi⟩ := HI0.out.resolve_left (fun e => by rw [e] at hp; simp at hp)
     have dp : wr.cell? ⟨gi, oi + j, none⟩ = some (.int .i64 p) := by
      have h1 := hLi j (by rw [← HL2.out]; exact hlt)
      rw [List.getD_eq_getElem?_getD, hp] at h1
      exact bel_cell HBQ.out hgi h1
     have hp64 := H64.out p (List.mem_of_getElem? hp)
     have hgr : gi < wr.heap.size := Nat.lt_of_lt_of_le hgi HBQ.out.size
     have hltI : (j : Int) < (n2 : Int) := by omega
     have HST : Hid (((ids.take (j + 1)).all fun p => hasB ns.length p && tru (val A ns (fvF ns E) p)) = (b && (hasB ns.length p && tru (val A ns (fvF ns E) p)))) := by
      unfold Hid
      rw [List.take_add_one, hp, List.all_append, ← hb.out]
      simp
     have HP64 : Hid _ := hp64
     clear hp hLi hb hp64
     cases hh : hasB ns.length p
     ·have HNX := HNO.out wr p HBQ.out hh
      have HNX' : Hid _ := HNX
      have her : (vG A ns (fvF ns E) [] p).2.2 = 40 := vG_no (cst_nil A ns _) hh
      have HEX : Hid (∀ wx, Below wr.heap.size wr wx → Calls Try.prog 19 #[.pointer (some ⟨B + 2, 0, none⟩), .int .i64 p, .slice a3 n3 c3] wx fun e w' => e = .returned (.tuple #[.agg #[.int .i64 (val A ns (fvF ns E) p).w, .int .u64 (val A ns (fvF ns E) p).lo, .int .u64 (val A ns (fvF ns E) p).hi], .int .i64 40]) ∧ Below wx.heap.size wx w') := fun wx hx => by
       have h1 := HEV.out wx a3 c3 p (HBQ.out.trans (hx.mono HBQ.out.size)) (Le.below HL3.out (hbq.out.trans (hx.mono hbq.out.size))) HP64.out
       rw [her] at h1; exact h1
      obtain ⟨x, hx⟩ : ∃ x, x = val A ns (fvF ns E) p := ⟨_, rfl⟩
      rw [← hx] at HEX
      have HS2 : Hid (((ids.take (j + 1)).all fun p => hasB ns.length p && tru (val A ns (fvF ns E) p)) = false) := by unfold Hid; rw [HST.out, hh]; simp
      clear HNX HST her hx hh
      go_wp2_with fail
      refine Calls.mono HNX'.out ?_
      rintro e w5 ⟨rfl, hb5⟩
      have hs5 := hb5.size
      have HB5 : Hid (Below wr.heap.size wr w5) := hb5
      have dp5 : w5.cell? ⟨gi, oi + j, none⟩ = some (.int .i64 p) := bel_cell hb5 hgr dp
      have hgi5 : gi < w5.heap.size := by omega
      clear hb5 HNX'
      go_wp2_with fail
      refine (HEX.out _ (HB5.out.alloc HB5.out.size _)).mono ?_
      rintro e w6 ⟨rfl, hb6⟩
      have HB6 : Hid (Below w3.heap.size w3 w6) := hbq.out.trans (((HB5.out.alloc HB5.out.size _).trans (hb6.mono (by rw [size_alloc']; omega))).mono hbq.out.size)
      have hs6 : w3.heap.size ≤ w6.heap.size := HB6.out.size
      clear hb6 HEX
      cases b
      all_goals
       go_wp2_with fail
       exact ⟨⟨j + 1, by omega, by go_num, ⟨false, by first | rfl | trivial, by unfold Hid; rw [HS2.out]⟩, HB6.out.alloc hs6 _⟩, by simp [intOf]; omega⟩
     ·obtain ⟨i, rfl, hi1, hi2⟩ := has_nat hh
      obtain ⟨i, rfl⟩ : ∃ i', i = i' + 1 := ⟨i - 1, by omega⟩
      obtain ⟨m, hm⟩ : ∃ m, ns[i]? = some m := ⟨_, List.getElem?_eq_getElem (by omega)⟩
      have hpe : ((i + 1 : Nat) : Int) = (i : Int) + 1 := by omega
      rw [hpe] at dp HST HP64 hh
      have HNX' : Hid (Calls Try.prog 18 #[.pointer (some ⟨B + 2, 0, none⟩), .int .i64 ((i : Int) + 1)] wr fun e w' => e = .returned (.tuple #[.agg #[.int .i64 m.op, .int .i64 m.s, .int .i64 m.a, .int .i64 m.b, .int .i64 m.c, .int .i64 m.p, .int .i64 m.q, .int .i64 m.w, .int .u64 m.lo, .int .u64 m.hi, .string m.nm], .bool true]) ∧ Below wr.heap.size wr w') := HNY.out wr i m HBQ.out hm
      have her : (vG A ns (fvF ns E) [] ((i : Int) + 1)).2.2 = 0 := (vG_step HA.out HV.out HGD.out (fvF_bk HEB.out) HEF.out (kok_nil ns) (cst_nil A ns _) hh).1
      have htr := val_bool HA.out HV.out HGD.out (fvF_bk HEB.out) HEF.out hm
      have HEX : Hid (∀ wx, Below wr.heap.size wr wx → Calls Try.prog 19 #[.pointer (some ⟨B + 2, 0, none⟩), .int .i64 ((i : Int) + 1), .slice a3 n3 c3] wx fun e w' => e = .returned (.tuple #[.agg #[.int .i64 (val A ns (fvF ns E) ((i : Int) + 1)).w, .int .u64 (val A ns (fvF ns E) ((i : Int) + 1)).lo, .int .u64 (val A ns (fvF ns E) ((i : Int) + 1)).hi], .int .i64 0]) ∧ Below wx.heap.size wx w') := fun wx hx => by
       have h1 := HEV.out wx a3 c3 ((i : Int) + 1) (HBQ.out.trans (hx.mono HBQ.out.size)) (Le.below HL3.out (hbq.out.trans (hx.mono hbq.out.size))) HP64.out
       rw [her] at h1; exact h1
      obtain ⟨x, hx⟩ : ∃ x, x = val A ns (fvF ns E) ((i : Int) + 1) := ⟨_, rfl⟩
      rw [← hx] at HEX htr
      have HS2 : Hid (((ids.take (j + 1)).all fun p => hasB ns.length p && tru (val A ns (fvF ns E) p)) = (b && (decide (m.s = 0) && decide (x.lo = 1)))) := by unfold Hid; rw [HST.out, hh, ← hx, htr]; simp
      clear HST her hx hh htr hpe hi1 hi2 hm
      go_wp2_with fail
      refine Calls.mono HNX'.out ?_
      rintro e w5 ⟨rfl, hb5⟩
      have hs5 := hb5.size
      have HB5 : Hid (Below wr.heap.size wr w5) := hb5
      have dp5 : w5.cell? ⟨gi, oi + j, none⟩ = some (.int .i64 ((i : Int) + 1)) := bel_cell hb5 hgr dp
      have hgi5 : gi < w5.heap.size := by omega
      clear hb5 HNX'
      go_wp2_with fail
      obtain ⟨wz, hwz⟩ : ∃ wz, wz = w5.alloc (.cells #[.int .i64 m.op, .int .i64 m.s, .int .i64 m.a, .int .i64 m.b, .int .i64 m.c, .int .i64 m.p, .int .i64 m.q, .int .i64 m.w, .int .u64 m.lo, .int .u64 m.hi, .string m.nm] 43) := ⟨_, rfl⟩
      have hz1 : wz.cell? ⟨w5.heap.size, 1, none⟩ = some (.int .i64 m.s) := by rw [hwz]; exact cell_of (heap_alloc_new w5 _) 1 rfl
      have hzs : w5.heap.size < wz.heap.size := by rw [hwz, size_alloc']; omega
      have HBZ : Hid (Below wr.heap.size wr wz) := by unfold Hid; rw [hwz]; exact HB5.out.alloc HB5.out.size _
      rw [← hwz]
      clear hwz
      refine (HEX.out _ HBZ.out).mono ?_
      rintro e w6 ⟨rfl, hb6⟩
      have e1 : w6.cell? ⟨w5.heap.size, 1, none⟩ = some (.int .i64 m.s) := bel_cell hb6 hzs hz1
      have HB6 : Hid (Below w3.heap.size w3 w6) := hbq.out.trans ((HBZ.out.trans (hb6.mono HBZ.out.size)).mono hbq.out.size)
      have hs6 : w3.heap.size ≤ w6.heap.size := HB6.out.size
      have hs56 : w5.heap.size < w6.heap.size := Nat.lt_of_lt_of_le hzs hb6.size
      clear hb6 HEX hz1
      have hsb : ∃ z, (m.s == 0) = z ∧ decide (m.s = 0) = z := ⟨_, rfl, by by_cases h : m.s = 0 <;> simp [h]⟩
      have hlb : ∃ z, (x.lo == 1) = z ∧ decide (x.lo = 1) = z := ⟨_, rfl, by by_cases h : x.lo = 1 <;> simp [h]⟩
      obtain ⟨z1, q1, q2⟩ := hsb
      obtain ⟨z2, q3, q4⟩ := hlb
      rw [q2, q4] at HS2
      clear q2 q4
      cases b
      ·go_wp2_with fail
       exact ⟨⟨j + 1, by omega, by go_num, ⟨false, by first | rfl | trivial, by unfold Hid; rw [HS2.out]; simp⟩, HB6.out.alloc hs6 _⟩, by simp [intOf]; omega⟩
      ·cases z1
       ·go_wp2_with fail
        exact ⟨⟨j + 1, by omega, by go_num, ⟨false, by first | rfl | trivial, by unfold Hid; rw [HS2.out]; simp⟩, HB6.out.alloc hs6 _⟩, by simp [intOf]; omega⟩
       ·cases z2
        ·go_wp2_with fail
         exact ⟨⟨j + 1, by omega, by go_num, ⟨false, by first | rfl | trivial, by unfold Hid; rw [HS2.out]; simp⟩, HB6.out.alloc hs6 _⟩, by simp [intOf]; omega⟩
        ·go_wp2_with fail
         exact ⟨⟨j + 1, by omega, by go_num, ⟨true, by first | rfl | trivial, by unfold Hid; rw [HS2.out]; simp⟩, HB6.out.alloc hs6 _⟩, by simp [intOf]; omega⟩
    ·obtain rfl : j = n2 := by omega
     have hltI : ¬ (j : Int) < (j : Int) := by omega
     have HBR : Hid (b = R) := by
      unfold Hid
      rw [hb.out, HR.out, HL2.out, List.take_length]; rfl
     have HHX : Hid (∀ wx, Below wr.heap.size wr wx → Calls Try.prog 20 #[.pointer (some ⟨B + 2, 0, none⟩), .slice a2 j c2, .slice a1 n1 c1] wx fun e w' => e = .returned (.bool b) ∧ Below wx.heap.size wx w') := fun wx hx => by rw [HBR.out]; exact HHO.out wx (HBQ.out.trans (hx.mono HBQ.out.size))
     have HHY : Hid (∀ wx, Below wr.heap.size wr wx → Calls Try.prog 20 #[.pointer (some ⟨B + 2, 0, none⟩), .slice a2 j c2, .slice a3 n3 c3] wx fun e w' => e = .returned (.bool b) ∧ Below wx.heap.size wx w') := fun wx hx => by rw [HBR.out]; exact HHM.out wx a3 c3 (HBQ.out.trans (hx.mono HBQ.out.size)) (Le.below HL3.out (hbq.out.trans (hx.mono hbq.out.size)))
     have hbb : (b == b) = true := by simp
     have HBW : Hid (Below w.heap.size w wr) := HBL.out.trans (HBQ.out.mono HBL.out.size)
     clear hb hbq HBR
     go_wp2_with fail
     refine (HHX.out _ (Below.refl _ _)).mono ?_
     rintro e w5 ⟨rfl, hb5⟩
     have HB5 : Hid (Below wr.heap.size wr w5) := hb5
     clear hb5
     go_wp2_with fail
     refine (HHY.out _ HB5.out).mono ?_
     rintro e w6 ⟨rfl, hb6⟩
     have HB6 : Hid (Below w.heap.size w w6) := HBW.out.trans ((HB5.out.trans (hb6.mono HB5.out.size)).mono HBW.out.size)
     clear hb6
     go_wp2_with fail
     go_ret
     exact ⟨by first | rfl | trivial, HB6.out⟩
end Go.Proofs.Ytedldoobmmhloaa
namespace Go.Proofs.Ytedldoobmmhloaa
open Go.RowKit Go.ChangeShapes Go.WideShapes Go.Deep
section
variable {H : Type} {enc : TypeId × Value → H} {w : World} {base : Nat} {spare : Nat → Bool} {held : Bool}
theorem slice_readI {fuel : Nat} {s0 : Option Addr} {len cap : Nat} {x : DataW H × List MemPlace} (h : DataW.trod enc Try.prog w base (fun _ => true) held fuel 39 [.slice s0 len cap] = some x) :
  ∃ l : List Int, l.length = len ∧ Lr w s0 l ∧ ∀ p ∈ l, w64 p := by
 have e4 : Try.prog.cellsOf 3 = 1 := by kernel_rfl
 rcases open_slice Try.underlying39 h with ⟨h0, -⟩ | ⟨a, len', cap', m, nn, D, Pl, hcs, hb, hl, hm, hmm, hxx, hx⟩
 ·simp at h0
  obtain ⟨rfl, rfl, rfl⟩ := h0
  exact ⟨[], rfl, Or.inl rfl, fun _ h => nomatch h⟩
 ·simp at hcs
  obtain ⟨rfl, rfl, rfl⟩ := hcs
  simp only [if_true] at hmm
  subst hmm
  have each : ∀ i, i < len → ∃ n : Int, w.cell? (a.add i) = some (.int .i64 n) ∧ w64 n := by
   intro i hi
   obtain ⟨cs', h1, h2⟩ := hx i (by omega)
   obtain ⟨n, rfl, -, hwf⟩ := DataW.trod_int Try.underlying3 h2
   rw [e4] at h1
   obtain ⟨_, hlen, hcell⟩ := World.cells?_some h1
   refine ⟨n, ?_, by have := bounds_i64 hwf; unfold w64; omega⟩
   have := hcell 0 (by decide)
   rw [add_add] at this
   simpa using this
  obtain ⟨N, hN⟩ := choose_lt each
  refine ⟨(List.range len).map N, by simp, ?_, fun p hp => ?_⟩
  ·by_cases h0 : len = 0
   ·subst h0
    exact Or.inl rfl
   ·obtain ⟨g, o, sp⟩ := a
    have hsp : sp = none := by
     have := (hN 0 (by omega)).1
     cases sp with
     | none => rfl
     | some x => simp [World.cell?, Addr.add] at this; split at this <;> simp at this
    subst hsp
    have ead : ∀ j, (⟨g, o, none⟩ : Addr).add j = ⟨g, o + j, none⟩ := fun j => by by_cases hj0 : j = 0 <;> simp [Addr.add, hj0]
    refine Or.inr ⟨g, o, rfl, ?_, fun j hj => ?_⟩
    ·have h := (hN 0 (by omega)).1
     rw [ead] at h
     exact World.block_lt_of_cell? _ _ h
    have hj' : j < len := by simpa using hj
    have := (hN j hj').1
    rw [ead] at this
    rw [this, List.getD_eq_getElem?_getD, List.getElem?_map, List.getElem?_range hj']
    rfl
  ·obtain ⟨i, hi, rfl⟩ := List.mem_map.1 hp
   exact (hN i (List.mem_range.1 hi)).2
end
set_option maxHeartbeats 1600000 in
theorem walk_models {a a1 a2 : Option Addr} {c c1 c2 : Nat} {l : List Nd} {l1 : List Nv} {ids : List Int} (w : World) (hL : La w a l) (hok : ∀ n ∈ l, Ok n) (_hmx : l.length ≤ maxLen)
  (he1 : Le w a1 l1) (hk1 : ∀ b ∈ l1, Bk b.v) (hn1 : ∀ b ∈ l1, b.nm.size ≤ maxLen) (_hm1 : l1.length ≤ maxLen)
  (hi2 : Lr w a2 ids) (h64 : ∀ p ∈ ids, w64 p) :
  Calls Try.prog 4 #[.slice a l.length c, .slice a1 l1.length c1, .slice a2 ids.length c2] w fun e w' => e = .returned (.bool true) ∧ Below w.heap.size w w' := by
 by_cases h0 : l.length ≤ 60
 ·by_cases h1 : l1.length ≤ 40
  ·by_cases h2 : ids.length ≤ 20
   ·exact walk_models_of w hL hok h0 he1 hk1 hn1 h1 hi2 h2 h64
   ·have i0 : ¬ (60 : Int) < (l.length : Int) := by omega
    have i1 : ¬ (40 : Int) < (l1.length : Int) := by omega
    have i2 : (20 : Int) < (ids.length : Int) := by omega
    clear hL hok _hmx he1 hk1 hn1 _hm1 hi2 h64 h0 h1 h2
    go_enter Try.func4, Try.ntmps4
    go_wp2_with fail
    refine (known16 _).mono ?_
    rintro e w1 ⟨rfl, hb1⟩
    go_wp2_with fail
    go_ret
    exact ⟨rfl, hb1⟩
  ·have i0 : ¬ (60 : Int) < (l.length : Int) := by omega
   have i1 : (40 : Int) < (l1.length : Int) := by omega
   clear hL hok _hmx he1 hk1 hn1 _hm1 hi2 h64 h0 h1
   go_enter Try.func4, Try.ntmps4
   go_wp2_with fail
   refine (known16 _).mono ?_
   rintro e w1 ⟨rfl, hb1⟩
   go_wp2_with fail
   go_ret
   exact ⟨rfl, hb1⟩
 ·have i0 : (60 : Int) < (l.length : Int) := by omega
  clear hL hok _hmx he1 hk1 hn1 _hm1 hi2 h64 h0
  go_enter Try.func4, Try.ntmps4
  go_wp2_with fail
  refine (known16 _).mono ?_
  rintro e w1 ⟨rfl, hb1⟩
  go_wp2_with fail
  go_ret
  exact ⟨rfl, hb1⟩
end Go.Proofs.Ytedldoobmmhloaa
