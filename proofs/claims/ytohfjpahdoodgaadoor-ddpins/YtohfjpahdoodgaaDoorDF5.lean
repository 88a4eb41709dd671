/- Contracts (dd): Live. -/
import Derived.Test.YtohfjpahdoodgaaDoorDF4
import Derived.Maps.RangeWalk
import Derived.Deep.Cut
namespace Go.Proofs.YtohfjpahdoodgaaDoor
open Go.RowKit
set_option linter.unusedSimpArgs false
set_option linter.unusedVariables false

theorem same_int (x y : Int) : (Lit.int .i64 y).sameKey (.int .i64 x) = decide (y = x) := by
  by_cases e : y = x
  · subst e; rw [WideAt.sameKey_self (show WideAt.IsKeyLit (.int .i64 y) from trivial)]; simp
  · rw [decide_eq_false e]
    cases h : (Lit.int .i64 y).sameKey (.int .i64 x) with
    | false => rfl
    | true => exact absurd (WideAt.sameKey_eq h) (fun e2 => e (by injection e2))
section
variable {H : Type} {P : Program} {k : TypeId} {R : Value → Option (DataW H × List MemPlace)} {w w' : World} {b r n : Nat} {D : DataW H} {left : Lit → Bool} {cnt : Nat}
theorem ranges_kept (h : w.ranges P k R b r n D left cnt) (hb : w'.heap[b]? = w.heap[b]?) (hr : w'.heap[r]? = w.heap[r]?) : w'.ranges P k R b r n D left cnt := by
  obtain ⟨es, clock, since, seen, c0, h1, h2, h3, h4, h5, h6⟩ := h
  exact ⟨es, clock, since, seen, c0, hb.trans h1, h2, h3, h4, hr.trans h5, h6⟩
theorem ranges_iter (h : w.ranges P k R b r n D left cnt) : ∃ o, w.heap[r]? = some o ∧ ∀ cs t f, o ≠ Obj.cells cs t f := by
  obtain ⟨es, clock, since, seen, c0, h1, h2, h3, h4, h5, h6⟩ := h
  exact ⟨_, h5, fun _ _ _ e => nomatch e⟩
end
theorem Wk.keep {w w' : World} {B wb g K : Nat} {s : Vs} (h : Wk w B wb g s K) (hk : ∀ (k : Nat) cs t f, w.heap[k]? = some (Obj.cells cs t f) → w'.heap[k]? = w.heap[k]?) : Wk w' B wb g s K := by
  obtain ⟨mb, ov, h1, h2, h3⟩ := h.ex
  refine ⟨⟨mb, ov, (hk _ _ _ _ h1).trans h1, ⟨row_own h2.row fun b e => ?_⟩, row_own h3 fun b e => ?_⟩, h.low, h.bd, h.K⟩
  · obtain ⟨cur, hc⟩ := row_cur h2.row e
    exact hk _ _ _ _ hc
  · obtain ⟨cur, hc⟩ := row_cur h3 e
    exact hk _ _ _ _ hc
theorem Wm.weaken {vars : Nat} {ns : List T3} {pn : Int → Int} {V V' : Int → Prop} {s : Vs} (h : Wm vars ns pn V s) (hv : ∀ p, V' p → V p) : Wm vars ns pn V' s := ⟨h.vi, fun p q => h.done p (hv p q), h.all⟩
/-- The state of Live's range. -/
structure Lv (w wr : World) (wb g vars : Nat) (ns : List T3) (pn : Int → Int) (left : Lit → Bool) (s : Vs) : Prop where
  wk : Wk wr w.heap.size wb g s 20000
  bel : Below w.heap.size w wr
  len : s.me.length = ns.length
  wm : Wm vars ns pn (fun x => 1 ≤ pn x ∧ left (.int .i64 x) = false) s
set_option maxRecDepth 20000 in
set_option maxHeartbeats 6400000 in
theorem live_any {w : World} {F0 : Nat → Prop} {g vars most : Nat} {S : St} {pn : Int → Int} (h0 : Gr w F0 g vars most S pn) (hA : ∀ f, 1 ≤ pn f → alive S.ns f) :
    Calls Tryd.prog 21 #[.pointer (some ⟨g, 0, none⟩)] w fun e w' => e = .returned (.int .i64 (livF S.ns pn : Int)) ∧ Below w.heap.size w w' := by
  have h := h0.cut
  have hFl : ∀ k, Fc w F0 k → k < w.heap.size := fun k hk => hk.2
  have good := h.mg.good
  have HWA : Hid _ := walk_any h
  have hmo := h.mg.mo
  have hlen := h.mg.len
  have HV : Hid (∀ wx wb s p, Below w.heap.size w wx → Wk wx w.heap.size wb g s 20000 → s.me.length = S.ns.length → alive S.ns p → Calls Tryd.prog 52 #[.pointer (some ⟨wb, 0, none⟩), .int .i64 p] wx fun e w' => e = .returned (.tuple #[]) ∧ Below w.heap.size wx w' ∧ Wk w' w.heap.size wb g (visF S.ns (vars + 1) s p) 20000 ∧ (visF S.ns (vars + 1) s p).me.length = S.ns.length ∧ NC wx w') := fun wx wb s p hb hw hl ha =>
    vis_anyN (vars + 1) wx (Fc w F0) w.heap.size g vars most wb 20000 S pn s p (h.bel hFl hb) hFl hw hl ha (by have := (h.mg.good.var ha).1; omega)
  obtain ⟨m, p, v, u, hx, -, -, -, -, -, -⟩ := h
  have c5 := hx.c5
  have hg := hx.lt
  obtain ⟨n, D, hD, hK⟩ := hx.pins.ex
  have hrg := hx.pins.rg
  have hpl := hx.pins.lt
  have HGD : Hid _ := good
  have HA : Hid _ := hA
  have HK : Hid _ := hK
  have HRG : Hid _ := hrg
  obtain ⟨L, hL⟩ : ∃ L, L = livF S.ns pn := ⟨_, rfl⟩
  rw [← hL]
  have HL : Hid _ := hL
  have HB0 : Hid (S.ns.length ≤ 20000) := by unfold Hid; omega
  obtain ⟨N, hN⟩ : ∃ N, N = S.ns.length := ⟨_, rfl⟩
  rw [← hN] at HWA HV HB0
  have HNN : Hid (N = S.ns.length) := hN
  clear hL h0 hFl hA hlen hmo hN good hK hrg hx
  go_enter Tryd.func21, Tryd.ntmps21
  go_wp2_with fail
  refine Calls.mono HWA.out ?_
  rintro e w1 ⟨mb, rfl, hb1, hbo⟩
  have HB1 : Hid _ := hb1
  have HBO : Hid _ := hbo
  have hs1 := hb1.size
  clear hb1 hbo
  go_upto_region 2 with fail
  obtain ⟨W, hW⟩ : ∃ W, W = w1.alloc (.cells #[.pointer (some ⟨g, 1, none⟩), .slice (some ⟨mb, 0, none⟩) N N, .slice none 0 0] 91) := ⟨_, rfl⟩
  have hBW : Below w.heap.size w W := by rw [hW]; exact HB1.out.alloc HB1.out.size _
  have hWk : Wk W w.heap.size w1.heap.size g (v0F N) 20000 := by
    refine ⟨⟨mb, .slice none 0 0, ?_, ⟨?_⟩, World.ownsRow_nil _ _ _ _⟩, hs1, Nat.le_trans (v0_cf N) HB0.out, Nat.le_refl _⟩
    · rw [hW]; simp only [v0F, List.length_replicate]; exact heap_alloc_new _ _
    · rw [hW]; simp only [v0F, List.length_replicate]
      have := row_kept HBO.out.row (fun k hk => heap_alloc_old w1 (.cells #[.pointer (some ⟨g, 1, none⟩), .slice (some ⟨mb, 0, none⟩) N N, .slice none 0 0] 91) hk)
      simpa using this
  obtain ⟨wb, hwb⟩ : ∃ wb, wb = w1.heap.size := ⟨_, rfl⟩
  rw [← hW, ← hwb]
  rw [← hwb] at hWk
  have HWK : Hid _ := hWk
  have HBW : Hid _ := hBW
  have c5w : W.cell? ⟨g, 5, none⟩ = some (.map (some p)) := bel_cell hBW hg c5
  have hDW : W.ownsMap (H := Unit) Tryd.prog 3 (plainElem Tryd.prog 3) p n D := by
    obtain ⟨es, cl, d1, d2⟩ := hD
    exact ⟨es, cl, (hBW.block p hpl).trans d1, d2⟩
  have hgW := Nat.lt_of_lt_of_le hg hBW.size
  clear hW hs1 hWk hBW hwb c5 hD
  go_wp2_with (first | (at_range; refine wpList_range_own _ rfl _ 84 rfl 3 3 intLaw pinUnder _ p n D rfl hDW ?_; intro w2 hrg2 hg2 hs2) | go_in)
  try go_frame
  obtain ⟨r, hr⟩ : ∃ r, r = W.heap.size := ⟨_, rfl⟩
  have hit := ranges_iter hrg2
  have hkc : ∀ (k : Nat) cs t f, W.heap[k]? = some (Obj.cells cs t f) → w2.heap[k]? = W.heap[k]? := fun k cs t f e => hg2.block k (blk_lt e) (by simp)
  have HST : Hid (Lv w w2 wb g vars S.ns pn (Maps.has D) (v0F N)) := by
    refine ⟨HWK.out.keep hkc, ⟨hg2.os.trans HBW.out.os, hg2.tape.trans HBW.out.tape, hg2.output.trans HBW.out.output, Nat.le_trans HBW.out.size hg2.size, fun q hq => (hg2.block q (Nat.lt_of_lt_of_le hq HBW.out.size) (by simp)).trans (HBW.out.block q hq)⟩, by simp [v0F, HNN.out], ?_⟩
    rw [HNN.out]
    refine (Wm.start vars S.ns pn).weaken fun x hx => ?_
    have h1 := HRG.out x
    have h2 := (HK.out x (by omega) (by omega)).1
    rw [hx.2, decide_eq_true hx.1] at h2
    cases h2
  rw [← hr] at hrg2
  have HRG2 : Hid (w2.ranges (H := Unit) Tryd.prog 3 (plainElem Tryd.prog 3) p r n D (Maps.has D) (Maps.size D)) := hrg2
  have HPR : Hid (w.heap.size ≤ r ∧ p < w.heap.size) := ⟨by rw [hr]; exact HBW.out.size, hpl⟩
  rw [← hr]
  clear hrg2 hg2 hs2 hr hit hkc hDW c5w hgW
  go_loopw [4] (fun _ wr => ∃ (left : Lit → Bool) (cnt : Nat) (s : Vs), Hid (wr.ranges (H := Unit) Tryd.prog 3 (plainElem Tryd.prog 3) p r n D left cnt) ∧ Hid (Lv w wr wb g vars S.ns pn left s)) (fun _ wr => wr.rangeLeft p r)
  case atStart => exact ⟨_, _, _, HRG2.out, HST.out⟩
  case round =>
    clear HRG2 HST
    obtain ⟨left, cnt, s, HRN, HLV⟩ := hrel
    have hrn := HRN.out
    go_wp2_with (first | (at_next; refine wpList_next_ranges_ii _ rfl _ rfl 3 3 .i64 .i64 intLaw underInt underInt p r n D _ _ rfl hrn ?_ ?_) | go_in)
    · intro _ hl0
      have hlen : s.od.length = L := by rw [HL.out]; exact HLV.out.wm.len fun q hq => ⟨hq, hl0 _⟩
      obtain ⟨mb2, ov2, v0, -, v2⟩ := HLV.out.wk.ex
      have d2 : wr.cell? ⟨wb, 2, none⟩ = some ov2 := cell_of v0 2 rfl
      have dl := blk_lt v0
      obtain ⟨a2, cap2, hov⟩ : ∃ a c, ov2 = .slice a L c := by
        rcases v2.2 with ⟨q, hn⟩ | ⟨r, cap, cur, q, _⟩
        · exact ⟨none, 0, by rw [q]; rw [← hlen, hn]⟩
        · exact ⟨_, cap, by rw [q, hlen]⟩
      subst hov
      have HB2 : Hid _ := HLV.out.bel
      clear hl0 hrn hlen v0 v2
      go_wp2_with fail
      go_ret
      exact ⟨rfl, HB2.out⟩
    · intro x c w3 cnt3 hwx hwc hlk hat hrg3 hlt hgr hsz hen
      have hpx : 1 ≤ pn x := by
        have h1 : w64 x := by have := bounds_i64 hwx; unfold w64; omega
        have h2 := (HK.out x h1.1 h1.2).1
        rw [Maps.has_true_of_atKey hat] at h2
        exact of_decide_eq_true h2.symm
      have hax := HA.out x hpx
      obtain ⟨o, ho, hnc⟩ := ranges_iter hrn
      have hkc : ∀ (k : Nat) cs t f, wr.heap[k]? = some (Obj.cells cs t f) → w3.heap[k]? = wr.heap[k]? := fun k cs t f e => hgr.block k (blk_lt e) (fun q => by cases q; rw [ho] at e; cases e; exact hnc _ _ _ rfl)
      have hb3 : Below w.heap.size w w3 := ⟨hgr.os.trans HLV.out.bel.os, hgr.tape.trans HLV.out.bel.tape, hgr.output.trans HLV.out.bel.output, Nat.le_trans HLV.out.bel.size hgr.size, fun k hk => (hgr.block k (Nat.lt_of_lt_of_le hk HLV.out.bel.size) fun e => by have := HPR.out.1; injection e with e; omega).trans (HLV.out.bel.block k hk)⟩
      have HCV : Hid _ := HV.out w3 wb s x hb3 (HLV.out.wk.keep hkc) (by rw [HNN.out]; exact HLV.out.len) hax
      have HB3 : Hid (Below w.heap.size w w3) := hb3
      have HRG3 : Hid (w3.ranges (H := Unit) Tryd.prog 3 (plainElem Tryd.prog 3) p r n D (fun z => left z && !z.sameKey (.int .i64 x)) cnt3) := hrg3
      have HLE : Hid (wr.rangeLeft p r = cnt ∧ cnt3 < cnt) := ⟨hrn.left_eq, hlt⟩
      have HPX : Hid (1 ≤ pn x ∧ alive S.ns x) := ⟨hpx, hax⟩
      clear hwx hwc hlk hat hrg3 hlt hgr hsz hrn hpx hax ho hnc hkc hb3
      go_wp2_with fail
      refine Calls.mono HCV.out ?_
      rintro e w4 ⟨rfl, hb4, hw4, hl4, hn4⟩
      have HB4 : Hid _ := HB3.out.trans hb4
      obtain ⟨o3, ho3, hnc3⟩ := ranges_iter HRG3.out
      have HRG4 : Hid (w4.ranges (H := Unit) Tryd.prog 3 (plainElem Tryd.prog 3) p r n D (fun z => left z && !z.sameKey (.int .i64 x)) cnt3) := ranges_kept HRG3.out (hb4.block p HPR.out.2) ((hn4.kp r o3 ho3 hnc3).trans ho3.symm)
      have HLV4 : Hid (Lv w w4 wb g vars S.ns pn (fun z => left z && !z.sameKey (.int .i64 x)) (visF S.ns (vars + 1) s x)) := ⟨hw4, HB4.out, by rw [← HNN.out]; exact hl4, (HLV.out.wm.visit HGD.out HPX.out.2 HPX.out.1).weaken fun y hy => by
        have h1 := hy.2
        simp only [same_int] at h1
        by_cases e : y = x
        · exact Or.inr e
        · left
          refine ⟨hy.1, ?_⟩
          simpa [e] using h1⟩
      clear hb4 hw4 hl4 hn4 ho3 hnc3
      go_wp2_with fail
      refine ⟨⟨_, cnt3, _, HRG4.out, HLV4.out⟩, ?_⟩
      rw [HRG4.out.left_eq, HLE.out.1]
      exact HLE.out.2
end Go.Proofs.YtohfjpahdoodgaaDoor
