/- Contracts (dd): what a diagram is made of is gone over. -/
import Derived.Test.YtkmkmgnfolpphaaDoorDE12
import Derived.Test.YtkmkmgnfolpphaaDoorDDA
import Derived.Deep.Cut
namespace Go.Proofs.YtkmkmgnfolpphaaDoor
open Go.RowKit
set_option linter.unusedSimpArgs false
set_option linter.unusedVariables false

/-- v owns these truths. -/
structure Bo (w : World) (B : Nat) (v : Value) (l : List Bool) : Prop where
  row : w.ownsRow B 4 1 v l.length (l.map Value.bool)
theorem Bo.made (w : World) {n : Nat} (hn : n ≤ 1000000) : Bo (w.alloc (.cells (madeCells #[.bool false] n) 4)) w.heap.size (.slice (some ⟨w.heap.size, 0, none⟩) n n) (List.replicate n false) := by
  obtain ⟨c, h1, h2, h3⟩ := World.rowIs_made w (.bool false) n 4
  refine ⟨by simp, Or.inr ⟨w.heap.size, n, c, by rw [List.length_replicate], Nat.le_refl _, h1, by rw [List.length_replicate]; exact Nat.le_refl _, by unfold maxLen; omega, by omega, ?_⟩⟩
  refine List.ext_getElem? fun j => ?_
  rw [List.length_replicate]
  by_cases hj : j < n
  · rw [List.getElem?_take_of_lt (by omega), List.getElem?_map, List.getElem?_replicate, if_pos hj]
    have := h3 j hj
    simpa using this
  · rw [List.getElem?_eq_none (by rw [List.length_take]; simp; omega), List.getElem?_eq_none (by simp; omega)]
theorem Bo.put {w : World} {B r n cap : Nat} {l : List Bool} (h : Bo w B (.slice (some ⟨r, 0, none⟩) n cap) l) {j : Nat} (hj : j < l.length) : w.cell? ⟨r, j, none⟩ = some (.bool (l.getD j false)) ∧ w.frozen? ⟨r, j, none⟩ = false ∧ ∀ x : Bool, Bo (w.setCell ⟨r, j, none⟩ (.bool x)) B (.slice (some ⟨r, 0, none⟩) n cap) (l.set j x) ∧ Below B w (w.setCell ⟨r, j, none⟩ (.bool x)) := by
  rcases h.row.2 with ⟨e, -⟩ | ⟨g, cap', cur, e, hb, hg, hc, hm, hs, ht⟩
  · cases e
  · injection e with e1 e2 e3
    injection e1 with e1
    injection e1 with e1
    subst e1 e2 e3
    have hjs : j < cur.size := by rw [hs]; omega
    refine ⟨?_, by simp [World.frozen?, hg], fun x => ⟨⟨⟨by simp, Or.inr ⟨r, cap, cur.setIfInBounds j (.bool x), by rw [List.length_set], hb, heap_setCell_same w r j cur _ _ hg, by rw [List.length_set]; exact hc, hm, by simpa using hs, ?_⟩⟩⟩, ⟨rfl, rfl, rfl, by simp, fun q hq => heap_setCell_other _ _ _ _ (show q ≠ r from fun e => by omega)⟩⟩⟩
    · have e2 : (l.map Value.bool)[j]? = some (.bool (l.getD j false)) := by
        rw [List.getElem?_map, List.getElem?_eq_getElem hj, List.getD_eq_getElem?_getD, List.getElem?_eq_getElem hj]; rfl
      rw [← ht, List.getElem?_take_of_lt (by omega)] at e2
      exact cell_of hg _ (by simpa using e2)
    · rw [List.length_set, Array.toList_setIfInBounds, List.take_set, ht, List.map_set]
theorem Is'.put {w : World} {B r n cap : Nat} {l : List Int} (h : Is' w B (.slice (some ⟨r, 0, none⟩) n cap) l) {j : Nat} (hj : j < l.length) : (∃ u, w.cell? ⟨r, j, none⟩ = some u) ∧ w.frozen? ⟨r, j, none⟩ = false ∧ ∀ x : Int, Is' (w.setCell ⟨r, j, none⟩ (.int .i64 x)) B (.slice (some ⟨r, 0, none⟩) n cap) (l.set j x) ∧ Below B w (w.setCell ⟨r, j, none⟩ (.int .i64 x)) := by
  rcases h.2 with ⟨e, -⟩ | ⟨g, cap', cur, e, hb, hg, hc, hm, hs, ht⟩
  · cases e
  · injection e with e1 e2 e3
    injection e1 with e1
    injection e1 with e1
    subst e1 e2 e3
    have hjs : j < cur.size := by rw [hs]; omega
    refine ⟨⟨_, cell_of hg j (Array.getElem?_eq_getElem hjs)⟩, by simp [World.frozen?, hg], fun x => ⟨⟨by simp, Or.inr ⟨r, cap, cur.setIfInBounds j (.int .i64 x), by rw [List.length_set], hb, heap_setCell_same w r j cur _ _ hg, by rw [List.length_set]; exact hc, hm, by simpa using hs, ?_⟩⟩, ⟨rfl, rfl, rfl, by simp, fun q hq => heap_setCell_other _ _ _ _ (show q ≠ r from fun e => by omega)⟩⟩⟩
    rw [List.length_set, Array.toList_setIfInBounds, List.take_set, ht, List.map_set]
theorem app_slice {w : World} {B sz n : Nat} {e : TypeId} {v : Value} {xs : List Value} (h : w.ownsRow B e sz v (n + 1) xs) : ∃ r cap, v = .slice (some ⟨r, 0, none⟩) (n + 1) cap := by
  rcases h.2 with ⟨-, h0⟩ | ⟨g, cap, cur, e1, -⟩
  · omega
  · exact ⟨g, cap, e1⟩
theorem is_app {w : World} {B n : Nat} {v : Value} {l m : List Int} (h : w.ownsRow B 3 1 v (n + m.length) (l.map (Value.int .i64) ++ m.map (Value.int .i64))) (hn : n = l.length) : Is' w B v (l ++ m) := by
  unfold Is'
  rw [List.length_append, List.map_append, ← hn]
  exact h
/-- A walk at block wb; all its blocks from B on. -/
structure Wk (w : World) (B wb g : Nat) (s : Vs) (K : Nat) : Prop where
  ex : ∃ mb ov, w.heap[wb]? = some (.cells #[.pointer (some ⟨g, 1, none⟩), .slice (some ⟨mb, 0, none⟩) s.me.length s.me.length, ov] 83) ∧ Bo w B (.slice (some ⟨mb, 0, none⟩) s.me.length s.me.length) s.me ∧ Is' w B ov s.od
  low : B ≤ wb
  bd : s.od.length + s.me.countP (fun b => !b) ≤ K
  K : K ≤ 20000
theorem Bo.lt {w : World} {B r n cap : Nat} {l : List Bool} (h : Bo w B (.slice (some ⟨r, 0, none⟩) n cap) l) : B ≤ r ∧ r < w.heap.size ∧ ∃ cur, w.heap[r]? = some (.cells cur 4) := by
  obtain ⟨cur, hc⟩ := row_cur h.row (b := r) rfl
  exact ⟨(h.row.lt r rfl).1, (h.row.lt r rfl).2, cur, hc⟩
theorem Gr.bel {w w' : World} {F : Nat → Prop} {g vars most B : Nat} {S : St} {pn : Int → Int} (h : Gr w F g vars most S pn) (hF : ∀ k, F k → k < B) (hb : Below B w w') : Gr w' F g vars most S pn := h.kept fun k _ hf => hb.block k (hF k hf)
theorem cf_set {l : List Bool} {j : Nat} (hj : j < l.length) (h : l.getD j false = false) : (l.set j true).countP (fun b => !b) + 1 = l.countP (fun b => !b) := by
  have e : l[j] = false := by
    rw [List.getD_eq_getElem?_getD, List.getElem?_eq_getElem hj] at h
    exact h
  have hpos : 0 < l.countP (fun b => !b) := List.countP_pos_iff.2 ⟨l[j], List.getElem_mem hj, by rw [e]; rfl⟩
  rw [List.countP_set hj, e]
  simp
  omega
def VisC (n : Nat) : Prop := ∀ (w : World) (F : Nat → Prop) (B g vars most wb K : Nat) (S : St) (pn : Int → Int) (s : Vs) (f : Int),
  Gr w F g vars most S pn → (∀ k, F k → k < B) → Wk w B wb g s K → s.me.length = S.ns.length → alive S.ns f → (vars : Int) - (at3 S.ns f).1 < n →
  Calls Tryd.prog 41 #[.pointer (some ⟨wb, 0, none⟩), .int .i64 f] w fun e w' => e = .returned (.tuple #[]) ∧ Below B w w' ∧ Wk w' B wb g (visF S.ns n s f) K ∧ (visF S.ns n s f).me.length = S.ns.length
set_option maxRecDepth 20000 in
set_option maxHeartbeats 6400000 in
theorem vis_step (n : Nat) (IH : VisC n) : VisC (n + 1) := by
  intro w F B g vars most wb K S pn s f hG hF hW hl ha hn
  have good := hG.mg.good
  by_cases h1 : f ≤ 1
  · have e : visF S.ns (n + 1) s f = s := by unfold visF; rw [if_pos (Or.inl h1)]
    rw [e]
    have hI : ∀ wx, Calls Tryd.prog 39 #[.int .i64 f] wx fun e w' => e = .returned (.bool false) ∧ w' = wx := fun wx => by
      have := isNode_any f wx
      rwa [decide_eq_false (by omega)] at this
    have HI : Hid _ := hI
    have HW : Hid (Wk w B wb g s K) := hW
    have HL : Hid _ := hl
    clear hI hG hW hl ha hn e
    go_enter Tryd.func41, Tryd.ntmps41
    go_wp2_with fail
    refine (HI.out _).mono ?_
    rintro e w0 ⟨rfl, rfl⟩
    go_wp2_with fail
    refine bodyPost_ret (results_none rfl _ _ _) rfl ?_
    exact ⟨rfl, Below.refl _ _, HW.out, HL.out⟩
  · obtain ⟨j, rfl, hj⟩ := ha.nat
    have h2 : 2 ≤ (j : Int) := by omega
    have hI : ∀ wx, Calls Tryd.prog 39 #[.int .i64 (j : Int)] wx fun e w' => e = .returned (.bool true) ∧ w' = wx := fun wx => by
      have := isNode_any (j : Int) wx
      rwa [decide_eq_true (by omega)] at this
    have HI : Hid _ := hI
    obtain ⟨mb, ov, w0, w1, w2⟩ := hW.ex
    have hjm : j < s.me.length := by rw [hl]; exact hj
    obtain ⟨p1, p2, p3⟩ := w1.put hjm
    obtain ⟨l1, l2, cur, l3⟩ := w1.lt
    have c1 : w.cell? ⟨wb, 1, none⟩ = some (.slice (some ⟨mb, 0, none⟩) s.me.length s.me.length) := cell_of w0 1 rfl
    have hwl : wb < w.heap.size := (Array.getElem?_eq_some_iff.1 w0).1
    have hne : mb ≠ wb := fun e => by rw [e, w0] at l3; cases l3
    have HG : Hid (Gr w F g vars most S pn) := hG
    have HW : Hid (Wk w B wb g s K) := hW
    have HL : Hid _ := hl
    obtain ⟨N, hN⟩ : ∃ N, N = s.me.length := ⟨_, rfl⟩
    have hjI : (j : Int) < (N : Int) := by omega
    have hNb : N ≤ 20000 := by have := hG.mg.len; have := hG.mg.mo; omega
    cases hm : s.me.getD j false with
    | true =>
      have e : visF S.ns (n + 1) s (j : Int) = s := by unfold visF; rw [if_pos (Or.inr (by simpa using hm))]
      rw [e]
      rw [hm] at p1
      rw [← hN] at c1
      clear hI hG hW hl ha hn e p2 p3 w0 w1 w2 hm IH hN hjm
      go_enter Tryd.func41, Tryd.ntmps41
      go_wp2_with fail
      refine (HI.out _).mono ?_
      rintro e w0 ⟨rfl, rfl⟩
      go_wp2_with fail
      refine bodyPost_ret (results_none rfl _ _ _) rfl ?_
      exact ⟨rfl, Below.refl _ _, HW.out, HL.out⟩
    | false =>
      obtain ⟨q1, q2, q3, q4, q5, q6, q7⟩ := good.nd (j : Int) h2 ha
      obtain ⟨s1, hs1⟩ : ∃ s1 : Vs, s1 = ⟨s.me.set j true, s.od⟩ := ⟨_, rfl⟩
      obtain ⟨lo, hlo⟩ : ∃ lo, lo = (at3 S.ns (j : Int)).2.1 := ⟨_, rfl⟩
      obtain ⟨hi, hhi⟩ : ∃ hi, hi = (at3 S.ns (j : Int)).2.2 := ⟨_, rfl⟩
      have e : visF S.ns (n + 1) s (j : Int) = ⟨(visF S.ns n (visF S.ns n s1 lo) hi).me, (visF S.ns n (visF S.ns n s1 lo) hi).od ++ [(j : Int)]⟩ := by
        rw [visF, if_neg (by rintro (h | h); omega; rw [Int.toNat_natCast, hm] at h; cases h), hs1, hlo, hhi, Int.toNat_natCast]
      have hcf := cf_set hjm hm
      have hbd := hW.bd
      have hKK := hW.K
      have hWm : Wk (w.setCell ⟨mb, j, none⟩ (.bool true)) B wb g s1 (K - 1) := by
        have hp := p3 true
        refine ⟨⟨mb, ov, ?_, ?_, ?_⟩, hW.low, ?_, by omega⟩
        · rw [hs1]; simp only [List.length_set]
          exact (heap_setCell_other _ _ _ _ (by show wb ≠ mb; exact hne.symm)).trans w0
        · rw [hs1]; simp only [List.length_set]; exact hp.1
        · rw [hs1]
          exact row_own w2 fun k hk => heap_setCell_other _ _ _ _ (by
            show k ≠ mb
            intro e
            obtain ⟨cur2, h3⟩ := row_cur w2 hk
            rw [e, l3] at h3; cases h3)
        · rw [hs1]; show s.od.length + (s.me.set j true).countP (fun b => !b) ≤ K - 1; omega
      have hBm : Below B w (w.setCell ⟨mb, j, none⟩ (.bool true)) := (p3 true).2
      have hGm := hG.bel hF hBm
      have hlm : s1.me.length = S.ns.length := by rw [hs1]; simp; exact hl
      have k1 := IH (w.setCell ⟨mb, j, none⟩ (.bool true)) F B g vars most wb (K - 1) S pn s1 lo hGm hF hWm hlm (by rw [hlo]; exact q4) (by rw [hlo]; omega)
      have HK1 : Hid _ := k1
      have HK2 : Hid (∀ wx, Below B w wx → Wk wx B wb g (visF S.ns n s1 lo) (K - 1) → (visF S.ns n s1 lo).me.length = S.ns.length → Calls Tryd.prog 41 #[.pointer (some ⟨wb, 0, none⟩), .int .i64 hi] wx fun e w' => e = .returned (.tuple #[]) ∧ Below B wx w' ∧ Wk w' B wb g (visF S.ns n (visF S.ns n s1 lo) hi) (K - 1) ∧ (visF S.ns n (visF S.ns n s1 lo) hi).me.length = S.ns.length) := fun wx hb hw hlw =>
        IH wx F B g vars most wb (K - 1) S pn _ hi (hG.bel hF hb) hF hw hlw (by rw [hhi]; exact q5) (by rw [hhi]; omega)
      obtain ⟨s3, hs3⟩ : ∃ s3, s3 = visF S.ns n (visF S.ns n s1 lo) hi := ⟨_, rfl⟩
      obtain ⟨s2, hs2⟩ : ∃ s2, s2 = visF S.ns n s1 lo := ⟨_, rfl⟩
      rw [← hs3] at e
      rw [← hs2] at HK1 HK2 hs3
      rw [← hs3] at HK2
      rw [e]
      have nodes : ∀ wx, Below B w wx → ∃ r cap, wx.cell? ⟨g, 2, none⟩ = some (.slice (some ⟨r, 0, none⟩) S.ns.length cap) ∧ wx.cell? ⟨r, j * 3 + 1, none⟩ = some (.int .i64 lo) ∧ wx.cell? ⟨r, j * 3 + 2, none⟩ = some (.int .i64 hi) := fun wx hb => by
        obtain ⟨m, p, v, u, hx, -⟩ := HG.out.bel hF hb
        obtain ⟨r, cap, hv, -, -, -, hc⟩ := hx.sl
        have c2 := hx.c2
        rw [hv] at c2
        obtain ⟨-, d1, d2⟩ := hc j hj
        exact ⟨r, cap, c2, by rw [hlo]; exact d1, by rw [hhi]; exact d2⟩
      have HN : Hid _ := nodes
      rw [hm] at p1
      rw [← hN] at c1
      have hgw : ∀ b o v, w.cell? ⟨b, o, none⟩ = some v → True := fun _ _ _ _ => trivial
      have HBm : Hid _ := hBm
      have hNS : (S.ns.length : Int) = (N : Int) := by omega
      have HNS : Hid (S.ns.length = N) := by unfold Hid; omega
      have HWM : Hid _ := hWm
      have HLM : Hid _ := hlm
      have HKB : Hid (K ≤ 20000 ∧ s.od.length + s.me.countP (fun b => !b) ≤ K ∧ 1 ≤ K) := ⟨hKK, hbd, by omega⟩
      clear hgw hI hG hl ha hn e p3 w1 w2 hm IH hN hjm q1 q2 q3 q4 q5 q6 q7 hs1 hlo hhi hcf hbd hKK hWm hBm hGm hlm k1 hs3 hs2 nodes hNS hW good
      go_enter Tryd.func41, Tryd.ntmps41
      go_wp2_with fail
      refine (HI.out _).mono ?_
      rintro e w0 ⟨rfl, hw0⟩
      rw [hw0]
      clear hw0 w0
      go_upto_region 2 with fail
      obtain ⟨W1, hW1⟩ : ∃ W1, W1 = w.setCell ⟨mb, j, none⟩ (.bool true) := ⟨_, rfl⟩
      rw [← hW1]
      have hB1 : Below B w W1 := by rw [hW1]; exact HBm.out
      have hw1 : Wk W1 B wb g s1 (K - 1) := by rw [hW1]; exact HWM.out
      have HK1' : Hid (Calls Tryd.prog 41 #[.pointer (some ⟨wb, 0, none⟩), .int .i64 lo] W1 fun e w' => e = .returned (.tuple #[]) ∧ Below B W1 w' ∧ Wk w' B wb g s2 (K - 1) ∧ s2.me.length = S.ns.length) := by rw [hW1]; exact HK1.out
      clear hW1 p1 p2 c1 HBm HWM HK1
      obtain ⟨mb1, ov1, v0, -, -⟩ := hw1.ex
      have d0 : W1.cell? ⟨wb, 0, none⟩ = some (.pointer (some ⟨g, 1, none⟩)) := cell_of v0 0 rfl
      obtain ⟨r, cap, d2, dl, -⟩ := HN.out W1 hB1
      rw [HNS.out] at d2
      clear v0 hw1
      go_wp2_with fail
      refine (HK1'.out).mono ?_
      rintro e W2 ⟨rfl, hB2, hw2, hl2⟩
      have hB2' := hB1.trans hB2
      have HW2 : Hid _ := hw2
      have HL2 : Hid _ := hl2
      clear d0 d2 dl HK1' hB1 hB2 hl2 mb1 ov1
      obtain ⟨mb1, ov1, v0, -, -⟩ := hw2.ex
      have d0 : W2.cell? ⟨wb, 0, none⟩ = some (.pointer (some ⟨g, 1, none⟩)) := cell_of v0 0 rfl
      obtain ⟨r2, cap2, d2, -, dh⟩ := HN.out W2 hB2'
      rw [HNS.out] at d2
      clear v0 hw2
      go_wp2_with fail
      refine (HK2.out W2 hB2' HW2.out HL2.out).mono ?_
      rintro e W3 ⟨rfl, hB3, hw3, hl3⟩
      have hB3' := hB2'.trans hB3
      have HW3 : Hid _ := hw3
      have HL3 : Hid _ := hl3
      have HB3 : Hid _ := hB3'
      clear d0 d2 dh HW2 HL2 hB2' hB3 hl3 mb1 ov1 hB3'
      obtain ⟨mb3, ov3, v0, v1, v2⟩ := hw3.ex
      have hbd3 := hw3.bd
      have hlow3 := hw3.low
      clear hw3
      have d2 : W3.cell? ⟨wb, 2, none⟩ = some ov3 := cell_of v0 2 rfl
      have hwl3 : wb < W3.heap.size := (Array.getElem?_eq_some_iff.1 v0).1
      obtain ⟨l1', l2', cur', l3'⟩ := v1.lt
      have hne3 : mb3 ≠ wb := fun e => by rw [e, v0] at l3'; cases l3'
      have hno : ∀ k, ov3.ownBlock = some k → k ≠ wb ∧ k ≠ mb3 := fun k hk => by
        obtain ⟨cur2, h3⟩ := row_cur v2 hk
        exact ⟨(fun e => by rw [e, v0] at h3; cases h3), (fun e => by rw [e, l3'] at h3; cases h3)⟩
      obtain ⟨ti, ht0, hz0, hz1, hz2⟩ := info_any infoInt
      have HI0 : Hid _ := (⟨ht0, hz0, hz1, hz2⟩ : Tryd.prog.info? 3 = some ti ∧ ti.zero = _ ∧ ti.size = 1 ∧ ti.bytes = 8)
      have HV0 : Hid _ := v0
      have HV1 : Hid _ := v1
      have HROW : Hid (W3.ownsRow B 3 1 ov3 s3.od.length (s3.od.map (Value.int .i64))) := v2
      have HNO : Hid _ := hno
      have HHI : Hid (wb < W3.heap.size ∧ mb3 < W3.heap.size ∧ mb3 ≠ wb ∧ B ≤ wb ∧ B ≤ mb3) := ⟨hwl3, l2', hne3, hlow3, l1'⟩
      obtain ⟨m, hm⟩ : ∃ m, m = s3.od.length := ⟨_, rfl⟩
      rw [← hm] at HROW hbd3
      have HM : Hid _ := hm
      have hmb : m ≤ 20000 := by have := HKB.out.1; omega
      have HBD3 : Hid _ := hbd3
      have hBs : B ≤ W3.heap.size := by omega
      clear ht0 hz0 hz1 hz2 v0 v1 v2 hno hwl3 l1' l2' l3' cur' hne3 hm hbd3 hlow3 w0 l1 l2 l3 hwl hne
      go_wp2_with (at_builtin; refine wpList_append_own_at _ rfl _ _ 45 rfl B 3 ti (.int .i64 0) 1 8 underInts HI0.out.1 HI0.out.2.1 HI0.out.2.2.1 HI0.out.2.2.2 rfl (by decide) ov3 m _ rfl (row_kept HROW.out (fun _ hq => heap_alloc_old _ _ hq)) ⟨W3.heap.size, 0, none⟩ 1 1 [.int .i64 (j : Int)] rfl rfl (cell_one_new _ _ _) (by intro y hy; rw [List.mem_singleton.1 hy]; rfl) (by unfold maxLen; omega) (by omega) (by rw [size_alloc']; omega) ?_; intro v4 w4 hown hgrow hnil hat
                   have hwb4 : w4.heap[wb]? = W3.heap[wb]? := (hgrow.block wb (by rw [size_alloc']; have := HHI.out.1; omega) (fun e => (HNO.out wb e.symm).1 rfl)).trans (heap_alloc_old _ _ HHI.out.1)
                   have hmb4 : w4.heap[mb3]? = W3.heap[mb3]? := (hgrow.block mb3 (by rw [size_alloc']; have := HHI.out.2.1; omega) (fun e => (HNO.out mb3 e.symm).2 rfl)).trans (heap_alloc_old _ _ HHI.out.2.1)
                   have e2 : w4.cell? ⟨wb, 2, none⟩ = some ov3 := cell_of (hwb4.trans HV0.out) 2 rfl
                   have e3 : w4.frozen? ⟨wb, 2, none⟩ = false := by simp [World.frozen?, hwb4.trans HV0.out]
                   have HW4 : Hid _ := hwb4
                   have HM4 : Hid _ := hmb4
                   have HOWN : Hid _ := hown
                   have HGROW : Hid _ := hgrow
                   obtain ⟨r4, cap4, hv4⟩ := app_slice hown
                   have HAT : Hid _ := hat
                   subst hv4
                   clear hown hgrow hnil hat hwb4 hmb4)
      go_end0
      have hne3 := HHI.out.2.2.1
      have hv0 := HW4.out.trans HV0.out
      have hr4 : B ≤ r4 ∧ ∃ cur, w4.heap[r4]? = some (.cells cur 3) := ⟨(World.ownsRow.lt HOWN.out r4 rfl).1, row_cur HOWN.out rfl⟩
      have hnw : r4 ≠ wb := fun e => by obtain ⟨-, cur, h3⟩ := hr4; rw [e, hv0] at h3; cases h3
      refine ⟨rfl, ?_, ⟨⟨mb3, .slice (some ⟨r4, 0, none⟩) (m + 1) cap4, ?_, ⟨?_⟩, ?_⟩, HHI.out.2.2.2.1, ?_, HKB.out.1⟩, HL3.out⟩
      · have h1 : Below B w w4 := low_grown HB3.out hBs HGROW.out (fun k e => (World.ownsRow.lt HROW.out k e).1)
        exact ⟨h1.os, h1.tape, h1.output, by rw [World.size_setCell]; exact h1.size, fun q hq => (heap_setCell_other _ _ _ _ (by show q ≠ wb; have := HHI.out.2.2.2.1; omega)).trans (h1.block q hq)⟩
      · rw [heap_setCell_same _ _ _ _ _ _ hv0]; rfl
      · exact row_own HV1.out.row fun k hk => by
          cases hk
          exact (heap_setCell_other _ _ _ _ (by show mb3 ≠ wb; exact hne3)).trans HM4.out
      · have hi4 := is_app (m := [(j : Int)]) HOWN.out HM.out
        exact row_own hi4 fun k hk => by
          cases hk
          exact heap_setCell_other _ _ _ _ (by show r4 ≠ wb; exact hnw)
      · have h1 := HBD3.out
        have h2 := HKB.out.2.2
        rw [List.length_append, ← HM.out]
        show m + 1 + s3.me.countP (fun b => !b) ≤ K
        omega
theorem vis_any : ∀ n, VisC n := by
  intro n
  induction n with
  | zero =>
    intro w F B g vars most wb K S pn s f hG hF hW hl ha hn
    have := (hG.mg.good.var ha).2
    exfalso; omega
  | succ n ih => exact vis_step n ih
end Go.Proofs.YtkmkmgnfolpphaaDoor
