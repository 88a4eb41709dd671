/- Contracts (store's walk): set. -/
import Derived.Test.YtkndjndhjdfhcaaST20
namespace Go.Proofs.Ytkndjndhjdfhcaa
open Go.RowKit
set_option linter.unusedSimpArgs false
set_option linter.unusedVariables false

section
variable {K : List (Nat × Value)} {w0 w : World} {F0 F : Nat → Prop} {s mo b N rt : Nat} {vo vm : Value} {A : List Int} {C W : List (List Int)} {M : List (Nat × Nat)} {T : List Int} {k : Nat} {l : Int}
/-- A literal has come to be true. -/
theorem Wk.tell {w2 : World} {v' : Value} (h : Wk K w0 F0 w F s mo b N rt vo vm A C W M T k) {o : Obj} (hg : ((w.setCell ⟨rt, cd l, none⟩ (.bool true)).alloc o).grownBy w2 vo.ownBlock) (ho : Is' w2 w0.heap.size v' (T ++ [l])) (hat : v'.ownBlock = vo.ownBlock ∨ ∃ q, v'.ownBlock = some q ∧ w.heap.size ≤ q) :
    Wk K w0 F0 (w2.setCell ⟨b, 2, none⟩ v') F s mo b N rt v' vm A C W M (T ++ [l]) k := by
  obtain ⟨s1, s2, s3, s4, s5, s6⟩ := h.sep
  have hbl := h.bl
  have hrl := h.tr.lt
  have hg' := grown_of hg
  have hz1 : (w.setCell ⟨rt, cd l, none⟩ (.bool true)).heap.size = w.heap.size := by rw [World.size_setCell]
  have hz : w.heap.size ≤ w2.heap.size := by have := hg'.size; omega
  have hzs : (w2.setCell ⟨b, 2, none⟩ v').heap.size = w2.heap.size := by rw [World.size_setCell]
  have hk1 : ∀ q, q < w.heap.size → q ≠ rt → vo.ownBlock ≠ some q → w2.heap[q]? = w.heap[q]? := fun q hq h1 h2 => (hg'.block q (by omega) (fun e => h2 e.symm)).trans (heap_setCell_other _ _ _ _ h1)
  have hvb : v'.ownBlock ≠ some b := by
    rcases hat with e | ⟨q, e, hq⟩
    · rw [e]; exact s2
    · rw [e]; intro q2; injection q2; omega
  have hb2 : w2.heap[b]? = _ := (hk1 b hbl s1 s2).trans h.hd
  have hk : ∀ q, q < w.heap.size → q ≠ rt → vo.ownBlock ≠ some q → q ≠ b → (w2.setCell ⟨b, 2, none⟩ v').heap[q]? = w.heap[q]? := fun q hq h1 h2 h3 => (heap_setCell_other _ _ _ _ h3).trans (hk1 q hq h1 h2)
  have hlow := h.to
  obtain ⟨q1, q2, q3⟩ := h.stx (w' := w2.setCell ⟨b, 2, none⟩ v') (by omega) hg'.os hg'.tape hg'.output (fun q hq hf => by
    refine hk q hq ?_ ?_ ?_
    · rintro rfl
      rcases hf with hf | hf
      · exact h.nt hf
      · have := h.t0; omega
    · intro e
      rcases hf with hf | hf
      · exact h.no q e hf
      · have := (World.ownsRow.lt hlow q e).1; omega
    · rintro rfl
      rcases hf with hf | hf
      · exact h.nb hf
      · have := h.b0; omega)
  refine ⟨?_, ?_, row_far ho hvb, ?_, h.b0, h.t0, q1, h.nb, h.nt, fun q e hf => ?_, h.nm, q2, q3⟩
  · rw [heap_setCell_same _ _ _ _ _ _ hb2]; rfl
  · have e1 := h.tr.set (cd l) (.bool true)
    have e2 : w2.rowIs rt 4 N (fun j => if j = cd l then .bool true else .bool (trv T j)) := e1.of_block (hg'.block rt (by omega) (fun e => s3 e.symm))
    refine ((e2.setOther (a := ⟨b, 2, none⟩) (fun e => s1 e.symm) v')).congr fun j hj => ?_
    rw [trv_snoc]
    by_cases e : j = cd l
    · rw [if_pos e, e]; simp
    · rw [if_neg e, decide_eq_false (fun q => e q.symm)]; simp
  · exact row_own h.mr (fun q e => hk q (h.mr.lt q e).2 (fun e2 => s5 (by rw [← e2]; exact e)) (fun e2 => s6 q e2 e) (fun e2 => s4 (by rw [← e2]; exact e)))
  · rcases hat with e2 | ⟨q', e2, hq'⟩
    · exact h.no q (by rw [← e2]; exact e) hf
    · rw [e2] at e; cases e
      have := h.lt _ hf
      omega
theorem Wk.tell_keep {w2 : World} {v' : Value} (h : Wk K w0 F0 w F s mo b N rt vo vm A C W M T k) {o : Obj} (hg : ((w.setCell ⟨rt, cd l, none⟩ (.bool true)).alloc o).grownBy w2 vo.ownBlock) :
    ∀ q, q < w.heap.size → F q → (w2.setCell ⟨b, 2, none⟩ v').heap[q]? = w.heap[q]? := by
  have hg' := grown_of hg
  have hz1 : (w.setCell ⟨rt, cd l, none⟩ (.bool true)).heap.size = w.heap.size := by rw [World.size_setCell]
  intro q hq hf
  exact (heap_setCell_other w2 ⟨b, 2, none⟩ q v' (fun (e : q = b) => h.nb (e ▸ hf))).trans ((hg'.block q (by omega) (fun e => h.no q e.symm hf)).trans (heap_setCell_other w ⟨rt, cd l, none⟩ q (.bool true) (fun (e : q = rt) => h.nt (e ▸ hf))))
set_option maxRecDepth 20000 in
set_option maxHeartbeats 6400000 in
theorem set_any (h : Wk K w0 F0 w F s mo b N rt vo vm A C W M T k) (hl : sm l) (hN : cd l < N) (hT : T.length ≤ 1000000) :
    Calls Try.prog 52 #[.pointer (some ⟨b, 0, none⟩), .int .i64 l] w fun e w' => e = .returned (.tuple #[]) ∧ ∃ vo', Wk K w0 F0 w' F s mo b N rt vo' vm A C W M (if l ∈ T then T else T ++ [l]) k ∧ ∀ q, q < w.heap.size → F q → w'.heap[q]? = w.heap[q]? := by
  have HT : Hid _ := h.isT hl hN
  have H : Hid (Wk K w0 F0 w F s mo b N rt vo vm A C W M T k) := h
  have HC : Hid (∀ wx, Calls Try.prog 43 #[.int .i64 l] wx fun e w' => e = .returned (.int .u64 (cd l : Int)) ∧ w' = wx) := fun wx => code_any hl wx
  clear h
  by_cases hm : l ∈ T
  · rw [if_pos hm]
    rw [decide_eq_true hm] at HT
    clear hm
    go_enter Try.func52, Try.ntmps52
    go_wp2_with fail
    refine Calls.mono HT.out ?_
    rintro ev w1 ⟨rfl, j, hw⟩
    rw [hw]
    clear hw w1
    go_wp2_with fail
    refine bodyPost_ret (results_none rfl _ _ _) rfl ?_
    exact ⟨rfl, vo, H.out.al (Al.drewN w j), fun _ _ _ => rfl⟩
  · rw [if_neg hm]
    rw [decide_eq_false hm] at HT
    obtain ⟨a1, k1, hvo⟩ := own_slice H.out.to
    obtain ⟨n1, hn1⟩ : ∃ n, n = T.length := ⟨_, rfl⟩
    rw [← hn1] at hvo hT
    subst hvo
    have HTL : Hid _ := hn1
    clear hm hn1
    go_enter Try.func52, Try.ntmps52
    go_wp2_with fail
    refine Calls.mono HT.out ?_
    rintro ev w1 ⟨rfl, j, hw⟩
    have hal : Al w w1 := by rw [hw]; exact Al.drewN w j
    have HK : Hid (Wk K w0 F0 w1 F s mo b N rt (.slice a1 n1 k1) vm A C W M T k) := H.out.al hal
    have HAL : Hid (Al w w1) := hal
    clear hw hal HT
    have c1 : w1.cell? ⟨b, 1, none⟩ = some (.slice (some ⟨rt, 0, none⟩) N N) := cell_of HK.out.hd 1 rfl
    obtain ⟨c, hc⟩ : ∃ c, c = cd l := ⟨_, rfl⟩
    have hcN : c < N := by rw [hc]; exact hN
    have hcI : (c : Int) < (N : Int) := by omega
    obtain ⟨vb, hvb⟩ : ∃ v, w1.cell? ⟨rt, c, none⟩ = some v := ⟨_, HK.out.tr.cell hcN⟩
    have fb : w1.frozen? ⟨rt, c, none⟩ = false := HK.out.tr.frozen c
    have hbr : b ≠ rt := HK.out.sep.1
    have hrl := HK.out.tr.lt
    rw [← hc] at HC
    have HCC : Hid _ := hc
    clear hc
    go_wp2_with fail
    go_region_with ((go_at_call 43; refine Calls.mono (HC.out _) ?_; rintro ev w2 ⟨rfl, hq⟩; subst hq))
    all_goals
      obtain ⟨wx, hwx⟩ : ∃ wx, wx = (w1.setCell ⟨rt, c, none⟩ (.bool true)).drew := ⟨_, rfl⟩
      rw [← hwx]
      have HKD : Hid (Wk K w0 F0 w1.drew F s mo b N rt (.slice a1 n1 k1) vm A C W M T k) := HK.out.al ⟨rfl, rfl, rfl, rfl⟩
      have HWX : Hid (wx = w1.drew.setCell ⟨rt, cd l, none⟩ (.bool true)) := by unfold Hid; rw [hwx, HCC.out]; rfl
      have hbx : wx.heap[b]? = some (.cells #[.pointer (some ⟨s, 0, none⟩), .slice (some ⟨rt, 0, none⟩) N N, .slice a1 n1 k1, .int .i64 (k : Int), vm] 64) := by
        rw [hwx]
        exact (heap_setCell_other w1 ⟨rt, c, none⟩ b (.bool true) hbr).trans HK.out.hd
      have c2 : wx.cell? ⟨b, 2, none⟩ = some (.slice a1 n1 k1) := cell_of hbx 2 rfl
      have hbl : b < wx.heap.size := (Array.getElem?_eq_some_iff.1 hbx).1
      have HIX : Hid (Is' wx w0.heap.size (.slice a1 n1 k1) T) := by
        unfold Hid
        rw [hwx]
        exact row_own HK.out.to (fun q hq => heap_setCell_other w1 ⟨rt, c, none⟩ q (.bool true) (fun (e : q = rt) => HK.out.sep.2.2.1 (e ▸ hq)))
      have HBX : Hid _ := hbx
      have hz0 : w0.heap.size ≤ wx.heap.size := by
        rw [hwx]
        show w0.heap.size ≤ (w1.setCell ⟨rt, c, none⟩ (.bool true)).heap.size
        rw [World.size_setCell]; exact HK.out.ch.size
      clear hwx c1 hvb fb hbx
      go_wp2_with (at_builtin; refine wpList_app rfl _ _ rfl w0.heap.size _ T rfl (row_kept HIX.out (fun _ hq => heap_alloc_old _ _ hq)) _ [l] rfl (sr_one wx l) (by rw [← HTL.out]; simp; omega) (by rw [size_alloc']; omega) ?_; intro v1 w2 hown hgrow hat; obtain ⟨a2, m2, k2, hv1, HM2⟩ := own_sl hown; subst hv1; have hd2 : w2.heap[b]? = _ := ((grown_of hgrow).block b hbl (fun e => HK.out.sep.2.1 e.symm)).trans HBX.out; have c22 : w2.cell? ⟨b, 2, none⟩ = some (.slice a1 n1 k1) := cell_of hd2 2 rfl; have f22 : w2.frozen? ⟨b, 2, none⟩ = false := (by simp [World.frozen?, hd2]); have HGR : Hid _ := hgrow; have HOW : Hid _ := hown; have HAT : Hid _ := hat; clear hown hgrow hat hd2)
      go_end0
      have hg := HGR.out
      rw [HWX.out] at hg
      refine ⟨rfl, _, HKD.out.tell hg HOW.out ?_, fun q hq hf => ?_⟩
      · have ha := at_of HAT.out
        rw [HWX.out, World.size_setCell] at ha
        exact ha
      · have hsz : w1.drew.heap.size = w.heap.size := by show w1.heap.size = _; rw [HAL.out.heap]
        refine (HKD.out.tell_keep hg q (by omega) hf).trans ?_
        show w1.heap[q]? = w.heap[q]?
        rw [HAL.out.heap]
end
end Go.Proofs.Ytkndjndhjdfhcaa
