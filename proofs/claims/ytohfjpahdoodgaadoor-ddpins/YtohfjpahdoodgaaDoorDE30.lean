/- The laws' world: what a step's parts leave. -/
import Derived.Test.YtohfjpahdoodgaaDoorDE29
namespace Go.Proofs.YtohfjpahdoodgaaDoor
open Go.RowKit
set_option linter.unusedSimpArgs false
set_option linter.unusedVariables false

theorem infoHeld : (Tryd.prog.info? 36).map (fun i => (i.zero, i.size, i.bytes)) = some (some (.agg #[.int .i64 0, .slice none 0 0]), 2, 32) := by kernel_rfl
theorem underHelds : Tryd.prog.underlying 27 = some (.slice 36) := by kernel_rfl
theorem two_new (w : World) (u v : Value) (T : TypeId) : ∀ (j : Nat) (q : Value), [u, v][j]? = some q → (w.alloc (.cells #[u, v] T)).cell? ((⟨w.heap.size, 0, none⟩ : Addr).add j) = some q := fun j q h => by
  have hn := heap_alloc_new w (.cells #[u, v] T)
  rcases (show j = 0 ∨ j = 1 ∨ 2 ≤ j by omega) with rfl | rfl | h2
  · cases h; exact cell_of hn 0 rfl
  · cases h; exact cell_of hn 1 rfl
  · rw [List.getElem?_eq_none (by simpa using h2)] at h; cases h
theorem tabV_len' {n : Nat} {b : Bool} : ((List.range (N2 n)).map fun _ => b).length = N2 n := by simp
/-- What a step leaves. -/
def DoR (w0 : Wx) (w' : World) (wb g n most : Nat) (S : St) (H : List HT) : Prop :=
  ∃ F' lv' S' pn' H', Hf w0 w' F' wb lv' g n most S' pn' H' ∧ Pu n S' pn' H' ∧ Gw n S S' (2 ^ n) ∧ H'.length ≤ H.length + 1
/-- What an operation leaves, its number being a natural one. -/
def OQ (W : World) (F : Nat → Prop) (g n most : Nat) (S : St) (pn : Int → Int) (V : (Int → Bool) → Bool) (y : World) (f : Nat) : Prop :=
  ∃ S' F', Rm y F' g n most S' pn ∧ Ch W y F F' ∧ Gw n S S' (2 ^ n) ∧ alive S'.ns (f : Int) ∧ ∀ x, val n S'.ns x f = V x
theorem og_oq {W : World} {F : Nat → Prop} {g n most k : Nat} {S : St} {pn : Int → Int} {V : (Int → Bool) → Bool} {e : Ending} {y : World} (hk : k ≤ 2 ^ n) (h : OpG W.drew F g n most S pn k V e y) : ∃ f : Nat, e = .returned (.tuple #[.int .i64 (f : Int), .int .i64 0]) ∧ OQ W F g n most S pn V y f := by
  obtain ⟨f, S', F', e1, h1, h2, h3, h4, h5⟩ := h
  have h0 := h4.1
  obtain ⟨j, rfl⟩ : ∃ j : Nat, f = (j : Int) := ⟨f.toNat, by omega⟩
  exact ⟨j, e1, S', F', h1, ⟨h2.os, h2.tape, h2.output, h2.size, h2.block, h2.foot⟩, ⟨h3.pre, h3.sp, by have := h3.cnt; omega⟩, h4, h5⟩
/-- A drawn region that reads, and makes one call of an operation. -/
structure OS (W : World) (ci : Nat) (Q : World → Nat → Prop) (g : Nat → Nat) (D : Nat → Bool) (x : World) : Prop where
  a : D ci = false → x = W.drew
  b : D ci = true → Q x (g ci)
section
variable {W x y : World} {ci i f : Nat} {Q : World → Nat → Prop} {g : Nat → Nat} {D : Nat → Bool}
theorem OS.start : OS W ci Q (fun _ => 0) (fun _ => false) W.drew := ⟨fun _ => rfl, fun e => nomatch e⟩
theorem OS.go (h : OS W ci Q g D x) (hi : (i != ci) = true) : OS W ci Q g (updB D i) x := by
  have u1 := updB_ne (L := D) (i := i) (k := ci) (by intro e; simp [e] at hi)
  exact ⟨by rw [u1]; exact h.a, by rw [u1]; exact h.b⟩
theorem OS.called (h : Q y f) : OS W ci Q (updG g ci f) (updB D ci) y := ⟨(fun e => by rw [updB_eq] at e; cases e), fun _ => by rw [updG_eq]; exact h⟩
end
/-- Two tables are made, one of the other. -/
structure XS (W : World) (N : Nat) (T1 T2 : List Bool) (g : Nat → Nat) (D : Nat → Bool) (x : World) : Prop where
  bel : Below W.heap.size W x
  d : D 9 = true → D 6 = true
  i : D 6 = true → Bz x (.slice (some ⟨g 6, 0, none⟩) N N) T1
  o : D 9 = true → Bo x W.heap.size (.slice (some ⟨g 9, 0, none⟩) N N) T2
section
variable {W x y : World} {N i r : Nat} {T1 T2 : List Bool} {g : Nat → Nat} {D : Nat → Bool}
theorem XS.start : XS W N T1 T2 (fun _ => 0) (fun _ => false) W.drew := ⟨⟨rfl, rfl, rfl, Nat.le_refl _, fun _ _ => rfl⟩, (fun e => nomatch e), (fun e => nomatch e), fun e => nomatch e⟩
theorem XS.go (h : XS W N T1 T2 g D x) (hi : (i != 6 && i != 9) = true) : XS W N T1 T2 g (updB D i) x := by
  simp only [Bool.and_eq_true, bne_iff_ne, ne_eq] at hi
  have u1 := updB_ne (L := D) (i := i) (k := 6) (by omega)
  have u2 := updB_ne (L := D) (i := i) (k := 9) (by omega)
  exact ⟨h.bel, by rw [u1, u2]; exact h.d, by rw [u1]; exact h.i, by rw [u2]; exact h.o⟩
theorem XS.inner (h : XS W N T1 T2 g D x) (h9 : D 9 = false) (hv : Tn x y (.slice (some ⟨r, 0, none⟩) N N) T1) : XS W N T1 T2 (updG g 6 r) (updB D 6) y := by
  have u2 := updB_ne (L := D) (i := 6) (k := 9) (by decide)
  refine ⟨h.bel.trans (hv.bel.mono h.bel.size), (by rw [u2, h9]; intro e; cases e), fun _ => ?_, by rw [u2, h9]; intro e; cases e⟩
  rw [updG_eq]
  exact (hv.tb (F := fun _ => False) (B := 0) (Nat.zero_le _) (fun _ q => q.elim)).bz
theorem XS.outer (h : XS W N T1 T2 g D x) (h6 : D 6 = true) (hv : Tn x y (.slice (some ⟨r, 0, none⟩) N N) T2) : XS W N T1 T2 (updG g 9 r) (updB D 9) y := by
  have u1 := updB_ne (L := D) (i := 9) (k := 6) (by decide)
  refine ⟨h.bel.trans (hv.bel.mono h.bel.size), fun _ => by rw [u1]; exact h6, fun _ => ?_, fun _ => ?_⟩
  · rw [updG_ne _ (by decide)]
    exact (h.i h6).bel hv.bel
  · rw [updG_eq]
    exact ⟨own_mono hv.bo.row h.bel.size⟩
end
theorem DoR.same {w0 : Wx} {w : World} {F : Nat → Prop} {wb g n most : Nat} {lv : Value} {S : St} {pn : Int → Int} {H : List HT} (h : Hf w0 w F wb lv g n most S pn H) (pu : Pu n S pn H) : DoR w0 w wb g n most S H :=
  ⟨_, _, S, pn, H, h, pu, ⟨List.prefix_refl _, h.rm.sp, Nat.le_add_right _ _⟩, Nat.le_succ _⟩
theorem Pu.ps {n : Nat} {S : St} {pn : Int → Int} {H : List HT} (h : Pu n S pn H) : ∃ P : List Int, (∀ f, f ∈ P ↔ 1 ≤ pn f) ∧ ∀ p ∈ P, alive S.ns p := by
  refine ⟨(H.map (·.1)).filter (fun f => decide (2 ≤ f)), fun f => ?_, fun p hp => ?_⟩
  · rw [List.mem_filter, h.pn f, decide_eq_true_eq]
    by_cases h2 : 2 ≤ f
    · rw [if_pos h2]
      have : f ∈ H.map (·.1) ↔ 0 < (H.map (·.1)).count f := List.count_pos_iff.symm
      constructor
      · intro q; have := this.1 q.1; omega
      · intro q; exact ⟨this.2 (by omega), h2⟩
    · rw [if_neg h2]
      constructor
      · intro q; exact absurd q.2 h2
      · intro q; omega
  · obtain ⟨q, hq, rfl⟩ := List.mem_map.1 (List.mem_filter.1 hp).1
    exact (h.al q hq).1
theorem Pu.few {n : Nat} {S : St} {pn : Int → Int} {H : List HT} (h : Pu n S pn H) (f : Int) : 0 ≤ pn f ∧ pn f ≤ H.length := by
  rw [h.pn f]
  split
  · have := List.count_le_length (a := f) (l := H.map (·.1))
    rw [List.length_map] at this
    omega
  · omega
section
variable {w0 : Wx} {w w' : World} {F F' : Nat → Prop} {wb g n most : Nat} {lv : Value} {S S' : St} {pn pn' : Int → Int} {H : List HT}
/-- The world's own row is stored anew, as it was. -/
theorem Hf.fine (h : Hf w0 w F wb lv g n most S pn H) : Hf w0 (w.setCell ⟨wb, 4, none⟩ (.bool true)) F wb lv g n most S pn H := by
  have hs : (w.setCell ⟨wb, 4, none⟩ (.bool true)).heap[wb]? = some (.cells #[.pointer (some ⟨g, 0, none⟩), .int .i64 (n : Int), .int .i64 (most : Int), lv, .bool true] 29 (0, 0)) := by
    have := heap_setCell_same w wb 4 _ _ (.bool true) h.wc
    simpa using this
  have hk : ∀ k, (w.setCell ⟨wb, 4, none⟩ (.bool true)).heap[k]? = w.heap[k]? := fun k => by
    by_cases e : k = wb
    · rw [e]; exact hs.trans h.wc.symm
    · exact heap_setCell_other _ _ _ _ (show k ≠ wb from e)
  exact ⟨h.bel.setCell (p := ⟨wb, 4, none⟩) h.wl _, ⟨h.rm.gr.kept fun k _ _ => hk k, h.rm.sp, h.rm.ps⟩, h.low, h.wf, h.wl, hs, h.hl.keep fun k _ hf => ⟨hk k, hf⟩, h.few, fun k p e => ⟨(h.xb k p e).1, (hk k).trans (h.xb k p e).2.1, (h.xb k p e).2.2⟩⟩
theorem Hf.fineb (h : Hf w0 w F wb lv g n most S pn H) (k : Nat) : (w.setCell ⟨wb, 4, none⟩ (.bool true)).heap[k]? = w.heap[k]? := by
  by_cases e : k = wb
  · have := heap_setCell_same w wb 4 _ _ (.bool true) h.wc
    rw [e, this, h.wc]
    rfl
  · exact heap_setCell_other _ _ _ _ (show k ≠ wb from e)
/-- One more is held. -/
theorem Hf.app {x y : World} {v' : Value} {f : Int} {u : Value} {t : List Bool} (h : Hf w0 x F wb lv g n most S pn H) (hF : ∀ k, F k → k < x.heap.size) (hu : Tb x F w0.w.heap.size u t) (hfew : H.length ≤ 45) (hown : y.ownsRow w0.w.heap.size 36 2 v' (H.length + 1) (hcs H ++ [.int .i64 f, u])) (hg : x.grownBy y lv.ownBlock) (hat : v'.ownBlock = lv.ownBlock ∨ v'.ownBlock = some x.heap.size) :
    Hf w0 (y.setCell ⟨wb, 3, none⟩ v') F wb v' g n most S pn (H ++ [(f, u, t)]) ∧ y.cell? ⟨wb, 3, none⟩ = some lv ∧ y.frozen? ⟨wb, 3, none⟩ = false := by
  have hwl := blk_lt h.wc
  have hne : lv.ownBlock ≠ some wb := fun e => by
    obtain ⟨cur, hc⟩ := row_cur h.hl.row e
    rw [h.wc] at hc
    cases hc
  have hwb : y.heap[wb]? = x.heap[wb]? := hg.block wb hwl (fun e => hne e.symm)
  have hwc := hwb.trans h.wc
  have hs : (y.setCell ⟨wb, 3, none⟩ v').heap[wb]? = some (.cells #[.pointer (some ⟨g, 0, none⟩), .int .i64 (n : Int), .int .i64 (most : Int), v', .bool true] 29 (0, 0)) := by
    have := heap_setCell_same y wb 3 _ _ v' hwc
    simpa using this
  have ho : ∀ k, k ≠ wb → (y.setCell ⟨wb, 3, none⟩ v').heap[k]? = y.heap[k]? := fun k e => heap_setCell_other _ _ _ _ (show k ≠ wb from e)
  have hv'n : v'.ownBlock ≠ some wb := by
    rcases hat with e | e
    · rw [e]; exact hne
    · rw [e]; intro q; cases q; omega
  have hkF : ∀ k, k < x.heap.size → F k → (y.setCell ⟨wb, 3, none⟩ v').heap[k]? = x.heap[k]? := fun k hk hf => (ho k (fun e => h.wf (e ▸ hf))).trans (hg.block k hk (fun e => h.hl.off k e.symm hf))
  have hkB : ∀ (k : Nat) (cs : Array Value), x.heap[k]? = some (.cells cs 4 (0, 0)) → (y.setCell ⟨wb, 3, none⟩ v').heap[k]? = x.heap[k]? := fun k cs e => by
    refine (ho k (fun q => ?_)).trans (hg.block k (blk_lt e) (fun q => ?_))
    · subst q; rw [h.wc] at e; cases e
    · obtain ⟨cur, hc⟩ := row_cur h.hl.row q.symm
      rw [e] at hc
      cases hc
  have hbl : Below w0.w.heap.size x y := ⟨hg.os, hg.tape, hg.output, hg.size, fun k hk => hg.block k (Nat.lt_of_lt_of_le hk h.bel.size) (fun e => by have := (World.ownsRow.lt h.hl.row k e.symm).1; omega)⟩
  refine ⟨⟨(h.bel.trans hbl).setCell (p := ⟨wb, 3, none⟩) h.wl _, ⟨h.rm.gr.kept hkF, h.rm.sp, h.rm.ps⟩, h.low, h.wf, h.wl, hs, ⟨?_, ?_, ?_⟩, by simp; omega, fun k p e => ⟨(h.xb k p e).1, ?_, (h.xb k p e).2.2⟩⟩, cell_of hwc 3 rfl, frz hwc 3⟩
  · rw [hcs_app, List.length_append]
    exact row_far hown hv'n
  · intro b e
    rcases hat with q | q
    · rw [q] at e; exact h.hl.off b e
    · rw [q] at e; cases e
      intro hf
      have := hF _ hf
      omega
  · intro p hp
    rw [List.mem_append, List.mem_singleton] at hp
    rcases hp with hp | rfl
    · exact (h.hl.tb p hp).keep fun k cs e hf => ⟨hkB k cs e, hf⟩
    · exact hu.keep fun k cs e hf => ⟨hkB k cs e, hf⟩
  · obtain ⟨pc, pt⟩ := p
    obtain ⟨⟨t1, t2⟩, hc, -⟩ := h.xb k _ e
    dsimp only at t1 t2 hc
    refine (ho k (fun q => ?_)).trans ((hg.block k (blk_lt hc) (fun q => ?_)).trans hc)
    · subst q; rw [h.wc] at hc; cases hc; exact t2 rfl
    · obtain ⟨cur, hc'⟩ := row_cur h.hl.row q.symm
      rw [hc] at hc'
      cases hc'
      exact t1 rfl
end
end Go.Proofs.YtohfjpahdoodgaaDoor
