/- The laws' world: what its tables say; a step's first region. -/
import Derived.Test.YtohfjpahdoodgaaGreatDoorMg24
namespace Go.Proofs.YtohfjpahdoodgaaGreatDoor
open Go.RowKit
set_option linter.unusedSimpArgs false
set_option linter.unusedVariables false

/-- The table of a function of assignments. -/
def tabV (n : Nat) (V : (Int → Bool) → Bool) : List Bool := (List.range (N2 n)).map fun k => V (fun i => bt k i.toNat)
theorem tabV_len (n : Nat) (V : (Int → Bool) → Bool) : (tabV n V).length = N2 n := by simp [tabV]
theorem tabV_get {n k : Nat} (V : (Int → Bool) → Bool) (hk : k < N2 n) : (tabV n V).getD k false = V (fun i => bt k i.toNat) := by
  rw [List.getD_eq_getElem?_getD]; unfold tabV; rw [List.getElem?_map, List.getElem?_range hk]; rfl
theorem tabV_ite (n : Nat) (A B C : (Int → Bool) → Bool) : iteT (tabV n A) (tabV n B) (tabV n C) = tabV n (fun x => if A x then B x else C x) := by
  unfold iteT
  rw [tabV_len]
  refine List.map_congr_left fun k hk => ?_
  have hk' := List.mem_range.1 hk
  rw [tabV_get A hk', tabV_get B hk', tabV_get C hk']
theorem tabV_congr {n : Nat} {A B : (Int → Bool) → Bool} (h : ∀ x, A x = B x) : tabV n A = tabV n B := by rw [show A = B from funext h]
/-- What holds of the world, plainly. -/
structure Pu (n : Nat) (S : St) (pn : Int → Int) (H : List HT) : Prop where
  two : ∃ v0 v1 R, H = (0, v0, tabV n (fun _ => false)) :: (1, v1, tabV n (fun _ => true)) :: R
  al : ∀ p ∈ H, alive S.ns p.1 ∧ p.2.2 = tabV n (fun x => val n S.ns x p.1)
  pn : ∀ f, pn f = if 2 ≤ f then ((H.map (·.1)).count f : Int) else 0
theorem Pu.len {n : Nat} {S : St} {pn : Int → Int} {H : List HT} (h : Pu n S pn H) : 2 ≤ H.length := by
  obtain ⟨_, _, R, rfl⟩ := h.two
  simp
theorem Pu.grow {n : Nat} {S S' : St} {pn : Int → Int} {H : List HT} {f : Int} {u : Value} {V : (Int → Bool) → Bool} (g : Good n S.ns S.sp) (h : Pu n S pn H) (hp : S.ns <+: S'.ns) (hf : alive S'.ns f) (hV : ∀ x, val n S'.ns x f = V x) :
    Pu n S' (if alive S'.ns f ∧ 2 ≤ f then pinA pn f (pn f + 1) else pn) (H ++ [(f, u, tabV n V)]) := by
  refine ⟨?_, fun p hp' => ?_, fun x => ?_⟩
  · obtain ⟨v0, v1, R, rfl⟩ := h.two
    exact ⟨v0, v1, R ++ [(f, u, tabV n V)], rfl⟩
  · rw [List.mem_append, List.mem_singleton] at hp'
    rcases hp' with q | rfl
    · obtain ⟨a1, a2⟩ := h.al p q
      exact ⟨pre_alive hp a1, by rw [a2]; exact tabV_congr fun x => (pre_val g hp x a1).symm⟩
    · exact ⟨hf, tabV_congr fun x => (hV x).symm⟩
  · rw [List.map_append, List.map_singleton, List.count_append, List.count_singleton]
    have h1 := h.pn x
    by_cases h2 : 2 ≤ f
    · rw [if_pos ⟨hf, h2⟩]
      unfold pinA
      by_cases e : x = f
      · subst e; rw [if_pos rfl, h1, if_pos h2]; simp
        omega
      · rw [if_neg e, h1]
        have : (f == x) = false := by simp; exact fun q => e q.symm
        simp [this]
    · rw [if_neg (fun q => h2 q.2), h1]
      by_cases h3 : 2 ≤ x
      · rw [if_pos h3, if_pos h3]
        have : (f == x) = false := by simp; omega
        simp [this]
      · rw [if_neg h3, if_neg h3]
/-- A step's first region: three things are taken, each into a block of its own. -/
structure DS (W : World) (f : Nat → Int) (tv : Nat → Value) (g : Nat → Nat) (D : Nat → Bool) (x : World) : Prop where
  bel : Below W.heap.size W x
  al : ∀ k, k = 12 ∨ k = 13 ∨ k = 14 → D k = true → W.heap.size ≤ g k ∧ x.heap[g k]? = some (.cells (if D (k + 3) then #[.int .i64 (f k), tv k] else #[.int .i64 0, .slice none 0 0]) 36 (0, 0))
  ne : ∀ k j, (k = 12 ∨ k = 13 ∨ k = 14) → (j = 12 ∨ j = 13 ∨ j = 14) → k ≠ j → D k = true → D j = true → g k ≠ g j
  od : ∀ k, k = 12 ∨ k = 13 ∨ k = 14 → D (k + 3) = true → D k = true
section
variable {W x y : World} {f : Nat → Int} {tv : Nat → Value} {g : Nat → Nat} {D : Nat → Bool} {i k : Nat}
theorem DS.start : DS W f tv (fun _ => 0) (fun _ => false) W.drew :=
  ⟨⟨rfl, rfl, rfl, Nat.le_refl _, fun _ _ => rfl⟩, (fun _ _ e => nomatch e), (fun _ _ _ _ _ e => nomatch e), fun _ _ e => nomatch e⟩
theorem DS.called (h : DS W f tv g D x) (hi : i < 12) (hb : Below x.heap.size x y) : DS W f tv g (updB D i) y := by
  have u : ∀ j, 12 ≤ j → updB D i j = D j := fun j hj => updB_ne (by omega)
  refine ⟨h.bel.trans (hb.mono h.bel.size), fun k hk hd => ?_, fun k j hk hj hne hd he => ?_, fun k hk hd => ?_⟩
  · rw [u k (by omega)] at hd
    obtain ⟨h1, h2⟩ := h.al k hk hd
    rw [u (k + 3) (by omega)]
    exact ⟨h1, (hb.block _ (blk_lt h2)).trans h2⟩
  · rw [u k (by omega)] at hd
    rw [u j (by omega)] at he
    exact h.ne k j hk hj hne hd he
  · rw [u _ (by omega)] at hd ⊢
    exact h.od k hk hd
theorem DS.go (h : DS W f tv g D x) (hi : i < 12) : DS W f tv g (updB D i) x := h.called hi (Below.refl _ _)
theorem DS.made (h : DS W f tv g D x) (hk : k = 12 ∨ k = 13 ∨ k = 14) (h3 : D (k + 3) = false) (hkd : D k = false) : DS W f tv (updG g k x.heap.size) (updB D k) (x.alloc (.cells #[.int .i64 0, .slice none 0 0] 36)) := by
  have hs := h.bel.size
  refine ⟨h.bel.alloc (by omega) _, fun j hj hd => ?_, fun i j hi hj hne hd he => ?_, fun j hj hd => ?_⟩
  · rw [updB_ne (L := D) (i := k) (k := j + 3) (by omega)]
    by_cases e : j = k
    · subst e
      rw [updG_eq, h3]
      exact ⟨by omega, heap_alloc_new _ _⟩
    · rw [updB_ne (by omega)] at hd
      obtain ⟨h1, h2⟩ := h.al j hj hd
      rw [updG_ne _ (by omega)]
      exact ⟨h1, (heap_alloc_old _ _ (blk_lt h2)).trans h2⟩
  · by_cases e : i = k
    · subst e
      rw [updG_eq, updG_ne _ (by omega)]
      rw [updB_ne (by omega)] at he
      have := blk_lt (h.al j hj he).2
      omega
    · rw [updB_ne (by omega)] at hd
      rw [updG_ne _ (by omega)]
      by_cases e2 : j = k
      · subst e2
        rw [updG_eq]
        have := blk_lt (h.al i hi hd).2
        omega
      · rw [updB_ne (by omega)] at he
        rw [updG_ne _ (by omega)]
        exact h.ne i j hi hj hne hd he
  · rw [updB_ne (by omega)] at hd
    have := h.od j hj hd
    by_cases e : j = k
    · subst e; rw [updB_eq]
    · rw [updB_ne (by omega)]; exact this
theorem two_set (x : World) (b : Nat) (u v a c : Value) (T : TypeId) (h : x.heap[b]? = some (.cells #[u, v] T (0, 0))) : ((x.setCell ⟨b, 0, none⟩ a).setCell ⟨b, 1, none⟩ c).heap[b]? = some (.cells #[a, c] T (0, 0)) := by
  have h1 := heap_setCell_same x b 0 #[u, v] T a h
  have h2 := heap_setCell_same _ b 1 _ T c h1
  simpa using h2
theorem DS.stored (h : DS W f tv g D x) (hk : k = 12 ∨ k = 13 ∨ k = 14) (h3 : D (k + 3) = false) (hkd : D k = true) : DS W f tv g (updB D (k + 3)) ((x.setCell ⟨g k, 0, none⟩ (.int .i64 (f k))).setCell ⟨g k, 1, none⟩ (tv k)) := by
  obtain ⟨h1, h2⟩ := h.al k hk hkd
  rw [h3] at h2
  have h2' := two_set x (g k) _ _ (.int .i64 (f k)) (tv k) _ h2
  refine ⟨(h.bel.setCell (p := ⟨g k, 0, none⟩) h1 _).setCell (p := ⟨g k, 1, none⟩) h1 _, fun j hj hd => ?_, fun i j hi hj hne hd he => ?_, fun j hj hd => ?_⟩
  · rw [updB_ne (by omega)] at hd
    by_cases e : j = k
    · subst e
      rw [updB_eq]
      exact ⟨h1, h2'⟩
    · rw [updB_ne (by omega)]
      obtain ⟨q1, q2⟩ := h.al j hj hd
      have hn := h.ne j k hj hk e hd hkd
      exact ⟨q1, ((heap_setCell_other _ _ _ _ (show g j ≠ g k from hn)).trans (heap_setCell_other _ _ _ _ (show g j ≠ g k from hn))).trans q2⟩
  · rw [updB_ne (by omega)] at hd he
    exact h.ne i j hi hj hne hd he
  · rw [updB_ne (by omega)]
    by_cases e : j = k
    · subst e; exact hkd
    · rw [updB_ne (by omega)] at hd
      exact h.od j hj hd
end
end Go.Proofs.YtohfjpahdoodgaaGreatDoor

/- The laws' world: what a step's parts leave. -/
namespace Go.Proofs.YtohfjpahdoodgaaGreatDoor
open Go.RowKit
set_option linter.unusedSimpArgs false
set_option linter.unusedVariables false

theorem infoHeld : (Tryz.prog.info? 36).map (fun i => (i.zero, i.size, i.bytes)) = some (some (.agg #[.int .i64 0, .slice none 0 0]), 2, 32) := by kernel_rfl
theorem underHelds : Tryz.prog.underlying 27 = some (.slice 36) := by kernel_rfl
theorem two_new (w : World) (u v : Value) (T : TypeId) : ∀ (j : Nat) (q : Value), [u, v][j]? = some q → (w.alloc (.cells #[u, v] T)).cell? ((⟨w.heap.size, 0, none⟩ : Addr).add j) = some q := fun j q h => by
  have hn := heap_alloc_new w (.cells #[u, v] T)
  rcases (show j = 0 ∨ j = 1 ∨ 2 ≤ j by omega) with rfl | rfl | h2
  · cases h; exact cell_of hn 0 rfl
  · cases h; exact cell_of hn 1 rfl
  · rw [List.getElem?_eq_none (by simpa using h2)] at h; cases h
theorem tabV_len' {n : Nat} {b : Bool} : ((List.range (N2 n)).map fun _ => b).length = N2 n := by simp
/-- What a step leaves. -/
def DoR (w0 : Wx) (w' : World) (wb g n most : Nat) (S : St) (H : List HT) : Prop :=
  ∃ F' lv' S' pn' H', Hf w0 w' F' wb lv' g n most S' pn' H' ∧ Pu n S' pn' H' ∧ Gw n S S' (2 ^ n) ∧ H'.length ≤ H.length + 1
/-- What an operation leaves, its number being a natural one. -/
def OQ (W : World) (F : Nat → Prop) (g n most : Nat) (S : St) (pn : Int → Int) (V : (Int → Bool) → Bool) (y : World) (f : Nat) : Prop :=
  ∃ S' F', Rm y F' g n most S' pn ∧ Ch W y F F' ∧ Gw n S S' (2 ^ n) ∧ alive S'.ns (f : Int) ∧ ∀ x, val n S'.ns x f = V x
theorem og_oq {W : World} {F : Nat → Prop} {g n most k : Nat} {S : St} {pn : Int → Int} {V : (Int → Bool) → Bool} {e : Ending} {y : World} (hk : k ≤ 2 ^ n) (h : OpG W.drew F g n most S pn k V e y) : ∃ f : Nat, e = .returned (.tuple #[.int .i64 (f : Int), .int .i64 0]) ∧ OQ W F g n most S pn V y f := by
  obtain ⟨f, S', F', e1, h1, h2, h3, h4, h5⟩ := h
  have h0 := h4.1
  obtain ⟨j, rfl⟩ : ∃ j : Nat, f = (j : Int) := ⟨f.toNat, by omega⟩
  exact ⟨j, e1, S', F', h1, ⟨h2.os, h2.tape, h2.output, h2.size, h2.block, h2.foot⟩, ⟨h3.pre, h3.sp, by have := h3.cnt; omega⟩, h4, h5⟩
/-- A drawn region that reads, and makes one call of an operation. -/
structure OS (W : World) (ci : Nat) (Q : World → Nat → Prop) (g : Nat → Nat) (D : Nat → Bool) (x : World) : Prop where
  a : D ci = false → x = W.drew
  b : D ci = true → Q x (g ci)
section
variable {W x y : World} {ci i f : Nat} {Q : World → Nat → Prop} {g : Nat → Nat} {D : Nat → Bool}
theorem OS.start : OS W ci Q (fun _ => 0) (fun _ => false) W.drew := ⟨fun _ => rfl, fun e => nomatch e⟩
theorem OS.go (h : OS W ci Q g D x) (hi : (i != ci) = true) : OS W ci Q g (updB D i) x := by
  have u1 := updB_ne (L := D) (i := i) (k := ci) (by intro e; simp [e] at hi)
  exact ⟨by rw [u1]; exact h.a, by rw [u1]; exact h.b⟩
theorem OS.called (h : Q y f) : OS W ci Q (updG g ci f) (updB D ci) y := ⟨(fun e => by rw [updB_eq] at e; cases e), fun _ => by rw [updG_eq]; exact h⟩
end
/-- Two tables are made, one of the other. -/
structure XS (W : World) (N : Nat) (T1 T2 : List Bool) (g : Nat → Nat) (D : Nat → Bool) (x : World) : Prop where
  bel : Below W.heap.size W x
  d : D 9 = true → D 6 = true
  i : D 6 = true → Bz x (.slice (some ⟨g 6, 0, none⟩) N N) T1
  o : D 9 = true → Bo x W.heap.size (.slice (some ⟨g 9, 0, none⟩) N N) T2
section
variable {W x y : World} {N i r : Nat} {T1 T2 : List Bool} {g : Nat → Nat} {D : Nat → Bool}
theorem XS.start : XS W N T1 T2 (fun _ => 0) (fun _ => false) W.drew := ⟨⟨rfl, rfl, rfl, Nat.le_refl _, fun _ _ => rfl⟩, (fun e => nomatch e), (fun e => nomatch e), fun e => nomatch e⟩
theorem XS.go (h : XS W N T1 T2 g D x) (hi : (i != 6 && i != 9) = true) : XS W N T1 T2 g (updB D i) x := by
  simp only [Bool.and_eq_true, bne_iff_ne, ne_eq] at hi
  have u1 := updB_ne (L := D) (i := i) (k := 6) (by omega)
  have u2 := updB_ne (L := D) (i := i) (k := 9) (by omega)
  exact ⟨h.bel, by rw [u1, u2]; exact h.d, by rw [u1]; exact h.i, by rw [u2]; exact h.o⟩
theorem XS.inner (h : XS W N T1 T2 g D x) (h9 : D 9 = false) (hv : Tn x y (.slice (some ⟨r, 0, none⟩) N N) T1) : XS W N T1 T2 (updG g 6 r) (updB D 6) y := by
  have u2 := updB_ne (L := D) (i := 6) (k := 9) (by decide)
  refine ⟨h.bel.trans (hv.bel.mono h.bel.size), (by rw [u2, h9]; intro e; cases e), fun _ => ?_, by rw [u2, h9]; intro e; cases e⟩
  rw [updG_eq]
  exact (hv.tb (F := fun _ => False) (B := 0) (Nat.zero_le _) (fun _ q => q.elim)).bz
theorem XS.outer (h : XS W N T1 T2 g D x) (h6 : D 6 = true) (hv : Tn x y (.slice (some ⟨r, 0, none⟩) N N) T2) : XS W N T1 T2 (updG g 9 r) (updB D 9) y := by
  have u1 := updB_ne (L := D) (i := 9) (k := 6) (by decide)
  refine ⟨h.bel.trans (hv.bel.mono h.bel.size), fun _ => by rw [u1]; exact h6, fun _ => ?_, fun _ => ?_⟩
  · rw [updG_ne _ (by decide)]
    exact (h.i h6).bel hv.bel
  · rw [updG_eq]
    exact ⟨own_mono hv.bo.row h.bel.size⟩
end
theorem DoR.same {w0 : Wx} {w : World} {F : Nat → Prop} {wb g n most : Nat} {lv : Value} {S : St} {pn : Int → Int} {H : List HT} (h : Hf w0 w F wb lv g n most S pn H) (pu : Pu n S pn H) : DoR w0 w wb g n most S H :=
  ⟨_, _, S, pn, H, h, pu, ⟨List.prefix_refl _, h.rm.sp, Nat.le_add_right _ _⟩, Nat.le_succ _⟩
theorem Pu.ps {n : Nat} {S : St} {pn : Int → Int} {H : List HT} (h : Pu n S pn H) : ∃ P : List Int, (∀ f, f ∈ P ↔ 1 ≤ pn f) ∧ ∀ p ∈ P, alive S.ns p := by
  refine ⟨(H.map (·.1)).filter (fun f => decide (2 ≤ f)), fun f => ?_, fun p hp => ?_⟩
  · rw [List.mem_filter, h.pn f, decide_eq_true_eq]
    by_cases h2 : 2 ≤ f
    · rw [if_pos h2]
      have : f ∈ H.map (·.1) ↔ 0 < (H.map (·.1)).count f := List.count_pos_iff.symm
      constructor
      · intro q; have := this.1 q.1; omega
      · intro q; exact ⟨this.2 (by omega), h2⟩
    · rw [if_neg h2]
      constructor
      · intro q; exact absurd q.2 h2
      · intro q; omega
  · obtain ⟨q, hq, rfl⟩ := List.mem_map.1 (List.mem_filter.1 hp).1
    exact (h.al q hq).1
theorem Pu.few {n : Nat} {S : St} {pn : Int → Int} {H : List HT} (h : Pu n S pn H) (f : Int) : 0 ≤ pn f ∧ pn f ≤ H.length := by
  rw [h.pn f]
  split
  · have := List.count_le_length (a := f) (l := H.map (·.1))
    rw [List.length_map] at this
    omega
  · omega
section
variable {w0 : Wx} {w w' : World} {F F' : Nat → Prop} {wb g n most : Nat} {lv : Value} {S S' : St} {pn pn' : Int → Int} {H : List HT}
/-- The world's own row is stored anew, as it was. -/
theorem Hf.fine (h : Hf w0 w F wb lv g n most S pn H) : Hf w0 (w.setCell ⟨wb, 4, none⟩ (.bool true)) F wb lv g n most S pn H := by
  have hs : (w.setCell ⟨wb, 4, none⟩ (.bool true)).heap[wb]? = some (.cells #[.pointer (some ⟨g, 0, none⟩), .int .i64 (n : Int), .int .i64 (most : Int), lv, .bool true] 29 (0, 0)) := by
    have := heap_setCell_same w wb 4 _ _ (.bool true) h.wc
    simpa using this
  have hk : ∀ k, (w.setCell ⟨wb, 4, none⟩ (.bool true)).heap[k]? = w.heap[k]? := fun k => by
    by_cases e : k = wb
    · rw [e]; exact hs.trans h.wc.symm
    · exact heap_setCell_other _ _ _ _ (show k ≠ wb from e)
  exact ⟨h.bel.setCell (p := ⟨wb, 4, none⟩) h.wl _, ⟨h.rm.gr.kept fun k _ _ => hk k, h.rm.sp, h.rm.ps⟩, h.low, h.wf, h.wl, hs, h.hl.keep fun k _ hf => ⟨hk k, hf⟩, h.few, fun k p e => ⟨(h.xb k p e).1, (hk k).trans (h.xb k p e).2.1, (h.xb k p e).2.2⟩⟩
theorem Hf.fineb (h : Hf w0 w F wb lv g n most S pn H) (k : Nat) : (w.setCell ⟨wb, 4, none⟩ (.bool true)).heap[k]? = w.heap[k]? := by
  by_cases e : k = wb
  · have := heap_setCell_same w wb 4 _ _ (.bool true) h.wc
    rw [e, this, h.wc]
    rfl
  · exact heap_setCell_other _ _ _ _ (show k ≠ wb from e)
/-- One more is held. -/
theorem Hf.app {x y : World} {v' : Value} {f : Int} {u : Value} {t : List Bool} (h : Hf w0 x F wb lv g n most S pn H) (hF : ∀ k, F k → k < x.heap.size) (hu : Tb x F w0.w.heap.size u t) (hfew : H.length ≤ 45) (hown : y.ownsRow w0.w.heap.size 36 2 v' (H.length + 1) (hcs H ++ [.int .i64 f, u])) (hg : x.grownBy y lv.ownBlock) (hat : v'.ownBlock = lv.ownBlock ∨ v'.ownBlock = some x.heap.size) :
    Hf w0 (y.setCell ⟨wb, 3, none⟩ v') F wb v' g n most S pn (H ++ [(f, u, t)]) ∧ y.cell? ⟨wb, 3, none⟩ = some lv ∧ y.frozen? ⟨wb, 3, none⟩ = false := by
  have hwl := blk_lt h.wc
  have hne : lv.ownBlock ≠ some wb := fun e => by
    obtain ⟨cur, hc⟩ := row_cur h.hl.row e
    rw [h.wc] at hc
    cases hc
  have hwb : y.heap[wb]? = x.heap[wb]? := hg.block wb hwl (fun e => hne e.symm)
  have hwc := hwb.trans h.wc
  have hs : (y.setCell ⟨wb, 3, none⟩ v').heap[wb]? = some (.cells #[.pointer (some ⟨g, 0, none⟩), .int .i64 (n : Int), .int .i64 (most : Int), v', .bool true] 29 (0, 0)) := by
    have := heap_setCell_same y wb 3 _ _ v' hwc
    simpa using this
  have ho : ∀ k, k ≠ wb → (y.setCell ⟨wb, 3, none⟩ v').heap[k]? = y.heap[k]? := fun k e => heap_setCell_other _ _ _ _ (show k ≠ wb from e)
  have hv'n : v'.ownBlock ≠ some wb := by
    rcases hat with e | e
    · rw [e]; exact hne
    · rw [e]; intro q; cases q; omega
  have hkF : ∀ k, k < x.heap.size → F k → (y.setCell ⟨wb, 3, none⟩ v').heap[k]? = x.heap[k]? := fun k hk hf => (ho k (fun e => h.wf (e ▸ hf))).trans (hg.block k hk (fun e => h.hl.off k e.symm hf))
  have hkB : ∀ (k : Nat) (cs : Array Value), x.heap[k]? = some (.cells cs 4 (0, 0)) → (y.setCell ⟨wb, 3, none⟩ v').heap[k]? = x.heap[k]? := fun k cs e => by
    refine (ho k (fun q => ?_)).trans (hg.block k (blk_lt e) (fun q => ?_))
    · subst q; rw [h.wc] at e; cases e
    · obtain ⟨cur, hc⟩ := row_cur h.hl.row q.symm
      rw [e] at hc
      cases hc
  have hbl : Below w0.w.heap.size x y := ⟨hg.os, hg.tape, hg.output, hg.size, fun k hk => hg.block k (Nat.lt_of_lt_of_le hk h.bel.size) (fun e => by have := (World.ownsRow.lt h.hl.row k e.symm).1; omega)⟩
  refine ⟨⟨(h.bel.trans hbl).setCell (p := ⟨wb, 3, none⟩) h.wl _, ⟨h.rm.gr.kept hkF, h.rm.sp, h.rm.ps⟩, h.low, h.wf, h.wl, hs, ⟨?_, ?_, ?_⟩, by simp; omega, fun k p e => ⟨(h.xb k p e).1, ?_, (h.xb k p e).2.2⟩⟩, cell_of hwc 3 rfl, frz hwc 3⟩
  · rw [hcs_app, List.length_append]
    exact row_far hown hv'n
  · intro b e
    rcases hat with q | q
    · rw [q] at e; exact h.hl.off b e
    · rw [q] at e; cases e
      intro hf
      have := hF _ hf
      omega
  · intro p hp
    rw [List.mem_append, List.mem_singleton] at hp
    rcases hp with hp | rfl
    · exact (h.hl.tb p hp).keep fun k cs e hf => ⟨hkB k cs e, hf⟩
    · exact hu.keep fun k cs e hf => ⟨hkB k cs e, hf⟩
  · obtain ⟨pc, pt⟩ := p
    obtain ⟨⟨t1, t2⟩, hc, -⟩ := h.xb k _ e
    dsimp only at t1 t2 hc
    refine (ho k (fun q => ?_)).trans ((hg.block k (blk_lt hc) (fun q => ?_)).trans hc)
    · subst q; rw [h.wc] at hc; cases hc; exact t2 rfl
    · obtain ⟨cur, hc'⟩ := row_cur h.hl.row q.symm
      rw [hc] at hc'
      cases hc'
      exact t1 rfl
end
end Go.Proofs.YtohfjpahdoodgaaGreatDoor
