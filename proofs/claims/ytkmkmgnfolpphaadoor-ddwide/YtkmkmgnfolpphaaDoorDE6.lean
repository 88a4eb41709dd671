/- Contracts (dd): a node that there isn't is made; behind all others. -/
import Derived.Test.YtkmkmgnfolpphaaDoorDE5
namespace Go.Proofs.YtkmkmgnfolpphaaDoor
open Go.RowKit
set_option linter.unusedSimpArgs false
set_option linter.unusedVariables false

/-- How far the first statement of adding has come. -/
structure ASt (w : World) (gB m p : Nat) (v u : Value) (vars most : Nat) (ks : List T3) (k0 : T3) (g : Nat → Nat) (L : Nat → Bool) (x : World) : Prop where
  d7 : L 7 = true → L 4 = true ∧ L 6 = true
  d10 : L 10 = true → L 7 = true
  bx : x.heap[w.heap.size]? = some (.cells (t3c k0).toArray 80)
  sz : w.heap.size + 1 ≤ x.heap.size
  os : x.os = w.os
  tape : x.tape = w.tape
  output : x.output = w.output
  kp : ∀ k, k < w.heap.size → (L 7 = true → some k ≠ v.ownBlock) → (L 10 = true → k ≠ gB) → x.heap[k]? = w.heap[k]?
  s6 : L 6 = true → L 7 = false → x.heap[g 6]? = some (.cells (t3c k0).toArray 80)
  r7 : L 7 = true → x.ownsRow 0 80 3 (sl (ks.length + 1) (g 7)) (ks.length + 1) ((ks ++ [k0]).flatMap t3c) ∧ ((sl (ks.length + 1) (g 7)).ownBlock = v.ownBlock ∨ ∃ b, (sl (ks.length + 1) (g 7)).ownBlock = some b ∧ w.heap.size + 1 ≤ b)
  h10 : L 10 = true → x.heap[gB]? = some (.cells #[.int .i64 (vars : Int), .int .i64 (most : Int), sl (ks.length + 1) (g 7), .map (some m), u, .map (some p)] 78)

section
variable {w : World} {gB m p vars most : Nat} {v u : Value} {ks : List T3} {k0 : T3} {g : Nat → Nat} {L : Nat → Bool} {x y : World} {i : Nat}
theorem ASt.go (h : ASt w gB m p v u vars most ks k0 g L x) (hi : (i != 6 && i != 7 && i != 10) = true) : ASt w gB m p v u vars most ks k0 g (updB L i) x := by
  simp only [Bool.and_eq_true, bne_iff_ne, ne_eq] at hi
  have u6 := updB_ne (L := L) (i := i) (k := 6) (by omega)
  have u7 := updB_ne (L := L) (i := i) (k := 7) (by omega)
  have u10 := updB_ne (L := L) (i := i) (k := 10) (by omega)
  refine ⟨?_, by rw [u7, u10]; exact h.d10, h.bx, h.sz, h.os, h.tape, h.output, by rw [u7, u10]; exact h.kp, by rw [u6, u7]; exact h.s6, by rw [u7]; exact h.r7, by rw [u10]; exact h.h10⟩
  rw [u6, u7]
  intro e
  refine ⟨?_, (h.d7 e).2⟩
  by_cases h4 : i = 4
  · subst h4; exact updB_eq
  · rw [updB_ne (L := L) (i := i) (k := 4) (by omega)]; exact (h.d7 e).1
theorem ASt.no10 (h : ASt w gB m p v u vars most ks k0 g L x) (h7 : L 7 = false) : L 10 = false := by
  cases e : L 10
  · rfl
  · rw [h.d10 e] at h7; cases h7
theorem ASt.built (h : ASt w gB m p v u vars most ks k0 g L x) (h6 : L 6 = false) : ASt w gB m p v u vars most ks k0 (updG g 6 x.heap.size) (updB L 6) (x.alloc (.cells (t3c k0).toArray 80)) := by
  have h7 : L 7 = false := by
    cases e : L 7
    · rfl
    · rw [(h.d7 e).2] at h6; cases h6
  have h10 := h.no10 h7
  have u4 := updB_ne (L := L) (i := 6) (k := 4) (by decide)
  have u7 := updB_ne (L := L) (i := 6) (k := 7) (by decide)
  have u10 := updB_ne (L := L) (i := 6) (k := 10) (by decide)
  have hs := h.sz
  refine ⟨?_, ?_, (heap_alloc_old _ _ (by omega)).trans h.bx, by simp; omega, h.os, h.tape, h.output, ?_, ?_, ?_, ?_⟩
  · rw [u7, h7]; intro e; cases e
  · rw [u10, h10]; intro e; cases e
  · rw [u7, u10]; intro k hk a b; exact (heap_alloc_old _ _ (by omega)).trans (h.kp k hk a b)
  · intro _ _; rw [updG_eq]; exact heap_alloc_new _ _
  · rw [u7, h7]; intro e; cases e
  · rw [u10, h10]; intro e; cases e
theorem ASt.app {pc : Nat} (h : ASt w gB m p v u vars most ks k0 g L x) (hL4 : L 4 = true) (hL6 : L 6 = true) (hL7 : L 7 = false) (hbv : ∀ k, v.ownBlock = some k → k < w.heap.size)
    (hg : x.grownBy y v.ownBlock) (ho : y.ownsRow 0 80 3 (sl (ks.length + 1) pc) (ks.length + 1) ((ks ++ [k0]).flatMap t3c)) (hat : (sl (ks.length + 1) pc).ownBlock = v.ownBlock ∨ (sl (ks.length + 1) pc).ownBlock = some x.heap.size) :
    ASt w gB m p v u vars most ks k0 (updG g 7 pc) (updB L 7) y := by
  have h10 := h.no10 hL7
  have u4 := updB_ne (L := L) (i := 7) (k := 4) (by decide)
  have u6 := updB_ne (L := L) (i := 7) (k := 6) (by decide)
  have u10 := updB_ne (L := L) (i := 7) (k := 10) (by decide)
  have hs := h.sz
  refine ⟨?_, ?_, ?_, by have := hg.size; omega, hg.os.trans h.os, hg.tape.trans h.tape, hg.output.trans h.output, ?_, ?_, ?_, ?_⟩
  · intro _; rw [u4, u6]; exact ⟨hL4, hL6⟩
  · rw [u10, h10]; intro e; cases e
  · exact (hg.block _ (by omega) (fun e => by have := hbv _ e.symm; omega)).trans h.bx
  · rw [u10]; intro k hk a b
    exact (hg.block k (by omega) (a updB_eq)).trans (h.kp k hk (fun e => by rw [hL7] at e; cases e) b)
  · intro _ e; rw [updB_eq] at e; cases e
  · intro _; rw [updG_eq]
    refine ⟨ho, ?_⟩
    rcases hat with e | e
    · exact Or.inl e
    · exact Or.inr ⟨_, e, hs⟩
  · rw [u10, h10]; intro e; cases e
theorem ASt.store (h : ASt w gB m p v u vars most ks k0 g L x) (hL7 : L 7 = true) (hL10 : L 10 = false) (hgB : gB < w.heap.size) (hne : v.ownBlock ≠ some gB) (hhd : w.heap[gB]? = some (.cells #[.int .i64 (vars : Int), .int .i64 (most : Int), v, .map (some m), u, .map (some p)] 78)) :
    ASt w gB m p v u vars most ks k0 g (updB L 10) (x.setCell ⟨gB, 2, none⟩ (sl (ks.length + 1) (g 7))) := by
  have u4 := updB_ne (L := L) (i := 10) (k := 4) (by decide)
  have u6 := updB_ne (L := L) (i := 10) (k := 6) (by decide)
  have u7 := updB_ne (L := L) (i := 10) (k := 7) (by decide)
  have hx : x.heap[gB]? = w.heap[gB]? := h.kp gB hgB (fun _ e => hne e.symm) (fun e => by rw [hL10] at e; cases e)
  have hr := h.r7 hL7
  have hne2 : (sl (ks.length + 1) (g 7)).ownBlock ≠ some gB := by
    rcases hr.2 with e | ⟨b, e, hb⟩
    · rw [e]; exact hne
    · rw [e]; intro q; cases q; omega
  refine ⟨by rw [u7, u4, u6]; exact h.d7, fun _ => by rw [u7]; exact hL7, (heap_setCell_other _ _ _ _ (by show w.heap.size ≠ gB; omega)).trans h.bx, by rw [World.size_setCell]; exact h.sz, h.os, h.tape, h.output, ?_, ?_, ?_, ?_⟩
  · rw [u7]; intro k hk a b
    have hk' := b updB_eq
    exact (heap_setCell_other _ _ _ _ (by show k ≠ gB; exact hk')).trans (h.kp k hk a (fun e => by rw [hL10] at e; cases e))
  · rw [u7, hL7]; intro _ e; cases e
  · intro _; exact ⟨row_far hr.1 hne2, hr.2⟩
  · intro _
    rw [heap_setCell_same _ _ _ _ _ _ (hx.trans hhd)]; rfl
end



/-- What adding leaves, but for the map. -/
structure AddR (w w' : World) (g m p : Nat) (v v' u : Value) (vars most : Nat) (ns : List T3) : Prop where
  hd : w'.heap[g]? = some (.cells #[.int .i64 (vars : Int), .int .i64 (most : Int), v', .map (some m), u, .map (some p)] 78)
  row : w'.ownsRow 0 80 3 v' ns.length (ns.flatMap t3c)
  own : v'.ownBlock = v.ownBlock ∨ ∃ b, v'.ownBlock = some b ∧ w.heap.size ≤ b
  os : w'.os = w.os
  tape : w'.tape = w.tape
  output : w'.output = w.output
  size : w.heap.size ≤ w'.heap.size
  block : ∀ k, k < w.heap.size → k ≠ g → some k ≠ v.ownBlock → w'.heap[k]? = w.heap[k]?
theorem row_cur {x : World} {B : Nat} {e : TypeId} {sz : Nat} {v : Value} {n : Nat} {xs : List Value} (h : x.ownsRow B e sz v n xs) {b : Nat} (hb : v.ownBlock = some b) : ∃ cur, x.heap[b]? = some (.cells cur e) := by
  rcases h.2 with ⟨rfl, _⟩ | ⟨r, cap, cur, rfl, _, hr, _⟩
  · cases hb
  · cases hb; exact ⟨cur, hr⟩
section
variable {w w' : World} {F : Nat → Prop} {g m p vars most : Nat} {v u : Value} {S : St} {pn : Int → Int}
theorem Mx.sep (h : Mx w g m p v u vars most S pn) : v.ownBlock ≠ some g ∧ u.ownBlock ≠ some g ∧ g ≠ m ∧ g ≠ p ∧ v.ownBlock ≠ some m ∧ u.ownBlock ≠ some m ∧ v.ownBlock ≠ some p ∧ u.ownBlock ≠ some p ∧ ∀ b, v.ownBlock = some b → u.ownBlock ≠ some b := by
  have hv : ∀ b, v.ownBlock = some b → ∃ cur, w.heap[b]? = some (.cells cur 80) := fun b e => row_cur h.row e
  have hu : ∀ b, u.ownBlock = some b → ∃ cur, w.heap[b]? = some (.cells cur 3) := fun b e => row_cur h.spr e
  obtain ⟨_, ⟨es, cl, hm, _⟩, _⟩ := h.nums.ex
  obtain ⟨es2, cl2, hp⟩ := h.pins.obj
  have hd := h.hd
  refine ⟨fun e => ?_, fun e => ?_, fun e => ?_, fun e => ?_, fun e => ?_, fun e => ?_, fun e => ?_, fun e => ?_, fun b e e' => ?_⟩
  · obtain ⟨cur, q⟩ := hv g e
    rw [hd] at q; cases q
  · obtain ⟨cur, q⟩ := hu g e
    rw [hd] at q; cases q
  · subst e; rw [hd] at hm; cases hm
  · subst e; rw [hd] at hp; cases hp
  · obtain ⟨cur, q⟩ := hv m e
    rw [hm] at q; cases q
  · obtain ⟨cur, q⟩ := hu m e
    rw [hm] at q; cases q
  · obtain ⟨cur, q⟩ := hv p e
    rw [hp] at q; cases q
  · obtain ⟨cur, q⟩ := hu p e
    rw [hp] at q; cases q
  · obtain ⟨cur, q⟩ := hv b e
    obtain ⟨cur', q'⟩ := hu b e'
    rw [q'] at q; cases q
/-- The spare ones' and the nodes' slices. -/
theorem Mx.spv (h : Mx w g m p v u vars most S pn) : ∃ a cap, u = .slice a S.sp.length cap := by
  rcases h.spr.2 with ⟨rfl, hn⟩ | ⟨r, cap, cur, rfl, _⟩
  · exact ⟨none, 0, by rw [hn]⟩
  · exact ⟨_, cap, rfl⟩
end
def w64 (x : Int) : Prop := -9223372036854775808 ≤ x ∧ x ≤ 9223372036854775807
theorem wf64 {x : Int} (h : w64 x) : (Lit.int .i64 x).wf = true := by
  unfold w64 at h
  simp only [Lit.wf, IntKind.min, IntKind.max, IntKind.signed, IntKind.bits, Bool.and_eq_true, decide_eq_true_eq, if_true]
  omega
theorem key_n {k : T3} (h1 : w64 k.1) (h2 : w64 k.2.1) (h3 : w64 k.2.2) : ∃ kl, keyOf Tryd.prog 80 (t3v k) = some kl := by
  obtain ⟨a, b, c⟩ := k
  dsimp only at h1 h2 h3
  have g1 := wf64 h1
  have g2 := wf64 h2
  have g3 := wf64 h3
  have hk : Tryd.prog.keyType 80 = true := by kernel_rfl
  have hfm : (t3v (a, b, c)).formed Tryd.prog 80 = true := by kernel_rfl
  have e3 : Tryd.prog.cellsOf 3 = 1 := by kernel_rfl
  have e2 : Tryd.prog.cellsOf 80 = 3 := by kernel_rfl
  have hz : Tryd.prog.types.size + 1 = 166 + 1 + 1 + 1 := by kernel_rfl
  have q3 : ∀ (d : Nat) (x : Int), (Lit.int .i64 x).wf = true → Tryd.prog.keyLits (d + 1) 3 [.int .i64 x] = some [.int .i64 x] := fun d x hx => by
    unfold Program.keyLits; simp only [Tryd.underlying3]; simp [hx]
  have hmain : ∃ ls, Tryd.prog.keyLits (Tryd.prog.types.size + 1) 80 (t3v (a, b, c)).cells.toList = some ls := by
    rw [hz]; unfold Program.keyLits; simp only [Tryd.underlying80]
    simp [t3v, Value.cells, e3, e2, q3 _ a g1, q3 _ b g2, q3 _ c g3, List.range_succ]
  obtain ⟨ls, hls⟩ := hmain
  unfold keyOf
  simp only [Tryd.underlying80, hk, hfm, Bool.and_self, if_true, hls, Option.map_some]
  exact ⟨_, rfl⟩
theorem key_q {k : T3} (h1 : w64 k.1) (h2 : w64 k.2.1) (h3 : w64 k.2.2) : ∃ kl, keyOf Tryd.prog 98 (t3v k) = some kl := by
  obtain ⟨a, b, c⟩ := k
  dsimp only at h1 h2 h3
  have g1 := wf64 h1
  have g2 := wf64 h2
  have g3 := wf64 h3
  have hk : Tryd.prog.keyType 98 = true := by kernel_rfl
  have hfm : (t3v (a, b, c)).formed Tryd.prog 98 = true := by kernel_rfl
  have e3 : Tryd.prog.cellsOf 3 = 1 := by kernel_rfl
  have e2 : Tryd.prog.cellsOf 98 = 3 := by kernel_rfl
  have hz : Tryd.prog.types.size + 1 = 166 + 1 + 1 + 1 := by kernel_rfl
  have q3 : ∀ (d : Nat) (x : Int), (Lit.int .i64 x).wf = true → Tryd.prog.keyLits (d + 1) 3 [.int .i64 x] = some [.int .i64 x] := fun d x hx => by
    unfold Program.keyLits; simp only [Tryd.underlying3]; simp [hx]
  have hmain : ∃ ls, Tryd.prog.keyLits (Tryd.prog.types.size + 1) 98 (t3v (a, b, c)).cells.toList = some ls := by
    rw [hz]; unfold Program.keyLits; simp only [Tryd.underlying98]
    simp [t3v, Value.cells, e3, e2, q3 _ a g1, q3 _ b g2, q3 _ c g3, List.range_succ]
  obtain ⟨ls, hls⟩ := hmain
  unfold keyOf
  simp only [Tryd.underlying98, hk, hfm, Bool.and_self, if_true, hls, Option.map_some]
  exact ⟨_, rfl⟩
set_option maxRecDepth 20000 in
set_option maxHeartbeats 6400000 in
theorem add_app {w : World} {g0 m p vars most : Nat} {v u : Value} {S : St} {pn : Int → Int} (h : Mx w g0 m p v u vars most S pn) {k0 : T3} (hsp : S.sp = []) (hroom : cntF S.ns < most) {kl : Lit} (hkl : keyOf Tryd.prog 80 (t3v k0) = some kl) (hno : ∀ q ∈ tabL S.ns, q.1 ≠ t3v k0) :
    Calls Tryd.prog 60 #[.pointer (some ⟨g0, 1, none⟩), t3v k0] w fun e w' => e = .returned (.int .i64 (S.ns.length : Int)) ∧ ∃ w1 v', AddR w w1 g0 m p v v' u vars most (S.ns ++ [k0]) ∧ w1.drew.grownBy w' (some m) ∧ ∃ L, List.Perm L (tabL S.ns) ∧ Mp w' 80 m (L ++ [(t3v k0, .int .i64 (S.ns.length : Int))]) := by
  have hlen := h.mg.sum
  rw [hsp] at hlen
  simp only [List.length_nil, Nat.add_zero] at hlen
  obtain ⟨ks, hks⟩ : ∃ ks, ks = S.ns := ⟨_, rfl⟩
  have hN : ks.length ≤ most + 1 := by rw [hks]; omega
  have hmost := h.mg.mo.2
  have hg := h.lt
  have c2 : w.cell? ⟨g0, 2, none⟩ = some v := h.c2
  have c4 := h.c4
  obtain ⟨ua, uc, hu⟩ := h.spv
  rw [hsp] at hu
  have HV : Hid _ := h.sep
  have HBV : Hid (∀ k, v.ownBlock = some k → k < w.heap.size) := fun k hk => (h.row.lt k hk).2
  have HNE : Hid (v.ownBlock ≠ some g0) := h.sep.1
  have HW : Hid (w.ownsRow 0 80 3 v ks.length (ks.flatMap t3c)) := by unfold Hid; rw [hks]; exact h.row
  have HHD : Hid _ := h.hd
  have hnm := h.nums
  have HM : Hid _ := hnm
  obtain ⟨r, cap, hv, -⟩ := h.sl
  rw [← hks] at hv
  have HVV : Hid _ := hv
  rw [hv] at c2
  rw [hu] at c4
  rw [← hks] at hno HM ⊢
  have HNO : Hid _ := hno
  have HKL : Hid _ := hkl
  obtain ⟨ti, ht0, hz0, hz1, hz2⟩ := info_any infoArr
  have HI0 : Hid _ := (⟨ht0, hz0, hz1, hz2⟩ : Tryd.prog.info? 80 = some ti ∧ ti.zero = _ ∧ ti.size = 3 ∧ ti.bytes = 24)
  clear h ht0 hz0 hz1 hz2 hks hno hkl hnm hsp hu hv hlen hroom
  unfold t3v
  go_enter Tryd.func60, Tryd.ntmps60
  go_wp2_with fail
  refine wp_named fun a0 ha0 => ?_
  have o0 := old_at ha0 (t := 0) rfl
  have o3 := old_at ha0 (t := 3) rfl
  refine wp_region_lin (S := ASt w g0 m p v u vars most ks k0) [6, 7] (fun _ => 0) (by kernel_rfl) (by kernel_rfl) (by rw [← ha0]; kernel_rfl) ?_ ?_
  · exact ⟨(fun e => by cases e), (fun e => by cases e), heap_alloc_new w _, by show w.heap.size + 1 ≤ (w.alloc _).heap.size; simp, rfl, rfl, rfl, (fun k hk _ _ => heap_alloc_old w _ hk), (fun e => by cases e), (fun e => by cases e), (fun e => by cases e)⟩
  refine' LinAll.cons _ ?_ ?_ ?_
  rotate_left 1
  · intro g L a x hLi haft hS hK; have t0 := (hK.old 0 (by kernel_rfl)).trans o0; refine go_in (wanted_all rfl) ?_; intro K hk; clear haft hK hLi; go_simp; exact hk.out g x (fun _ _ => rfl) (hS.go rfl)
  · intro i hi; exact Or.inl (fun _ _ _ => rfl)
  refine' LinAll.cons _ ?_ ?_ ?_
  rotate_left 1
  · intro g L a x hLi haft hS hK; have t0 := (hK.old 0 (by kernel_rfl)).trans o0; refine go_in (wanted_all rfl) ?_; intro K hk; clear haft hK hLi; go_simp; exact hk.out g x (fun _ _ => rfl) (hS.go rfl)
  · intro i hi; exact Or.inl (fun _ _ _ => rfl)
  refine' LinAll.cons _ ?_ ?_ ?_
  rotate_left 1
  · intro g L a x hLi haft hS hK; have t44 := hK.new 1 0 _ 44 _ rfl rfl rfl (by kernel_rfl) (waits haft 1 (by kernel_rfl)); (try dsimp only at t44); refine go_in (wanted_all rfl) ?_; intro K hk; clear haft hK hLi; go_simp; exact hk.out g x (fun _ _ => rfl) (hS.go rfl)
  · intro i hi; exact Or.inl (fun _ _ _ => rfl)
  refine' LinAll.cons _ ?_ ?_ ?_
  rotate_left 1
  · intro g L a x hLi haft hS hK; have t45 := hK.new 2 0 _ 45 _ rfl rfl rfl (by kernel_rfl) (waits haft 2 (by kernel_rfl)); (try dsimp only at t45); refine go_in (wanted_all rfl) ?_; intro K hk; clear haft hK hLi; go_simp; exact hk.out g x (fun _ _ => rfl) (hS.go rfl)
  · intro i hi; exact Or.inl (fun _ _ _ => rfl)
  refine' LinAll.cons _ ?_ ?_ ?_
  rotate_left 1
  · intro g L a x hLi haft hS hK; have t46 := hK.new 3 0 _ 46 _ rfl rfl rfl (by kernel_rfl) (waits haft 3 (by kernel_rfl)); (try dsimp only at t46)
    have h7 : L 7 = false := by
      cases e : L 7
      · rfl
      · rw [(hS.d7 e).1] at hLi; cases hLi
    have h10 := hS.no10 h7
    have c1 : x.cell? ⟨g0, 2, none⟩ = some v := cell_of ((hS.kp g0 hg (fun e => by rw [h7] at e; cases e) (fun e => by rw [h10] at e; cases e)).trans HHD.out) 2 rfl
    clear h7 h10
    refine go_in (wanted_all rfl) ?_; intro K hk; clear haft hK hLi; go_simp; exact hk.out g x (fun _ _ => rfl) (hS.go rfl)
  · intro i hi; exact Or.inl (fun _ _ _ => rfl)
  refine' LinAll.cons _ ?_ ?_ ?_
  rotate_left 1
  · intro g L a x hLi haft hS hK; have t3 := (hK.old 3 (by kernel_rfl)).trans o3; have c0 : x.cell? ⟨w.heap.size, 0, none⟩ = some (.int .i64 k0.1) := cell_of hS.bx 0 rfl; have c1 : x.cell? ⟨w.heap.size, 1, none⟩ = some (.int .i64 k0.2.1) := cell_of hS.bx 1 rfl; have c2 : x.cell? ⟨w.heap.size, 2, none⟩ = some (.int .i64 k0.2.2) := cell_of hS.bx 2 rfl; refine go_in (wanted_all rfl) ?_; intro K hk; clear haft hK hLi; go_simp; exact hk.out g x (fun _ _ => rfl) (hS.go rfl)
  · intro i hi; exact Or.inl (fun _ _ _ => rfl)
  refine LinAll.cons (fun g => .slice (some ⟨g 6, 0, none⟩) 1 1) ?_ ?_ ?_
  · intro g L a x hLi haft hS hK; have t48 := hK.new 5 0 _ 48 _ rfl rfl rfl (by kernel_rfl) (waits haft 5 (by kernel_rfl)); (try dsimp only at t48); refine go_in (wanted_all rfl) ?_; intro K hk; clear haft hK; go_simp
    have hq := hk.out (updG g 6 x.heap.size) _ (updG_al (by rfl)) (hS.built hLi)
    dsimp only at hq; rw [updG_eq] at hq; exact hq
  · intro i hi; simp only [List.mem_cons, List.not_mem_nil, or_false] at hi; rcases hi with rfl | rfl; exact Or.inr (by kernel_rfl); exact Or.inl (fun g g' h => by simp only [h 6 (by decide)])
  refine LinAll.cons (fun g => sl (ks.length + 1) (g 7)) ?_ ?_ ?_
  · intro g L a x hLi haft hS hK
    have hL4 := waits haft 4 (by kernel_rfl)
    have hL6 := waits haft 6 (by kernel_rfl)
    have t47 := hK.new 4 2 _ 47 _ rfl rfl rfl (by kernel_rfl) hL4
    have t49 := hK.new 6 0 _ 49 _ rfl rfl rfl (by kernel_rfl) hL6
    (try dsimp only at t47 t49)
    have h10 := hS.no10 hLi
    have hrow : x.ownsRow 0 80 3 v ks.length (ks.flatMap t3c) := row_kept HW.out (fun k hk => hS.kp k hk (fun e => by rw [hLi] at e; cases e) (fun e => by rw [h10] at e; cases e))
    have hb6 := hS.s6 hL6 hLi
    refine go_in (wanted_all rfl) ?_
    intro K hk
    refine wp_append_at _ (.tmp 47) (.tmp 49) 72 rfl 0 80 ti _ 3 24 underArrs HI0.out.1 HI0.out.2.1 HI0.out.2.2.1 HI0.out.2.2.2 rfl (by decide) v ks.length _ (eval_tmp t47) hrow ⟨g 6, 0, none⟩ 1 1 (t3c k0) (eval_tmp t49) rfl (fun j u hj => by
      have e : (⟨g 6, 0, none⟩ : Addr).add j = ⟨g 6, j, none⟩ := by simp [Addr.add]; try (intro hq; exact hq.symm)
      rw [e]; exact cell_of hb6 j (by simpa using hj)) (one_t3c k0) (by unfold maxLen; omega) (by omega) (by have := hS.sz; omega) ?_
    intro v' y hown hgrow hat
    obtain ⟨pc, rfl⟩ := sl_own hown (by omega)
    have hown' : y.ownsRow 0 80 3 (sl (ks.length + 1) pc) (ks.length + 1) ((ks ++ [k0]).flatMap t3c) := by rw [List.flatMap_append]; simpa using hown
    have hq := hk.out (updG g 7 pc) y (updG_al (by rfl)) (hS.app hL4 hL6 hLi HBV.out hgrow hown' hat)
    dsimp only at hq; rw [updG_eq] at hq; exact hq
  · intro i hi; simp only [List.mem_cons, List.not_mem_nil, or_false] at hi; rcases hi with rfl | rfl; exact Or.inl (fun g g' h => by simp only [h 7 (by decide)]); exact Or.inr (by kernel_rfl)
  refine' LinAll.cons _ ?_ ?_ ?_
  rotate_left 1
  · intro g L a x hLi haft hS hK; have t43 := hK.new 0 7 _ 43 _ rfl rfl rfl (by kernel_rfl) (waits haft 0 (by kernel_rfl)); (try dsimp only at t43); refine go_in (wanted_all rfl) ?_; intro K hk; clear haft hK hLi; go_simp; exact hk.out g x (fun _ _ => rfl) (hS.go rfl)
  · intro i hi; exact Or.inl (fun _ _ _ => rfl)
  refine' LinAll.cons _ ?_ ?_ ?_
  rotate_left 1
  · intro g L a x hLi haft hS hK; have t51 := hK.new 8 0 _ 51 _ rfl rfl rfl (by kernel_rfl) (waits haft 8 (by kernel_rfl)); (try dsimp only at t51); refine go_in (wanted_all rfl) ?_; intro K hk; clear haft hK hLi; go_simp; exact hk.out g x (fun _ _ => rfl) (hS.go rfl)
  · intro i hi; exact Or.inl (fun _ _ _ => rfl)
  refine LinAll.cons (fun _ => undef) ?_ ?_ ?_
  · intro g L a x hLi haft hS hK
    have hL7 := waits haft 7 (by kernel_rfl)
    have t50 := hK.new 7 2 _ 50 _ rfl rfl rfl (by kernel_rfl) hL7
    have t52 := hK.new 9 0 _ 52 _ rfl rfl rfl (by kernel_rfl) (waits haft 9 (by kernel_rfl))
    (try dsimp only at t50 t52)
    have hh := (hS.kp g0 hg (fun _ e => HNE.out e.symm) (fun e => by rw [hLi] at e; cases e)).trans HHD.out
    have c1 : x.cell? ⟨g0, 2, none⟩ = some v := cell_of hh 2 rfl
    have f1 : x.frozen? ⟨g0, 2, none⟩ = false := by simp [World.frozen?, hh]
    have hnew := hS.store hL7 hLi hg HNE.out HHD.out
    unfold sl at t50
    refine go_in (wanted_all rfl) ?_
    intro K hk
    clear haft hK hLi hh
    go_simp
    exact hk.out g _ (fun _ _ => rfl) hnew
  · intro i hi; exact Or.inl (fun _ _ _ => rfl)
  refine LinAll.nil fun g x hS => ?_
  subst ha0
  simp only [Act.put, List.setIfInBounds_toArray, List.set_cons_zero, List.set_cons_succ]
  clear o0 o3
  have HS : Hid _ := hS
  have HX : Hid (x.heap[g0]? = some (.cells #[.int .i64 (vars : Int), .int .i64 (most : Int), sl (ks.length + 1) (g 7), .map (some m), u, .map (some p)] 78)) := hS.h10 rfl
  clear hS
  have HMX : Hid (∀ y : World, y.heap = x.heap → Nm y m ks) := fun y hy => HM.out.kept (by
    rw [hy]
    exact HS.out.kp m HM.out.lt (fun _ e => HV.out.2.2.2.2.1 e.symm) (fun _ e => HV.out.2.2.1 e.symm))
  obtain ⟨L, hL1, hL2⟩ := (HMX.out x.drew rfl).ex
  have hnoL : ∀ q ∈ L, q.1 ≠ t3v k0 := fun q hq => HNO.out q (hL2.subset hq)
  obtain ⟨X2, hmu', hM2, hgr2, hsz2⟩ := Mp.store (w := x.drew) (val := .int .i64 (ks.length : Int)) hL1 arrLaw underMap HKL.out hnoL
  have hmu : (Instr.mapUpdate 73 (.map (some m)) (.agg #[.int .i64 k0.1, .int .i64 k0.2.1, .int .i64 k0.2.2]) (.int .i64 (ks.length : Int))).run Tryd.prog x.drew = .ok () X2 := hmu'
  have d2 : x.cell? ⟨g0, 3, none⟩ = some (.map (some m)) := cell_of HX.out 3 rfl
  have b0 : x.cell? ⟨w.heap.size, 0, none⟩ = some (.int .i64 k0.1) := cell_of HS.out.bx 0 rfl
  have b1 : x.cell? ⟨w.heap.size, 1, none⟩ = some (.int .i64 k0.2.1) := cell_of HS.out.bx 1 rfl
  have b2 : x.cell? ⟨w.heap.size, 2, none⟩ = some (.int .i64 k0.2.2) := cell_of HS.out.bx 2 rfl
  have HE : Hid (∃ w1 v', AddR w w1 g0 m p v v' u vars most (ks ++ [k0]) ∧ w1.drew.grownBy X2 (some m) ∧ ∃ L, List.Perm L (tabL ks) ∧ Mp X2 80 m (L ++ [(t3v k0, .int .i64 (ks.length : Int))])) := by
    have hs := HS.out
    have hz := hs.sz
    obtain ⟨r1, r2⟩ := hs.r7 rfl
    refine ⟨x, sl (ks.length + 1) (g 7), ⟨HX.out, by rw [List.length_append]; exact r1, ?_, hs.os, hs.tape, hs.output, by omega, fun k h1 h2 h3 => hs.kp k h1 (fun _ => h3) (fun _ => h2)⟩, hgr2, L, hL2, hM2⟩
    rcases r2 with e | ⟨b, e, hb⟩
    · exact Or.inl e
    · exact Or.inr ⟨b, e, by omega⟩
  clear hL1 hL2 hnoL hM2 hgr2 hmu'
  go_wp2_with fail
  go_region
  all_goals
    go_wp2_with fail
    go_ret
    exact ⟨rfl, HE.out⟩
end Go.Proofs.YtkmkmgnfolpphaaDoor
