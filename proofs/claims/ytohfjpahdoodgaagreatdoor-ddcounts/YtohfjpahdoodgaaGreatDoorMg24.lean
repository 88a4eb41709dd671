/- The laws' world: a manager, and what is pinned. -/
import Derived.Test.YtohfjpahdoodgaaGreatDoorDE26
namespace Go.Proofs.YtohfjpahdoodgaaGreatDoor
open Go.RowKit
set_option linter.unusedSimpArgs false
set_option linter.unusedVariables false

/-- What is held: a diagram, its table where it lies, its table. -/
abbrev HT := Int × Value × List Bool
def hcs (H : List HT) : List Value := H.flatMap fun p => [.int .i64 p.1, p.2.1]
theorem hcs_cons (p : HT) (H : List HT) : hcs (p :: H) = .int .i64 p.1 :: p.2.1 :: hcs H := rfl
theorem hcs_app (H K : List HT) : hcs (H ++ K) = hcs H ++ hcs K := List.flatMap_append
theorem hcs_len (H : List HT) : (hcs H).length = H.length * 2 := by
  induction H with
  | nil => rfl
  | cons p H ih => rw [hcs_cons, List.length_cons, List.length_cons, List.length_cons, ih]; omega
theorem hcs_get {p : HT} : ∀ {H : List HT} {j : Nat}, H[j]? = some p → (hcs H)[j * 2]? = some (.int .i64 p.1) ∧ (hcs H)[j * 2 + 1]? = some p.2.1
  | [], j, h => by simp at h
  | q :: H, 0, h => by simp at h; subst h; exact ⟨rfl, rfl⟩
  | q :: H, j + 1, h => by
    rw [List.getElem?_cons_succ] at h
    obtain ⟨h1, h2⟩ := hcs_get h
    rw [hcs_cons, show (j + 1) * 2 = j * 2 + 1 + 1 by omega]
    exact ⟨h1, h2⟩
/-- A table that lies beyond B, in no block of F. -/
structure Tb (w : World) (F : Nat → Prop) (B : Nat) (v : Value) (l : List Bool) : Prop where
  ex : ∃ r cs, v = .slice (some ⟨r, 0, none⟩) l.length l.length ∧ w.heap[r]? = some (.cells cs 4 (0, 0)) ∧ ¬ F r ∧ B ≤ r ∧ ∀ j, j < l.length → w.cell? ⟨r, j, none⟩ = some (.bool (l.getD j false))
theorem blk_lt {w : World} {r : Nat} {o : Obj} (h : w.heap[r]? = some o) : r < w.heap.size := (Array.getElem?_eq_some_iff.1 h).1
theorem Tb.keep {w w' : World} {F F' : Nat → Prop} {B : Nat} {v : Value} {l : List Bool} (h : Tb w F B v l) (hk : ∀ k cs, w.heap[k]? = some (.cells cs 4 (0, 0)) → ¬ F k → w'.heap[k]? = w.heap[k]? ∧ ¬ F' k) : Tb w' F' B v l := by
  obtain ⟨r, cs, e, h1, h2, h3, h4⟩ := h.ex
  obtain ⟨k1, k2⟩ := hk r cs h1 h2
  exact ⟨r, cs, e, k1.trans h1, k2, h3, fun j hj => (World.cell?_of_block (a := ⟨r, j, none⟩) k1).trans (h4 j hj)⟩
theorem Tb.bz {w : World} {F : Nat → Prop} {B : Nat} {v : Value} {l : List Bool} (h : Tb w F B v l) : Bz w v l := by
  obtain ⟨r, cs, e, h1, h2, h3, h4⟩ := h.ex
  exact ⟨_, _, e, Or.inr ⟨r, 0, rfl, blk_lt h1, fun j hj => by rw [Nat.zero_add]; exact h4 j hj⟩⟩
theorem Tn.tb {w w' : World} {F : Nat → Prop} {B : Nat} {v : Value} {l : List Bool} (h : Tn w w' v l) (hB : B ≤ w.heap.size) (hF : ∀ k, F k → k < w.heap.size) : Tb w' F B v l := by
  obtain ⟨r, e⟩ := h.ex
  have hb := h.bo
  rw [e] at hb
  obtain ⟨l1, l2, cur, l3⟩ := hb.lt
  exact ⟨r, cur, e, l3, (fun q => by have := hF r q; omega), by omega, fun j hj => (hb.put hj).1⟩
/-- The list of what is held. -/
structure Hl (w : World) (F : Nat → Prop) (B : Nat) (lv : Value) (H : List HT) : Prop where
  row : w.ownsRow B 36 2 lv H.length (hcs H)
  off : ∀ b, lv.ownBlock = some b → ¬ F b
  tb : ∀ p ∈ H, Tb w F B p.2.1 p.2.2
theorem Hl.keep {w w' : World} {F F' : Nat → Prop} {B : Nat} {lv : Value} {H : List HT} (h : Hl w F B lv H) (hk : ∀ k, k < w.heap.size → ¬ F k → w'.heap[k]? = w.heap[k]? ∧ ¬ F' k) : Hl w' F' B lv H :=
  ⟨row_own h.row (fun b e => (hk b (World.ownsRow.lt h.row b e).2 (h.off b e)).1), fun b e => (hk b (World.ownsRow.lt h.row b e).2 (h.off b e)).2, fun p hp => (h.tb p hp).keep fun k cs e hf => hk k (blk_lt e) hf⟩
theorem Hl.get {w : World} {F : Nat → Prop} {B : Nat} {lv : Value} {H : List HT} (h : Hl w F B lv H) {j : Nat} {p : HT} (hp : H[j]? = some p) : ∃ r c, lv = .slice (some ⟨r, 0, none⟩) H.length c ∧ r < w.heap.size ∧ w.cell? ⟨r, j * 2, none⟩ = some (.int .i64 p.1) ∧ w.cell? ⟨r, j * 2 + 1, none⟩ = some p.2.1 := by
  have hjl : j < H.length := (List.getElem?_eq_some_iff.1 hp).1
  obtain ⟨g1, g2⟩ := hcs_get hp
  rcases h.row.2 with ⟨-, h0⟩ | ⟨r, cap, cur, e, hb, hg, hc, hm, hs, ht⟩
  · omega
  · have l2 := hcs_len H
    rw [← ht] at g1 g2
    rw [List.getElem?_take_of_lt (by omega)] at g1 g2
    exact ⟨r, cap, e, blk_lt hg, cell_of hg _ (by simpa using g1), cell_of hg _ (by simpa using g2)⟩
/-- The world that is built on, and blocks of other kinds that lie beside all of it and stay as they are. -/
structure Wx where
  w : World
  X : Nat → Option (Array Value × TypeId)
abbrev wx (w : World) : Wx := ⟨w, fun _ => none⟩
def Wx.add (w : Wx) (k : Nat) (p : Array Value × TypeId) : Wx := ⟨w.w, fun j => if j = k then some p else w.X j⟩
def Fz (X : Nat → Option (Array Value × TypeId)) (w : World) (F : Nat → Prop) : Prop := ∀ k p, X k = some p → (p.2 ≠ 36 ∧ p.2 ≠ 29) ∧ w.heap[k]? = some (.cells p.1 p.2 (0, 0)) ∧ ¬ F k
/-- The world at wb. -/
structure Hf (w0 : Wx) (w : World) (F : Nat → Prop) (wb : Nat) (lv : Value) (g n most : Nat) (S : St) (pn : Int → Int) (H : List HT) : Prop where
  bel : Below w0.w.heap.size w0.w w
  rm : Rm w F g n most S pn
  low : ∀ k, F k → w0.w.heap.size ≤ k
  wf : ¬ F wb
  wl : w0.w.heap.size ≤ wb
  wc : w.heap[wb]? = some (.cells #[.pointer (some ⟨g, 0, none⟩), .int .i64 (n : Int), .int .i64 (most : Int), lv, .bool true] 29 (0, 0))
  hl : Hl w F w0.w.heap.size lv H
  few : H.length ≤ 50
  xb : Fz w0.X w F
section
variable {w0 : Wx} {w w' : World} {F F' : Nat → Prop} {wb g n most : Nat} {lv : Value} {S S' : St} {pn pn' : Int → Int} {H : List HT}
theorem Hf.cut (h : Hf w0 w F wb lv g n most S pn H) : Hf w0 w (Fc w F) wb lv g n most S pn H :=
  ⟨h.bel, ⟨h.rm.gr.cut, h.rm.sp, h.rm.ps⟩, fun k hk => h.low k hk.1, fun q => h.wf q.1, h.wl, h.wc, h.hl.keep fun k _ hf => ⟨rfl, fun q => hf q.1⟩, h.few, fun k p e => ⟨(h.xb k p e).1, (h.xb k p e).2.1, fun q => (h.xb k p e).2.2 q.1⟩⟩
theorem Hf.below (h : Hf w0 w F wb lv g n most S pn H) (hb : Below w.heap.size w w') : Hf w0 w' F wb lv g n most S pn H :=
  ⟨h.bel.trans (hb.mono h.bel.size), ⟨h.rm.gr.below hb, h.rm.sp, h.rm.ps⟩, h.low, h.wf, h.wl, (hb.block _ (blk_lt h.wc)).trans h.wc, h.hl.keep fun k hk hf => ⟨hb.block k hk, hf⟩, h.few, fun k p e => ⟨(h.xb k p e).1, (hb.block k (blk_lt (h.xb k p e).2.1)).trans (h.xb k p e).2.1, (h.xb k p e).2.2⟩⟩
theorem Hf.ch (h : Hf w0 w F wb lv g n most S pn H) (hc : Ch w w' F F') (hr : Rm w' F' g n most S' pn') : Hf w0 w' F' wb lv g n most S' pn' H := by
  obtain ⟨q1, q2⟩ := hc.low h.bel h.low
  exact ⟨q1, hr, q2, hc.old (blk_lt h.wc) h.wf, h.wl, (hc.block _ (blk_lt h.wc) h.wf).trans h.wc, h.hl.keep fun k hk hf => ⟨hc.block k hk hf, hc.old hk hf⟩, h.few, fun k p e => ⟨(h.xb k p e).1, (hc.block k (blk_lt (h.xb k p e).2.1) (h.xb k p e).2.2).trans (h.xb k p e).2.1, hc.old (blk_lt (h.xb k p e).2.1) (h.xb k p e).2.2⟩⟩
theorem Hf.cells (h : Hf w0 w F wb lv g n most S pn H) : w.cell? ⟨wb, 0, none⟩ = some (.pointer (some ⟨g, 0, none⟩)) ∧ w.cell? ⟨wb, 1, none⟩ = some (.int .i64 (n : Int)) ∧ w.cell? ⟨wb, 3, none⟩ = some lv ∧ w.cell? ⟨wb, 4, none⟩ = some (.bool true) ∧ wb < w.heap.size ∧ ∀ j, w.frozen? ⟨wb, j, none⟩ = false :=
  ⟨cell_of h.wc 0 rfl, cell_of h.wc 1 rfl, cell_of h.wc 3 rfl, cell_of h.wc 4 rfl, blk_lt h.wc, fun j => by simp [World.frozen?, h.wc]⟩
end
end Go.Proofs.YtohfjpahdoodgaaGreatDoor

/- Contracts (the laws): what is held at a place. -/
namespace Go.Proofs.YtohfjpahdoodgaaGreatDoor
open Go.RowKit
set_option linter.unusedSimpArgs false
set_option linter.unusedVariables false

theorem frz {w : World} {b : Nat} {cs : Array Value} {T : TypeId} (h : w.heap[b]? = some (.cells cs T (0, 0))) (j : Nat) : w.frozen? ⟨b, j, none⟩ = false := by simp [World.frozen?, h]
/-- A region that reads, and stores one thing of two cells. -/
structure AS (W : World) (rb : Nat) (f : Int) (tv : Value) (g : Nat → Nat) (D : Nat → Bool) (x : World) : Prop where
  a : D 13 = false → x = W.drew
  b : D 13 = true → x = (W.drew.setCell ⟨rb, 0, none⟩ (.int .i64 f)).setCell ⟨rb, 1, none⟩ tv
section
variable {W x : World} {rb i : Nat} {f : Int} {tv : Value} {g : Nat → Nat} {D : Nat → Bool}
theorem AS.start : AS W rb f tv (fun _ => 0) (fun _ => false) W.drew := ⟨fun _ => rfl, fun e => nomatch e⟩
theorem AS.go (h : AS W rb f tv g D x) (hi : (i != 13) = true) : AS W rb f tv g (updB D i) x := by
  have u1 := updB_ne (L := D) (i := i) (k := 13) (by intro e; simp [e] at hi)
  exact ⟨by rw [u1]; exact h.a, by rw [u1]; exact h.b⟩
theorem AS.stored (h : AS W rb f tv g D x) (hd : D 13 = false) : AS W rb f tv g (updB D 13) ((x.setCell ⟨rb, 0, none⟩ (.int .i64 f)).setCell ⟨rb, 1, none⟩ tv) := by
  rw [h.a hd]
  exact ⟨(fun e => by rw [updB_eq] at e; cases e), fun _ => rfl⟩
end
set_option maxRecDepth 20000 in
set_option maxHeartbeats 400000 in
theorem at_any {w0 : Wx} {w : World} {F : Nat → Prop} {wb g n most : Nat} {lv : Value} {S : St} {pn : Int → Int} {H : List HT} (h : Hf w0 w F wb lv g n most S pn H) (k : Int) {p : HT} {kk : Nat} (hk : (kk : Int) = k % (H.length : Int)) (hp : H[kk]? = some p) :
    Calls Tryz.prog 7 #[.pointer (some ⟨wb, 0, none⟩), .int .i64 k] w fun e w' => e = .returned (.agg #[.int .i64 p.1, p.2.1]) ∧ Below w.heap.size w w' := by
  have hlen : kk < H.length := (List.getElem?_eq_some_iff.1 hp).1
  have hfew := h.few
  obtain ⟨-, -, c3, -, hwb, -⟩ := h.cells
  obtain ⟨r, c, rfl, hr, d0, d1⟩ := h.hl.get hp
  obtain ⟨tr, tn, htv, hh⟩ : ∃ tr tn, p.2.1 = .slice (some ⟨tr, 0, none⟩) tn tn ∧ True := by
    obtain ⟨r, cs, e, -⟩ := (h.hl.tb p (List.mem_of_getElem? hp)).ex
    exact ⟨r, _, e, trivial⟩
  obtain ⟨f, tv, l⟩ := p
  dsimp only at htv d0 d1 ⊢
  subst htv
  obtain ⟨N, hN⟩ : ∃ N, N = H.length := ⟨_, rfl⟩
  rw [← hN] at c3 hlen hfew hk
  have HPL : Hid (∀ wx, Calls Tryz.prog 22 #[.int .i64 k, .int .i64 (N : Int)] wx fun e w' => e = .returned (.int .i64 (kk : Int)) ∧ w' = wx) := fun wx => by rw [hk]; exact place_any (by omega) (by omega) wx
  have hkN : (kk : Int) < (N : Int) := by omega
  have c3' : (w.alloc (.cells #[.int .i64 0, .slice none 0 0] 36)).cell? ⟨wb, 3, none⟩ = some (.slice (some ⟨r, 0, none⟩) N c) := (World.cell?_of_block (a := ⟨wb, 3, none⟩) (heap_alloc_old w _ hwb)).trans c3
  have d0' : (w.alloc (.cells #[.int .i64 0, .slice none 0 0] 36)).cell? ⟨r, kk * 2, none⟩ = some (.int .i64 f) := (World.cell?_of_block (a := ⟨r, kk * 2, none⟩) (heap_alloc_old w _ hr)).trans d0
  have d1' : (w.alloc (.cells #[.int .i64 0, .slice none 0 0] 36)).cell? ⟨r, kk * 2 + 1, none⟩ = some (.slice (some ⟨tr, 0, none⟩) tn tn) := (World.cell?_of_block (a := ⟨r, kk * 2 + 1, none⟩) (heap_alloc_old w _ hr)).trans d1
  have nb := heap_alloc_new w (.cells #[.int .i64 0, .slice none 0 0] 36)
  have n0 := cell_of nb 0 rfl
  have n1 := cell_of nb 1 rfl
  have nf : ∀ j, (w.alloc (.cells #[.int .i64 0, .slice none 0 0] 36)).frozen? ⟨w.heap.size, j, none⟩ = false := frz nb
  have HB1 : Hid (Below w.heap.size w (w.alloc (.cells #[.int .i64 0, .slice none 0 0] 36))) := by unfold Hid; go_grown
  clear hk hp hN c3 d0 d1 h nb hh
  go_enter Tryz.func7, Tryz.ntmps7
  go_upto_region 1 with fail
  obtain ⟨W, hW⟩ : ∃ W, W = w.alloc (.cells #[.int .i64 0, .slice none 0 0] 36) := ⟨_, rfl⟩
  rw [← hW] at c3' d0' d1' n0 n1 nf HB1 ⊢
  clear hW
  refine wp_named fun a0 ha0 => ?_
  have o0 := old_at ha0 (t := 0) rfl
  have o1 := old_at ha0 (t := 1) rfl
  have o4 := old_at ha0 (t := 4) rfl
  refine wp_region_lin (S := AS W w.heap.size f (.slice (some ⟨tr, 0, none⟩) tn tn)) [] (fun _ => 0) (by kernel_rfl) (by kernel_rfl) (by rw [← ha0]; kernel_rfl) (AS.start) ?_
  refine' LinAll.cons _ ?_ ?_ ?_
  rotate_left 1
  · intro gg L a x hLi haft hS hK
    have t0 := (hK.old 0 (by kernel_rfl)).trans o0
    (try dsimp only at t0)
    refine go_in (wanted_all rfl) ?_
    intro K hk
    clear haft hK hLi
    go_simp
    exact hk.out gg x (fun _ _ => rfl) (hS.go (by decide))
  · intro i hi; exact Or.inl (fun _ _ _ => rfl)
  refine' LinAll.cons _ ?_ ?_ ?_
  rotate_left 1
  · intro gg L a x hLi haft hS hK
    have t5 := hK.new 0 0 _ 5 _ rfl rfl rfl (by kernel_rfl) (waits haft 0 (by kernel_rfl))
    (try dsimp only at t5)
    refine go_in (wanted_all rfl) ?_
    intro K hk
    clear haft hK hLi
    go_simp
    exact hk.out gg x (fun _ _ => rfl) (hS.go (by decide))
  · intro i hi; exact Or.inl (fun _ _ _ => rfl)
  refine' LinAll.cons _ ?_ ?_ ?_
  rotate_left 1
  · intro gg L a x hLi haft hS hK
    have t6 := hK.new 1 0 _ 6 _ rfl rfl rfl (by kernel_rfl) (waits haft 1 (by kernel_rfl))
    (try dsimp only at t6)
    refine go_in (wanted_all rfl) ?_
    intro K hk
    clear haft hK hLi
    go_simp
    exact hk.out gg x (fun _ _ => rfl) (hS.go (by decide))
  · intro i hi; exact Or.inl (fun _ _ _ => rfl)
  refine' LinAll.cons _ ?_ ?_ ?_
  rotate_left 1
  · intro gg L a x hLi haft hS hK
    have t7 := hK.new 2 0 _ 7 _ rfl rfl rfl (by kernel_rfl) (waits haft 2 (by kernel_rfl))
    (try dsimp only at t7)
    have h13 : L 13 = false := off_b (fun e => waits (hK.cl 13 _ rfl e) 3 (by kernel_rfl)) hLi
    have hx := hS.a h13
    have cX : x.cell? ⟨wb, 3, none⟩ = some (.slice (some ⟨r, 0, none⟩) N c) := by rw [hx]; exact c3'
    clear hx h13
    refine go_in (wanted_all rfl) ?_
    intro K hk
    clear haft hK hLi
    go_simp
    exact hk.out gg x (fun _ _ => rfl) (hS.go (by decide))
  · intro i hi; exact Or.inl (fun _ _ _ => rfl)
  refine' LinAll.cons _ ?_ ?_ ?_
  rotate_left 1
  · intro gg L a x hLi haft hS hK
    have t1 := (hK.old 1 (by kernel_rfl)).trans o1
    (try dsimp only at t1)
    refine go_in (wanted_all rfl) ?_
    intro K hk
    clear haft hK hLi
    go_simp
    exact hk.out gg x (fun _ _ => rfl) (hS.go (by decide))
  · intro i hi; exact Or.inl (fun _ _ _ => rfl)
  refine' LinAll.cons _ ?_ ?_ ?_
  rotate_left 1
  · intro gg L a x hLi haft hS hK
    have t0 := (hK.old 0 (by kernel_rfl)).trans o0
    (try dsimp only at t0)
    refine go_in (wanted_all rfl) ?_
    intro K hk
    clear haft hK hLi
    go_simp
    exact hk.out gg x (fun _ _ => rfl) (hS.go (by decide))
  · intro i hi; exact Or.inl (fun _ _ _ => rfl)
  refine' LinAll.cons _ ?_ ?_ ?_
  rotate_left 1
  · intro gg L a x hLi haft hS hK
    have t10 := hK.new 5 0 _ 10 _ rfl rfl rfl (by kernel_rfl) (waits haft 5 (by kernel_rfl))
    (try dsimp only at t10)
    refine go_in (wanted_all rfl) ?_
    intro K hk
    clear haft hK hLi
    go_simp
    exact hk.out gg x (fun _ _ => rfl) (hS.go (by decide))
  · intro i hi; exact Or.inl (fun _ _ _ => rfl)
  refine' LinAll.cons _ ?_ ?_ ?_
  rotate_left 1
  · intro gg L a x hLi haft hS hK
    have t11 := hK.new 6 0 _ 11 _ rfl rfl rfl (by kernel_rfl) (waits haft 6 (by kernel_rfl))
    (try dsimp only at t11)
    refine go_in (wanted_all rfl) ?_
    intro K hk
    clear haft hK hLi
    go_simp
    exact hk.out gg x (fun _ _ => rfl) (hS.go (by decide))
  · intro i hi; exact Or.inl (fun _ _ _ => rfl)
  refine' LinAll.cons _ ?_ ?_ ?_
  rotate_left 1
  · intro gg L a x hLi haft hS hK
    have t12 := hK.new 7 0 _ 12 _ rfl rfl rfl (by kernel_rfl) (waits haft 7 (by kernel_rfl))
    (try dsimp only at t12)
    have h13 : L 13 = false := off_b (fun e => waits (hK.cl 13 _ rfl e) 8 (by kernel_rfl)) hLi
    have hx := hS.a h13
    have cX : x.cell? ⟨wb, 3, none⟩ = some (.slice (some ⟨r, 0, none⟩) N c) := by rw [hx]; exact c3'
    clear hx h13
    refine go_in (wanted_all rfl) ?_
    intro K hk
    clear haft hK hLi
    go_simp
    exact hk.out gg x (fun _ _ => rfl) (hS.go (by decide))
  · intro i hi; exact Or.inl (fun _ _ _ => rfl)
  refine' LinAll.cons _ ?_ ?_ ?_
  rotate_left 1
  · intro gg L a x hLi haft hS hK
    have t13 := hK.new 8 0 _ 13 _ rfl rfl rfl (by kernel_rfl) (waits haft 8 (by kernel_rfl))
    (try dsimp only at t13)
    refine go_in (wanted_all rfl) ?_
    intro K hk
    clear haft hK hLi
    go_simp
    exact hk.out gg x (fun _ _ => rfl) (hS.go (by decide))
  · intro i hi; exact Or.inl (fun _ _ _ => rfl)
  refine LinAll.cons (fun _ => .int .i64 (kk : Int)) ?_ ?_ ?_
  · intro gg L a x hLi haft hS hK
    have t9 := hK.new 4 5 _ 9 _ rfl rfl rfl (by kernel_rfl) (waits haft 4 (by kernel_rfl))
    have t14 := hK.new 9 0 _ 14 _ rfl rfl rfl (by kernel_rfl) (waits haft 9 (by kernel_rfl))
    (try dsimp only at t9 t14)
    refine go_in (wanted_all rfl) ?_
    intro K hk
    clear haft hK hLi
    go_simp
    refine Calls.mono (HPL.out x) ?_
    rintro e y ⟨rfl, hy⟩
    rw [hy]
    exact hk.out gg x (fun _ _ => rfl) (hS.go (by decide))
  · intro i hi; exact Or.inl (fun _ _ _ => rfl)
  refine' LinAll.cons _ ?_ ?_ ?_
  rotate_left 1
  · intro gg L a x hLi haft hS hK
    have t8 := hK.new 3 7 _ 8 _ rfl rfl rfl (by kernel_rfl) (waits haft 3 (by kernel_rfl))
    have t15 := hK.new 10 0 _ 15 _ rfl rfl rfl (by kernel_rfl) (waits haft 10 (by kernel_rfl))
    (try dsimp only at t8 t15)
    refine go_in (wanted_all rfl) ?_
    intro K hk
    clear haft hK hLi
    go_simp
    exact hk.out gg x (fun _ _ => rfl) (hS.go (by decide))
  · intro i hi; exact Or.inl (fun _ _ _ => rfl)
  refine' LinAll.cons _ ?_ ?_ ?_
  rotate_left 1
  · intro gg L a x hLi haft hS hK
    have t16 := hK.new 11 0 _ 16 _ rfl rfl rfl (by kernel_rfl) (waits haft 11 (by kernel_rfl))
    (try dsimp only at t16)
    have h13 : L 13 = false := off_b (fun e => waits (hK.cl 13 _ rfl e) 12 (by kernel_rfl)) hLi
    have hx := hS.a h13
    have cX0 : x.cell? ⟨r, kk * 2, none⟩ = some (.int .i64 f) := by rw [hx]; exact d0'
    have cX1 : x.cell? ⟨r, kk * 2 + 1, none⟩ = some (.slice (some ⟨tr, 0, none⟩) tn tn) := by rw [hx]; exact d1'
    clear hx h13
    refine go_in (wanted_all rfl) ?_
    intro K hk
    clear haft hK hLi
    go_simp
    exact hk.out gg x (fun _ _ => rfl) (hS.go (by decide))
  · intro i hi; exact Or.inl (fun _ _ _ => rfl)
  refine LinAll.cons (fun _ => undef) ?_ ?_ ?_
  · intro gg L a x hLi haft hS hK
    have t4 := (hK.old 4 (by kernel_rfl)).trans o4
    have t17 := hK.new 12 0 _ 17 _ rfl rfl rfl (by kernel_rfl) (waits haft 12 (by kernel_rfl))
    (try dsimp only at t4 t17)
    have hx := hS.a hLi
    have cX0 : x.cell? ⟨w.heap.size, 0, none⟩ = some (.int .i64 0) := by rw [hx]; exact n0
    have cX1 : x.cell? ⟨w.heap.size, 1, none⟩ = some (.slice none 0 0) := by rw [hx]; exact n1
    have fX0 : x.frozen? ⟨w.heap.size, 0, none⟩ = false := by rw [hx]; exact nf 0
    have fX1 : x.frozen? ⟨w.heap.size, 1, none⟩ = false := by rw [hx]; exact nf 1
    have hst := hS.stored hLi
    clear hx
    refine go_in (wanted_all rfl) ?_
    intro K hk
    clear haft hK hLi
    go_simp
    exact hk.out gg _ (fun _ _ => rfl) hst
  · intro i hi; exact Or.inl (fun _ _ _ => rfl)
  refine LinAll.nil fun gg x hS => ?_
  subst ha0
  simp only [Act.put, List.setIfInBounds_toArray, List.set_cons_zero, List.set_cons_succ]
  clear o0 o1 o4
  have hx := hS.b (by kernel_rfl)
  have e1 : x.cell? ⟨w.heap.size, 1, none⟩ = some (.slice (some ⟨tr, 0, none⟩) tn tn) := by
    rw [hx]
    exact World.cell?_setCell_same _ _ _ ((World.cell?_setCell_other _ _ _ _ (by simp)).trans n1)
  have e0 : x.cell? ⟨w.heap.size, 0, none⟩ = some (.int .i64 f) := by
    rw [hx]
    exact (World.cell?_setCell_other _ _ _ _ (by simp)).trans (World.cell?_setCell_same _ _ _ n0)
  have HBX : Hid (Below w.heap.size w x) := by
    rw [hx]
    exact (HB1.out.drew.setCell (p := ⟨w.heap.size, 0, none⟩) (Nat.le_refl _) _).setCell (p := ⟨w.heap.size, 1, none⟩) (Nat.le_refl _) _
  clear hx hS
  go_wp2_with fail
  refine bodyPost_ret (v := .agg #[.int .i64 f, .slice (some ⟨tr, 0, none⟩) tn tn]) (by simp [results, Tryz.results7, go_sem, e0, e1]) rfl ?_
  exact ⟨rfl, HBX.out⟩
end Go.Proofs.YtohfjpahdoodgaaGreatDoor
