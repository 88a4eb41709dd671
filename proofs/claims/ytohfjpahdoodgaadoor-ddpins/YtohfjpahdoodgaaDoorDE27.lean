/- The laws' world: a manager, and what is pinned. -/
import Derived.Test.YtohfjpahdoodgaaDoorDE26
namespace Go.Proofs.YtohfjpahdoodgaaDoor
open Go.RowKit
set_option linter.unusedSimpArgs false
set_option linter.unusedVariables false

/-- What is held: a diagram, its table where it lies, its table. -/
abbrev HT := Int × Value × List Bool
def hcs (H : List HT) : List Value := H.flatMap fun p => [.int .i64 p.1, p.2.1]
theorem hcs_cons (p : HT) (H : List HT) : hcs (p :: H) = .int .i64 p.1 :: p.2.1 :: hcs H := rfl
theorem hcs_app (H K : List HT) : hcs (H ++ K) = hcs H ++ hcs K := List.flatMap_append
theorem hcs_len (H : List HT) : (hcs H).length = H.length * 2 := by
  induction H with
  | nil => rfl
  | cons p H ih => rw [hcs_cons, List.length_cons, List.length_cons, List.length_cons, ih]; omega
theorem hcs_get {p : HT} : ∀ {H : List HT} {j : Nat}, H[j]? = some p → (hcs H)[j * 2]? = some (.int .i64 p.1) ∧ (hcs H)[j * 2 + 1]? = some p.2.1
  | [], j, h => by simp at h
  | q :: H, 0, h => by simp at h; subst h; exact ⟨rfl, rfl⟩
  | q :: H, j + 1, h => by
    rw [List.getElem?_cons_succ] at h
    obtain ⟨h1, h2⟩ := hcs_get h
    rw [hcs_cons, show (j + 1) * 2 = j * 2 + 1 + 1 by omega]
    exact ⟨h1, h2⟩
/-- A table that lies beyond B, in no block of F. -/
structure Tb (w : World) (F : Nat → Prop) (B : Nat) (v : Value) (l : List Bool) : Prop where
  ex : ∃ r cs, v = .slice (some ⟨r, 0, none⟩) l.length l.length ∧ w.heap[r]? = some (.cells cs 4 (0, 0)) ∧ ¬ F r ∧ B ≤ r ∧ ∀ j, j < l.length → w.cell? ⟨r, j, none⟩ = some (.bool (l.getD j false))
theorem blk_lt {w : World} {r : Nat} {o : Obj} (h : w.heap[r]? = some o) : r < w.heap.size := (Array.getElem?_eq_some_iff.1 h).1
theorem Tb.keep {w w' : World} {F F' : Nat → Prop} {B : Nat} {v : Value} {l : List Bool} (h : Tb w F B v l) (hk : ∀ k cs, w.heap[k]? = some (.cells cs 4 (0, 0)) → ¬ F k → w'.heap[k]? = w.heap[k]? ∧ ¬ F' k) : Tb w' F' B v l := by
  obtain ⟨r, cs, e, h1, h2, h3, h4⟩ := h.ex
  obtain ⟨k1, k2⟩ := hk r cs h1 h2
  exact ⟨r, cs, e, k1.trans h1, k2, h3, fun j hj => (World.cell?_of_block (a := ⟨r, j, none⟩) k1).trans (h4 j hj)⟩
theorem Tb.bz {w : World} {F : Nat → Prop} {B : Nat} {v : Value} {l : List Bool} (h : Tb w F B v l) : Bz w v l := by
  obtain ⟨r, cs, e, h1, h2, h3, h4⟩ := h.ex
  exact ⟨_, _, e, Or.inr ⟨r, 0, rfl, blk_lt h1, fun j hj => by rw [Nat.zero_add]; exact h4 j hj⟩⟩
theorem Tn.tb {w w' : World} {F : Nat → Prop} {B : Nat} {v : Value} {l : List Bool} (h : Tn w w' v l) (hB : B ≤ w.heap.size) (hF : ∀ k, F k → k < w.heap.size) : Tb w' F B v l := by
  obtain ⟨r, e⟩ := h.ex
  have hb := h.bo
  rw [e] at hb
  obtain ⟨l1, l2, cur, l3⟩ := hb.lt
  exact ⟨r, cur, e, l3, (fun q => by have := hF r q; omega), by omega, fun j hj => (hb.put hj).1⟩
/-- The list of what is held. -/
structure Hl (w : World) (F : Nat → Prop) (B : Nat) (lv : Value) (H : List HT) : Prop where
  row : w.ownsRow B 36 2 lv H.length (hcs H)
  off : ∀ b, lv.ownBlock = some b → ¬ F b
  tb : ∀ p ∈ H, Tb w F B p.2.1 p.2.2
theorem Hl.keep {w w' : World} {F F' : Nat → Prop} {B : Nat} {lv : Value} {H : List HT} (h : Hl w F B lv H) (hk : ∀ k, k < w.heap.size → ¬ F k → w'.heap[k]? = w.heap[k]? ∧ ¬ F' k) : Hl w' F' B lv H :=
  ⟨row_own h.row (fun b e => (hk b (World.ownsRow.lt h.row b e).2 (h.off b e)).1), fun b e => (hk b (World.ownsRow.lt h.row b e).2 (h.off b e)).2, fun p hp => (h.tb p hp).keep fun k cs e hf => hk k (blk_lt e) hf⟩
theorem Hl.get {w : World} {F : Nat → Prop} {B : Nat} {lv : Value} {H : List HT} (h : Hl w F B lv H) {j : Nat} {p : HT} (hp : H[j]? = some p) : ∃ r c, lv = .slice (some ⟨r, 0, none⟩) H.length c ∧ r < w.heap.size ∧ w.cell? ⟨r, j * 2, none⟩ = some (.int .i64 p.1) ∧ w.cell? ⟨r, j * 2 + 1, none⟩ = some p.2.1 := by
  have hjl : j < H.length := (List.getElem?_eq_some_iff.1 hp).1
  obtain ⟨g1, g2⟩ := hcs_get hp
  rcases h.row.2 with ⟨-, h0⟩ | ⟨r, cap, cur, e, hb, hg, hc, hm, hs, ht⟩
  · omega
  · have l2 := hcs_len H
    rw [← ht] at g1 g2
    rw [List.getElem?_take_of_lt (by omega)] at g1 g2
    exact ⟨r, cap, e, blk_lt hg, cell_of hg _ (by simpa using g1), cell_of hg _ (by simpa using g2)⟩
/-- The world that is built on, and blocks of other kinds that lie beside all of it and stay as they are. -/
structure Wx where
  w : World
  X : Nat → Option (Array Value × TypeId)
abbrev wx (w : World) : Wx := ⟨w, fun _ => none⟩
def Wx.add (w : Wx) (k : Nat) (p : Array Value × TypeId) : Wx := ⟨w.w, fun j => if j = k then some p else w.X j⟩
def Fz (X : Nat → Option (Array Value × TypeId)) (w : World) (F : Nat → Prop) : Prop := ∀ k p, X k = some p → (p.2 ≠ 36 ∧ p.2 ≠ 29) ∧ w.heap[k]? = some (.cells p.1 p.2 (0, 0)) ∧ ¬ F k
/-- The world at wb. -/
structure Hf (w0 : Wx) (w : World) (F : Nat → Prop) (wb : Nat) (lv : Value) (g n most : Nat) (S : St) (pn : Int → Int) (H : List HT) : Prop where
  bel : Below w0.w.heap.size w0.w w
  rm : Rm w F g n most S pn
  low : ∀ k, F k → w0.w.heap.size ≤ k
  wf : ¬ F wb
  wl : w0.w.heap.size ≤ wb
  wc : w.heap[wb]? = some (.cells #[.pointer (some ⟨g, 0, none⟩), .int .i64 (n : Int), .int .i64 (most : Int), lv, .bool true] 29 (0, 0))
  hl : Hl w F w0.w.heap.size lv H
  few : H.length ≤ 50
  xb : Fz w0.X w F
section
variable {w0 : Wx} {w w' : World} {F F' : Nat → Prop} {wb g n most : Nat} {lv : Value} {S S' : St} {pn pn' : Int → Int} {H : List HT}
theorem Hf.cut (h : Hf w0 w F wb lv g n most S pn H) : Hf w0 w (Fc w F) wb lv g n most S pn H :=
  ⟨h.bel, ⟨h.rm.gr.cut, h.rm.sp, h.rm.ps⟩, fun k hk => h.low k hk.1, fun q => h.wf q.1, h.wl, h.wc, h.hl.keep fun k _ hf => ⟨rfl, fun q => hf q.1⟩, h.few, fun k p e => ⟨(h.xb k p e).1, (h.xb k p e).2.1, fun q => (h.xb k p e).2.2 q.1⟩⟩
theorem Hf.below (h : Hf w0 w F wb lv g n most S pn H) (hb : Below w.heap.size w w') : Hf w0 w' F wb lv g n most S pn H :=
  ⟨h.bel.trans (hb.mono h.bel.size), ⟨h.rm.gr.below hb, h.rm.sp, h.rm.ps⟩, h.low, h.wf, h.wl, (hb.block _ (blk_lt h.wc)).trans h.wc, h.hl.keep fun k hk hf => ⟨hb.block k hk, hf⟩, h.few, fun k p e => ⟨(h.xb k p e).1, (hb.block k (blk_lt (h.xb k p e).2.1)).trans (h.xb k p e).2.1, (h.xb k p e).2.2⟩⟩
theorem Hf.ch (h : Hf w0 w F wb lv g n most S pn H) (hc : Ch w w' F F') (hr : Rm w' F' g n most S' pn') : Hf w0 w' F' wb lv g n most S' pn' H := by
  obtain ⟨q1, q2⟩ := hc.low h.bel h.low
  exact ⟨q1, hr, q2, hc.old (blk_lt h.wc) h.wf, h.wl, (hc.block _ (blk_lt h.wc) h.wf).trans h.wc, h.hl.keep fun k hk hf => ⟨hc.block k hk hf, hc.old hk hf⟩, h.few, fun k p e => ⟨(h.xb k p e).1, (hc.block k (blk_lt (h.xb k p e).2.1) (h.xb k p e).2.2).trans (h.xb k p e).2.1, hc.old (blk_lt (h.xb k p e).2.1) (h.xb k p e).2.2⟩⟩
theorem Hf.cells (h : Hf w0 w F wb lv g n most S pn H) : w.cell? ⟨wb, 0, none⟩ = some (.pointer (some ⟨g, 0, none⟩)) ∧ w.cell? ⟨wb, 1, none⟩ = some (.int .i64 (n : Int)) ∧ w.cell? ⟨wb, 3, none⟩ = some lv ∧ w.cell? ⟨wb, 4, none⟩ = some (.bool true) ∧ wb < w.heap.size ∧ ∀ j, w.frozen? ⟨wb, j, none⟩ = false :=
  ⟨cell_of h.wc 0 rfl, cell_of h.wc 1 rfl, cell_of h.wc 3 rfl, cell_of h.wc 4 rfl, blk_lt h.wc, fun j => by simp [World.frozen?, h.wc]⟩
end
end Go.Proofs.YtohfjpahdoodgaaDoor
