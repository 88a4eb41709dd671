import Derived.Test.YtcahhahbcijkiaaGreatMg33
namespace Go.Proofs.YtcahhahbcijkiaaGreat.Ag
set_option maxHeartbeats 12800000
set_option maxRecDepth 100000
open Go.RowKit
set_option linter.unusedSimpArgs false
set_option linter.unusedVariables false
def tkK (mo : Nat) (s : Gz) (L B : List Int) : Nat → Int × List Int × Gz
 | 0 => (0, [], s)
 | k + 1 =>
  let p := tkK mo s L B k
  let x := gXor mo p.2.2 (B.getD k 0) p.1
  let c := gCarry mo x.2 (B.getD k 0) p.1 x.1 (tu (L.getD k 0))
  (c.1, p.2.1 ++ [x.1], c.2)
def tkF (mo : Nat) (s : Gz) (L B : List Int) : List Int × Int × Gz :=
 let p := tkK mo s L B L.length
 let a := anyF mo p.2.2 (B.drop (min L.length B.length))
 let o := gOr mo a.2 a.1 p.1
 (p.2.1, tu o.1, o.2)
theorem gXor_grow {mo : Nat} {s : Gz} {a b : Int} (hp : 0 < s.ks.length) : Pg s.ks (gXor mo s a b).2.ks ∧ OkG (gXor mo s a b).2 (gXor mo s a b).1 := ⟨gXor_pre, gXor_ok hp⟩
theorem getD_okz {s : Gz} {B : List Int} {k : Nat} (hp : 0 < s.ks.length) (h : Oks s B) : OkG s (B.getD k 0) := getD_ok hp h
theorem tkK_len {mo : Nat} {s : Gz} {L B : List Int} : ∀ k, (tkK mo s L B k).2.1.length = k
 | 0 => rfl
 | k + 1 => by
  show ((tkK mo s L B k).2.1 ++ [_]).length = _
  rw [List.length_append, tkK_len k]
  rfl
theorem tkK_ok {mo : Nat} {s : Gz} {L B : List Int} (hp : 0 < s.ks.length) : ∀ k, Pg s.ks (tkK mo s L B k).2.2.ks ∧ OkG (tkK mo s L B k).2.2 (tkK mo s L B k).1 ∧ Oks (tkK mo s L B k).2.2 (tkK mo s L B k).2.1
 | 0 => ⟨Pg.refl _, OkG.zero hp, fun x hx => by cases hx⟩
 | k + 1 => by
  obtain ⟨h1, h2, h3⟩ := tkK_ok (mo := mo) (s := s) (L := L) (B := B) hp k
  have hp1 : 0 < (tkK mo s L B k).2.2.ks.length := by have := h1.length_le; omega
  obtain ⟨x1, x2⟩ := gXor_grow (mo := mo) (a := B.getD k 0) (b := (tkK mo s L B k).1) hp1
  have hp2 : 0 < (gXor mo (tkK mo s L B k).2.2 (B.getD k 0) (tkK mo s L B k).1).2.ks.length := by have := x1.length_le; omega
  have c1 := gCarry_pre (mo := mo) (s := (gXor mo (tkK mo s L B k).2.2 (B.getD k 0) (tkK mo s L B k).1).2) (a := B.getD k 0) (b := (tkK mo s L B k).1) (f := (gXor mo (tkK mo s L B k).2.2 (B.getD k 0) (tkK mo s L B k).1).1) (c := tu (L.getD k 0))
  have c2 := gCarry_ok (mo := mo) (a := B.getD k 0) (b := (tkK mo s L B k).1) (f := (gXor mo (tkK mo s L B k).2.2 (B.getD k 0) (tkK mo s L B k).1).1) (c := tu (L.getD k 0)) hp2
  refine ⟨(h1.trans x1).trans c1, c2, Oks.app (h3.grow (x1.trans c1)) (fun y hy => ?_)⟩
  rw [List.mem_singleton.1 hy]
  exact x2.grow c1
theorem tk_ok {mo : Nat} {s : Gz} {L B : List Int} (hp : 0 < s.ks.length) : Pg s.ks (tkF mo s L B).2.2.ks ∧ (tkF mo s L B).1.length = L.length ∧ Oks (tkF mo s L B).2.2 (tkF mo s L B).1 ∧ OkG (tkF mo s L B).2.2 (tkF mo s L B).2.1 := by
 obtain ⟨h1, h2, h3⟩ := tkK_ok (mo := mo) (s := s) (L := L) (B := B) hp L.length
 have hp1 : 0 < (tkK mo s L B L.length).2.2.ks.length := by have := h1.length_le; omega
 obtain ⟨a1, a2⟩ := anyF_ok (mo := mo) (L := B.drop (min L.length B.length)) hp1
 have hp2 : 0 < (anyF mo (tkK mo s L B L.length).2.2 (B.drop (min L.length B.length))).2.ks.length := by have := a1.length_le; omega
 have o1 := gOr_pre (mo := mo) (s := (anyF mo (tkK mo s L B L.length).2.2 (B.drop (min L.length B.length))).2) (a := (anyF mo (tkK mo s L B L.length).2.2 (B.drop (min L.length B.length))).1) (b := (tkK mo s L B L.length).1)
 have o2 := gOr_ok (mo := mo) (a := (anyF mo (tkK mo s L B L.length).2.2 (B.drop (min L.length B.length))).1) (b := (tkK mo s L B L.length).1) hp2
 exact ⟨(h1.trans a1).trans o1, tkK_len _, h3.grow (a1.trans o1), o2.trn⟩
structure Tk (w wr : World) (F F1 : Nat → Prop) (gs g mo b6 b7 : Nat) (uL v : Value) (s1 : Gz) (fs : List Int) : Prop where
 gn : Gn wr F1 gs g mo s1
 ch : Ch w wr (FG F gs) (FG F1 gs)
 own : Is' wr w.heap.size v fs
 sep : ∀ q, v.ownBlock = some q → ¬ FG F1 gs q
 ne : v.ownBlock ≠ some b6 ∧ v.ownBlock ≠ some b7
 hd : wr.heap[b7]? = some (.cells #[uL, v, .int .i64 0] 162 (0, 0))
 h6 : wr.heap[b6]? = some (.cells #[.slice none 0 0, .slice none 0 0, .int .i64 0] 162 (0, 0))
 nb : ¬ FG F1 gs b6 ∧ ¬ FG F1 gs b7
 lb : w.heap.size ≤ b6 ∧ b6 < b7
section
variable {w wr z : World} {F F1 F2 : Nat → Prop} {gs g mo b6 b7 : Nat} {uL v v' : Value} {s1 : Gz} {fs : List Int} {p : Int × Gz}
theorem Tk.lt (h : Tk w wr F F1 gs g mo b6 b7 uL v s1 fs) : b7 < wr.heap.size := (Array.getElem?_eq_some_iff.1 h.hd).1
theorem Gn.set {o : Nat} {x : Value} (h : Gn z F gs g mo s1) (hb : ¬ FG F gs b7) : Gn (z.setCell ⟨b7, o, none⟩ x) F gs g mo s1 :=
 ⟨(heap_setCell_other _ _ _ _ (show gs ≠ b7 from fun e => hb (Or.inr e.symm))).trans h.hd, h.gr.kept (fun k _ hf => heap_setCell_other _ _ _ _ (show k ≠ b7 from fun e => hb (Or.inl (e ▸ hf)))), h.nf, fun k hk => by rw [World.size_setCell]; exact h.bd k hk, h.rk⟩
theorem Ch.set {D D' : Nat → Prop} {o : Nat} {x : Value} (h : Ch w z D D') (hb : w.heap.size ≤ b7) : Ch w (z.setCell ⟨b7, o, none⟩ x) D D' :=
 ⟨h.os, h.tape, h.output, by rw [World.size_setCell]; exact h.size, fun k hk hn => by rw [heap_setCell_other _ _ _ _ (show k ≠ b7 from fun e => by omega)]; exact h.block k hk hn, fun k hk => by rw [World.size_setCell]; exact h.foot k hk⟩
theorem eq3_at {w x0 x y z : World} {F F1 F2 : Nat → Prop} {gs g0 mo : Nat} {p : Int × Gz} {O : List Int} {v v' : Value} (hG : Gn y F2 gs g0 mo p.2) (hC : Ch x0 y (FG F1 gs) (FG F2 gs)) (hx : x = y.alloc (.cells #[.int .i64 p.1] 3 (0, 0))) (hCw : Ch w x0 (FG F gs) (FG F1 gs)) (hO : Is' x0 w.heap.size v O) (hsep : ∀ q, v.ownBlock = some q → ¬ FG F1 gs q) (hg : x.grownBy z v.ownBlock) (hat : v'.ownBlock = v.ownBlock ∨ v'.ownBlock = some x.heap.size) : Gn z F2 gs g0 mo p.2 ∧ Ch w z (FG F gs) (FG F2 gs) ∧ ∀ q, v'.ownBlock = some q → ¬ FG F2 gs q := by
 have hxs : x.heap.size = y.heap.size + 1 := by rw [hx]; simp
 have hsep2 : ∀ q, v.ownBlock = some q → ¬ FG F2 gs q := fun q hq e => by
  rcases hC.foot q e with r | r
  ·exact hsep q hq r
  ·have := (hO.lt q hq).2; omega
 have hkeep : ∀ k, k < y.heap.size → v.ownBlock ≠ some k → z.heap[k]? = y.heap[k]? := fun k hk hn => by
  rw [hg.block k (by omega) (fun e => hn e.symm), hx]
  exact heap_alloc_old y _ hk
 have hzs := hg.size
 have hgl := hG.lt
 refine ⟨⟨?_, ?_, hG.nf, fun k hk => by have := hG.bd k hk; omega, hG.rk⟩, ?_, fun q hq e => ?_⟩
 ·rw [hkeep gs hgl (fun e => hsep2 gs e (Or.inr rfl))]
  exact hG.hd
 ·exact hG.gr.kept (fun k hk hf => hkeep k hk (fun e => hsep2 k e (Or.inl hf)))
 ·have hc2 := hCw.trans hC
  refine ⟨hg.os.trans (by rw [hx]; exact hc2.os), hg.tape.trans (by rw [hx]; exact hc2.tape), hg.output.trans (by rw [hx]; exact hc2.output), by have := hc2.size; omega, fun k hk hn => ?_, fun k hk => ?_⟩
  ·rw [hkeep k (by have := hc2.size; omega) (fun e => by have := (hO.lt k e).1; omega)]
   exact hc2.block k hk hn
  ·rcases hc2.foot k hk with r | r
   ·exact Or.inl r
   ·exact Or.inr ⟨r.1, by omega⟩
 ·rcases hat with r | r
  ·exact hsep2 q (r.symm.trans hq) e
  ·rw [r] at hq
   injection hq with hq
   rcases e with e | e
   ·have := hG.bd q e; omega
   ·omega
theorem Tk.next {y : World} (h : Tk w wr F F1 gs g mo b6 b7 uL v s1 fs) (h1 : EQ1 wr F1 gs g mo p y) (hown : Is' z w.heap.size v' (fs ++ [p.1])) (hg : (y.alloc (.cells #[.int .i64 p.1] 3 (0, 0))).grownBy z v.ownBlock) (hat : v'.ownBlock = v.ownBlock ∨ v'.ownBlock = some (y.alloc (.cells #[.int .i64 p.1] 3 (0, 0))).heap.size) :
  z.heap[b7]? = some (.cells #[uL, v, .int .i64 0] 162 (0, 0)) ∧ ∃ F2, Tk w (z.setCell ⟨b7, 1, none⟩ v') F F2 gs g mo b6 b7 uL v' p.2 (fs ++ [p.1]) := by
 have hlt := h.lt
 have hlt6 := (Array.getElem?_eq_some_iff.1 h.h6).1
 obtain ⟨F2, hG3, hC3⟩ := h1
 obtain ⟨hG, hC, hs⟩ := eq3_at hG3 hC3 rfl h.ch h.own h.sep hg hat
 have hO := hown
 have hys := hC3.size
 have hz : z.heap[b7]? = wr.heap[b7]? := by
  rw [hg.block b7 (by simp; omega) (fun e => h.ne.2 e.symm), heap_alloc_old y _ (by omega)]
  exact hC3.block b7 hlt h.nb.2
 have hz6 : z.heap[b6]? = wr.heap[b6]? := by
  rw [hg.block b6 (by simp; omega) (fun e => h.ne.1 e.symm), heap_alloc_old y _ (by omega)]
  exact hC3.block b6 hlt6 h.nb.1
 have hnb : ¬ FG F2 gs b7 := fun e => by
  rcases hC3.foot b7 e with r | r
  ·exact h.nb.2 r
  ·omega
 have hnb6 : ¬ FG F2 gs b6 := fun e => by
  rcases hC3.foot b6 e with r | r
  ·exact h.nb.1 r
  ·omega
 have hne : ∀ k, k < y.heap.size → v.ownBlock ≠ some k → v'.ownBlock ≠ some k := fun k hk hn e => by
  rcases hat with r | r
  ·exact hn (r.symm.trans e)
  ·rw [r] at e
   injection e with e
   simp at e
   omega
 have hne7 := hne b7 (by omega) h.ne.2
 refine ⟨hz.trans h.hd, F2, hG.set hnb, hC.set (by have := h.lb; omega), ?_, hs, ⟨hne b6 (by omega) h.ne.1, hne7⟩, ?_, ?_, ⟨hnb6, hnb⟩, h.lb⟩
 ·exact row_own hO (fun k hk => heap_setCell_other _ _ _ _ (show k ≠ b7 from fun e => hne7 (e ▸ hk)))
 ·exact heap_setCell_same z b7 1 _ _ _ (hz.trans h.hd)
 ·rw [heap_setCell_other _ _ _ _ (show b6 ≠ b7 from by have := h.lb; omega)]
  exact hz6.trans h.h6
theorem Tk.kept {y : World} (h : Tk w wr F F1 gs g mo b6 b7 uL v s1 fs) (hC : Ch wr y (FG F1 gs) (FG F2 gs)) : y.heap[b7]? = some (.cells #[uL, v, .int .i64 0] 162 (0, 0)) ∧ y.heap[b6]? = some (.cells #[.slice none 0 0, .slice none 0 0, .int .i64 0] 162 (0, 0)) ∧ ¬ FG F2 gs b6 ∧ ¬ FG F2 gs b7 := by
 have hlt := h.lt
 have hlt6 := (Array.getElem?_eq_some_iff.1 h.h6).1
 refine ⟨(hC.block b7 hlt h.nb.2).trans h.hd, (hC.block b6 hlt6 h.nb.1).trans h.h6, fun e => ?_, fun e => ?_⟩
 ·rcases hC.foot b6 e with r | r
  ·exact h.nb.1 r
  ·omega
 ·rcases hC.foot b7 e with r | r
  ·exact h.nb.2 r
  ·omega
theorem Tk.done {w3 : World} {F3 : Nat → Prop} {s3 : Gz} {x y0 y1 y2 : Value} (h : Tk w wr F F1 gs g mo b6 b7 uL v s1 fs) (hC : Ch wr w3 (FG F1 gs) (FG F3 gs)) (hG : Gn w3 F3 gs g mo s3) (h5 : fs.length ≤ 50000) :
  Wd ((((w3.setCell ⟨b7, 2, none⟩ x).setCell ⟨b6, 0, none⟩ y0).setCell ⟨b6, 1, none⟩ y1).setCell ⟨b6, 2, none⟩ y2) (fun k => FG F3 gs k ∨ k < w.heap.size) v fs ∧ Gn ((((w3.setCell ⟨b7, 2, none⟩ x).setCell ⟨b6, 0, none⟩ y0).setCell ⟨b6, 1, none⟩ y1).setCell ⟨b6, 2, none⟩ y2) F3 gs g mo s3 ∧ Ch w ((((w3.setCell ⟨b7, 2, none⟩ x).setCell ⟨b6, 0, none⟩ y0).setCell ⟨b6, 1, none⟩ y1).setCell ⟨b6, 2, none⟩ y2) (FG F gs) (FG F3 gs) := by
 obtain ⟨-, -, n6, n7⟩ := h.kept hC
 have hl := h.lb
 refine ⟨wd_of (row_own h.own (fun k hk => ?_)) (fun q hq e => ?_) h5, (((hG.set n7).set n6).set n6).set n6, (((h.ch.trans hC).set (by omega)).set (by omega)).set (by omega) |>.set (by omega)⟩
 ·have k6 : k ≠ b6 := fun e => h.ne.1 (e ▸ hk)
  have k7 : k ≠ b7 := fun e => h.ne.2 (e ▸ hk)
  rw [heap_setCell_other _ _ _ _ k6, heap_setCell_other _ _ _ _ k6, heap_setCell_other _ _ _ _ k6, heap_setCell_other _ _ _ _ k7]
  exact hC.block k (h.own.lt k hk).2 (h.sep k hk)
 ·rcases e with e | e
  ·rcases hC.foot q e with r | r
   ·exact h.sep q hq r
   ·have := (h.own.lt q hq).2; omega
  ·have := (h.own.lt q hq).1; omega
theorem Tk.told {w3 : World} {F3 : Nat → Prop} {x y0 y1 y2 : Value} (h : Tk w wr F F1 gs g mo b6 b7 uL v s1 fs) (hC : Ch wr w3 (FG F1 gs) (FG F3 gs)) :
  ((((w3.setCell ⟨b7, 2, none⟩ x).setCell ⟨b6, 0, none⟩ y0).setCell ⟨b6, 1, none⟩ y1).setCell ⟨b6, 2, none⟩ y2).cell? ⟨b6, 0, none⟩ = some y0 ∧ ((((w3.setCell ⟨b7, 2, none⟩ x).setCell ⟨b6, 0, none⟩ y0).setCell ⟨b6, 1, none⟩ y1).setCell ⟨b6, 2, none⟩ y2).cell? ⟨b6, 1, none⟩ = some y1 ∧ ((((w3.setCell ⟨b7, 2, none⟩ x).setCell ⟨b6, 0, none⟩ y0).setCell ⟨b6, 1, none⟩ y1).setCell ⟨b6, 2, none⟩ y2).cell? ⟨b6, 2, none⟩ = some y2 := by
 obtain ⟨-, j6, -, -⟩ := h.kept hC
 have hl := h.lb
 have i0 : (w3.setCell ⟨b7, 2, none⟩ x).heap[b6]? = _ := (heap_setCell_other _ _ _ _ (show b6 ≠ b7 from by omega)).trans j6
 have i3 := heap_setCell_same _ b6 2 _ _ y2 (heap_setCell_same _ b6 1 _ _ y1 (heap_setCell_same _ b6 0 _ _ y0 i0))
 exact ⟨cell_of i3 0 rfl, cell_of i3 1 rfl, cell_of i3 2 rfl⟩
theorem ret_step {fn : Func} {p : Nat} (hfn : fn.results = #[.cell p 162]) {tmps : Array Value} {r : Nat} {a a' : Option Addr} {n c n' c' : Nat} {f : Int} {x : World} (hp : tmps.getD p undef = .pointer (some ⟨r, 0, none⟩))
  (h0 : x.cell? ⟨r, 0, none⟩ = some (.slice a n c)) (h1 : x.cell? ⟨r, 1, none⟩ = some (.slice a' n' c')) (h2 : x.cell? ⟨r, 2, none⟩ = some (.int .i64 f)) : (results fn tmps).run Tryz.prog x = .ok (.agg #[.slice a n c, .slice a' n' c', .int .i64 f]) x := by
 simp at hp
 simp [results, hfn, hp, go_sem, h0, h1, h2]
def TG (w : World) (F : Nat → Prop) (gs g mo : Nat) (uL : Value) (p : List Int × Int × Gz) : Ending → World → Prop := fun ev w' => ∃ u, ev = .returned (.agg #[uL, u, .int .i64 p.2.1]) ∧ ∃ F', Wd w' (fun k => FG F' gs k ∨ k < w.heap.size) u p.1 ∧ Gn w' F' gs g mo p.2.2 ∧ Ch w w' (FG F gs) (FG F' gs)
end
theorem take_any {w : World} {F : Nat → Prop} {gs g mo : Nat} {s : Gz} {ua ub : Value} {L B : List Int} (h : Gn w F gs g mo s) (hA : Wd w (FG F gs) ua L) (hB : Wd w (FG F gs) ub B) (oL : Oks s L) (oB : Oks s B) :
  Calls Tryz.prog 180 #[.pointer (some ⟨gs, 0, none⟩), ua, ub] w (TG w F gs g mo ua (tkF mo s L B)) := by
 obtain ⟨ti, ht0, hz0, hz1, hz2⟩ := info_any infoInt
 have HI : Hid _ := (⟨ht0, hz0, hz1, hz2⟩ : Tryz.prog.info? 3 = some ti ∧ ti.zero = _ ∧ ti.size = 1 ∧ ti.bytes = 8)
 have H : Hid _ := h
 have HA : Hid _ := hA
 have HB : Hid _ := hB
 have hpos := h.pos
 have HOA : Hid (∀ k, OkG s (L.getD k 0) ∧ OkG s (B.getD k 0)) := fun k => ⟨getD_okz hpos oL, getD_okz hpos oB⟩
 obtain ⟨aa, ca, rfl, -, h5⟩ := hA.sl
 obtain ⟨ab, cb, rfl, hcb, h5b⟩ := hB.sl
 obtain ⟨q, hq⟩ : ∃ q, q = tkF mo s L B := ⟨_, rfl⟩
 rw [← hq]
 have HQ : Hid (q = ((tkK mo s L B L.length).2.1, tu (gOr mo (anyF mo (tkK mo s L B L.length).2.2 (B.drop (min L.length B.length))).2 (anyF mo (tkK mo s L B L.length).2.2 (B.drop (min L.length B.length))).1 (tkK mo s L B L.length).1).1, (gOr mo (anyF mo (tkK mo s L B L.length).2.2 (B.drop (min L.length B.length))).2 (anyF mo (tkK mo s L B L.length).2.2 (B.drop (min L.length B.length))).1 (tkK mo s L B L.length).1).2)) := hq
 obtain ⟨n, hn⟩ : ∃ n, n = L.length := ⟨_, rfl⟩
 obtain ⟨nb, hnb⟩ : ∃ n, n = B.length := ⟨_, rfl⟩
 have HN : Hid _ := hn
 have HNB : Hid _ := hnb
 rw [← hn] at h5 HQ ⊢
 rw [← hnb] at HQ hcb h5b ⊢
 clear h hA hB hq hn hnb ht0 hz0 hz1 hz2
 go_enter Tryz.func180, Tryz.ntmps180
 go_wp2_with fail
 obtain ⟨wb, hwb⟩ : ∃ wb, wb = ((w.alloc (Obj.cells #[Value.slice none 0 0, Value.slice none 0 0, Value.int IntKind.i64 0] 162)).alloc (Obj.cells #[Value.slice aa n ca, Value.slice none 0 0, Value.int IntKind.i64 0] 162)) := ⟨_, rfl⟩
 rw [← hwb]
 obtain ⟨b7, hb7⟩ : ∃ b, b = w.heap.size + 1 := ⟨_, rfl⟩
 obtain ⟨b6, hb6⟩ : ∃ b, b = w.heap.size := ⟨_, rfl⟩
 rw [← hb7, ← hb6]
 have HT0 : Hid (Tk w wb F F gs g mo b6 b7 (.slice aa n ca) (.slice none 0 0) s []) := by
  have hbe : Below w.heap.size w wb := by rw [hwb]; go_grown
  refine ⟨H.out.below hbe, Ch.of_below _ hbe, World.ownsRow_nil _ _ _ _, (fun q e => by cases e), ⟨(fun e => by cases e), (fun e => by cases e)⟩, ?_, ?_, ⟨fun e => ?_, fun e => ?_⟩, by omega⟩
  ·rw [hwb, hb7]
   have := heap_alloc_new (w.alloc (Obj.cells #[Value.slice none 0 0, Value.slice none 0 0, Value.int IntKind.i64 0] 162)) (Obj.cells #[Value.slice aa n ca, Value.slice none 0 0, Value.int IntKind.i64 0] 162)
   simpa using this
  ·rw [hwb, hb6, heap_alloc_old _ _ (by simp)]
   exact heap_alloc_new w _
  ·have := H.out.fd _ e; omega
  ·have := H.out.fd _ e; omega
 clear hwb
 have HB67 : Hid (b7 = w.heap.size + 1 ∧ b6 = w.heap.size) := ⟨hb7, hb6⟩
 clear hb7 hb6
 go_loopw [8, 18] (fun c i wr => ∃ k : Nat, k ≤ n ∧ i = .int .i64 (k : Int) ∧ c = .int .i64 (tkK mo s L B k).1 ∧ Hid (∃ F1 v, Tk w wr F F1 gs g mo b6 b7 (.slice aa n ca) v (tkK mo s L B k).2.2 (tkK mo s L B k).2.1)) (fun c i wr => n - (intOf i).toNat)
 case atStart => exact ⟨0, Nat.zero_le _, rfl, rfl, F, _, HT0.out⟩
 case round =>
  clear HT0
  obtain ⟨k, hk, rfl, rfl, F1, v, hT⟩ := hrel
  by_cases hkn : k < n
  ·obtain ⟨ra, oa, ca', ea, hra, hca⟩ := (HA.out.ch hT.ch).cell (k := k) (by rw [← HN.out]; exact hkn)
   rw [← HN.out] at ea
   injection ea with ea1 ea2 ea3
   have HBC : Hid (k < nb → ∃ r o, ab = some ⟨r, o, none⟩ ∧ r < wr.heap.size ∧ wr.cell? ⟨r, o + k, none⟩ = some (.int .i64 (B.getD k 0))) := fun e => (HB.out.ch hT.ch).at rfl (by rw [← HNB.out]; exact e)
   have HB0 : Hid (¬ k < nb → B.getD k 0 = 0) := fun e => by rw [List.getD_eq_getElem?_getD, List.getElem?_eq_none (by rw [← HNB.out]; omega)]; rfl
   obtain ⟨k1, k2, k3⟩ := tkK_ok (mo := mo) (s := s) (L := L) (B := B) hpos k
   obtain ⟨m1, m2⟩ := HOA.out k
   have HST : Hid (tkK mo s L B (k + 1) = ((gCarry mo (gXor mo (tkK mo s L B k).2.2 (B.getD k 0) (tkK mo s L B k).1).2 (B.getD k 0) (tkK mo s L B k).1 (gXor mo (tkK mo s L B k).2.2 (B.getD k 0) (tkK mo s L B k).1).1 (tu (L.getD k 0))).1, (tkK mo s L B k).2.1 ++ [(gXor mo (tkK mo s L B k).2.2 (B.getD k 0) (tkK mo s L B k).1).1], (gCarry mo (gXor mo (tkK mo s L B k).2.2 (B.getD k 0) (tkK mo s L B k).1).2 (B.getD k 0) (tkK mo s L B k).1 (gXor mo (tkK mo s L B k).2.2 (B.getD k 0) (tkK mo s L B k).1).1 (tu (L.getD k 0))).2)) := rfl
   have hlen := tkK_len (mo := mo) (s := s) (L := L) (B := B) k
   obtain ⟨x1, hx1⟩ : ∃ x, x = L.getD k 0 := ⟨_, rfl⟩
   obtain ⟨x2, hx2⟩ : ∃ x, x = B.getD k 0 := ⟨_, rfl⟩
   have ok1 := m1.grow k1
   have ok2 := m2.grow k1
   rw [← hx1] at hca HST ok1
   rw [← hx2] at HBC HB0 HST ok2
   obtain ⟨St, hSt⟩ : ∃ y, y = tkK mo s L B k := ⟨_, rfl⟩
   rw [← hSt] at hT HST hlen k1 k2 k3 ok1 ok2 ⊢
   obtain ⟨cy, O, s1⟩ := St
   dsimp only at hT HST hlen k2 ok1 ok2 ⊢
   have hsm := hT.gn.sm ok1
   have HTU : Hid (∀ wx, Calls Tryz.prog 130 #[.int .i64 x1] wx fun e w' => e = .returned (.int .i64 (tu x1)) ∧ w' = wx) := fun wx => bturn_any (by unfold Sm at hsm; omega) (by unfold Sm at hsm; omega) wx
   have HX : Hid _ := gxor_any hT.gn ok2 k2
   obtain ⟨xp, xo⟩ := gXor_grow (mo := mo) (a := x2) (b := cy) hT.gn.pos
   have HOK0 : Hid (OkG s1 x2 ∧ OkG s1 cy ∧ OkG s1 (tu x1) ∧ Pg s1.ks (gXor mo s1 x2 cy).2.ks ∧ OkG (gXor mo s1 x2 cy).2 (gXor mo s1 x2 cy).1) := ⟨ok2, k2, ok1.trn, xp, xo⟩
   have HOK := HOK0
   obtain ⟨X, hX⟩ : ∃ y, y = gXor mo s1 x2 cy := ⟨_, rfl⟩
   rw [← hX] at HX HST HOK
   obtain ⟨aO, cO, eO, -⟩ := hT.own.any
   rw [hlen] at eO
   subst eO
   have HTK : Hid (Tk w wr F F1 gs g mo b6 b7 (.slice aa n ca) (.slice aO k cO) s1 O) := hT
   have hws : w.heap.size ≤ wr.heap.size := hT.ch.size
   have HLN : Hid (O.length = k) := hlen
   rw [ea1]
   rw [ea1] at HTK
   have hkI : (k : Int) < (n : Int) := by omega
   clear ea1 ea2 ea3 k1 k2 k3 m1 m2 hx1 hx2 hlen hSt ok1 ok2 hsm hX xp xo HOK0 hT
   by_cases hkb : k < nb
   ·obtain ⟨r2, o2, rfl, hr2, hc2⟩ := HBC.out hkb
    have hkB : (k : Int) < (nb : Int) := by omega
    clear HBC HB0
    go_wp2_with fail
    refine Calls.mono HX.out ?_
    rintro ev w2 ⟨rfl, F2, hG2, hC2⟩
    have HCA : Hid _ := gcarry_any hG2 (HOK.out.1.grow HOK.out.2.2.2.1) (HOK.out.2.1.grow HOK.out.2.2.2.1) HOK.out.2.2.2.2 (HOK.out.2.2.1.grow HOK.out.2.2.2.1)
    have HT : Hid (∀ wx, Calls Tryz.prog 130 #[.int .i64 x1] wx fun e w' => e = .returned (.int .i64 (tu x1)) ∧ w' = wx) := HTU.out
    have HC2 : Hid (Ch wr w2 (FG F1 gs) (FG F2 gs)) := hC2
    obtain ⟨tx, htx⟩ : ∃ t, t = tu x1 := ⟨_, rfl⟩
    rw [← htx] at HT HCA HST
    obtain ⟨C, hC⟩ : ∃ y, y = gCarry mo X.2 x2 cy X.1 tx := ⟨_, rfl⟩
    rw [← hC] at HCA HST
    clear hG2 hC2 HX htx hC
    go_wp2_with fail
    refine (HT.out _).mono ?_
    rintro ev wz ⟨rfl, hz⟩
    rw [hz]
    clear hz wz HT
    go_wp2_with fail
    refine Calls.mono HCA.out ?_
    rintro ev w3 ⟨rfl, F3, hG3, hC3⟩
    have hC13 : Ch wr w3 (FG F1 gs) (FG F3 gs) := HC2.out.trans hC3
    obtain ⟨j7, j6, -, -⟩ := HTK.out.kept hC13
    have d1 : w3.cell? ⟨b7, 1, none⟩ = some (.slice aO k cO) := cell_of j7 1 rfl
    have HE1 : Hid (EQ1 wr F1 gs g mo (X.1, C.2) w3) := ⟨F3, hG3, hC13⟩
    have hw3 : wr.heap.size ≤ w3.heap.size := hC13.size
    have HRW : Hid (Is' (w3.alloc (.cells #[.int .i64 X.1] 3)) w.heap.size (.slice aO k cO) O) := row_own HTK.out.own (fun z hz => by
     have hzl := (HTK.out.own.lt z hz).2
     rw [heap_alloc_old w3 _ (by omega)]
     exact hC13.block z hzl (HTK.out.sep z hz))
    clear hG3 hC3 HCA hC13 j7 j6
    go_wp2_with (at_builtin; refine wpList_append_own_at _ rfl _ _ 81 rfl w.heap.size 3 ti _ 1 8 underWord HI.out.1 HI.out.2.1 HI.out.2.2.1 HI.out.2.2.2 rfl (by decide) _ _ _ rfl HRW.out ⟨w3.heap.size, 0, none⟩ 1 1 [_] rfl rfl (cell_one_new _ _ _) (fun u hu => by rw [List.mem_singleton.1 hu]; rfl) (by rw [HLN.out]; unfold maxLen; omega) (by rw [HLN.out]; omega) (by simp; omega) ?_; intro v1 z hown hgrow hnil hat; have hI3 : Is' z w.heap.size v1 (O ++ [X.1]) := (by unfold Is'; rw [List.length_append, List.map_append]; exact hown); obtain ⟨a8, c8, e8, -⟩ := hI3.any; rw [show (O ++ [X.1]).length = k + 1 from (by rw [List.length_append, HLN.out]; rfl)] at e8; subst e8; obtain ⟨jz, F4, hT4⟩ := HTK.out.next HE1.out hI3 hgrow hat; have dz : z.cell? ⟨b7, 1, none⟩ = some (.slice aO k cO) := cell_of jz 1 rfl; have fz : z.frozen? ⟨b7, 1, none⟩ = false := (by simp [World.frozen?, jz]); have HT4 : Hid _ := hT4; clear hown hgrow hnil hat hI3 jz hT4)
    refine ⟨⟨k + 1, by omega, by go_num, by rw [HST.out], ?_⟩, by simp [intOf]; omega⟩
    unfold Hid
    rw [HST.out]
    exact ⟨F4, _, HT4.out⟩
   ·obtain rfl : x2 = 0 := HB0.out hkb
    have hkB : ¬ (k : Int) < (nb : Int) := by omega
    clear HBC HB0
    go_wp2_with fail
    refine Calls.mono HX.out ?_
    rintro ev w2 ⟨rfl, F2, hG2, hC2⟩
    have HCA : Hid _ := gcarry_any hG2 (HOK.out.1.grow HOK.out.2.2.2.1) (HOK.out.2.1.grow HOK.out.2.2.2.1) HOK.out.2.2.2.2 (HOK.out.2.2.1.grow HOK.out.2.2.2.1)
    have HT : Hid (∀ wx, Calls Tryz.prog 130 #[.int .i64 x1] wx fun e w' => e = .returned (.int .i64 (tu x1)) ∧ w' = wx) := HTU.out
    have HC2 : Hid (Ch wr w2 (FG F1 gs) (FG F2 gs)) := hC2
    obtain ⟨tx, htx⟩ : ∃ t, t = tu x1 := ⟨_, rfl⟩
    rw [← htx] at HT HCA HST
    obtain ⟨C, hC⟩ : ∃ y, y = gCarry mo X.2 0 cy X.1 tx := ⟨_, rfl⟩
    rw [← hC] at HCA HST
    clear hG2 hC2 HX htx hC
    go_wp2_with fail
    refine (HT.out _).mono ?_
    rintro ev wz ⟨rfl, hz⟩
    rw [hz]
    clear hz wz HT
    go_wp2_with fail
    refine Calls.mono HCA.out ?_
    rintro ev w3 ⟨rfl, F3, hG3, hC3⟩
    have hC13 : Ch wr w3 (FG F1 gs) (FG F3 gs) := HC2.out.trans hC3
    obtain ⟨j7, j6, -, -⟩ := HTK.out.kept hC13
    have d1 : w3.cell? ⟨b7, 1, none⟩ = some (.slice aO k cO) := cell_of j7 1 rfl
    have HE1 : Hid (EQ1 wr F1 gs g mo (X.1, C.2) w3) := ⟨F3, hG3, hC13⟩
    have hw3 : wr.heap.size ≤ w3.heap.size := hC13.size
    have HRW : Hid (Is' (w3.alloc (.cells #[.int .i64 X.1] 3)) w.heap.size (.slice aO k cO) O) := row_own HTK.out.own (fun z hz => by
     have hzl := (HTK.out.own.lt z hz).2
     rw [heap_alloc_old w3 _ (by omega)]
     exact hC13.block z hzl (HTK.out.sep z hz))
    clear hG3 hC3 HCA hC13 j7 j6
    go_wp2_with (at_builtin; refine wpList_append_own_at _ rfl _ _ 81 rfl w.heap.size 3 ti _ 1 8 underWord HI.out.1 HI.out.2.1 HI.out.2.2.1 HI.out.2.2.2 rfl (by decide) _ _ _ rfl HRW.out ⟨w3.heap.size, 0, none⟩ 1 1 [_] rfl rfl (cell_one_new _ _ _) (fun u hu => by rw [List.mem_singleton.1 hu]; rfl) (by rw [HLN.out]; unfold maxLen; omega) (by rw [HLN.out]; omega) (by simp; omega) ?_; intro v1 z hown hgrow hnil hat; have hI3 : Is' z w.heap.size v1 (O ++ [X.1]) := (by unfold Is'; rw [List.length_append, List.map_append]; exact hown); obtain ⟨a8, c8, e8, -⟩ := hI3.any; rw [show (O ++ [X.1]).length = k + 1 from (by rw [List.length_append, HLN.out]; rfl)] at e8; subst e8; obtain ⟨jz, F4, hT4⟩ := HTK.out.next HE1.out hI3 hgrow hat; have dz : z.cell? ⟨b7, 1, none⟩ = some (.slice aO k cO) := cell_of jz 1 rfl; have fz : z.frozen? ⟨b7, 1, none⟩ = false := (by simp [World.frozen?, jz]); have HT4 : Hid _ := hT4; clear hown hgrow hnil hat hI3 jz hT4)
    refine ⟨⟨k + 1, by omega, by go_num, by rw [HST.out], ?_⟩, by simp [intOf]; omega⟩
    unfold Hid
    rw [HST.out]
    exact ⟨F4, _, HT4.out⟩
  ·obtain rfl : k = n := by omega
   have hkI : ¬ (k : Int) < (k : Int) := by omega
   obtain ⟨k1, k2, k3⟩ := tkK_ok (mo := mo) (s := s) (L := L) (B := B) hpos k
   have hlen := tkK_len (mo := mo) (s := s) (L := L) (B := B) k
   obtain ⟨St, hSt⟩ : ∃ y, y = tkK mo s L B k := ⟨_, rfl⟩
   rw [← hSt] at hT HQ hlen k1 k2 k3 ⊢
   obtain ⟨cy, O, s1⟩ := St
   dsimp only at hT HQ hlen k1 k2 k3 ⊢
   obtain ⟨m, hm⟩ : ∃ m, m = min k nb := ⟨_, rfl⟩
   rw [← hm] at HQ
   have hmI : min (k : Int) (nb : Int) = (m : Int) := by omega
   have hmb : m ≤ nb := by omega
   have hmbI : (m : Int) ≤ (nb : Int) := by omega
   have HAN : Hid (∀ u', Wd wr (FG F1 gs) u' (B.drop m) → Calls Tryz.prog 131 #[.pointer (some ⟨gs, 0, none⟩), u'] wr (GD wr F1 gs g mo (anyF mo s1 (B.drop m)))) := fun u' hu => any_any hT.gn hu (fun x hx => (oB x (List.mem_of_mem_drop hx)).grow k1)
   obtain ⟨y1, y2⟩ := anyF_ok (mo := mo) (L := B.drop m) hT.gn.pos
   obtain ⟨Y, hY⟩ : ∃ y, y = anyF mo s1 (B.drop m) := ⟨_, rfl⟩
   rw [← hY] at HAN HQ y1 y2
   have HOK : Hid (OkG Y.2 Y.1 ∧ OkG Y.2 cy) := ⟨y2, k2.grow y1⟩
   have hpY : 0 < Y.2.ks.length := by have := y1.length_le; have := hT.gn.pos; omega
   have o2 := gOr_ok (mo := mo) (a := Y.1) (b := cy) hpY
   obtain ⟨Z, hZ⟩ : ∃ y, y = gOr mo Y.2 Y.1 cy := ⟨_, rfl⟩
   rw [← hZ] at HQ o2
   have HZ : Hid (Z = gOr mo Y.2 Y.1 cy ∧ OkG Z.2 Z.1) := ⟨hZ, o2⟩
   have HDB : Hid (Wd wr (FG F1 gs) (.slice ab nb cb) B) := by have := HB.out.ch hT.ch; rw [← HNB.out] at this; exact this
   have HTK : Hid _ := hT
   have HLN : Hid (O.length = k) := hlen
   obtain ⟨aO, cO, eO, -⟩ := hT.own.any
   rw [hlen] at eO
   subst eO
   clear hSt k1 k2 k3 hm hY y1 y2 hpY o2 hZ hT hlen
   cases ab with
   | none =>
    have hcn : cb = 0 := by
     obtain ⟨a', c', e', q1, q2, q3, q4⟩ := HDB.out.ex
     injection e' with e1 e2 e3
     have := q3 e1.symm
     omega
    subst hcn
    obtain rfl : nb = 0 := by omega
    obtain rfl : m = 0 := by omega
    have HU : Hid (Wd wr (FG F1 gs) (.slice none 0 0) (B.drop 0)) := by unfold Hid; rw [List.drop_zero]; exact HDB.out
    rw [show ((0 : Nat) : Int) = 0 from rfl] at hmI
    go_wp2_with fail
    refine Calls.mono (HAN.out _ HU.out) ?_
    rintro ev w2 ⟨rfl, F2, hG2, hC2⟩
    have HO : Hid _ := gor_any hG2 HOK.out.1 HOK.out.2
    rw [← HZ.out.1] at HO
    have HC2 : Hid (Ch wr w2 (FG F1 gs) (FG F2 gs)) := hC2
    clear hG2 hC2
    go_wp2_with fail
    refine Calls.mono HO.out ?_
    rintro ev w3 ⟨rfl, F3, hG3, hC3⟩
    have hC13 := HC2.out.trans hC3
    obtain ⟨j7, j6, n6, n7⟩ := HTK.out.kept hC13
    have hsm := hG3.sm HZ.out.2
    have HT : Hid (∀ wx, Calls Tryz.prog 130 #[.int .i64 Z.1] wx fun e w' => e = .returned (.int .i64 (tu Z.1)) ∧ w' = wx) := fun wx => bturn_any (by unfold Sm at hsm; omega) (by unfold Sm at hsm; omega) wx
    have HW3 : Hid _ := fun (x y0 y1 y2 : Value) => HTK.out.done (x := x) (y0 := y0) (y1 := y1) (y2 := y2) hC13 hG3 (by rw [HLN.out]; exact h5)
    have HTD : Hid _ := fun (x y0 y1 y2 : Value) => HTK.out.told (x := x) (y0 := y0) (y1 := y1) (y2 := y2) hC13
    have d0 : w3.cell? ⟨b7, 0, none⟩ = some (.slice aa k ca) := cell_of j7 0 rfl
    have d1 : w3.cell? ⟨b7, 1, none⟩ = some (.slice aO k cO) := cell_of j7 1 rfl
    have d2 : w3.cell? ⟨b7, 2, none⟩ = some (.int .i64 0) := cell_of j7 2 rfl
    have e0 : w3.cell? ⟨b6, 0, none⟩ = some (.slice none 0 0) := cell_of j6 0 rfl
    have e1 : w3.cell? ⟨b6, 1, none⟩ = some (.slice none 0 0) := cell_of j6 1 rfl
    have e2 : w3.cell? ⟨b6, 2, none⟩ = some (.int .i64 0) := cell_of j6 2 rfl
    have f7 : ∀ o, w3.frozen? ⟨b7, o, none⟩ = false := fun o => by simp [World.frozen?, j7]
    have f6 : ∀ o, w3.frozen? ⟨b6, o, none⟩ = false := fun o => by simp [World.frozen?, j6]
    have hne : b6 ≠ b7 := by have := HTK.out.lb; omega
    have hne' : b7 ≠ b6 := fun e => hne e.symm
    obtain ⟨tz, htz⟩ : ∃ t, t = tu Z.1 := ⟨_, rfl⟩
    rw [← htz] at HT HQ
    clear hG3 hC3 hC13 j7 j6 n6 n7 hsm HO HAN htz
    go_wp2_with fail
    refine (HT.out _).mono ?_
    rintro ev wz ⟨rfl, hz⟩
    rw [hz]
    clear hz wz HT
    go_wp2_with fail
    obtain ⟨t0, t1, t2⟩ := HTD.out _ _ _ _
    refine bodyPost_ret (ret_step Tryz.results180 rfl t0 t1 t2) rfl ?_
    refine ⟨_, by rw [HQ.out], F3, ?_⟩
    rw [HQ.out]
    exact HW3.out _ _ _ _
   | some bb =>
    by_cases hmc : m = cb
    ·obtain rfl : nb = m := by omega
     subst hmc
     have HU : Hid (Wd wr (FG F1 gs) (.slice (some bb) 0 0) (B.drop nb)) := by
      unfold Hid
      rw [HNB.out, List.drop_length]
      exact ⟨some bb, 0, rfl, Nat.le_refl _, by simp, (fun e => by cases e), Or.inl rfl⟩
     go_wp2_with fail
     refine Calls.mono (HAN.out _ HU.out) ?_
     rintro ev w2 ⟨rfl, F2, hG2, hC2⟩
     have HO : Hid _ := gor_any hG2 HOK.out.1 HOK.out.2
     rw [← HZ.out.1] at HO
     have HC2 : Hid (Ch wr w2 (FG F1 gs) (FG F2 gs)) := hC2
     clear hG2 hC2
     go_wp2_with fail
     refine Calls.mono HO.out ?_
     rintro ev w3 ⟨rfl, F3, hG3, hC3⟩
     have hC13 := HC2.out.trans hC3
     obtain ⟨j7, j6, n6, n7⟩ := HTK.out.kept hC13
     have hsm := hG3.sm HZ.out.2
     have HT : Hid (∀ wx, Calls Tryz.prog 130 #[.int .i64 Z.1] wx fun e w' => e = .returned (.int .i64 (tu Z.1)) ∧ w' = wx) := fun wx => bturn_any (by unfold Sm at hsm; omega) (by unfold Sm at hsm; omega) wx
     have HW3 : Hid _ := fun (x y0 y1 y2 : Value) => HTK.out.done (x := x) (y0 := y0) (y1 := y1) (y2 := y2) hC13 hG3 (by rw [HLN.out]; exact h5)
     have HTD : Hid _ := fun (x y0 y1 y2 : Value) => HTK.out.told (x := x) (y0 := y0) (y1 := y1) (y2 := y2) hC13
     have d0 : w3.cell? ⟨b7, 0, none⟩ = some (.slice aa k ca) := cell_of j7 0 rfl
     have d1 : w3.cell? ⟨b7, 1, none⟩ = some (.slice aO k cO) := cell_of j7 1 rfl
     have d2 : w3.cell? ⟨b7, 2, none⟩ = some (.int .i64 0) := cell_of j7 2 rfl
     have e0 : w3.cell? ⟨b6, 0, none⟩ = some (.slice none 0 0) := cell_of j6 0 rfl
     have e1 : w3.cell? ⟨b6, 1, none⟩ = some (.slice none 0 0) := cell_of j6 1 rfl
     have e2 : w3.cell? ⟨b6, 2, none⟩ = some (.int .i64 0) := cell_of j6 2 rfl
     have f7 : ∀ o, w3.frozen? ⟨b7, o, none⟩ = false := fun o => by simp [World.frozen?, j7]
     have f6 : ∀ o, w3.frozen? ⟨b6, o, none⟩ = false := fun o => by simp [World.frozen?, j6]
     have hne : b6 ≠ b7 := by have := HTK.out.lb; omega
     have hne' : b7 ≠ b6 := fun e => hne e.symm
     obtain ⟨tz, htz⟩ : ∃ t, t = tu Z.1 := ⟨_, rfl⟩
     rw [← htz] at HT HQ
     clear hG3 hC3 hC13 j7 j6 n6 n7 hsm HO HAN htz
     go_wp2_with fail
     refine (HT.out _).mono ?_
     rintro ev wz ⟨rfl, hz⟩
     rw [hz]
     clear hz wz HT
     go_wp2_with fail
     obtain ⟨t0, t1, t2⟩ := HTD.out _ _ _ _
     refine bodyPost_ret (ret_step Tryz.results180 rfl t0 t1 t2) rfl ?_
     refine ⟨_, by rw [HQ.out], F3, ?_⟩
     rw [HQ.out]
     exact HW3.out _ _ _ _
    ·have hmcI : (m : Int) < (cb : Int) := by omega
     have HU : Hid (Wd wr (FG F1 gs) (.slice (some (bb.add m)) (nb - m) (cb - m)) (B.drop m)) := by have := HDB.out.from (n := m) (by rw [← HNB.out]; exact hmb); rw [← HNB.out] at this; exact this
     go_wp2_with fail
     refine Calls.mono (HAN.out _ HU.out) ?_
     rintro ev w2 ⟨rfl, F2, hG2, hC2⟩
     have HO : Hid _ := gor_any hG2 HOK.out.1 HOK.out.2
     rw [← HZ.out.1] at HO
     have HC2 : Hid (Ch wr w2 (FG F1 gs) (FG F2 gs)) := hC2
     clear hG2 hC2
     go_wp2_with fail
     refine Calls.mono HO.out ?_
     rintro ev w3 ⟨rfl, F3, hG3, hC3⟩
     have hC13 := HC2.out.trans hC3
     obtain ⟨j7, j6, n6, n7⟩ := HTK.out.kept hC13
     have hsm := hG3.sm HZ.out.2
     have HT : Hid (∀ wx, Calls Tryz.prog 130 #[.int .i64 Z.1] wx fun e w' => e = .returned (.int .i64 (tu Z.1)) ∧ w' = wx) := fun wx => bturn_any (by unfold Sm at hsm; omega) (by unfold Sm at hsm; omega) wx
     have HW3 : Hid _ := fun (x y0 y1 y2 : Value) => HTK.out.done (x := x) (y0 := y0) (y1 := y1) (y2 := y2) hC13 hG3 (by rw [HLN.out]; exact h5)
     have HTD : Hid _ := fun (x y0 y1 y2 : Value) => HTK.out.told (x := x) (y0 := y0) (y1 := y1) (y2 := y2) hC13
     have d0 : w3.cell? ⟨b7, 0, none⟩ = some (.slice aa k ca) := cell_of j7 0 rfl
     have d1 : w3.cell? ⟨b7, 1, none⟩ = some (.slice aO k cO) := cell_of j7 1 rfl
     have d2 : w3.cell? ⟨b7, 2, none⟩ = some (.int .i64 0) := cell_of j7 2 rfl
     have e0 : w3.cell? ⟨b6, 0, none⟩ = some (.slice none 0 0) := cell_of j6 0 rfl
     have e1 : w3.cell? ⟨b6, 1, none⟩ = some (.slice none 0 0) := cell_of j6 1 rfl
     have e2 : w3.cell? ⟨b6, 2, none⟩ = some (.int .i64 0) := cell_of j6 2 rfl
     have f7 : ∀ o, w3.frozen? ⟨b7, o, none⟩ = false := fun o => by simp [World.frozen?, j7]
     have f6 : ∀ o, w3.frozen? ⟨b6, o, none⟩ = false := fun o => by simp [World.frozen?, j6]
     have hne : b6 ≠ b7 := by have := HTK.out.lb; omega
     have hne' : b7 ≠ b6 := fun e => hne e.symm
     obtain ⟨tz, htz⟩ : ∃ t, t = tu Z.1 := ⟨_, rfl⟩
     rw [← htz] at HT HQ
     clear hG3 hC3 hC13 j7 j6 n6 n7 hsm HO HAN htz
     go_wp2_with fail
     refine (HT.out _).mono ?_
     rintro ev wz ⟨rfl, hz⟩
     rw [hz]
     clear hz wz HT
     go_wp2_with fail
     obtain ⟨t0, t1, t2⟩ := HTD.out _ _ _ _
     refine bodyPost_ret (ret_step Tryz.results180 rfl t0 t1 t2) rfl ?_
     refine ⟨_, by rw [HQ.out], F3, ?_⟩
     rw [HQ.out]
     exact HW3.out _ _ _ _
end Go.Proofs.YtcahhahbcijkiaaGreat.Ag
