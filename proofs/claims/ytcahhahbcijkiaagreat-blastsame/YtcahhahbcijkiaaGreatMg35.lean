import Derived.Test.YtcahhahbcijkiaaGreatBLT
namespace Go.Proofs.YtcahhahbcijkiaaGreat.Ag
set_option maxHeartbeats 12800000
set_option maxRecDepth 100000
open Go.RowKit
set_option linter.unusedSimpArgs false
set_option linter.unusedVariables false
structure Dz where
 dg : List Int
 lf : List Int
 fs : List Int
 fi : Int
 s : Gz
def dvS (mo : Nat) (A B : List Int) (k : Nat) (p : Dz) : Dz :=
 let h := bhF mo p.s p.lf p.fs p.fi B.length
 let t := tkF mo h.2 (A.getD (A.length - 1 - k) 0 :: h.1) B
 ⟨p.dg.set (A.length - 1 - k) t.2.1, A.getD (A.length - 1 - k) 0 :: h.1, t.1, t.2.1, t.2.2⟩
def dvK (mo : Nat) (s : Gz) (A B : List Int) : Nat → Dz
 | 0 => ⟨List.replicate A.length 0, [], [], 0, s⟩
 | k + 1 => dvS mo A B k (dvK mo s A B k)
def dvF (mo : Nat) (s : Gz) (A B : List Int) : Dz := dvK mo s A (shortF B) A.length
structure Dok (s : Gz) (n : Nat) (p : Dz) : Prop where
 pre : Pg s.ks p.s.ks
 len : p.dg.length = n
 fl : p.fs.length = p.lf.length
 lt : p.lf.length ≤ 20001
 okd : Oks p.s p.dg
 okl : Oks p.s p.lf
 okf : Oks p.s p.fs
 oki : OkG p.s p.fi
theorem Oks.setv {s : Gz} {A : List Int} {k : Nat} {x : Int} (h : Oks s A) (hx : OkG s x) : Oks s (A.set k x) := fun y hy => by
 rcases List.mem_or_eq_of_mem_set hy with q | q
 ·exact h y q
 ·rw [q]; exact hx
theorem Oks.cons {s : Gz} {A : List Int} {x : Int} (hx : OkG s x) (h : Oks s A) : Oks s (x :: A) := fun y hy => by
 rcases List.mem_cons.1 hy with q | q
 ·rw [q]; exact hx
 ·exact h y q
theorem dvS_ok {mo : Nat} {s : Gz} {A B : List Int} {k n : Nat} {p : Dz} (hp : 0 < s.ks.length) (hB : B.length ≤ 20000) (oA : Oks s A) (oB : Oks s B) (h : Dok s n p) : Dok s n (dvS mo A B k p) := by
 have hp1 : 0 < p.s.ks.length := by have := h.pre.length_le; omega
 have h1 := bh_wok (mo := mo) (n := B.length) hp1 h.fl h.okl h.okf h.oki
 have hp2 : 0 < (bhF mo p.s p.lf p.fs p.fi B.length).2.ks.length := by have := h1.pre.length_le; omega
 obtain ⟨t1, t2, t3, t4⟩ := tk_ok (mo := mo) (L := A.getD (A.length - 1 - k) 0 :: (bhF mo p.s p.lf p.fs p.fi B.length).1) (B := B) hp2
 have ox : OkG s (A.getD (A.length - 1 - k) 0) := getD_okz hp oA
 have hpre := (h.pre.trans h1.pre).trans t1
 have ol := Oks.cons ((ox.grow h.pre).grow h1.pre) h1.ok
 exact ⟨hpre, by show (List.set _ _ _).length = n; rw [List.length_set]; exact h.len, t2, by show (_ :: _ : List Int).length ≤ _; rw [List.length_cons, h1.len]; omega, Oks.setv (h.okd.grow (h1.pre.trans t1)) t4, ol.grow t1, t3, t4⟩
theorem dvK_ok {mo : Nat} {s : Gz} {A B : List Int} (hp : 0 < s.ks.length) (hB : B.length ≤ 20000) (oA : Oks s A) (oB : Oks s B) : ∀ k, Dok s A.length (dvK mo s A B k)
 | 0 => ⟨Pg.refl _, List.length_replicate, rfl, by show (0 : Nat) ≤ _; omega, Oks.rep (OkG.zero hp) _, (fun x hx => by cases hx), (fun x hx => by cases hx), OkG.zero hp⟩
 | k + 1 => dvS_ok hp hB oA oB (dvK_ok hp hB oA oB k)
section
variable {w w' z : World} {D D' P : Nat → Prop} {u : Value} {L : List Int}
theorem Wd.weak (h : Wd w D u L) (hd : ∀ k, D' k → D k) : Wd w D' u L := by
 obtain ⟨a, c, e, h1, h2, h3, h4⟩ := h.ex
 refine ⟨a, c, e, h1, h2, h3, ?_⟩
 rcases h4 with h4 | ⟨r, o, q1, q2, q3, q4⟩
 ·exact Or.inl h4
 ·exact Or.inr ⟨r, o, q1, q2, fun e => q3 (hd r e), q4⟩
theorem Wd.set {b o : Nat} {x : Value} (h : Wd z D u L) (hb : D b) : Wd (z.setCell ⟨b, o, none⟩ x) D u L := by
 obtain ⟨a, c, e, h1, h2, h3, h4⟩ := h.ex
 refine ⟨a, c, e, h1, h2, h3, ?_⟩
 rcases h4 with h4 | ⟨r, o', q1, q2, q3, q4⟩
 ·exact Or.inl h4
 ·exact Or.inr ⟨r, o', q1, by rw [World.size_setCell]; exact q2, q3, Li_kept q4 (heap_setCell_other _ _ _ _ (show r ≠ b from fun e => q3 (e ▸ hb)))⟩
theorem Ch.more (h : Ch w w' D D') : Ch w w' (fun k => D k ∨ P k) (fun k => D' k ∨ P k) :=
 ⟨h.os, h.tape, h.output, h.size, fun k hk hn => h.block k hk (fun e => hn (Or.inl e)), fun k hk => by
  rcases hk with hk | hk
  ·rcases h.foot k hk with q | q
   ·exact Or.inl (Or.inl q)
   ·exact Or.inr q
  ·exact Or.inl (Or.inr hk)⟩
end
structure Dv (w wr : World) (F F1 : Nat → Prop) (gs g mo n b7 b9 rd : Nat) (uL uF : Value) (p : Dz) : Prop where
 gn : Gn wr F1 gs g mo p.s
 ch : Ch w wr (FG F gs) (FG F1 gs)
 row : wr.rowIs rd 3 n (LV p.dg)
 h7 : wr.heap[b7]? = some (.cells #[.slice none 0 0, .slice none 0 0, .int .i64 0] 162 (0, 0))
 h9 : wr.heap[b9]? = some (.cells #[uL, uF, .int .i64 p.fi] 162 (0, 0))
 nb : ¬ FG F1 gs b7 ∧ ¬ FG F1 gs b9 ∧ ¬ FG F1 gs rd
 lb : w.heap.size ≤ b7 ∧ w.heap.size ≤ b9 ∧ w.heap.size ≤ rd ∧ b7 ≠ b9 ∧ b7 ≠ rd ∧ b9 ≠ rd
 wl : Wd wr (fun k => FG F1 gs k ∨ k = b7) uL p.lf
 wf : Wd wr (fun k => FG F1 gs k ∨ k = b7) uF p.fs
 nl : (uL = .slice none 0 0 ∧ uF = .slice none 0 0) ∨ 0 < p.lf.length
section
variable {w wr w6 : World} {F F1 F6 : Nat → Prop} {gs g mo n b7 b9 rd : Nat} {uL uF u5 u6 : Value} {p : Dz}
theorem rowIs_lt {wr : World} {rd n : Nat} {f : Nat → Value} (h : wr.rowIs rd 3 n f) : rd < wr.heap.size := by
 obtain ⟨cc, e, -⟩ := h
 exact (Array.getElem?_eq_some_iff.1 e).1
theorem set_getv {P : List Int} {k j : Nat} {x : Int} (hk : k < P.length) : (P.set k x).getD j 0 = if k = j then x else P.getD j 0 := by
 rw [List.getD_eq_getElem?_getD, List.getElem?_set]
 by_cases e : k = j
 ·rw [if_pos e, if_pos e, if_pos (by omega)]
  rfl
 ·rw [if_neg e, if_neg e, List.getD_eq_getElem?_getD]
theorem row_setv {w : World} {r n k : Nat} {P : List Int} {x : Int} (h : w.rowIs r 3 n (LV P)) (hP : P.length = n) (hk : k < n) : (w.setCell ⟨r, k, none⟩ (.int .i64 x)).rowIs r 3 n (LV (P.set k x)) := by
 refine (h.set k (.int .i64 x)).congr (fun j hj => ?_)
 unfold LV
 rw [set_getv (by omega)]
 by_cases e : k = j
 ·subst e; simp
 ·rw [if_neg e]
  first
  | (rw [if_neg (fun q => e q.symm)])
  | (rw [if_neg e])
  | (simp [Ne.symm e])
theorem Dv.kept (h : Dv w wr F F1 gs g mo n b7 b9 rd uL uF p) (hC : Ch wr w6 (FG F1 gs) (FG F6 gs)) : w6.heap[b7]? = wr.heap[b7]? ∧ w6.heap[b9]? = wr.heap[b9]? ∧ w6.heap[rd]? = wr.heap[rd]? ∧ ¬ FG F6 gs b7 ∧ ¬ FG F6 gs b9 ∧ ¬ FG F6 gs rd := by
 have l7 := (Array.getElem?_eq_some_iff.1 h.h7).1
 have l9 := (Array.getElem?_eq_some_iff.1 h.h9).1
 have lr := rowIs_lt h.row
 have nf : ∀ k, k < wr.heap.size → ¬ FG F1 gs k → ¬ FG F6 gs k := fun k hk hn e => by
  rcases hC.foot k e with r | r
  ·exact hn r
  ·omega
 exact ⟨hC.block b7 l7 h.nb.1, hC.block b9 l9 h.nb.2.1, hC.block rd lr h.nb.2.2, nf b7 l7 h.nb.1, nf b9 l9 h.nb.2.1, nf rd lr h.nb.2.2⟩
theorem Dv.next {p' : Dz} {i : Nat} (h : Dv w wr F F1 gs g mo n b7 b9 rd uL uF p) (hC : Ch wr w6 (FG F1 gs) (FG F6 gs)) (hG : Gn w6 F6 gs g mo p'.s) (hL : Wd w6 (fun k => FG F6 gs k ∨ k < wr.heap.size) u5 p'.lf) (hF : Wd w6 (fun k => FG F6 gs k ∨ k < wr.heap.size) u6 p'.fs) (hi : i < n) (hn : p.dg.length = n) (hd : p'.dg = p.dg.set i p'.fi) (h0 : 0 < p'.lf.length) :
  Dv w ((((w6.setCell ⟨b9, 0, none⟩ u5).setCell ⟨b9, 1, none⟩ u6).setCell ⟨b9, 2, none⟩ (.int .i64 p'.fi)).setCell ⟨rd, i, none⟩ (.int .i64 p'.fi)) F F6 gs g mo n b7 b9 rd u5 u6 p' := by
 obtain ⟨e7, e9, er, n7, n9, nr⟩ := h.kept hC
 obtain ⟨q1, q2, q3, q4, q5, q6⟩ := h.lb
 have l7 := (Array.getElem?_eq_some_iff.1 h.h7).1
 have l9 := (Array.getElem?_eq_some_iff.1 h.h9).1
 have lr := rowIs_lt h.row
 have i9 := heap_setCell_same _ b9 2 _ _ (.int .i64 p'.fi) (heap_setCell_same _ b9 1 _ _ u6 (heap_setCell_same _ b9 0 _ _ u5 (e9.trans h.h9)))
 have ww : ∀ {u : Value} {X : List Int}, Wd w6 (fun k => FG F6 gs k ∨ k < wr.heap.size) u X → Wd ((((w6.setCell ⟨b9, 0, none⟩ u5).setCell ⟨b9, 1, none⟩ u6).setCell ⟨b9, 2, none⟩ (.int .i64 p'.fi)).setCell ⟨rd, i, none⟩ (.int .i64 p'.fi)) (fun k => FG F6 gs k ∨ k = b7) u X := fun hx => by
  refine ((((hx.set (Or.inr l9)).set (Or.inr l9)).set (Or.inr l9)).set (Or.inr lr)).weak (fun k hk => ?_)
  rcases hk with hk | hk
  ·exact Or.inl hk
  ·rw [hk]; exact Or.inr l7
 refine ⟨(((hG.set n9).set n9).set n9).set nr, ((((h.ch.trans hC).set q2).set q2).set q2).set q3, ?_, ?_, ?_, ⟨n7, n9, nr⟩, h.lb, ww hL, ww hF, Or.inr h0⟩
 ·rw [hd]
  refine row_setv (h.row.of_block ?_) hn hi
  rw [heap_setCell_other _ _ _ _ (Ne.symm q6), heap_setCell_other _ _ _ _ (Ne.symm q6), heap_setCell_other _ _ _ _ (Ne.symm q6)]
  exact er
 ·rw [heap_setCell_other _ _ _ _ q5, heap_setCell_other _ _ _ _ q4, heap_setCell_other _ _ _ _ q4, heap_setCell_other _ _ _ _ q4]
  exact e7.trans h.h7
 ·rw [heap_setCell_other _ _ _ _ q6]
  exact i9
end
open Go.RowKit
structure BW (wr w5 : World) (F1 F4 : Nat → Prop) (gs g mo b : Nat) (x : Int) (u4 : Value) (p : List Int × Gz) : Prop where
 c : w5.cell? ⟨b, 0, none⟩ = some (.int .i64 x)
 lb : wr.heap.size ≤ b
 lt : b < w5.heap.size
 nf : ¬ FG F4 gs b
 gn : Gn w5 F4 gs g mo p.2
 ch : Ch wr w5 (FG F1 gs) (FG F4 gs)
 wd : Wd w5 (FG F4 gs) u4 p.1
section
variable {wr w4 w5 : World} {F1 F4 : Nat → Prop} {gs g mo b : Nat} {x : Int} {u4 : Value} {p : List Int × Gz}
theorem drewal (wr : World) (o : Obj) : Below wr.heap.size wr (wr.drew.alloc o) := (drew_b wr).trans (Below.mono (by go_grown : Below wr.drew.heap.size wr.drew (wr.drew.alloc o)) (Nat.le_refl _))
theorem bw1 (hb : ∀ k, FG F1 gs k → k < wr.heap.size) (hG : Gn w4 F4 gs g mo p.2) (hC : Ch (wr.drew.alloc (.cells #[.int .i64 x] 3)) w4 (FG F1 gs) (FG F4 gs)) (hW : Wd w4 (FG F4 gs) u4 p.1) : BW wr w4 F1 F4 gs g mo wr.heap.size x u4 p := by
 have hs : (wr.drew.alloc (.cells #[.int .i64 x] 3)).heap.size = wr.heap.size + 1 := by
  have : (wr.drew.alloc (.cells #[.int .i64 x] 3)).heap.size = wr.drew.heap.size + 1 := by simp
  exact this
 have hz := hC.size
 have hnew : (wr.drew.alloc (.cells #[.int .i64 x] 3)).heap[wr.heap.size]? = some (.cells #[.int .i64 x] 3) := heap_alloc_new wr.drew _
 refine ⟨cell_of ((hC.block wr.heap.size (by omega) (fun e => by have := hb _ e; omega)).trans hnew) 0 rfl, Nat.le_refl _, by omega, fun e => ?_, hG, (Ch.of_below _ (drewal wr _)).trans hC, hW⟩
 rcases hC.foot _ e with r | r
 ·have := hb _ r; omega
 ·omega
theorem bw2 (hG : Gn w4 F4 gs g mo p.2) (hC : Ch wr.drew w4 (FG F1 gs) (FG F4 gs)) (hW : Wd w4 (FG F4 gs) u4 p.1) : BW wr (w4.alloc (.cells #[.int .i64 x] 3)) F1 F4 gs g mo w4.heap.size x u4 p := by
 have hb : Below w4.heap.size w4 (w4.alloc (.cells #[.int .i64 x] 3)) := by go_grown
 have hC2 := (Ch.of_below (FG F1 gs) (drew_b wr)).trans hC
 exact ⟨cell_of (heap_alloc_new w4 _) 0 rfl, hC2.size, by simp, fun e => by have := hG.fd _ e; omega, hG.below hb, hC2.trans (Ch.of_below _ hb), hW.below hb⟩
theorem BW.below (h : BW wr w5 F1 F4 gs g mo b x u4 p) (hl : 1 + p.1.length ≤ 50000) :
  Calls Tryz.prog 106 #[.slice (some ⟨b, 0, none⟩) 1 1, u4] w5 fun ev w' => ∃ a5 c5, ev = .returned (.slice a5 (p.1.length + 1) c5) ∧ Wd w' (fun k => FG F4 gs k ∨ k < wr.heap.size) (.slice a5 (p.1.length + 1) c5) (x :: p.1) ∧ Gn w' F4 gs g mo p.2 ∧ Ch wr w' (FG F1 gs) (FG F4 gs) := by
 have h1 : Wd w5 (fun k => FG F4 gs k ∨ k < wr.heap.size) (.slice (some ⟨b, 0, none⟩) 1 1) [x] := by
  refine ⟨_, 1, rfl, Nat.le_refl _, by simp, (fun e => by cases e), Or.inr ⟨b, 0, rfl, h.lt, fun e => ?_, fun j hj => ?_⟩⟩
  ·rcases e with e | e
   ·exact h.nf e
   ·have := h.lb; omega
  ·have : j = 0 := by simpa using hj
   subst this
   exact h.c
 have hD : ∀ k, (FG F4 gs k ∨ k < wr.heap.size) → k < w5.heap.size := fun k hk => by
  rcases hk with hk | hk
  ·exact h.gn.fd k hk
  ·exact Nat.lt_of_lt_of_le hk h.ch.size
 refine (below_any h1 h.wd hD hl).mono ?_
 rintro ev w6 ⟨u6, rfl, hW6, hb6⟩
 obtain ⟨a5, c5, e, -, -⟩ := hW6.sl
 subst e
 exact ⟨a5, c5, rfl, hW6, h.gn.below hb6, h.ch.trans (Ch.of_below _ hb6)⟩
end
theorem Wd.wide {w wx : World} {D : Nat → Prop} {u : Value} {L : List Int} (h : Wd w D u L) (hb : Below w.heap.size w wx) : Wd wx (fun k => D k ∨ w.heap.size ≤ k) u L := by
 obtain ⟨a, c, e, h1, h2, h3, h4⟩ := h.ex
 refine ⟨a, c, e, h1, h2, h3, ?_⟩
 rcases h4 with h4 | ⟨r, o, q1, q2, q3, q4⟩
 ·exact Or.inl h4
 ·refine Or.inr ⟨r, o, q1, Nat.lt_of_lt_of_le q2 hb.size, fun e => ?_, Li_kept q4 (hb.block r q2)⟩
  rcases e with e | e
  ·exact q3 e
  ·omega
theorem Wd.back {w wx : World} {D : Nat → Prop} {u : Value} {L : List Int} (h : Wd wx (fun k => D k ∨ w.heap.size ≤ k) u L) (hb : Below w.heap.size w wx) : Wd w D u L := by
 obtain ⟨a, c, e, h1, h2, h3, h4⟩ := h.ex
 refine ⟨a, c, e, h1, h2, h3, ?_⟩
 rcases h4 with h4 | ⟨r, o, q1, q2, q3, q4⟩
 ·exact Or.inl h4
 ·have hr : r < w.heap.size := by
   rcases Nat.lt_or_ge r w.heap.size with q | q
   ·exact q
   ·exact absurd (Or.inr q) q3
  exact Or.inr ⟨r, o, q1, hr, fun e => q3 (Or.inl e), Li_kept q4 (hb.block r hr).symm⟩
theorem Dv.mid {w wr w6 : World} {F F1 F6 : Nat → Prop} {gs g mo n b7 b9 rd : Nat} {uL uF y0 y1 y2 : Value} {p : Dz} (h : Dv w wr F F1 gs g mo n b7 b9 rd uL uF p) (hC : Ch wr w6 (FG F1 gs) (FG F6 gs)) : (((w6.setCell ⟨b9, 0, none⟩ y0).setCell ⟨b9, 1, none⟩ y1).setCell ⟨b9, 2, none⟩ y2).cell? ⟨b9, 2, none⟩ = some y2 ∧ (((w6.setCell ⟨b9, 0, none⟩ y0).setCell ⟨b9, 1, none⟩ y1).setCell ⟨b9, 2, none⟩ y2).rowIs rd 3 n (LV p.dg) := by
 obtain ⟨e7, e9, er, n7, n9, nr⟩ := h.kept hC
 obtain ⟨q1, q2, q3, q4, q5, q6⟩ := h.lb
 have i9 := heap_setCell_same _ b9 2 _ _ y2 (heap_setCell_same _ b9 1 _ _ y1 (heap_setCell_same _ b9 0 _ _ y0 (e9.trans h.h9)))
 refine ⟨cell_of i9 2 rfl, h.row.of_block ?_⟩
 rw [heap_setCell_other _ _ _ _ (Ne.symm q6), heap_setCell_other _ _ _ _ (Ne.symm q6), heap_setCell_other _ _ _ _ (Ne.symm q6)]
 exact er
theorem ret_step2 {fn : Func} {p u : Nat} (hfn : fn.results = #[.tmp u, .cell p 162]) {tmps : Array Value} {r : Nat} {a a' : Option Addr} {n c n' c' : Nat} {f : Int} {v : Value} {x : World} (hp : tmps.getD p undef = .pointer (some ⟨r, 0, none⟩)) (hu : tmps.getD u undef = v)
  (h0 : x.cell? ⟨r, 0, none⟩ = some (.slice a n c)) (h1 : x.cell? ⟨r, 1, none⟩ = some (.slice a' n' c')) (h2 : x.cell? ⟨r, 2, none⟩ = some (.int .i64 f)) : (results fn tmps).run Tryz.prog x = .ok (.tuple #[v, .agg #[.slice a n c, .slice a' n' c', .int .i64 f]]) x := by
 simp at hp hu
 simp [results, hfn, hp, hu, go_sem, h0, h1, h2]
theorem Dv.fin {w wr : World} {F F1 : Nat → Prop} {gs g mo n b7 b9 rd : Nat} {uL uF y0 y1 y2 : Value} {p : Dz} (h : Dv w wr F F1 gs g mo n b7 b9 rd uL uF p) (hn : p.dg.length = n) (h5 : n ≤ 50000) :
  let z := ((wr.setCell ⟨b7, 0, none⟩ y0).setCell ⟨b7, 1, none⟩ y1).setCell ⟨b7, 2, none⟩ y2
  (z.cell? ⟨b7, 0, none⟩ = some y0 ∧ z.cell? ⟨b7, 1, none⟩ = some y1 ∧ z.cell? ⟨b7, 2, none⟩ = some y2) ∧ Wd z (FG F1 gs) (.slice (some ⟨rd, 0, none⟩) n n) p.dg ∧ Wd z (FG F1 gs) uL p.lf ∧ Wd z (FG F1 gs) uF p.fs ∧ Gn z F1 gs g mo p.s ∧ Ch w z (FG F gs) (FG F1 gs) := by
 obtain ⟨q1, q2, q3, q4, q5, q6⟩ := h.lb
 obtain ⟨n7, n9, nr⟩ := h.nb
 have i7 := heap_setCell_same _ b7 2 _ _ y2 (heap_setCell_same _ b7 1 _ _ y1 (heap_setCell_same _ b7 0 _ _ y0 h.h7))
 have ww : ∀ {u : Value} {X : List Int}, Wd wr (fun k => FG F1 gs k ∨ k = b7) u X → Wd (((wr.setCell ⟨b7, 0, none⟩ y0).setCell ⟨b7, 1, none⟩ y1).setCell ⟨b7, 2, none⟩ y2) (FG F1 gs) u X := fun hx => (((hx.set (Or.inr rfl)).set (Or.inr rfl)).set (Or.inr rfl)).weak (fun k hk => Or.inl hk)
 refine ⟨⟨cell_of i7 0 rfl, cell_of i7 1 rfl, cell_of i7 2 rfl⟩, ?_, ww h.wl, ww h.wf, ((h.gn.set n7).set n7).set n7, ((h.ch.set q1).set q1).set q1⟩
 refine row_wd (h.row.of_block ?_) (fun j hj => rfl) hn h5 nr
 rw [heap_setCell_other _ _ _ _ (Ne.symm q5), heap_setCell_other _ _ _ _ (Ne.symm q5), heap_setCell_other _ _ _ _ (Ne.symm q5)]
section
variable {w : World} {F : Nat → Prop} {gs g mo : Nat} {s : Gz} {ua ub : Value} {A B : List Int}
def DG (w : World) (F : Nat → Prop) (gs g mo : Nat) (p : Dz) : Ending → World → Prop := fun ev w' => ∃ u a1 n1 c1 a2 n2 c2, ev = .returned (.tuple #[u, .agg #[.slice a1 n1 c1, .slice a2 n2 c2, .int .i64 p.fi]]) ∧ ∃ F', Wd w' (FG F' gs) u p.dg ∧ Wd w' (FG F' gs) (.slice a1 n1 c1) p.lf ∧ Wd w' (FG F' gs) (.slice a2 n2 c2) p.fs ∧ ((Value.slice a1 n1 c1 = .slice none 0 0 ∧ Value.slice a2 n2 c2 = .slice none 0 0) ∨ 0 < p.lf.length) ∧ Gn w' F' gs g mo p.s ∧ Ch w w' (FG F gs) (FG F' gs)
theorem divide_any (h : Gn w F gs g mo s) (hA : Wd w (FG F gs) ua A) (hB : Wd w (FG F gs) ub B) (oA : Oks s A) (oB : Oks s B) (hb2 : B.length ≤ 20000) (ha2 : A.length ≤ 20000) :
  Calls Tryz.prog 143 #[.pointer (some ⟨gs, 0, none⟩), ua, ub] w (DG w F gs g mo (dvF mo s A B)) := by
 have hpos := h.pos
 have HSH : Hid (∀ wx, Below w.heap.size w wx → Calls Tryz.prog 145 #[ub] wx fun ev w' => ∃ u', ev = .returned u' ∧ Wd w (FG F gs) u' (shortF B) ∧ w' = wx) := fun wx hb => (shortened_any (hB.wide hb)).mono (fun ev w' ⟨u', e1, e2, e3⟩ => ⟨u', e1, e2.back hb, e3⟩)
 have H : Hid _ := h
 have HA : Hid _ := hA
 have hbl : (shortF B).length ≤ 20000 := Nat.le_trans shortF_len hb2
 have HOK : Hid (∀ k, Dok s A.length (dvK mo s A (shortF B) k)) := fun k => dvK_ok hpos hbl oA oB.short k
 have HOB : Hid (Oks s A ∧ Oks s (shortF B)) := ⟨oA, oB.short⟩
 obtain ⟨aa, ca, rfl, -, h5⟩ := hA.sl
 obtain ⟨ab, cb, rfl, -, -⟩ := hB.sl
 have HQ : Hid (dvF mo s A B = dvK mo s A (shortF B) A.length) := rfl
 obtain ⟨q, hq⟩ : ∃ q, q = dvF mo s A B := ⟨_, rfl⟩
 rw [← hq] at HQ ⊢
 obtain ⟨B', hB'⟩ : ∃ q, q = shortF B := ⟨_, rfl⟩
 rw [← hB'] at HSH hbl HOK HOB HQ
 have HST : Hid (∀ k, k < A.length → dvK mo s A B' (k + 1) = dvS mo A B' k (dvK mo s A B' k)) := fun k _ => rfl
 have HZ : Hid (dvK mo s A B' 0 = ⟨List.replicate A.length 0, [], [], 0, s⟩) := rfl
 obtain ⟨n, hn⟩ : ∃ n, n = A.length := ⟨_, rfl⟩
 have HN : Hid _ := hn
 rw [← hn] at h5 HQ HOK HST HZ ha2 ⊢
 have HFI : Hid (∀ wx, Calls Tryz.prog 137 #[.int .i64 0, .int .i64 (n : Int)] wx fun ev w' => ∃ r, ev = .returned (.slice (some ⟨r, 0, none⟩) n n) ∧ wx.heap.size ≤ r ∧ r < w'.heap.size ∧ w'.rowIs r 3 n (fun _ => .int .i64 0) ∧ Below wx.heap.size wx w') := fun wx => filled_row h5
 clear h hA hB oA oB hq hB' hn hb2
 go_enter Tryz.func143, Tryz.ntmps143
 go_wp2_with fail
 refine (HSH.out _ (by go_grown)).mono ?_
 rintro ev wz ⟨uB, rfl, hWB, hz⟩
 rw [hz]
 clear hz wz HSH
 obtain ⟨wb, hwb⟩ : ∃ wb, wb = w.alloc (Obj.cells #[Value.slice none 0 0, Value.slice none 0 0, Value.int IntKind.i64 0] 162) := ⟨_, rfl⟩
 rw [← hwb]
 have hn7 : wb.heap[w.heap.size]? = some (Obj.cells #[Value.slice none 0 0, Value.slice none 0 0, Value.int IntKind.i64 0] 162) := by rw [hwb]; exact heap_alloc_new w _
 have hsb : wb.heap.size = w.heap.size + 1 := by rw [hwb]; simp
 have hbb : Below w.heap.size w wb := by rw [hwb]; go_grown
 have HWB : Hid (wb.heap[w.heap.size]? = some (Obj.cells #[Value.slice none 0 0, Value.slice none 0 0, Value.int IntKind.i64 0] 162) ∧ wb.heap.size = w.heap.size + 1 ∧ Below w.heap.size w wb) := ⟨hn7, hsb, hbb⟩
 have HBU : Hid (Wd w (FG F gs) uB B') := hWB
 obtain ⟨aB, cB, e, -, -⟩ := hWB.sl
 subst e
 clear hwb hn7 hsb hbb hWB
 go_wp2_with fail
 refine (HFI.out _).mono ?_
 rintro ev w2 ⟨rd, rfl, hrd, hrd2, hrow, hb2⟩
 have HR : Hid (wb.heap.size ≤ rd ∧ rd < w2.heap.size ∧ w2.rowIs rd 3 n (fun _ => .int .i64 0) ∧ Below wb.heap.size wb w2) := ⟨hrd, hrd2, hrow, hb2⟩
 clear hrd hrd2 hrow hb2 HFI
 obtain ⟨nb, hnb⟩ : ∃ nb, nb = B'.length := ⟨_, rfl⟩
 have HNB : Hid _ := hnb
 rw [← hnb] at hbl HBU ⊢
 obtain ⟨b7, hb7⟩ : ∃ b7, b7 = w.heap.size := ⟨_, rfl⟩
 rw [← hb7]
 have HB7 : Hid (b7 = w.heap.size) := hb7
 clear hb7 hnb
 go_wp2_with fail
 obtain ⟨w3, hw3⟩ : ∃ w3, w3 = w2.alloc (Obj.cells #[Value.slice none 0 0, Value.slice none 0 0, Value.int IntKind.i64 0] 162) := ⟨_, rfl⟩
 rw [← hw3]
 obtain ⟨b9, hb9⟩ : ∃ b9, b9 = w2.heap.size := ⟨_, rfl⟩
 rw [← hb9]
 have HD0 : Hid (Dv w w3 F F gs g mo n b7 b9 rd (.slice none 0 0) (.slice none 0 0) (dvK mo s A B' 0)) := by
  obtain ⟨r1, r2, r3, r4⟩ := HR.out
  obtain ⟨v1, v2, v3⟩ := HWB.out
  have e7 := HB7.out
  have hb3 : Below w2.heap.size w2 w3 := by rw [hw3]; go_grown
  have hs2 := r4.size
  have hbe : Below w.heap.size w w3 := (v3.trans (r4.mono (by omega))).trans (hb3.mono (by omega))
  have nf : ∀ k, w.heap.size ≤ k → ¬ FG F gs k := fun k hk e => by have := H.out.fd k e; omega
  rw [HZ.out]
  refine ⟨H.out.below hbe, Ch.of_below _ hbe, ?_, ?_, ?_, ⟨nf _ (by omega), nf _ (by omega), nf _ (by omega)⟩, by omega, Wd.nil _ _, Wd.nil _ _, Or.inl ⟨rfl, rfl⟩⟩
  ·refine (r3.of_block (hb3.block rd r2)).congr (fun j hj => ?_)
   unfold LV
   rw [rep_get n 0 hj]
  ·rw [hb3.block b7 (by omega), r4.block b7 (by omega), e7]
   exact v1
  ·rw [hw3, hb9]
   exact heap_alloc_new w2 _
 have HA2 : Hid (Wd w (FG F gs) (.slice aa n ca) A) := by
  have := HA.out
  rw [← HN.out] at this
  exact this
 clear hw3 hb9 HR HWB HB7 HA
 go_loopw [10] (fun i wr => ∃ k m : Nat, k + m = n ∧ i = .int .i64 ((m : Int) - 1) ∧ Hid (∃ F1 uL uF, Dv w wr F F1 gs g mo n b7 b9 rd uL uF (dvK mo s A B' k))) (fun i wr => (intOf i + 1).toNat)
 case atStart => exact ⟨0, n, by omega, rfl, F, _, _, HD0.out⟩
 case round =>
  clear HD0
  obtain ⟨k, m, hkm, rfl, F1, uL, uF, hD⟩ := hrel
  have hok := HOK.out k
  cases m with
  | succ m =>
   have hmn : m < n := by omega
   have eI : (((m + 1 : Nat) : Int) - 1) = (m : Int) := by omega
   rw [eI]
   obtain ⟨ra, oa, e, hra, hca⟩ := (HA2.out.ch hD.ch).at rfl (k := m) (by rw [← HN.out]; exact hmn)
   subst e
   have hWB := HBU.out.ch hD.ch
   have HSK : Hid (dvK mo s A B' (k + 1) = dvS mo A B' k (dvK mo s A B' k)) := HST.out k (by omega)
   obtain ⟨p, hp⟩ : ∃ p, p = dvK mo s A B' k := ⟨_, rfl⟩
   rw [← hp] at hD hok HSK
   have hp1 : 0 < p.s.ks.length := by have := hok.pre.length_le; omega
   have k1 := bh_wok (mo := mo) (n := nb) hp1 hok.fl hok.okl hok.okf hok.oki
   have HSK2 : Hid (dvK mo s A B' (k + 1) = ⟨p.dg.set m (tkF mo (bhF mo p.s p.lf p.fs p.fi nb).2 (A.getD m 0 :: (bhF mo p.s p.lf p.fs p.fi nb).1) B').2.1, A.getD m 0 :: (bhF mo p.s p.lf p.fs p.fi nb).1, (tkF mo (bhF mo p.s p.lf p.fs p.fi nb).2 (A.getD m 0 :: (bhF mo p.s p.lf p.fs p.fi nb).1) B').1, (tkF mo (bhF mo p.s p.lf p.fs p.fi nb).2 (A.getD m 0 :: (bhF mo p.s p.lf p.fs p.fi nb).1) B').2.1, (tkF mo (bhF mo p.s p.lf p.fs p.fi nb).2 (A.getD m 0 :: (bhF mo p.s p.lf p.fs p.fi nb).1) B').2.2⟩) := by
    unfold Hid
    rw [HSK.out, HNB.out]
    unfold dvS
    rw [← HN.out, show n - 1 - k = m by omega]
   have okx : OkG s (A.getD m 0) := getD_okz hpos HOB.out.1
   obtain ⟨x, hx⟩ : ∃ x, x = A.getD m 0 := ⟨_, rfl⟩
   rw [← hx] at hca HSK2 okx
   obtain ⟨aL, cL, eL, -, -⟩ := hD.wl.sl
   obtain ⟨aF, cF, eF, -, -⟩ := hD.wf.sl
   subst eL
   subst eF
   have hfl := hok.fl
   have HBH : Hid (∀ wx, Below wr.heap.size wr wx → Calls Tryz.prog 144 #[.pointer (some ⟨gs, 0, none⟩), .agg #[.slice aL p.lf.length cL, .slice aF p.fs.length cF, .int .i64 p.fi], .int .i64 (nb : Int)] wx (WG wx F1 gs g mo (bhF mo p.s p.lf p.fs p.fi nb))) := fun wx hb => behind_any (hD.gn.below hb) ((hD.wl.weak (fun k hk => Or.inl hk)).below hb) ((hD.wf.weak (fun k hk => Or.inl hk)).below hb) hok.fl hok.okl hok.okf hok.oki (by omega) hD.nl
   obtain ⟨h, hh⟩ : ∃ h, h = bhF mo p.s p.lf p.fs p.fi nb := ⟨_, rfl⟩
   rw [← hh] at HBH HSK2 k1
   have hhl : h.1.length ≤ 20000 := by rw [k1.len]; omega
   have hp2 : 0 < h.2.ks.length := by have := k1.pre.length_le; omega
   have hpre : Pg s.ks h.2.ks := hok.pre.trans k1.pre
   have HTA : Hid (∀ wx F4 u', Gn wx F4 gs g mo h.2 → Ch wr wx (FG F1 gs) (FG F4 gs) → Wd wx (fun k => FG F4 gs k ∨ k < wr.heap.size) u' (x :: h.1) → Calls Tryz.prog 180 #[.pointer (some ⟨gs, 0, none⟩), u', .slice aB nb cB] wx (TG wx F4 gs g mo u' (tkF mo h.2 (x :: h.1) B'))) := fun wx F4 u' hG hC hu => by
    have := hWB.ch hC
    exact take_any hG (hu.weak (fun k hk => Or.inl hk)) this (Oks.cons (okx.grow hpre) k1.ok) (Oks.grow HOB.out.2 hpre)
   obtain ⟨tl, tn, to, ti⟩ := tk_ok (mo := mo) (L := x :: h.1) (B := B') hp2
   obtain ⟨T, hT⟩ : ∃ T, T = tkF mo h.2 (x :: h.1) B' := ⟨_, rfl⟩
   rw [← hT] at HTA HSK2 tn
   have HDV : Hid _ := hD
   have HNX : Hid (∀ w6 F6 u5 u6, Ch wr w6 (FG F1 gs) (FG F6 gs) → Gn w6 F6 gs g mo T.2.2 → Wd w6 (fun k => FG F6 gs k ∨ k < wr.heap.size) u5 (x :: h.1) → Wd w6 (fun k => FG F6 gs k ∨ k < wr.heap.size) u6 T.1 → Dv w ((((w6.setCell ⟨b9, 0, none⟩ u5).setCell ⟨b9, 1, none⟩ u6).setCell ⟨b9, 2, none⟩ (.int .i64 T.2.1)).setCell ⟨rd, m, none⟩ (.int .i64 T.2.1)) F F6 gs g mo n b7 b9 rd u5 u6 (dvK mo s A B' (k + 1))) := fun w6 F6 u5 u6 hC hG hL hF => by
    rw [HSK2.out]
    exact hD.next (p' := ⟨p.dg.set m T.2.1, x :: h.1, T.1, T.2.1, T.2.2⟩) hC hG hL hF hmn hok.len rfl (by show 0 < (x :: h.1).length; simp)
   obtain ⟨c90, c91, c92⟩ : wr.cell? ⟨b9, 0, none⟩ = some (.slice aL p.lf.length cL) ∧ wr.cell? ⟨b9, 1, none⟩ = some (.slice aF p.fs.length cF) ∧ wr.cell? ⟨b9, 2, none⟩ = some (.int .i64 p.fi) := ⟨cell_of hD.h9 0 rfl, cell_of hD.h9 1 rfl, cell_of hD.h9 2 rfl⟩
   have HKE : Hid (∀ w6 F6, Ch wr w6 (FG F1 gs) (FG F6 gs) → (w6.cell? ⟨b9, 0, none⟩ = some (.slice aL p.lf.length cL) ∧ w6.cell? ⟨b9, 1, none⟩ = some (.slice aF p.fs.length cF) ∧ w6.cell? ⟨b9, 2, none⟩ = some (.int .i64 p.fi)) ∧ (∀ o, w6.frozen? ⟨b9, o, none⟩ = false) ∧ w6.cell? ⟨ra, oa + m, none⟩ = some (.int .i64 x)) := fun w6 F6 hC => by
    obtain ⟨-, e9, -, -, -, -⟩ := hD.kept hC
    have e := e9.trans hD.h9
    have hA6 := (HA2.out.ch (hD.ch.trans hC)).at rfl (k := m) (by rw [← HN.out]; exact hmn)
    obtain ⟨r', o', e', -, hc'⟩ := hA6
    injection e' with e'
    injection e' with e1 e2
    subst e1
    subst e2
    rw [hx]
    exact ⟨⟨cell_of e 0 rfl, cell_of e 1 rfl, cell_of e 2 rfl⟩, fun o => by simp [World.frozen?, e], hc'⟩
   have HFD : Hid (∀ k, FG F1 gs k → k < wr.heap.size) := hD.gn.fd
   have hb9l : b9 < wr.heap.size := (Array.getElem?_eq_some_iff.1 hD.h9).1
   have hb9n : b9 ≠ wr.heap.size := by omega
   have hll : p.lf.length ≤ 20001 := hok.lt
   have HHL : Hid (1 + h.1.length ≤ 50000) := by unfold Hid; omega
   have HTN : Hid (T.1.length = h.1.length + 1) := tn
   obtain ⟨nl, hnl⟩ : ∃ nl, nl = p.lf.length := ⟨_, rfl⟩
   obtain ⟨hn1, hhn⟩ : ∃ nl, nl = h.1.length := ⟨_, rfl⟩
   rw [hfl] at HBH HKE c91
   rw [← hnl] at HBH HKE c90 c91 hll
   have d0 : wr.drew.cell? ⟨b9, 0, none⟩ = some (.slice aL nl cL) := c90
   have d1 : wr.drew.cell? ⟨b9, 1, none⟩ = some (.slice aF nl cF) := c91
   have d2 : wr.drew.cell? ⟨b9, 2, none⟩ = some (.int .i64 p.fi) := c92
   have d3 : wr.drew.cell? ⟨ra, oa + m, none⟩ = some (.int .i64 x) := hca
   have hmI : (m : Int) < (n : Int) := by omega
   have hmI0 : 0 ≤ (m : Int) := by omega
   clear hp hok hWB k1 hx hh hT tl tn to ti hp1 hp2 hpre okx hfl hhl hD HSK HSK2 eI hnl hhn
   go_wp2_with fail
   go_region_with (first | (go_at_call 144; refine (HBH.out _ (by first | exact drew_b _ | exact drewal _ _)).mono ?_; rintro ev w4 ⟨u4, rfl, F4, hW4, hG4, hC4⟩; obtain ⟨⟨f0, f1, f2⟩, -, f3⟩ := HKE.out w4 F4 (by first | exact (Ch.of_below _ (drew_b _)).trans hC4 | exact (Ch.of_below _ (drewal _ _)).trans hC4)) | (go_at_call 106; refine (BW.below (p := h) (x := x) (F1 := F1) (wr := wr) (by first | exact bw1 HFD.out hG4 hC4 hW4 | exact bw2 hG4 hC4 hW4) HHL.out).mono ?_; rintro ev w5 ⟨a5, c5, rfl, hW5, hG5, hC5⟩) | (go_at_call 180; refine (HTA.out _ _ _ hG5 hC5 hW5).mono ?_; rintro ev w6 ⟨u6, rfl, F6, hW6, hG6, hC6⟩; obtain ⟨a6, c6, e6, -, -⟩ := hW6.sl; subst e6; obtain ⟨⟨g0, g1, g2⟩, gf, -⟩ := HKE.out w6 F6 (hC5.trans hC6)))
   all_goals
    have hC6w : Ch wr w6 (FG F1 gs) (FG F6 gs) := hC5.trans hC6
    have HN2 : Hid _ := HNX.out w6 F6 _ _ hC6w hG6 (hW5.ch hC6.more) (hW6.weak (fun k hk => hk.imp id (fun e => Nat.lt_of_lt_of_le e hC5.size)))
    obtain ⟨m2, mr⟩ := HDV.out.mid (y0 := .slice a5 (h.1.length + 1) c5) (y1 := .slice a6 T.1.length c6) (y2 := .int .i64 T.2.1) hC6w
    clear hW4 hG4 hC4 hW5 hG5 hC5 hW6 hG6 hC6 hC6w g0 g1 g2 gf f0 f1 f2 f3 d0 d1 d2 d3
    obtain ⟨w7, hw7⟩ : ∃ w7, w7 = ((w6.setCell ⟨b9, 0, none⟩ (.slice a5 (h.1.length + 1) c5)).setCell ⟨b9, 1, none⟩ (.slice a6 T.1.length c6)).setCell ⟨b9, 2, none⟩ (.int .i64 T.2.1) := ⟨_, rfl⟩
    rw [← hw7] at m2 mr HN2 ⊢
    have m3 := mr.cell hmn
    have m4 := mr.frozen m
    have m5 : ∃ y, LV p.dg m = .int .i64 y := ⟨_, rfl⟩
    obtain ⟨y, hy⟩ := m5
    rw [hy] at m3
    clear hw7 mr hy
    go_wp2_with fail
    exact ⟨⟨k + 1, m, by omega, by go_num, F6, _, _, HN2.out⟩, by first | (simp [intOf]; done) | (simp [intOf]; omega)⟩
  | zero =>
   obtain rfl : k = n := by omega
   rw [← HQ.out] at hD hok
   obtain ⟨aL, cL, eL, -, -⟩ := hD.wl.sl
   obtain ⟨aF, cF, eF, -, -⟩ := hD.wf.sl
   subst eL
   subst eF
   obtain ⟨c90, c91, c92⟩ : wr.cell? ⟨b9, 0, none⟩ = some (.slice aL q.lf.length cL) ∧ wr.cell? ⟨b9, 1, none⟩ = some (.slice aF q.fs.length cF) ∧ wr.cell? ⟨b9, 2, none⟩ = some (.int .i64 q.fi) := ⟨cell_of hD.h9 0 rfl, cell_of hD.h9 1 rfl, cell_of hD.h9 2 rfl⟩
   obtain ⟨c70, c71, c72⟩ : wr.cell? ⟨b7, 0, none⟩ = some (.slice none 0 0) ∧ wr.cell? ⟨b7, 1, none⟩ = some (.slice none 0 0) ∧ wr.cell? ⟨b7, 2, none⟩ = some (.int .i64 0) := ⟨cell_of hD.h7 0 rfl, cell_of hD.h7 1 rfl, cell_of hD.h7 2 rfl⟩
   have hf7 : ∀ o, wr.frozen? ⟨b7, o, none⟩ = false := fun o => by have := hD.h7; simp [World.frozen?, this]
   have HD : Hid _ := hD
   have HLE : Hid (q.dg.length = k) := hok.len
   have eI : (((0 : Nat) : Int) - 1) = -1 := rfl
   rw [eI]
   clear hD hok eI
   go_wp2_with fail
   go_region
   obtain ⟨⟨t0, t1, t2⟩, f1, f2, f3, f4, f5⟩ := HD.out.fin (y0 := .slice aL q.lf.length cL) (y1 := .slice aF q.fs.length cF) (y2 := .int .i64 q.fi) HLE.out h5
   have HF : Hid _ := And.intro (f1.below (drew_b _)) (And.intro (f2.below (drew_b _)) (And.intro (f3.below (drew_b _)) (And.intro HD.out.nl (And.intro (f4.below (drew_b _)) (f5.trans (Ch.of_below _ (drew_b _)))))))
   clear f1 f2 f3 f4 f5
   go_wp2_with fail
   refine bodyPost_ret (ret_step2 Tryz.results143 rfl rfl t0 t1 t2) rfl ?_
   exact ⟨_, _, _, _, _, _, _, rfl, F1, HF.out⟩
end
end Go.Proofs.YtcahhahbcijkiaaGreat.Ag
