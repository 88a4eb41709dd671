import Derived.Test.YtcahhahbcijkiaaGreatMg45
namespace Go.Proofs.YtcahhahbcijkiaaGreat
open Go.RowKit
set_option linter.unusedSimpArgs false
set_option linter.unusedVariables false
def DB (F : Nat → Prop) (bl mk : Nat) (nv : Value) : Nat → Prop := fun k => F k ∨ k = bl ∨ k = mk ∨ nv.ownBlock = some k
def nmV (ns : List Nd) (ids : List Int) : List Value := ids.map fun i => .string (nAt ns i).nm
structure W0 extends World where
 T : Nat → Prop
structure Bel (w0 : W0) (w : World) : Prop where
 os : w.os = w0.os
 tape : w.tape = w0.tape
 output : w.output = w0.output
 size : w0.heap.size ≤ w.heap.size
 block : ∀ k, k < w0.heap.size → ¬ w0.T k → w.heap[k]? = w0.heap[k]?
theorem Bel.step {w0 : W0} {w w' : World} (h : Bel w0 w) (h1 : w'.os = w.os) (h2 : w'.tape = w.tape) (h3 : w'.output = w.output) (h4 : w.heap.size ≤ w'.heap.size) (h5 : ∀ k, k < w0.heap.size → ¬ w0.T k → w'.heap[k]? = w.heap[k]?) : Bel w0 w' :=
 ⟨h1.trans h.os, h2.trans h.tape, h3.trans h.output, Nat.le_trans h.size h4, fun k a b => (h5 k a b).trans (h.block k a b)⟩
theorem Bel.below {w0 w : World} (h : Bel ⟨w0, fun _ => False⟩ w) : Below w0.heap.size w0 w := ⟨h.os, h.tape, h.output, h.size, fun k a => h.block k a (fun e => e)⟩
theorem Bel.of {w0 : W0} {w : World} (h : Below w0.heap.size w0.toWorld w) : Bel w0 w := ⟨h.os, h.tape, h.output, h.size, fun k a _ => h.block k a⟩
structure Gt (w0 : W0) (B g mi mv : Nat) (v : Value) (mo : Nat) (ns : List Nd) : Prop where
 gr : Gr w0.toWorld B g mi mv v mo ns
 ng : ¬ w0.T g
 ni : ¬ w0.T mi
 nv : ¬ w0.T mv
 nr : ∀ k, v.ownBlock = some k → ¬ w0.T k
theorem Gt.of {w0 : World} {B g mi mv mo : Nat} {v : Value} {ns : List Nd} (h : Gr w0 B g mi mv v mo ns) : Gt ⟨w0, fun _ => False⟩ B g mi mv v mo ns := ⟨h, id, id, id, fun _ _ => id⟩
theorem Gt.at {w0 : W0} {w : World} {B g mi mv mo : Nat} {v : Value} {ns : List Nd} (h : Gt w0 B g mi mv v mo ns) (hb : Bel w0 w) : Gr w B g mi mv v mo ns :=
 ⟨(hb.block g h.gr.lt h.ng).trans h.gr.hd, Ag.row_own h.gr.row (fun k e => hb.block k (h.gr.row.lt k e).2 (h.nr k e)), h.gr.ids.kept (hb.block mi h.gr.ids.lt h.ni), h.gr.vars.kept (hb.block mv h.gr.vars.lt h.nv), h.gr.bg, h.gr.bi, h.gr.bv, h.gr.ne, h.gr.most, h.gr.room, h.gr.inv⟩
structure Bh (ns : List Nd) (w0 : W0) (w : World) (F : Nat → Prop) (bl g tg mk : Nat) (nv : Value) (f : Int → Option (List Int)) (ids : List Int) : Prop where
 hd : w.heap[bl]? = some (.cells #[.pointer (some ⟨tg, 0, none⟩), .pointer (some ⟨g, 0, none⟩), .map (some mk), nv] 78 (0, 0))
 kw : Ag.Kw w (DB F bl mk nv) mk f
 ss : Ss w w0.heap.size nv (nmV ns ids)
 nbl : ¬ F bl
 nmk : ¬ F mk
 nrw : ∀ q, nv.ownBlock = some q → ¬ F q
 bd : ∀ k, F k → k < w.heap.size
 low : ∀ k, F k → w0.T k ∨ w0.heap.size ≤ k
 lbl : w0.heap.size ≤ bl
 lmk : w0.heap.size ≤ mk
 bw : Bel w0 w
section
variable {ns : List Nd} {w0 : W0} {w w' : World} {F F' : Nat → Prop} {bl g tg mk : Nat} {nv : Value} {f : Int → Option (List Int)} {ids : List Int}
theorem nmV_len (ns : List Nd) (ids : List Int) : (nmV ns ids).length = ids.length := by unfold nmV; rw [List.length_map]
theorem Bh.lt (h : Bh ns w0 w F bl g tg mk nv f ids) : bl < w.heap.size := (Array.getElem?_eq_some_iff.1 h.hd).1
theorem Bh.row (h : Bh ns w0 w F bl g tg mk nv f ids) : w.ownsRow w0.heap.size 9 1 nv (nmV ns ids).length (nmV ns ids) := h.ss.row
theorem Bh.bdD (h : Bh ns w0 w F bl g tg mk nv f ids) : ∀ k, DB F bl mk nv k → k < w.heap.size := fun k hk => by
 rcases hk with r | r | r | r
 ·exact h.bd k r
 ·rw [r]; exact h.lt
 ·rw [r]; exact h.kw.lt
 ·exact (h.row.lt k r).2
theorem Bh.lowD (h : Bh ns w0 w F bl g tg mk nv f ids) : ∀ k, DB F bl mk nv k → w0.T k ∨ w0.heap.size ≤ k := fun k hk => by
 rcases hk with r | r | r | r
 ·exact h.low k r
 ·rw [r]; exact Or.inr h.lbl
 ·rw [r]; exact Or.inr h.lmk
 ·exact Or.inr (h.row.lt k r).1
theorem Bh.nrb (h : Bh ns w0 w F bl g tg mk nv f ids) : nv.ownBlock ≠ some bl := fun e => by
 rcases h.row.2 with ⟨e1, -⟩ | ⟨q, cap, cur, e1, hb, hg, -⟩
 ·rw [e1] at e; cases e
 ·rw [e1] at e
  have e2 : q = bl := by simpa [Value.ownBlock] using e
  rw [e2, h.hd] at hg
  injection hg with hg
  injection hg with h1 h2
  revert h2; decide
theorem Bh.nrm (h : Bh ns w0 w F bl g tg mk nv f ids) : nv.ownBlock ≠ some mk := fun e => by
 rcases h.row.2 with ⟨e1, -⟩ | ⟨q, cap, cur, e1, hb, hg, -⟩
 ·rw [e1] at e; cases e
 ·rw [e1] at e
  have e2 : q = mk := by simpa [Value.ownBlock] using e
  obtain ⟨E, ⟨es, cl, h1, -⟩, -⟩ := h.kw.ex
  rw [e2, h1] at hg
  cases hg
theorem Bh.nbm (h : Bh ns w0 w F bl g tg mk nv f ids) : bl ≠ mk := fun e => by
 obtain ⟨E, ⟨es, cl, h1, -⟩, -⟩ := h.kw.ex
 rw [← e, h.hd] at h1
 cases h1
theorem Bh.word (h : Bh ns w0 w F bl g tg mk nv f ids) {u : Value} {L : List Int} (hu : Ag.Wd w F u L) : Ag.Wd w (DB F bl mk nv) u L := by
 obtain ⟨a, c, e, h1, h2, h3, h4⟩ := hu.ex
 refine ⟨a, c, e, h1, h2, h3, ?_⟩
 by_cases hL : L = []
 ·exact Or.inl hL
 ·obtain ⟨r, o, q1, q2, q3, q4⟩ := h4.resolve_left hL
  refine Or.inr ⟨r, o, q1, q2, fun hd => ?_, q4⟩
  have hc := q4 0 (List.length_pos_iff.2 hL)
  rcases hd with d | d | d | d
  ·exact q3 d
  ·rw [d] at hc
   simp only [World.cell?, h.hd] at hc
   match o, hc with
   | 0, hc => simp at hc
   | 1, hc => simp at hc
   | 2, hc => simp at hc
   | 3, hc =>
    simp at hc
    obtain ⟨a2, n2, k2, e2⟩ : ∃ a2 n2 k2, nv = .slice a2 n2 k2 := by
     rcases h.row.2 with ⟨e1, -⟩ | ⟨q, cap, cur, e1, -⟩
     ·exact ⟨none, 0, 0, e1⟩
     ·exact ⟨_, _, _, e1⟩
    rw [e2] at hc
    cases hc
   | o + 4, hc => simp at hc
  ·rw [d, h.kw.nocell] at hc; cases hc
  ·rcases h.row.2 with ⟨e1, -⟩ | ⟨q, cap, cur, e1, hb, hg, -⟩
   ·rw [e1] at d; cases d
   ·have d2 := d
    rw [e1] at d2
    have e2 : q = r := by simpa [Value.ownBlock] using d2
    subst e2
    have hall := h.ss.all q cur d hg
    simp only [World.cell?, hg] at hc
    obtain ⟨s, hs⟩ := hall _ (Array.mem_toList_iff.2 (Array.mem_of_getElem? (by simpa using hc)))
    cases hs
theorem chD (hC : Ag.Ch w w' F F') (hB : ∀ k, (k = bl ∨ k = mk ∨ nv.ownBlock = some k) → k < w.heap.size) : Ag.Ch w w' (DB F bl mk nv) (DB F' bl mk nv) := by
 refine ⟨hC.os, hC.tape, hC.output, hC.size, fun k hk hn => hC.block k hk (fun e => hn (Or.inl e)), fun k hk => ?_⟩
 rcases hk with r | r
 ·rcases hC.foot k r with q | q
  ·exact Or.inl (Or.inl q)
  ·exact Or.inr q
 ·exact Or.inl (Or.inr r)
theorem foot_not {k : Nat} (hC : Ag.Ch w w' F F') (hk : k < w.heap.size) (hn : ¬ F k) : ¬ F' k := fun e => by
 rcases hC.foot k e with q | q
 ·exact hn q
 ·omega
theorem Bh.ch (h : Bh ns w0 w F bl g tg mk nv f ids) (hC : Ag.Ch w w' F F') : Bh ns w0 w' F' bl g tg mk nv f ids := by
 have hrow : ∀ q, nv.ownBlock = some q → w'.heap[q]? = w.heap[q]? := fun q e => hC.block q (h.row.lt q e).2 (h.nrw q e)
 have hD : Ag.Ch w w' (DB F bl mk nv) (DB F' bl mk nv) := chD hC (fun k e => h.bdD k (Or.inr e))
 refine ⟨(hC.block bl h.lt h.nbl).trans h.hd, h.kw.kept (hC.block mk h.kw.lt h.nmk) (fun u L hu => hu.ch hD), h.ss.kept hrow, foot_not hC h.lt h.nbl, foot_not hC h.kw.lt h.nmk, fun q e => foot_not hC (h.row.lt q e).2 (h.nrw q e), Ag.bd_ch h.bd hC, fun k hk => ?_, h.lbl, h.lmk, ?_⟩
 ·rcases hC.foot k hk with q | q
  ·exact h.low k q
  ·exact Or.inr (by have := h.bw.size; omega)
 ·exact h.bw.step hC.os hC.tape hC.output hC.size (fun k hk hn => hC.block k (by have := h.bw.size; omega) (fun e => by rcases h.low k e with q | q; exact hn q; omega))
theorem Bh.below (h : Bh ns w0 w F bl g tg mk nv f ids) (hb : Below w.heap.size w w') : Bh ns w0 w' F bl g tg mk nv f ids := h.ch (Ag.Ch.of_below F hb)
theorem Bh.put (h : Bh ns w0 w F bl g tg mk nv f ids) {k : Int} (hk : w64 k) (hf : f k = none) {u : Value} {L : List Int} (hu : Ag.Wd w F u L) :
  ∃ w', (Instr.mapUpdate 76 (.map (some mk)) (.int .i64 k) u).run Tryz.prog w = .ok () w' ∧ Bh ns w0 w' F bl g tg mk nv (Ag.upK f k L) ids ∧ w.grownBy w' (some mk) ∧ w'.heap.size = w.heap.size := by
 obtain ⟨w', h1, h2, h3, h4⟩ := h.kw.put hk hf (h.word hu)
 have hbm := h.nbm
 have hrm := h.nrm
 have kp : ∀ k, k < w.heap.size → k ≠ mk → w'.heap[k]? = w.heap[k]? := fun k hk hn => h3.block k hk (fun e => hn (Option.some.inj e))
 refine ⟨w', h1, ⟨(kp bl h.lt hbm).trans h.hd, h2, h.ss.kept (fun q e => kp q (h.row.lt q e).2 (fun e2 => hrm (by rw [← e2]; exact e))), h.nbl, h.nmk, h.nrw, fun k hk => by rw [h4]; exact h.bd k hk, h.low, h.lbl, h.lmk, ?_⟩, h3, h4⟩
 exact h.bw.step h3.os h3.tape h3.output h3.size (fun k hk hn => kp k (by have := h.bw.size; omega) (fun e => by have := h.lmk; omega))
theorem Bh.name {w2 : World} {o : Obj} {v' : Value} {id : Int} (h : Bh ns w0 w F bl g tg mk nv f ids) (hg : (w.alloc o).grownBy w2 nv.ownBlock) (hs : Ss w2 w0.heap.size v' (nmV ns ids ++ [.string (nAt ns id).nm])) (hat : v'.ownBlock = nv.ownBlock ∨ v'.ownBlock = some (w.alloc o).heap.size) :
  Bh ns w0 (w2.setCell ⟨bl, 3, none⟩ v') F bl g tg mk v' f (ids ++ [id]) ∧ Ag.Ch w (w2.setCell ⟨bl, 3, none⟩ v') (DB F bl mk nv) (DB F bl mk v') := by
 have hz2 := hg.size
 rw [size_alloc'] at hz2 hat
 have hrb := h.nrb
 have kp : ∀ k, k < w.heap.size → nv.ownBlock ≠ some k → w2.heap[k]? = w.heap[k]? := fun k h1 h2 => (hg.block k (by rw [size_alloc']; omega) (fun e => h2 e.symm)).trans (heap_alloc_old _ _ h1)
 have hd2 : w2.heap[bl]? = some (.cells #[.pointer (some ⟨tg, 0, none⟩), .pointer (some ⟨g, 0, none⟩), .map (some mk), nv] 78 (0, 0)) := (kp bl h.lt hrb).trans h.hd
 have hvb : v'.ownBlock ≠ some bl := fun e => by
  rcases hat with q | q
  ·exact hrb (by rw [← q]; exact e)
  ·rw [q] at e; have := h.lt; injection e with e; omega
 have hvm : v'.ownBlock ≠ some mk := fun e => by
  rcases hat with q | q
  ·exact h.nrm (by rw [← q]; exact e)
  ·rw [q] at e; have := h.kw.lt; injection e with e; omega
 have ks : ∀ k, k ≠ bl → (w2.setCell ⟨bl, 3, none⟩ v').heap[k]? = w2.heap[k]? := fun k hk => heap_setCell_other _ _ _ _ hk
 have hsz : (w2.setCell ⟨bl, 3, none⟩ v').heap.size = w2.heap.size := World.size_setCell _ _ _
 have hC : Ag.Ch w (w2.setCell ⟨bl, 3, none⟩ v') (DB F bl mk nv) (DB F bl mk v') := by
  refine ⟨hg.os, hg.tape, hg.output, by rw [hsz]; omega, fun k hk hn => ?_, fun k hk => ?_⟩
  ·rw [ks k (fun e => hn (Or.inr (Or.inl e)))]
   exact kp k hk (fun e => hn (Or.inr (Or.inr (Or.inr e))))
  ·rcases hk with r | r | r | r
   ·exact Or.inl (Or.inl r)
   ·exact Or.inl (Or.inr (Or.inl r))
   ·exact Or.inl (Or.inr (Or.inr (Or.inl r)))
   ·rcases hat with q | q
    ·exact Or.inl (Or.inr (Or.inr (Or.inr (by rw [← q]; exact r))))
    ·have hl := (hs.row.lt k r).2
     rw [q] at r
     injection r with r
     exact Or.inr ⟨by omega, by rw [hsz]; exact hl⟩
 refine ⟨⟨by rw [heap_setCell_same _ _ _ _ _ _ hd2]; rfl, h.kw.kept ?_ (fun u L hu => hu.ch hC), ?_, h.nbl, h.nmk, fun q e => ?_, fun k hk => by rw [hsz]; have := h.bd k hk; omega, h.low, h.lbl, h.lmk, ?_⟩, hC⟩
 ·rw [ks mk (fun e => h.nbm e.symm)]
  exact kp mk h.kw.lt h.nrm
 ·have : nmV ns (ids ++ [id]) = nmV ns ids ++ [.string (nAt ns id).nm] := by unfold nmV; rw [List.map_append]; rfl
  rw [this]
  exact hs.kept (fun q e => ks q (fun e2 => hvb (by rw [← e2]; exact e)))
 ·rcases hat with q2 | q2
  ·exact h.nrw q (by rw [← q2]; exact e)
  ·rw [q2] at e
   injection e with e
   intro hF
   have := h.bd q hF
   omega
 ·exact h.bw.step hC.os hC.tape hC.output hC.size (fun k hk hn => hC.block k (by have := h.bw.size; omega) (fun e => by rcases h.lowD k e with q | q; exact hn q; omega))
end
open Go.RowKit
open Ag (updB updG updB_ne updB_eq updG_eq)
structure Sa (x0 x : World) : Prop where
 heap : x.heap = x0.heap
 os : x.os = x0.os
 tape : x.tape = x0.tape
 output : x.output = x0.output
theorem wp_append_run {P : Program} (w : World) {o : Oper} {a : Act} {K : Act → World → Prop} {Q : Exit → Act → World → Prop} (s x : Operand) (t : TypeId)
  (ho : o.op = .call { callee := .builtin .append, args := #[s, x], argTypes := #[t, t] }) {v u v' : Value} {w' : World} (hs : a.eval s = v) (hx : a.eval x = u)
  (hr : (Builtin.append_ #[t, t] o.type #[v, u]).run P w = .ok v' w') (h : K (a.put o.dst v') w') : o.wp P a w K Q := by
 unfold Oper.wp execOp
 simp only [ho, resolve, invoke, builtin, Sem.run_bind, Sem.run_pure, Result.andThen_ok, List.map_toArray, List.map_cons, List.map_nil, hs, hx, hr]
 exact h
structure BT (x0 : World) (B : Nat) (nv : Value) (xs : List Value) (s : ByteArray) (bl N : Nat) (g : Nat → Nat) (L : Nat → Bool) (x : World) : Prop where
 d1 : L 8 = true → L 4 = true ∧ L 7 = true
 d3 : L 11 = true → L 8 = true
 e0 : L 7 = false → Sa x0 x
 e1 : L 7 = true → L 8 = false → g 7 = x0.heap.size ∧ ∃ y, Sa x0 y ∧ x = y.alloc (.cells #[.string s] 9)
 e2 : L 8 = true → L 11 = false → ∃ y o, Sa x0 y ∧ (y.alloc o).grownBy x nv.ownBlock ∧ Ss x B (sl N (g 8)) (xs ++ [.string s]) ∧ ((sl N (g 8)).ownBlock = nv.ownBlock ∨ (sl N (g 8)).ownBlock = some (y.alloc o).heap.size)
 e3 : L 11 = true → ∃ y o z, Sa x0 y ∧ (y.alloc o).grownBy z nv.ownBlock ∧ Ss z B (sl N (g 8)) (xs ++ [.string s]) ∧ ((sl N (g 8)).ownBlock = nv.ownBlock ∨ (sl N (g 8)).ownBlock = some (y.alloc o).heap.size) ∧ x = z.setCell ⟨bl, 3, none⟩ (sl N (g 8))
section
variable {x0 : World} {B : Nat} {nv : Value} {xs : List Value} {s : ByteArray} {bl N : Nat} {g : Nat → Nat} {L : Nat → Bool} {x y : World} {i : Nat}
theorem BT.start (hx : Sa x0 x) : BT x0 B nv xs s bl N g (fun _ => false) x := ⟨(fun e => by cases e), (fun e => by cases e), (fun _ => hx), (fun e => by cases e), (fun e => by cases e), (fun e => by cases e)⟩
theorem BT.go (h : BT x0 B nv xs s bl N g L x) (hi : (i != 7 && i != 8 && i != 11) = true) : BT x0 B nv xs s bl N g (updB L i) x := by
 simp only [Bool.and_eq_true, bne_iff_ne, ne_eq] at hi
 have u1 := updB_ne (L := L) (i := i) (k := 7) (by omega)
 have u2 := updB_ne (L := L) (i := i) (k := 8) (by omega)
 have u3 := updB_ne (L := L) (i := i) (k := 11) (by omega)
 refine ⟨?_, by rw [u2, u3]; exact h.d3, by rw [u1]; exact h.e0, by rw [u1, u2]; exact h.e1, by rw [u2, u3]; exact h.e2, by rw [u3]; exact h.e3⟩
 rw [u1, u2]
 intro e
 refine ⟨?_, (h.d1 e).2⟩
 by_cases hl : i = 4
 ·rw [hl]; exact updB_eq
 ·rw [updB_ne (by omega)]; exact (h.d1 e).1
theorem BT.no8 (h : BT x0 B nv xs s bl N g L x) (h8 : L 8 = false) : L 11 = false := by
 cases e : L 11
 ·rfl
 ·rw [h.d3 e] at h8; cases h8
theorem BT.off4 (h : BT x0 B nv xs s bl N g L x) (h4 : L 4 = false) : L 8 = false := by
 cases e : L 8
 ·rfl
 ·rw [(h.d1 e).1] at h4; cases h4
theorem BT.cell (h : BT x0 B nv xs s bl N g L x) (h8 : L 8 = false) {b o : Nat} {u : Value} (hc : x0.cell? ⟨b, o, none⟩ = some u) : x.cell? ⟨b, o, none⟩ = some u := by
 have hl := World.block_lt_of_cell? _ _ hc
 cases e : L 7
 ·have := h.e0 e
  unfold World.cell? at hc ⊢
  rw [this.heap]; exact hc
 ·obtain ⟨-, y, hy, rfl⟩ := h.e1 e h8
  have : (y.alloc (.cells #[.string s] 9)).heap[b]? = x0.heap[b]? := (heap_alloc_old y _ (by rw [hy.heap]; exact hl)).trans (by rw [hy.heap])
  exact (World.cell?_of_block (a := ⟨b, o, none⟩) this).trans hc
theorem BT.built (h : BT x0 B nv xs s bl N g L x) (h7 : L 7 = false) : BT x0 B nv xs s bl N (updG g 7 x.heap.size) (updB L 7) (x.alloc (.cells #[.string s] 9)) := by
 have u2 := updB_ne (L := L) (i := 7) (k := 8) (by omega)
 have u3 := updB_ne (L := L) (i := 7) (k := 11) (by omega)
 have hs := h.e0 h7
 have h8 : L 8 = false := by
  cases e : L 8
  ·rfl
  ·rw [(h.d1 e).2] at h7; cases h7
 have h11 := h.no8 h8
 refine ⟨(by rw [u2, h8]; intro e; cases e), (by rw [u3, h11]; intro e; cases e), (by rw [updB_eq]; intro e; cases e), ?_, (by rw [u2, h8]; intro e; cases e), (by rw [u3, h11]; intro e; cases e)⟩
 intro _ _
 exact ⟨by rw [updG_eq, hs.heap], x, hs, rfl⟩
theorem BT.app (h : BT x0 B nv xs s bl N g L x) (h4 : L 4 = true) (h7 : L 7 = true) (h8 : L 8 = false) {p : Nat} (hg : x.grownBy y nv.ownBlock) (hS : Ss y B (sl N p) (xs ++ [.string s])) (hat : (sl N p).ownBlock = nv.ownBlock ∨ (sl N p).ownBlock = some x.heap.size) : BT x0 B nv xs s bl N (updG g 8 p) (updB L 8) y := by
 have u1 := updB_ne (L := L) (i := 8) (k := 7) (by omega)
 have u0 := updB_ne (L := L) (i := 8) (k := 4) (by omega)
 have u3 := updB_ne (L := L) (i := 8) (k := 11) (by omega)
 have h11 := h.no8 h8
 obtain ⟨-, z, hz, rfl⟩ := h.e1 h7 h8
 refine ⟨fun _ => by rw [u0, u1]; exact ⟨h4, h7⟩, (by rw [u3, h11]; intro e; cases e), (by rw [u1, h7]; intro e; cases e), (by rw [updB_eq]; intro _ e; cases e), ?_, (by rw [u3, h11]; intro e; cases e)⟩
 intro _ _
 rw [updG_eq]
 exact ⟨z, _, hz, hg, hS, hat⟩
theorem BT.stored (h : BT x0 B nv xs s bl N g L x) (h8 : L 8 = true) (h11 : L 11 = false) : BT x0 B nv xs s bl N g (updB L 11) (x.setCell ⟨bl, 3, none⟩ (sl N (g 8))) := by
 have u0 := updB_ne (L := L) (i := 11) (k := 4) (by omega)
 have u1 := updB_ne (L := L) (i := 11) (k := 7) (by omega)
 have u2 := updB_ne (L := L) (i := 11) (k := 8) (by omega)
 obtain ⟨y, o, hy, hg, hS, hat⟩ := h.e2 h8 h11
 refine ⟨by rw [u0, u1, u2]; exact h.d1, fun _ => by rw [u2]; exact h8, ?_, ?_, ?_, fun _ => ⟨y, o, x, hy, hg, hS, hat, rfl⟩⟩
 ·rw [u1, (h.d1 h8).2]; intro e; cases e
 ·rw [u2, h8]; intro _ e; cases e
 ·rw [updB_eq]; intro _ e; cases e
end
end Go.Proofs.YtcahhahbcijkiaaGreat
