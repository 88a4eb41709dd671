import Derived.Test.YtedldoobmmhloaaMg9
import Derived.Test.YtedldoobmmhloaaMg3
import Derived.Deep.QuietTactic
import Derived.BigQuiet
import Derived.Test.YtedldoobmmhloaaMg12
import Derived.Test.YtedldoobmmhloaaY11
import Derived.Test.YtedldoobmmhloaaMg8
import Derived.Deep.Slices
import Derived.ProofKit
import Derived.OpenShut
import Derived.Deep.OwnRows
namespace Go.Proofs.Ytedldoobmmhloaa
set_option maxHeartbeats 12800000
set_option maxRecDepth 100000
open Go.RowKit
set_option linter.unusedSimpArgs false
set_option linter.unusedVariables false
def w64 (x : Int) : Prop := -9223372036854775808 ≤ x ∧ x ≤ 9223372036854775807
theorem wf64 {x : Int} (h : w64 x) : (Lit.int .i64 x).wf = true := by
 unfold w64 at h
 simp only [Lit.wf, IntKind.min, IntKind.max, IntKind.signed, IntKind.bits, Bool.and_eq_true, decide_eq_true_eq, if_true]
 omega
theorem wfu {x : Int} (h0 : 0 ≤ x) (h1 : x < 18446744073709551616) : (Lit.int .u64 x).wf = true := by
 simp only [Lit.wf, IntKind.min, IntKind.max, IntKind.signed, IntKind.bits, Bool.and_eq_true, decide_eq_true_eq]
 simp
 omega
theorem kn_of {n : Nd} (h1 : w64 n.op) (h2 : w64 n.s) (h3 : w64 n.a) (h4 : w64 n.b) (h5 : w64 n.c) (h6 : w64 n.p) (h7 : w64 n.q) (h8 : w64 n.w) (l0 : 0 ≤ n.lo) (l1 : n.lo < 18446744073709551616) (u0 : 0 ≤ n.hi) (u1 : n.hi < 18446744073709551616) (hs : n.nm.size ≤ maxLen) :
  ∃ kl, keyOf Try.prog 43 n.val = some kl := by
 have g1 := wf64 h1
 have g2 := wf64 h2
 have g3 := wf64 h3
 have g4 := wf64 h4
 have g5 := wf64 h5
 have g6 := wf64 h6
 have g7 := wf64 h7
 have g8 := wf64 h8
 have g9 := wfu l0 l1
 have g10 := wfu u0 u1
 have hk : Try.prog.keyType 43 = true := by kernel_rfl
 have hfm : n.val.formed Try.prog 43 = true := by kernel_rfl
 have hc : ∀ t, Try.prog.cellsOf t = Try.prog.cellsOf t := fun _ => rfl
 have e3 : Try.prog.cellsOf 3 = 1 := by kernel_rfl
 have e9 : Try.prog.cellsOf 9 = 1 := by kernel_rfl
 have e32 : Try.prog.cellsOf 23 = 1 := by kernel_rfl
 have e34 : Try.prog.cellsOf 25 = 3 := by kernel_rfl
 have e36 : Try.prog.cellsOf 43 = 11 := by kernel_rfl
 have hz : Try.prog.types.size + 1 = 134 + 1 + 1 + 1 := by kernel_rfl
 have q3 : ∀ (d : Nat) (x : Int), (Lit.int .i64 x).wf = true → Try.prog.keyLits (d + 1) 3 [.int .i64 x] = some [.int .i64 x] := fun d x hx => by
  unfold Program.keyLits; simp only [Try.underlying3]; simp [hx]
 have q32 : ∀ (d : Nat) (x : Int), (Lit.int .u64 x).wf = true → Try.prog.keyLits (d + 1) 23 [.int .u64 x] = some [.int .u64 x] := fun d x hx => by
  unfold Program.keyLits; simp only [Try.underlying23]; simp [hx]
 have q9 : ∀ (d : Nat) (x : ByteArray), x.size ≤ maxLen → Try.prog.keyLits (d + 1) 9 [.string x] = some [.string x.data.toList] := fun d x hx => by
  unfold Program.keyLits; simp only [Try.underlying9]; simp [hx]
 have q34 : ∀ (d : Nat), ∃ L, Try.prog.keyLits (d + 1 + 1) 25 [.int .i64 n.w, .int .u64 n.lo, .int .u64 n.hi] = some L := fun d => by
  unfold Program.keyLits; simp only [Try.underlying25]
  simp [e34, e3, e32, q3 d n.w g8, q32 d n.lo g9, q32 d n.hi g10]
 obtain ⟨L, hL'⟩ := q34 134
 have hL : Try.prog.keyLits 136 25 [.int .i64 n.w, .int .u64 n.lo, .int .u64 n.hi] = some L := hL'
 have hmain : ∃ ls, Try.prog.keyLits (Try.prog.types.size + 1) 43 n.val.cells.toList = some ls := by
  rw [hz]; unfold Program.keyLits; simp only [Try.underlying43]
  simp [Nd.val, Value.cells, e36, e34, e3, e9, q3 _ n.op g1, q3 _ n.s g2, q3 _ n.a g3, q3 _ n.b g4, q3 _ n.c g5, q3 _ n.p g6, q3 _ n.q g7, q9 _ n.nm hs, hL]
 obtain ⟨ls, hls⟩ := hmain
 unfold keyOf
 simp only [Try.underlying43, hk, hfm, Bool.and_self, if_true, hls, Option.map_some]
 exact ⟨_, rfl⟩
open Go.RowKit
open Go.RowKit
theorem Chg.low {w w' : World} {B g mi mv mo : Nat} {v : Value} {ns : List Nd} (hG : Gr w B g mi mv v mo ns) (hB : B ≤ w.heap.size) (hC : Chg w w' g mi mv v) : Below B w w' :=
 ⟨hC.os, hC.tape, hC.output, hC.size, fun k hk => hC.block k (by omega) (by have := hG.bg; omega) (by have := hG.bi; omega) (by have := hG.bv; omega) (fun e => by have := (hG.row.lt k e.symm).1; omega)⟩
open Go.RowKit
theorem sAt_more {ns r : List Nd} {x : Int} (h : hasB ns.length x = true) : sAt (ns ++ r) x = sAt ns x := by
 obtain ⟨i, m, hi, rfl⟩ := has_node h
 have hl : i < ns.length := (List.getElem?_eq_some_iff.1 hi).1
 rw [sAt_of hi, sAt_of (by rw [List.getElem?_append_left hl]; exact hi)]
theorem oss_more {ns r : List Nd} {n : Nd} (hp : prt ns.length n = true) : oss (ns ++ r) n = oss ns n := by
 have h3 := ari_le n.op
 rw [prt_eq rfl] at hp
 simp only [Bool.and_eq_true, decide_eq_true_eq] at hp
 obtain ⟨⟨⟨⟨⟨h0, ha⟩, hb⟩, hc⟩, -⟩, -⟩ := hp
 unfold oss
 have hx : ari n.op = 0 ∨ ari n.op = 1 ∨ ari n.op = 2 ∨ ari n.op = 3 := by omega
 rcases hx with e | e | e | e
 ·rw [e]; rfl
 ·rw [e] at ha ⊢
  have ha' : hasB ns.length n.a = true := by rw [opB, if_pos (by decide)] at ha; exact ha
  show [sAt (ns ++ r) n.a] = [sAt ns n.a]
  rw [sAt_more ha']
 ·rw [e] at ha hb ⊢
  have ha' : hasB ns.length n.a = true := by rw [opB, if_pos (by decide)] at ha; exact ha
  have hb' : hasB ns.length n.b = true := by rw [opB, if_pos (by decide)] at hb; exact hb
  show [sAt (ns ++ r) n.a, sAt (ns ++ r) n.b] = [sAt ns n.a, sAt ns n.b]
  rw [sAt_more ha', sAt_more hb']
 ·rw [e] at ha hb hc ⊢
  have ha' : hasB ns.length n.a = true := by rw [opB, if_pos (by decide)] at ha; exact ha
  have hb' : hasB ns.length n.b = true := by rw [opB, if_pos (by decide)] at hb; exact hb
  have hc' : hasB ns.length n.c = true := by rw [opB, if_pos (by decide)] at hc; exact hc
  show [sAt (ns ++ r) n.a, sAt (ns ++ r) n.b, sAt (ns ++ r) n.c] = [sAt ns n.a, sAt ns n.b, sAt ns n.c]
  rw [sAt_more ha', sAt_more hb', sAt_more hc']
open Go.RowKit
def Ln (w : World) (g o : Nat) (l : List Nd) : Prop := ∀ (j : Nat) (n : Nd), l[j]? = some n → ∀ t u, n.cs[t]? = some u → w.cell? ⟨g, o + j * 11 + t, none⟩ = some u
def litB (l : List Nd) : Bool := decide (l.length ≤ 200) && l.all fun n => decide (n.nm.size ≤ 100)
open Go.RowKit
structure Ok (n : Nd) : Prop where
 fi : Fi n
 op : w64 n.op
 s : w64 n.s
 a : w64 n.a
 b : w64 n.b
 c : w64 n.c
 p : w64 n.p
 q : w64 n.q
 w : w64 n.w
inductive Mkd (mo : Nat) (ns : List Nd) (n : Nd) : Int → Int → List Nd → Prop
 | err {s er : Int} : srtOf ns n = (s, er) → ¬ er = 0 → Mkd mo ns n 0 er ns
 | old {s : Int} {i : Nat} : srtOf ns n = (s, 0) → ns[i]? = some (n.wi s) → Mkd mo ns n ((i : Int) + 1) 0 ns
 | full {s : Int} : srtOf ns n = (s, 0) → n.wi s ∉ ns → ns.length = mo → Mkd mo ns n 0 33 ns
 | new {s : Int} : srtOf ns n = (s, 0) → n.wi s ∉ ns → ns.length < mo → Mkd mo ns n ((ns.length : Int) + 1) 0 (ns ++ [n.wi s])
theorem mkd_any (mo : Nat) (ns : List Nd) (n : Nd) (h : ns.length ≤ mo) : ∃ id er ns', Mkd mo ns n id er ns' := by
 obtain ⟨s, hs⟩ : ∃ s, s = (srtOf ns n).1 := ⟨_, rfl⟩
 obtain ⟨er, he⟩ : ∃ er, er = (srtOf ns n).2 := ⟨_, rfl⟩
 have h0 : srtOf ns n = (s, er) := by rw [hs, he]
 by_cases hz : er = 0
 ·subst hz
  by_cases hm : n.wi s ∈ ns
  ·obtain ⟨i, hi, e⟩ := List.getElem_of_mem hm
   exact ⟨_, _, _, .old h0 (by rw [List.getElem?_eq_getElem hi, e])⟩
  ·by_cases hl : ns.length = mo
   ·exact ⟨_, _, _, .full h0 hm hl⟩
   ·exact ⟨_, _, _, .new h0 hm (by omega)⟩
 ·exact ⟨_, _, _, .err h0 hz⟩
theorem Chg.of {w w' : World} {g mi mv : Nat} {v : Value} (h : Below w.heap.size w w') : Chg w w' g mi mv v := ⟨h.os, h.tape, h.output, h.size, fun k hk _ _ _ _ => h.block k hk⟩
theorem key_of {ns : List Nd} {n : Nd} {s : Int} (hv : Inv ns) (ho : Ok n) (hs : srtOf ns n = (s, 0)) (hno : n.wi s ∉ ns) : ∃ kl, keyOf Try.prog 43 (n.wi s).val = some kl := by
 have h := (inv_snoc hv hs hno).sorts (n.wi s) (by simp)
 have hs' : w64 s := by
  have h1 : 0 ≤ s ∧ s ≤ 128 := h
  unfold w64; omega
 exact kn_of (n := n.wi s) ho.op hs' ho.a ho.b ho.c ho.p ho.q ho.w ho.fi.l0 ho.fi.l1 ho.fi.h0 ho.fi.h1 ho.fi.nm
theorem mk_any {w : World} {B g mi mv mo : Nat} {v : Value} {ns ns' : List Nd} {n : Nd} {id er : Int} (h : Gr w B g mi mv v mo ns) (ho : Ok n) (hM : Mkd mo ns n id er ns') (hBw : B ≤ w.heap.size) :
  Calls Try.prog 14 #[.pointer (some ⟨g, 0, none⟩), .agg #[.int .i64 n.op, .int .i64 n.s, .int .i64 n.a, .int .i64 n.b, .int .i64 n.c, .int .i64 n.p, .int .i64 n.q, .int .i64 n.w, .int .u64 n.lo, .int .u64 n.hi, .string n.nm]] w fun e w' => e = .returned (.tuple #[.int .i64 id, .int .i64 er]) ∧ ∃ v', Gr w' B g mi mv v' mo ns' ∧ Chg w w' g mi mv v ∧ (v'.ownBlock = v.ownBlock ∨ ∃ b, v'.ownBlock = some b ∧ w.heap.size ≤ b) := by
 cases hM with
 | err hs he =>
  refine (mk_err h ho.fi hs he).mono ?_
  rintro e w' ⟨he, hb⟩
  exact ⟨he, v, h.below hb, Chg.of hb, Or.inl rfl⟩
 | old hs hi =>
  refine (mk_old h ho.fi hs hi).mono ?_
  rintro e w' ⟨he, hb⟩
  exact ⟨he, v, h.below hb, Chg.of hb, Or.inl rfl⟩
 | full hs hno hl =>
  obtain ⟨kl, hk⟩ := key_of h.inv ho hs hno
  refine (mk_full h ho.fi hs hno hk hl).mono ?_
  rintro e w' ⟨he, hb⟩
  exact ⟨he, v, h.below hb, Chg.of hb, Or.inl rfl⟩
 | new hs hno hl =>
  obtain ⟨kl, hk⟩ := key_of h.inv ho hs hno
  exact mk_new h ho.fi hs hno hk hl hBw
def Got (ns : List Nd) (n : Nd) (x : Int) : Prop := x = 0 ∨ ∃ (s : Int) (i : Nat), x = (i : Int) + 1 ∧ ns[i]? = some (n.wi s) ∧ srtOf ns n = (s, 0)
def La (w : World) (a : Option Addr) (l : List Nd) : Prop := l = [] ∨ ∃ g o, a = some ⟨g, o, none⟩ ∧ g < w.heap.size ∧ Ln w g o l
end Go.Proofs.Ytedldoobmmhloaa
namespace Go.Proofs.Ytedldoobmmhloaa
set_option maxHeartbeats 12800000
set_option maxRecDepth 100000
set_option linter.unusedSimpArgs false
set_option linter.unusedVariables false
open Go.RowKit Go.ChangeShapes Go.WideShapes Go.Deep
section
variable {H : Type} {enc : TypeId × Value → H} {w : World} {base : Nat} {spare : Nat → Bool} {held : Bool}
instance : Inhabited Nd := ⟨⟨0, 0, 0, 0, 0, 0, 0, 0, 0, 0, ⟨#[]⟩⟩⟩
theorem w64_of {x : Int} (h : (Lit.int .i64 x).wf = true) : w64 x := by have := bounds_i64 h; unfold w64; omega
set_option maxRecDepth 20000 in
theorem node_read {fuel : Nat} {cs : List Value} {x : DataW H × List MemPlace} (h : DataW.trod enc Try.prog w base spare held fuel 43 cs = some x) : ∃ n : Nd, cs = n.cs ∧ Ok n := by
 obtain ⟨xs, k, -, -, hl, hxl, hf⟩ := DataW.trod_struct Try.underlying43 h
 have e3 : Try.prog.cellsOf 3 = 1 := by kernel_rfl
 have e9 : Try.prog.cellsOf 9 = 1 := by kernel_rfl
 have e32 : Try.prog.cellsOf 23 = 1 := by kernel_rfl
 have e34 : Try.prog.cellsOf 25 = 3 := by kernel_rfl
 have e36 : Try.prog.cellsOf 43 = 11 := by kernel_rfl
 rw [e36] at hl
 have hxl9 : xs.length = 9 := hxl
 clear hxl
 match xs, hxl9, cs, hl with
 | [y0, y1, y2, y3, y4, y5, y6, y7, y8], _, [v0, v1, v2, v3, v4, v5, v6, v7, v8, v9, v10], _ =>
  have g0 := hf 0 _ rfl
  have g1 := hf 1 _ rfl
  have g2 := hf 2 _ rfl
  have g3 := hf 3 _ rfl
  have g4 := hf 4 _ rfl
  have g5 := hf 5 _ rfl
  have g6 := hf 6 _ rfl
  have g7 := hf 7 _ rfl
  have g8 := hf 8 _ rfl
  simp [e3, e9, e34] at g0 g1 g2 g3 g4 g5 g6 g7 g8
  obtain ⟨a0, h0, -, w0⟩ := DataW.trod_int Try.underlying3 g0
  obtain ⟨a1, h1, -, w1⟩ := DataW.trod_int Try.underlying3 g1
  obtain ⟨a2, h2, -, w2⟩ := DataW.trod_int Try.underlying3 g2
  obtain ⟨a3, h3, -, w3⟩ := DataW.trod_int Try.underlying3 g3
  obtain ⟨a4, h4, -, w4⟩ := DataW.trod_int Try.underlying3 g4
  obtain ⟨a5, h5, -, w5⟩ := DataW.trod_int Try.underlying3 g5
  obtain ⟨a6, h6, -, w6⟩ := DataW.trod_int Try.underlying3 g6
  obtain ⟨s, h10, -, w10⟩ := DataW.trod_string Try.underlying9 g8
  obtain ⟨zs, k2, -, -, -, hzl, hz⟩ := DataW.trod_struct Try.underlying25 g7
  have hzl3 : zs.length = 3 := hzl
  clear hzl
  match zs, hzl3 with
  | [z0, z1, z2], _ =>
   have k0 := hz 0 _ rfl
   have k1 := hz 1 _ rfl
   have k2 := hz 2 _ rfl
   simp [e3, e32] at k0 k1 k2
   obtain ⟨a7, h7, -, w7⟩ := DataW.trod_int Try.underlying3 k0
   obtain ⟨a8, h8, -, w8⟩ := DataW.trod_int Try.underlying23 k1
   obtain ⟨a9, h9, -, w9⟩ := DataW.trod_int Try.underlying23 k2
   cases h0; cases h1; cases h2; cases h3; cases h4; cases h5; cases h6; cases h7; cases h8; cases h9; cases h10
   have b8 := bounds_u64 w8
   have b9 := bounds_u64 w9
   exact ⟨⟨a0, a1, a2, a3, a4, a5, a6, a7, a8, a9, s⟩, rfl, ⟨b8.1, by show a8 < _; omega, b9.1, by show a9 < _; omega, w10⟩, w64_of w0, w64_of w1, w64_of w2, w64_of w3, w64_of w4, w64_of w5, w64_of w6, w64_of w7⟩
set_option maxRecDepth 20000 in
theorem slice_read {fuel : Nat} {s0 : Option Addr} {len cap : Nat} {x : DataW H × List MemPlace} (h : DataW.trod enc Try.prog w base (fun _ => true) held fuel 37 [.slice s0 len cap] = some x) :
  ∃ l : List Nd, l.length = len ∧ La w s0 l ∧ (∀ n ∈ l, Ok n) ∧ len ≤ maxLen := by
 have e36 : Try.prog.cellsOf 43 = 11 := by kernel_rfl
 rcases open_slice Try.underlying37 h with ⟨h0, -⟩ | ⟨a, len', cap', m, nn, D, Pl, hcs, hb, hl, hm, hmm, -, hx⟩
 ·simp at h0
  obtain ⟨rfl, rfl, rfl⟩ := h0
  exact ⟨[], rfl, Or.inl rfl, (fun n hn => nomatch hn), by decide⟩
 ·simp at hcs
  obtain ⟨rfl, rfl, rfl⟩ := hcs
  simp only [if_true] at hmm
  subst hmm
  have each : ∀ i, i < len → ∃ n : Nd, (∀ t u, n.cs[t]? = some u → w.cell? (a.add (i * 11 + t)) = some u) ∧ Ok n := by
   intro i hi
   obtain ⟨cs', h1, h2⟩ := hx i (by omega)
   obtain ⟨n, rfl, hn⟩ := node_read h2
   rw [e36] at h1
   obtain ⟨_, hlen, hcell⟩ := World.cells?_some h1
   refine ⟨n, fun t u hu => ?_, hn⟩
   have ht : t < 11 := (List.getElem?_eq_some_iff.1 hu).1
   have := hcell t ht
   rw [add_add] at this
   rw [this]; exact hu
  obtain ⟨N, hN⟩ := choose_lt each
  refine ⟨(List.range len).map N, by simp, ?_, ?_, by omega⟩
  ·by_cases h0 : len = 0
   ·left; rw [h0]; rfl
   ·right
    obtain ⟨g, o, sp⟩ := a
    have hsp : sp = none := by
     have := (hN 0 (by omega)).1 0 _ rfl
     cases sp with
     | none => rfl
     | some x => simp [World.cell?, Addr.add] at this; split at this <;> simp at this
    subst hsp
    have ead : ∀ j, (⟨g, o, none⟩ : Addr).add j = ⟨g, o + j, none⟩ := fun j => by by_cases hj0 : j = 0 <;> simp [Addr.add, hj0]
    have hc : Ln w g o ((List.range len).map N) := by
     intro j n hj t u hu
     have hjl : j < len := by have := (List.getElem?_eq_some_iff.1 hj).1; simpa using this
     simp [hjl] at hj
     subst hj
     have := (hN j hjl).1 t u hu
     rw [ead] at this
     rw [Nat.add_assoc]; exact this
    refine ⟨g, o, rfl, ?_, hc⟩
    have := hc 0 (N 0) (by rw [List.getElem?_map, List.getElem?_range (by omega)]; rfl) 0 _ rfl
    exact World.block_lt_of_cell? _ _ this
  ·intro n hn
   obtain ⟨i, hi, rfl⟩ := List.mem_map.1 hn
   exact (hN i (List.mem_range.1 hi)).2
end
open Go.RowKit
theorem Is'.row {w : World} {base : Nat} {v : Value} {l : List Int} (h : Is' w base v l) (hl : l ≠ []) :
  ∃ r cap C f, v = .slice (some ⟨r, 0, none⟩) l.length cap ∧ base ≤ r ∧ l.length ≤ cap ∧ w.rowIs r 3 C f ∧ l.length ≤ C ∧ ∀ x, x < l.length → f x = .int .i64 (l.getD x 0) := by
 rcases h.2 with ⟨rfl, hn⟩ | ⟨r, cap, cur, rfl, hb, hg, hc, _, hs, ht⟩
 ·exact absurd (List.eq_nil_of_length_eq_zero hn) hl
 ·have hcs : l.length ≤ cur.size := by
   have := congrArg List.length ht
   simp at this
   omega
  refine ⟨r, cap, cur.size, fun x => cur[x]?.getD (.bool false), rfl, hb, hc, ⟨cur, hg, rfl, fun i hi => by simp [hi]⟩, hcs, fun x hx => ?_⟩
  have e : (l.map (Value.int .i64))[x]? = some (.int .i64 (l.getD x 0)) := by
   rw [List.getElem?_map, List.getElem?_eq_getElem hx, List.getD_eq_getElem?_getD, List.getElem?_eq_getElem hx]; rfl
  rw [← ht, List.getElem?_take_of_lt (by omega)] at e
  have e' : cur[x]? = some (.int .i64 (l.getD x 0)) := by simpa using e
  show cur[x]?.getD _ = _
  rw [e']; rfl
def rvF (L : List Int) (n k x : Nat) : Int := if x < k ∨ n ≤ x + k then L.getD (n - 1 - x) 0 else L.getD x 0
def rvV (L : List Int) (f : Nat → Value) (n k x : Nat) : Value := if x < n then .int .i64 (rvF L n k x) else f x
theorem rvV_in {L : List Int} {f : Nat → Value} {n k x : Nat} (hx : x < n) (h : ¬ (x < k ∨ n ≤ x + k)) : rvV L f n k x = .int .i64 (L.getD x 0) := by
 unfold rvV rvF; rw [if_pos hx, if_neg h]
theorem rvV_step {L : List Int} {f : Nat → Value} {n k J : Nat} (h : k + J + 1 = n) (hk : k < J) (x : Nat) : rvV L f n (k + 1) x = if x = J then .int .i64 (L.getD k 0) else if x = k then .int .i64 (L.getD J 0) else rvV L f n k x := by
 by_cases h1 : x = J
 ·rw [if_pos h1, h1]
  unfold rvV rvF
  rw [if_pos (by omega), if_pos (by omega), show n - 1 - J = k by omega]
 ·rw [if_neg h1]
  by_cases h2 : x = k
  ·rw [if_pos h2, h2]
   unfold rvV rvF
   rw [if_pos (by omega), if_pos (by omega), show n - 1 - k = J by omega]
  ·rw [if_neg h2]
   unfold rvV rvF
   by_cases h3 : x < n
   ·rw [if_pos h3, if_pos h3]
    by_cases h4 : x < k ∨ n ≤ x + k
    ·rw [if_pos h4, if_pos (by omega)]
    ·rw [if_neg h4, if_neg (by omega)]
   ·rw [if_neg h3, if_neg h3]
theorem rev_any {w : World} {r cap C n : Nat} {f : Nat → Value} {L : List Int} (hL : L.length = n) (h : w.rowIs r 3 C f) (hf : ∀ x, x < n → f x = .int .i64 (L.getD x 0)) (hC : n ≤ C) (hn : n ≤ 5000) (hn0 : 0 < n) :
  Calls Try.prog 50 #[.slice (some ⟨r, 0, none⟩) n cap] w fun e w' => e = .returned (.tuple #[]) ∧ Li w' r 0 L.reverse ∧ Below r w w' := by
 have HL : Hid _ := hL
 have HR : Hid (w.rowIs r 3 C (rvV L f n 0)) := h.congr fun x hx => by
  unfold rvV rvF
  by_cases h1 : x < n
  ·rw [if_pos h1, if_neg (by omega)]; exact hf x h1
  ·rw [if_neg h1]
 clear h hf hL
 have e0 : wrap64 ((n : Int) - 1) = (n : Int) - 1 := by unfold wrap64; omega
 go_enter Try.func50, Try.ntmps50
 go_wp2_with fail
 go_loopw [2, 3] (fun i j wr => ∃ k J : Nat, k + J + 1 = n ∧ i = .int .i64 (k : Int) ∧ j = .int .i64 (J : Int) ∧ k ≤ J + 1 ∧ wr.rowIs r 3 C (rvV L f n k) ∧ Below r w wr) (fun i j wr => n - (intOf i).toNat)
 case atStart => exact ⟨0, n - 1, by omega, rfl, by simp; omega, by omega, HR.out, Below.refl _ _⟩
 case round =>
  clear HR
  obtain ⟨k, J, hs, rfl, rfl, hkJ, hr, hbl⟩ := hrel
  by_cases hlt : k < J
  ·have c1 : wr.cell? ⟨r, k, none⟩ = some (.int .i64 (L.getD k 0)) := by rw [hr.cell (by omega), rvV_in (by omega) (by omega)]
   have c2 : wr.cell? ⟨r, J, none⟩ = some (.int .i64 (L.getD J 0)) := by rw [hr.cell (by omega), rvV_in (by omega) (by omega)]
   have f1 := hr.frozen k
   have f2 := hr.frozen J
   obtain ⟨x, hx⟩ : ∃ x, x = L.getD k 0 := ⟨_, rfl⟩
   obtain ⟨y, hy⟩ : ∃ y, y = L.getD J 0 := ⟨_, rfl⟩
   rw [← hx] at c1
   rw [← hy] at c2
   have HQ : Hid (∀ wz : World, wz.heap[r]? = ((wr.setCell ⟨r, k, none⟩ (.int .i64 y)).setCell ⟨r, J, none⟩ (.int .i64 x)).heap[r]? → wz.rowIs r 3 C (rvV L f n (k + 1))) := fun wz hz => ((hr.set k (.int .i64 y)).set J (.int .i64 x)).congr (fun j _ => by rw [rvV_step hs hlt, hx, hy]) |>.of_block hz
   clear hr hx hy
   have l1 : (k : Int) < (J : Int) := by omega
   have l2 : (k : Int) < (n : Int) := by omega
   have l3 : (J : Int) < (n : Int) := by omega
   have e1 : wrap64 ((k : Int) + 1) = (k : Int) + 1 := by unfold wrap64; omega
   have e2 : wrap64 ((J : Int) - 1) = (J : Int) - 1 := by unfold wrap64; omega
   have nkJ : k ≠ J := by omega
   go_wp2_with fail
   go_region
   all_goals
    go_wp2_with fail
    refine ⟨⟨k + 1, J - 1, by omega, by go_num, by simp; omega, by omega, HQ.out _ ?_, ?_⟩, by simp [intOf]; omega⟩
    ·first | rfl | (trace_state; done)
    ·go_grown
  ·have l1 : ¬ (k : Int) < (J : Int) := by omega
   have HF : Hid (Li wr r 0 L.reverse) := by
    intro j hj
    rw [List.length_reverse, HL.out] at hj
    rw [Nat.zero_add, hr.cell (by omega)]
    unfold rvV rvF
    have e : (L.reverse).getD j 0 = L.getD (n - 1 - j) 0 := by
     rw [List.getD_eq_getElem?_getD, List.getElem?_reverse (by rw [HL.out]; exact hj), HL.out, ← List.getD_eq_getElem?_getD]
    rw [if_pos hj, e]
    by_cases h1 : j < k ∨ n ≤ j + k
    ·rw [if_pos h1]
    ·rw [if_neg h1, show n - 1 - j = j by omega]
   clear hr
   go_wp2_with fail
   go_end0
   exact ⟨rfl, HF.out, hbl⟩
end Go.Proofs.Ytedldoobmmhloaa
