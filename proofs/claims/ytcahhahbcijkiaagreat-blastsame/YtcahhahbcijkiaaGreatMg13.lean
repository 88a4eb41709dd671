import Derived.Test.YtcahhahbcijkiaaGreatMg7
import Derived.Test.YtcahhahbcijkiaaGreatMg2
import Derived.Deep.QuietTactic
import Derived.BigQuiet
import Derived.Test.YtcahhahbcijkiaaGreatMg9
import Derived.Test.YtcahhahbcijkiaaGreatY11
import Derived.Test.YtcahhahbcijkiaaGreatMg6
import Derived.Deep.Slices
import Derived.ProofKit
import Derived.OpenShut
import Derived.Test.YtcahhahbcijkiaaGreatProg
import Derived.Test.YtcahhahbcijkiaaGreatAb
import Derived.WalkKit
import Derived.Handy
import Derived.WalkLawsBesides
import Derived.Maps.Keyed
import Derived.Maps.OwnOps
import Derived.Maps.AppendAt
import Derived.DeepKeys3
import Derived.Deep.OwnRows
import Derived.BigRegion
import Derived.Test.YtcahhahbcijkiaaGreatMg10
namespace Go.Proofs.YtcahhahbcijkiaaGreat
set_option maxHeartbeats 12800000
set_option maxRecDepth 100000
open Go.RowKit
set_option linter.unusedSimpArgs false
set_option linter.unusedVariables false
def w64 (x : Int) : Prop := -9223372036854775808 ≤ x ∧ x ≤ 9223372036854775807
theorem wf64 {x : Int} (h : w64 x) : (Lit.int .i64 x).wf = true := by
 unfold w64 at h
 simp only [Lit.wf, IntKind.min, IntKind.max, IntKind.signed, IntKind.bits, Bool.and_eq_true, decide_eq_true_eq, if_true]
 omega
theorem wfu {x : Int} (h0 : 0 ≤ x) (h1 : x < 18446744073709551616) : (Lit.int .u64 x).wf = true := by
 simp only [Lit.wf, IntKind.min, IntKind.max, IntKind.signed, IntKind.bits, Bool.and_eq_true, decide_eq_true_eq]
 simp
 omega
theorem kn_of {n : Nd} (h1 : w64 n.op) (h2 : w64 n.s) (h3 : w64 n.a) (h4 : w64 n.b) (h5 : w64 n.c) (h6 : w64 n.p) (h7 : w64 n.q) (h8 : w64 n.w) (l0 : 0 ≤ n.lo) (l1 : n.lo < 18446744073709551616) (u0 : 0 ≤ n.hi) (u1 : n.hi < 18446744073709551616) (hs : n.nm.size ≤ maxLen) :
  ∃ kl, keyOf Tryz.prog 50 n.val = some kl := by
 have g1 := wf64 h1
 have g2 := wf64 h2
 have g3 := wf64 h3
 have g4 := wf64 h4
 have g5 := wf64 h5
 have g6 := wf64 h6
 have g7 := wf64 h7
 have g8 := wf64 h8
 have g9 := wfu l0 l1
 have g10 := wfu u0 u1
 have hk : Tryz.prog.keyType 50 = true := by kernel_rfl
 have hfm : n.val.formed Tryz.prog 50 = true := by kernel_rfl
 have hc : ∀ t, Tryz.prog.cellsOf t = Tryz.prog.cellsOf t := fun _ => rfl
 have e3 : Tryz.prog.cellsOf 3 = 1 := by kernel_rfl
 have e9 : Tryz.prog.cellsOf 9 = 1 := by kernel_rfl
 have e32 : Tryz.prog.cellsOf 46 = 1 := by kernel_rfl
 have e34 : Tryz.prog.cellsOf 48 = 3 := by kernel_rfl
 have e36 : Tryz.prog.cellsOf 50 = 11 := by kernel_rfl
 have hz : Tryz.prog.types.size + 1 = 213 + 1 + 1 + 1 := by kernel_rfl
 have q3 : ∀ (d : Nat) (x : Int), (Lit.int .i64 x).wf = true → Tryz.prog.keyLits (d + 1) 3 [.int .i64 x] = some [.int .i64 x] := fun d x hx => by
  unfold Program.keyLits; simp only [Tryz.underlying3]; simp [hx]
 have q32 : ∀ (d : Nat) (x : Int), (Lit.int .u64 x).wf = true → Tryz.prog.keyLits (d + 1) 46 [.int .u64 x] = some [.int .u64 x] := fun d x hx => by
  unfold Program.keyLits; simp only [Tryz.underlying46]; simp [hx]
 have q9 : ∀ (d : Nat) (x : ByteArray), x.size ≤ maxLen → Tryz.prog.keyLits (d + 1) 9 [.string x] = some [.string x.data.toList] := fun d x hx => by
  unfold Program.keyLits; simp only [Tryz.underlying9]; simp [hx]
 have q34 : ∀ (d : Nat), ∃ L, Tryz.prog.keyLits (d + 1 + 1) 48 [.int .i64 n.w, .int .u64 n.lo, .int .u64 n.hi] = some L := fun d => by
  unfold Program.keyLits; simp only [Tryz.underlying48]
  simp [e34, e3, e32, q3 d n.w g8, q32 d n.lo g9, q32 d n.hi g10]
 obtain ⟨L, hL'⟩ := q34 213
 have hL : Tryz.prog.keyLits 215 48 [.int .i64 n.w, .int .u64 n.lo, .int .u64 n.hi] = some L := hL'
 have hmain : ∃ ls, Tryz.prog.keyLits (Tryz.prog.types.size + 1) 50 n.val.cells.toList = some ls := by
  rw [hz]; unfold Program.keyLits; simp only [Tryz.underlying50]
  simp [Nd.val, Value.cells, e36, e34, e3, e9, q3 _ n.op g1, q3 _ n.s g2, q3 _ n.a g3, q3 _ n.b g4, q3 _ n.c g5, q3 _ n.p g6, q3 _ n.q g7, q9 _ n.nm hs, hL]
 obtain ⟨ls, hls⟩ := hmain
 unfold keyOf
 simp only [Tryz.underlying50, hk, hfm, Bool.and_self, if_true, hls, Option.map_some]
 exact ⟨_, rfl⟩
open Go.RowKit
theorem ints_any {w : World} {g o c g' o' c' : Nat} {l m : List Int} (h : Li w g o l) (h' : Li w g' o' m) (hl : l.length ≤ 100000) (hm : m.length ≤ 100000) :
  Rt 19 #[.slice (some ⟨g, o, none⟩) l.length c, .slice (some ⟨g', o', none⟩) m.length c'] w (.bool (decide (l = m))) := by
 have HC : Hid _ := h
 have HD : Hid _ := h'
 obtain ⟨n, hn⟩ : ∃ n, n = l.length := ⟨_, rfl⟩
 obtain ⟨n', hn'⟩ : ∃ n', n' = m.length := ⟨_, rfl⟩
 obtain ⟨r, hr⟩ : ∃ r, r = decide (l = m) := ⟨_, rfl⟩
 rw [← hn] at hl ⊢
 rw [← hn'] at hm ⊢
 rw [← hr]
 have HR : Hid _ := hr
 have HN : Hid _ := hn
 have HN' : Hid _ := hn'
 clear h h' hr hn hn'
 by_cases hne : (n : Int) = n'
 ·obtain rfl : n = n' := by omega
  have z1 : ((n : Int) == n) = true := by simp
  have y1 : ((n : Int) != n) = false := by simp
  clear hne
  go_enter Tryz.func19, Tryz.ntmps19
  go_wp2_with fail
  go_loopw [5] (fun i wr => ∃ k : Nat, k ≤ n ∧ i = .int .i64 (k : Int) ∧ (∀ j, j < k → l.getD j 0 = m.getD j 0) ∧ Below w.heap.size w wr) (fun i wr => n - (intOf i).toNat)
  case atStart => exact ⟨0, Nat.zero_le _, rfl, (fun j hj => by omega), Below.refl _ _⟩
  case round =>
   obtain ⟨k, hk, rfl, hz, hbl⟩ := hrel
   have HZ : Hid _ := hz
   clear hz
   by_cases hlt : k < n
   ·obtain ⟨s, hs⟩ : ∃ s, s = l.getD k 0 := ⟨_, rfl⟩
    obtain ⟨s', hs'⟩ : ∃ s', s' = m.getD k 0 := ⟨_, rfl⟩
    have q1 := HC.out k (by rw [← HN.out]; exact hlt)
    have q2 := HD.out k (by rw [← HN'.out]; exact hlt)
    have hck : wr.cell? ⟨g, o + k, none⟩ = some (.int .i64 s) := by rw [hs, hbl.cell (p := ⟨g, o + k, none⟩) (World.block_lt_of_cell? _ _ q1)]; exact q1
    have hcm : wr.cell? ⟨g', o' + k, none⟩ = some (.int .i64 s') := by rw [hs', hbl.cell (p := ⟨g', o' + k, none⟩) (World.block_lt_of_cell? _ _ q2)]; exact q2
    clear q1 q2
    by_cases e : s = s'
    ·have HB : Hid (l.getD k 0 = m.getD k 0) := by unfold Hid; rw [← hs, ← hs', e]
     subst e
     have y2 : (s != s) = false := by simp
     clear hs hs'
     go_wp2_with fail
     go_region_held3 (fun x => x.cell? ⟨g, o + k, none⟩ = some (.int .i64 s) ∧ x.cell? ⟨g', o' + k, none⟩ = some (.int .i64 s))
      ((refine ⟨?_, ?_⟩ <;> simp [go_sem, hck, hcm]))
      (fail)
     go_wp2_with fail
     refine ⟨⟨k + 1, by omega, by go_num, fun j hj => ?_, hbl.drew⟩, by simp [intOf]; omega⟩
     by_cases e : j = k
     ·subst e; exact HB.out
     ·exact HZ.out j (by omega)
    ·have HB : Hid (¬ l.getD k 0 = m.getD k 0) := by unfold Hid; rw [← hs, ← hs']; exact e
     have hne : (s == s') = false := by simp [e]
     have hne2 : (s != s') = true := by simp [e]
     clear hs hs'
     go_wp2_with fail
     go_region_held3 (fun x => x.cell? ⟨g, o + k, none⟩ = some (.int .i64 s) ∧ x.cell? ⟨g', o' + k, none⟩ = some (.int .i64 s'))
      ((refine ⟨?_, ?_⟩ <;> simp [go_sem, hck, hcm]))
      (fail)
     go_wp2_with fail
     go_ret
     exact ⟨by rw [HR.out, show decide (l = m) = false by simp; intro q; exact HB.out (by rw [q])]; rfl, hbl.drew⟩
   ·obtain rfl : k = n := by omega
    have HT : Hid (r = true) := by
     unfold Hid
     rw [HR.out, decide_eq_true_eq]
     refine List.ext_getElem (by rw [← HN.out, ← HN'.out]) fun j h1 h2 => ?_
     have := HZ.out j (by rw [HN.out]; exact h1)
     rwa [List.getD_eq_getElem?_getD, List.getD_eq_getElem?_getD, List.getElem?_eq_getElem h1, List.getElem?_eq_getElem h2] at this
    go_wp2_with fail
    go_ret
    exact ⟨by rw [HT.out]; rfl, hbl⟩
 ·have z1 : ((n : Int) == n') = false := by simp [hne]
  have y1 : ((n : Int) != n') = true := by simp [hne]
  go_enter Tryz.func19, Tryz.ntmps19
  go_wp2_with fail
  go_ret
  exact ⟨by rw [HR.out]; simp; intro e; exact hne (by rw [HN.out, HN'.out, e]), Below.refl _ _⟩
open Go.RowKit
theorem Chg.low {w w' : World} {B g mi mv mo : Nat} {v : Value} {ns : List Nd} (hG : Gr w B g mi mv v mo ns) (hB : B ≤ w.heap.size) (hC : Chg w w' g mi mv v) : Below B w w' :=
 ⟨hC.os, hC.tape, hC.output, hC.size, fun k hk => hC.block k (by omega) (by have := hG.bg; omega) (by have := hG.bi; omega) (by have := hG.bv; omega) (fun e => by have := (hG.row.lt k e.symm).1; omega)⟩
open Go.RowKit
open Go.RowKit
def Ln (w : World) (g o : Nat) (l : List Nd) : Prop := ∀ (j : Nat) (n : Nd), l[j]? = some n → ∀ t u, n.cs[t]? = some u → w.cell? ⟨g, o + j * 11 + t, none⟩ = some u
def litB (l : List Nd) : Bool := decide (l.length ≤ 200) && l.all fun n => decide (n.nm.size ≤ 100)
open Go.RowKit
structure Ok (n : Nd) : Prop where
 fi : Fi n
 op : w64 n.op
 s : w64 n.s
 a : w64 n.a
 b : w64 n.b
 c : w64 n.c
 p : w64 n.p
 q : w64 n.q
 w : w64 n.w
inductive Mkd (mo : Nat) (ns : List Nd) (n : Nd) : Int → Int → List Nd → Prop
 | err {s er : Int} : srtOf ns n = (s, er) → ¬ er = 0 → Mkd mo ns n 0 er ns
 | old {s : Int} {i : Nat} : srtOf ns n = (s, 0) → ns[i]? = some (n.wi s) → Mkd mo ns n ((i : Int) + 1) 0 ns
 | full {s : Int} : srtOf ns n = (s, 0) → n.wi s ∉ ns → ns.length = mo → Mkd mo ns n 0 33 ns
 | new {s : Int} : srtOf ns n = (s, 0) → n.wi s ∉ ns → ns.length < mo → Mkd mo ns n ((ns.length : Int) + 1) 0 (ns ++ [n.wi s])
theorem mkd_any (mo : Nat) (ns : List Nd) (n : Nd) (h : ns.length ≤ mo) : ∃ id er ns', Mkd mo ns n id er ns' := by
 obtain ⟨s, hs⟩ : ∃ s, s = (srtOf ns n).1 := ⟨_, rfl⟩
 obtain ⟨er, he⟩ : ∃ er, er = (srtOf ns n).2 := ⟨_, rfl⟩
 have h0 : srtOf ns n = (s, er) := by rw [hs, he]
 by_cases hz : er = 0
 ·subst hz
  by_cases hm : n.wi s ∈ ns
  ·obtain ⟨i, hi, e⟩ := List.getElem_of_mem hm
   exact ⟨_, _, _, .old h0 (by rw [List.getElem?_eq_getElem hi, e])⟩
  ·by_cases hl : ns.length = mo
   ·exact ⟨_, _, _, .full h0 hm hl⟩
   ·exact ⟨_, _, _, .new h0 hm (by omega)⟩
 ·exact ⟨_, _, _, .err h0 hz⟩
theorem Chg.of {w w' : World} {g mi mv : Nat} {v : Value} (h : Below w.heap.size w w') : Chg w w' g mi mv v := ⟨h.os, h.tape, h.output, h.size, fun k hk _ _ _ _ => h.block k hk⟩
theorem key_of {ns : List Nd} {n : Nd} {s : Int} (hv : Inv ns) (ho : Ok n) (hs : srtOf ns n = (s, 0)) (hno : n.wi s ∉ ns) : ∃ kl, keyOf Tryz.prog 50 (n.wi s).val = some kl := by
 have h := (inv_snoc hv hs hno).sorts (n.wi s) (by simp)
 have hs' : w64 s := by
  have h1 : 0 ≤ s ∧ s ≤ 128 := h
  unfold w64; omega
 exact kn_of (n := n.wi s) ho.op hs' ho.a ho.b ho.c ho.p ho.q ho.w ho.fi.l0 ho.fi.l1 ho.fi.h0 ho.fi.h1 ho.fi.nm
theorem mk_any {w : World} {B g mi mv mo : Nat} {v : Value} {ns ns' : List Nd} {n : Nd} {id er : Int} (h : Gr w B g mi mv v mo ns) (ho : Ok n) (hM : Mkd mo ns n id er ns') (hBw : B ≤ w.heap.size) :
  Calls Tryz.prog 25 #[.pointer (some ⟨g, 0, none⟩), .agg #[.int .i64 n.op, .int .i64 n.s, .int .i64 n.a, .int .i64 n.b, .int .i64 n.c, .int .i64 n.p, .int .i64 n.q, .int .i64 n.w, .int .u64 n.lo, .int .u64 n.hi, .string n.nm]] w fun e w' => e = .returned (.tuple #[.int .i64 id, .int .i64 er]) ∧ ∃ v', Gr w' B g mi mv v' mo ns' ∧ Chg w w' g mi mv v ∧ (v'.ownBlock = v.ownBlock ∨ ∃ b, v'.ownBlock = some b ∧ w.heap.size ≤ b) := by
 cases hM with
 | err hs he =>
  refine (mk_err h ho.fi hs he).mono ?_
  rintro e w' ⟨he, hb⟩
  exact ⟨he, v, h.below hb, Chg.of hb, Or.inl rfl⟩
 | old hs hi =>
  refine (mk_old h ho.fi hs hi).mono ?_
  rintro e w' ⟨he, hb⟩
  exact ⟨he, v, h.below hb, Chg.of hb, Or.inl rfl⟩
 | full hs hno hl =>
  obtain ⟨kl, hk⟩ := key_of h.inv ho hs hno
  refine (mk_full h ho.fi hs hno hk hl).mono ?_
  rintro e w' ⟨he, hb⟩
  exact ⟨he, v, h.below hb, Chg.of hb, Or.inl rfl⟩
 | new hs hno hl =>
  obtain ⟨kl, hk⟩ := key_of h.inv ho hs hno
  exact mk_new h ho.fi hs hno hk hl hBw
def Got (ns : List Nd) (n : Nd) (x : Int) : Prop := x = 0 ∨ ∃ (s : Int) (i : Nat), x = (i : Int) + 1 ∧ ns[i]? = some (n.wi s) ∧ srtOf ns n = (s, 0)
def La (w : World) (a : Option Addr) (l : List Nd) : Prop := l = [] ∨ ∃ g o, a = some ⟨g, o, none⟩ ∧ g < w.heap.size ∧ Ln w g o l
end Go.Proofs.YtcahhahbcijkiaaGreat
namespace Go.Proofs.YtcahhahbcijkiaaGreat
set_option maxHeartbeats 12800000
set_option maxRecDepth 100000
set_option linter.unusedSimpArgs false
set_option linter.unusedVariables false
open Go.RowKit Go.ChangeShapes Go.WideShapes Go.Deep
section
variable {H : Type} {enc : TypeId × Value → H} {w : World} {base : Nat} {spare : Nat → Bool} {held : Bool}
instance : Inhabited Nd := ⟨⟨0, 0, 0, 0, 0, 0, 0, 0, 0, 0, ⟨#[]⟩⟩⟩
theorem w64_of {x : Int} (h : (Lit.int .i64 x).wf = true) : w64 x := by have := bounds_i64 h; unfold w64; omega
set_option maxRecDepth 20000 in
theorem node_read {fuel : Nat} {cs : List Value} {x : DataW H × List MemPlace} (h : DataW.trod enc Tryz.prog w base spare held fuel 50 cs = some x) : ∃ n : Nd, cs = n.cs ∧ Ok n := by
 obtain ⟨xs, k, -, -, hl, hxl, hf⟩ := DataW.trod_struct Tryz.underlying50 h
 have e3 : Tryz.prog.cellsOf 3 = 1 := by kernel_rfl
 have e9 : Tryz.prog.cellsOf 9 = 1 := by kernel_rfl
 have e32 : Tryz.prog.cellsOf 46 = 1 := by kernel_rfl
 have e34 : Tryz.prog.cellsOf 48 = 3 := by kernel_rfl
 have e36 : Tryz.prog.cellsOf 50 = 11 := by kernel_rfl
 rw [e36] at hl
 have hxl9 : xs.length = 9 := hxl
 clear hxl
 match xs, hxl9, cs, hl with
 | [y0, y1, y2, y3, y4, y5, y6, y7, y8], _, [v0, v1, v2, v3, v4, v5, v6, v7, v8, v9, v10], _ =>
  have g0 := hf 0 _ rfl
  have g1 := hf 1 _ rfl
  have g2 := hf 2 _ rfl
  have g3 := hf 3 _ rfl
  have g4 := hf 4 _ rfl
  have g5 := hf 5 _ rfl
  have g6 := hf 6 _ rfl
  have g7 := hf 7 _ rfl
  have g8 := hf 8 _ rfl
  simp [e3, e9, e34] at g0 g1 g2 g3 g4 g5 g6 g7 g8
  obtain ⟨a0, h0, -, w0⟩ := DataW.trod_int Tryz.underlying3 g0
  obtain ⟨a1, h1, -, w1⟩ := DataW.trod_int Tryz.underlying3 g1
  obtain ⟨a2, h2, -, w2⟩ := DataW.trod_int Tryz.underlying3 g2
  obtain ⟨a3, h3, -, w3⟩ := DataW.trod_int Tryz.underlying3 g3
  obtain ⟨a4, h4, -, w4⟩ := DataW.trod_int Tryz.underlying3 g4
  obtain ⟨a5, h5, -, w5⟩ := DataW.trod_int Tryz.underlying3 g5
  obtain ⟨a6, h6, -, w6⟩ := DataW.trod_int Tryz.underlying3 g6
  obtain ⟨s, h10, -, w10⟩ := DataW.trod_string Tryz.underlying9 g8
  obtain ⟨zs, k2, -, -, -, hzl, hz⟩ := DataW.trod_struct Tryz.underlying48 g7
  have hzl3 : zs.length = 3 := hzl
  clear hzl
  match zs, hzl3 with
  | [z0, z1, z2], _ =>
   have k0 := hz 0 _ rfl
   have k1 := hz 1 _ rfl
   have k2 := hz 2 _ rfl
   simp [e3, e32] at k0 k1 k2
   obtain ⟨a7, h7, -, w7⟩ := DataW.trod_int Tryz.underlying3 k0
   obtain ⟨a8, h8, -, w8⟩ := DataW.trod_int Tryz.underlying46 k1
   obtain ⟨a9, h9, -, w9⟩ := DataW.trod_int Tryz.underlying46 k2
   cases h0; cases h1; cases h2; cases h3; cases h4; cases h5; cases h6; cases h7; cases h8; cases h9; cases h10
   have b8 := bounds_u64 w8
   have b9 := bounds_u64 w9
   exact ⟨⟨a0, a1, a2, a3, a4, a5, a6, a7, a8, a9, s⟩, rfl, ⟨b8.1, by show a8 < _; omega, b9.1, by show a9 < _; omega, w10⟩, w64_of w0, w64_of w1, w64_of w2, w64_of w3, w64_of w4, w64_of w5, w64_of w6, w64_of w7⟩
set_option maxRecDepth 20000 in
theorem slice_read {fuel : Nat} {s0 : Option Addr} {len cap : Nat} {x : DataW H × List MemPlace} (h : DataW.trod enc Tryz.prog w base (fun _ => true) held fuel 22 [.slice s0 len cap] = some x) :
  ∃ l : List Nd, l.length = len ∧ La w s0 l ∧ (∀ n ∈ l, Ok n) ∧ len ≤ maxLen := by
 have e36 : Tryz.prog.cellsOf 50 = 11 := by kernel_rfl
 rcases open_slice Tryz.underlying22 h with ⟨h0, -⟩ | ⟨a, len', cap', m, nn, D, Pl, hcs, hb, hl, hm, hmm, -, hx⟩
 ·simp at h0
  obtain ⟨rfl, rfl, rfl⟩ := h0
  exact ⟨[], rfl, Or.inl rfl, (fun n hn => nomatch hn), by decide⟩
 ·simp at hcs
  obtain ⟨rfl, rfl, rfl⟩ := hcs
  simp only [if_true] at hmm
  subst hmm
  have each : ∀ i, i < len → ∃ n : Nd, (∀ t u, n.cs[t]? = some u → w.cell? (a.add (i * 11 + t)) = some u) ∧ Ok n := by
   intro i hi
   obtain ⟨cs', h1, h2⟩ := hx i (by omega)
   obtain ⟨n, rfl, hn⟩ := node_read h2
   rw [e36] at h1
   obtain ⟨_, hlen, hcell⟩ := World.cells?_some h1
   refine ⟨n, fun t u hu => ?_, hn⟩
   have ht : t < 11 := (List.getElem?_eq_some_iff.1 hu).1
   have := hcell t ht
   rw [add_add] at this
   rw [this]; exact hu
  obtain ⟨N, hN⟩ := choose_lt each
  refine ⟨(List.range len).map N, by simp, ?_, ?_, by omega⟩
  ·by_cases h0 : len = 0
   ·left; rw [h0]; rfl
   ·right
    obtain ⟨g, o, sp⟩ := a
    have hsp : sp = none := by
     have := (hN 0 (by omega)).1 0 _ rfl
     cases sp with
     | none => rfl
     | some x => simp [World.cell?, Addr.add] at this; split at this <;> simp at this
    subst hsp
    have ead : ∀ j, (⟨g, o, none⟩ : Addr).add j = ⟨g, o + j, none⟩ := fun j => by by_cases hj0 : j = 0 <;> simp [Addr.add, hj0]
    have hc : Ln w g o ((List.range len).map N) := by
     intro j n hj t u hu
     have hjl : j < len := by have := (List.getElem?_eq_some_iff.1 hj).1; simpa using this
     simp [hjl] at hj
     subst hj
     have := (hN j hjl).1 t u hu
     rw [ead] at this
     rw [Nat.add_assoc]; exact this
    refine ⟨g, o, rfl, ?_, hc⟩
    have := hc 0 (N 0) (by rw [List.getElem?_map, List.getElem?_range (by omega)]; rfl) 0 _ rfl
    exact World.block_lt_of_cell? _ _ this
  ·intro n hn
   obtain ⟨i, hi, rfl⟩ := List.mem_map.1 hn
   exact (hN i (List.mem_range.1 hi)).2
end
end Go.Proofs.YtcahhahbcijkiaaGreat
namespace Go.Proofs.YtcahhahbcijkiaaGreat
set_option maxHeartbeats 12800000
set_option maxRecDepth 100000
set_option linter.unusedSimpArgs false
set_option linter.unusedVariables false
open Go.RowKit Go.ChangeShapes Go.WideShapes Go.Deep
section
variable {H : Type} {enc : TypeId × Value → H} {w : World} {base : Nat} {held : Bool}
set_option maxRecDepth 20000 in
theorem slice_readI {fuel : Nat} {s0 : Option Addr} {len cap : Nat} {x : DataW H × List MemPlace} (h : DataW.trod enc Tryz.prog w base (fun _ => true) held fuel 34 [.slice s0 len cap] = some x) :
  ∃ l : List Int, l.length = len ∧ (l = [] ∨ ∃ r o, s0 = some ⟨r, o, none⟩ ∧ Li w r o l) ∧ len ≤ maxLen := by
 have e4 : Tryz.prog.cellsOf 3 = 1 := by kernel_rfl
 rcases open_slice1 Tryz.underlying34 e4 h with ⟨h0, -⟩ | ⟨a, len', cap', m, nn, V, D, Pl, hcs, hb, hl, hm, hmm, hxx, hx⟩
 ·simp at h0
  obtain ⟨rfl, rfl, rfl⟩ := h0
  exact ⟨[], rfl, Or.inl rfl, by decide⟩
 ·simp at hcs
  obtain ⟨rfl, rfl, rfl⟩ := hcs
  simp only [if_true] at hmm
  subst hmm
  have each : ∀ i, i < len → ∃ n : Int, w.cell? (a.add i) = some (.int .i64 n) := by
   intro i hi
   obtain ⟨h1, h2⟩ := hx i (by omega)
   obtain ⟨n, h3, -, -⟩ := DataW.trod_int Tryz.underlying3 h2
   simp at h3
   rw [h3] at h1
   exact ⟨n, h1⟩
  obtain ⟨N, hN⟩ := choose_lt each
  refine ⟨(List.range len).map N, by simp, ?_, by omega⟩
  by_cases h0 : len = 0
  ·left; rw [h0]; rfl
  ·right
   obtain ⟨g, o, sp⟩ := a
   have hsp : sp = none := by
    have := hN 0 (by omega)
    cases sp with
    | none => rfl
    | some x => simp [World.cell?, Addr.add] at this; split at this <;> simp at this
   subst hsp
   have ead : ∀ j, (⟨g, o, none⟩ : Addr).add j = ⟨g, o + j, none⟩ := fun j => by by_cases hj0 : j = 0 <;> simp [Addr.add, hj0]
   refine ⟨g, o, rfl, fun j hj => ?_⟩
   have hj' : j < len := by simpa using hj
   have := hN j hj'
   rw [ead] at this
   rw [this, List.getD_eq_getElem?_getD, List.getElem?_map, List.getElem?_range hj']
   rfl
end
end Go.Proofs.YtcahhahbcijkiaaGreat
namespace Go.Proofs.YtcahhahbcijkiaaGreat.Ag
set_option maxHeartbeats 12800000
set_option maxRecDepth 100000
set_option linter.unusedSimpArgs false
set_option linter.unusedVariables false
open Go.RowKit
def Mp (w : World) (k : TypeId) (b : Nat) (L : List (Value × Value)) : Prop :=
 ∃ es cl, w.heap[b]? = some (.map es cl) ∧ es.toList.map (fun e => (e.key, e.val)) = L ∧ ∀ p ∈ L, ∃ l, keyOf Tryz.prog k p.1 = some l
theorem Mp.keys {w : World} {k : TypeId} {b : Nat} {L : List (Value × Value)} (h : Mp w k b L) : ∀ p ∈ L, ∃ l, keyOf Tryz.prog k p.1 = some l := by
 obtain ⟨_, _, _, _, h⟩ := h
 exact h
theorem Mp.kept {w w' : World} {k : TypeId} {b : Nat} {L : List (Value × Value)} (h : Mp w k b L) (hb : w'.heap[b]? = w.heap[b]?) : Mp w' k b L := by
 obtain ⟨es, cl, h1, h2⟩ := h
 exact ⟨es, cl, hb.trans h1, h2⟩
theorem Mp.lt {w : World} {k : TypeId} {b : Nat} {L : List (Value × Value)} (h : Mp w k b L) : b < w.heap.size := by
 obtain ⟨es, cl, h1, h2⟩ := h
 exact (Array.getElem?_eq_some_iff.1 h1).1
theorem Mp.made (w : World) (k : TypeId) : Mp (w.alloc (.map #[] 0)) k w.heap.size [] := ⟨#[], 0, heap_alloc_new w _, rfl, fun p hp => nomatch hp⟩
theorem Mp.look {w : World} {k e t : TypeId} {b : Nat} {L : List (Value × Value)} (h : Mp w k b L) (K : WideMaps.KeyLaw Tryz.prog k) (ht : Tryz.prog.underlying t = some (.map k e)) {z : Value} (hz : (zeroValue e).run Tryz.prog w = .ok z w)
  {key : Value} {kl : Lit} (hkey : keyOf Tryz.prog k key = some kl) :
  ((Instr.lookup t (.map (some b)) key true).run Tryz.prog w = .ok (.tuple #[z, .bool false]) w ∧ ∀ p ∈ L, p.1 ≠ key) ∨
  ∃ p, p ∈ L ∧ p.1 = key ∧ (Instr.lookup t (.map (some b)) key true).run Tryz.prog w = .ok (.tuple #[p.2, .bool true]) w := by
 obtain ⟨es, cl, hb, rfl, hk⟩ := h
 have hes : ∀ x ∈ es.toList, ∃ l, keyOf Tryz.prog k x.key = some l := fun x hx => hk (x.key, x.val) (List.mem_map.2 ⟨x, hx, rfl⟩)
 rcases K.find w hkey es.toList hes with ⟨h1, h2⟩ | ⟨j, e0, h1, h2, h3⟩
 ·refine Or.inl ⟨by simp [Instr.lookup, run_underlying ht, MapKept.run_getObj_map hb, K.check w _ hkey, h1, hz, Result.andThen], fun p hp => ?_⟩
  obtain ⟨x, hx, rfl⟩ := List.mem_map.1 hp
  exact h2 x hx
 ·exact Or.inr ⟨(e0.key, e0.val), List.mem_map.2 ⟨e0, List.mem_of_getElem? h2, rfl⟩, h3, by simp [Instr.lookup, run_underlying ht, MapKept.run_getObj_map hb, K.check w _ hkey, h1, Result.andThen]⟩
theorem Mp.store {w : World} {k e t : TypeId} {b : Nat} {L : List (Value × Value)} (h : Mp w k b L) (K : WideMaps.KeyLaw Tryz.prog k) (ht : Tryz.prog.underlying t = some (.map k e))
  {key val : Value} {kl : Lit} (hkey : keyOf Tryz.prog k key = some kl) (hno : ∀ p ∈ L, p.1 ≠ key) :
  ∃ w', (Instr.mapUpdate t (.map (some b)) key val).run Tryz.prog w = .ok () w' ∧ Mp w' k b (L ++ [(key, val)]) ∧ w.grownBy w' (some b) ∧ w'.heap.size = w.heap.size := by
 obtain ⟨es, cl, hb, rfl, hk⟩ := h
 have hes : ∀ x ∈ es.toList, ∃ l, keyOf Tryz.prog k x.key = some l := fun x hx => hk (x.key, x.val) (List.mem_map.2 ⟨x, hx, rfl⟩)
 have hlt : b < w.heap.size := (Array.getElem?_eq_some_iff.1 hb).1
 rcases K.find w hkey es.toList hes with ⟨h1, h2⟩ | ⟨j, e0, h1, h2, h3⟩
 ·refine ⟨ChangeMaps.setBlock w b (.map (es.push ⟨key, val, cl⟩) (cl + 1)), by simp [Instr.mapUpdate, run_underlying ht, MapKept.run_getObj_map hb, K.check w false hkey, h1, MapKept.run_setObj_map _ hb, Result.andThen, ChangeMaps.setBlock], ⟨es.push ⟨key, val, cl⟩, cl + 1, by simp [ChangeMaps.setBlock, hlt], by simp, ?_⟩, ⟨rfl, rfl, rfl, by simp [ChangeMaps.setBlock], fun i _ hi => ?_⟩, by simp [ChangeMaps.setBlock]⟩
  ·intro p hp
   rcases List.mem_append.1 hp with hp | hp
   ·exact hk p hp
   ·obtain rfl := List.mem_singleton.1 hp
    exact ⟨_, hkey⟩
  ·have : b ≠ i := fun e => hi (by rw [e])
   simp [ChangeMaps.setBlock, this]
 ·exact absurd h3 (hno (e0.key, e0.val) (List.mem_map.2 ⟨e0, List.mem_of_getElem? h2, rfl⟩))
theorem Mp.no {w : World} {k e t : TypeId} {b : Nat} {L : List (Value × Value)} (h : Mp w k b L) (K : WideMaps.KeyLaw Tryz.prog k) (ht : Tryz.prog.underlying t = some (.map k e)) {z : Value} (hz : (zeroValue e).run Tryz.prog w = .ok z w)
  {key : Value} {kl : Lit} (hkey : keyOf Tryz.prog k key = some kl) (hn : ∀ p ∈ L, p.1 ≠ key) : (Instr.lookup t (.map (some b)) key true).run Tryz.prog w = .ok (.tuple #[z, .bool false]) w := by
 rcases h.look K ht hz hkey with ⟨hr, _⟩ | ⟨p, hp, he, _⟩
 ·exact hr
 ·exact absurd he (hn p hp)
theorem Mp.yes {w : World} {k e t : TypeId} {b : Nat} {L : List (Value × Value)} (h : Mp w k b L) (K : WideMaps.KeyLaw Tryz.prog k) (ht : Tryz.prog.underlying t = some (.map k e)) {z : Value} (hz : (zeroValue e).run Tryz.prog w = .ok z w)
  {key x : Value} {kl : Lit} (hkey : keyOf Tryz.prog k key = some kl) (hin : (key, x) ∈ L) (hu : ∀ p ∈ L, p.1 = key → p.2 = x) : (Instr.lookup t (.map (some b)) key true).run Tryz.prog w = .ok (.tuple #[x, .bool true]) w := by
 rcases h.look K ht hz hkey with ⟨_, hn⟩ | ⟨p, hp, he, hr⟩
 ·exact absurd rfl (hn _ hin)
 ·rw [hr, hu p hp he]
theorem bel_cell {w x : World} {g j : Nat} {v : Value} (hb : Below w.heap.size w x) (hg : g < w.heap.size) (h : w.cell? ⟨g, j, none⟩ = some v) : x.cell? ⟨g, j, none⟩ = some v := by
 rw [hb.cell (p := ⟨g, j, none⟩) hg]; exact h
theorem cell_of {w : World} {g : Nat} {cs : Array Value} {t : TypeId} {f : Nat × Nat} (h : w.heap[g]? = some (.cells cs t f)) (j : Nat) {v : Value} (hv : cs[j]? = some v) : w.cell? ⟨g, j, none⟩ = some v := by
 simp [World.cell?, h, hv]
theorem row_kept {w w' : World} {B : Nat} {e : TypeId} {sz : Nat} {v : Value} {n : Nat} {xs : List Value} (h : w.ownsRow B e sz v n xs) (hk : ∀ k, k < w.heap.size → w'.heap[k]? = w.heap[k]?) : w'.ownsRow B e sz v n xs := by
 refine ⟨h.1, ?_⟩
 rcases h.2 with hn | ⟨g, cap, cur, rfl, hb, hgg, rest⟩
 ·exact .inl hn
 ·exact .inr ⟨g, cap, cur, rfl, hb, by rw [hk g (Array.getElem?_eq_some_iff.1 hgg).1]; exact hgg, rest⟩
theorem row_own {w w' : World} {B : Nat} {e : TypeId} {sz : Nat} {v : Value} {n : Nat} {xs : List Value} (h : w.ownsRow B e sz v n xs) (hk : ∀ k, v.ownBlock = some k → w'.heap[k]? = w.heap[k]?) : w'.ownsRow B e sz v n xs := by
 refine ⟨h.1, ?_⟩
 rcases h.2 with hn | ⟨g, cap, cur, rfl, hb, hgg, rest⟩
 ·exact .inl hn
 ·exact .inr ⟨g, cap, cur, rfl, hb, by rw [hk g rfl]; exact hgg, rest⟩
theorem row_sets {x y : World} {b : Nat} {e : TypeId} {sz : Nat} {v : Value} {n : Nat} {xs : List Value} (h : x.ownsRow b e sz v n xs) (hk : ∀ q, b ≤ q → q < x.heap.size → y.heap[q]? = x.heap[q]?) : y.ownsRow b e sz v n xs := by
 refine ⟨h.1, ?_⟩
 rcases h.2 with hn | ⟨g, cap, cur, rfl, hb, hgg, rest⟩
 ·exact .inl hn
 ·exact .inr ⟨g, cap, cur, rfl, hb, by rw [hk g hb (Array.getElem?_eq_some_iff.1 hgg).1]; exact hgg, rest⟩
theorem own_mono {w : World} {b b' : Nat} {e : TypeId} {sz : Nat} {v : Value} {n : Nat} {xs : List Value} (h : w.ownsRow b e sz v n xs) (hb : b' ≤ b) : w.ownsRow b' e sz v n xs := by
 refine ⟨h.1, ?_⟩
 rcases h.2 with hn | ⟨g, cap, cur, rfl, h1, rest⟩
 ·exact .inl hn
 ·exact .inr ⟨g, cap, cur, rfl, Nat.le_trans hb h1, rest⟩
def Li (w : World) (g o : Nat) (l : List Int) : Prop := ∀ j, j < l.length → w.cell? ⟨g, o + j, none⟩ = some (.int .i64 (l.getD j 0))
def Is' (w : World) (base : Nat) (v : Value) (l : List Int) : Prop := w.ownsRow base 3 1 v l.length (l.map (Value.int .i64))
theorem Is'.li {w : World} {base : Nat} {v : Value} {l : List Int} (h : Is' w base v l) (hl : l ≠ []) : ∃ r cap, v = .slice (some ⟨r, 0, none⟩) l.length cap ∧ base ≤ r ∧ l.length ≤ cap ∧ Li w r 0 l := by
 rcases h.2 with ⟨rfl, hn⟩ | ⟨r, cap, cur, rfl, hb, hg, hc, _, hs, ht⟩
 ·exact absurd (List.eq_nil_of_length_eq_zero hn) hl
 ·refine ⟨r, cap, rfl, hb, hc, fun j hj => ?_⟩
  have e : (l.map (Value.int .i64))[j]? = some (.int .i64 (l.getD j 0)) := by
   rw [List.getElem?_map, List.getElem?_eq_getElem hj, List.getD_eq_getElem?_getD, List.getElem?_eq_getElem hj]; rfl
  rw [← ht, List.getElem?_take_of_lt (by omega)] at e
  rw [Nat.zero_add]
  exact cell_of hg _ (by simpa using e)
theorem ones (l : List Int) : ∀ u ∈ l.map (Value.int .i64), u.oneCell' = true := by
 intro u hu
 obtain ⟨x, _, rfl⟩ := List.mem_map.1 hu
 rfl
theorem low_grown {B : Nat} {w wr w1 : World} {o : Obj} {row : Option Nat} (h : Below B w wr) (hB : B ≤ wr.heap.size) (hg : (wr.alloc o).grownBy w1 row) (hr : ∀ q, row = some q → B ≤ q) : Below B w w1 :=
 ⟨hg.os.trans h.os, hg.tape.trans h.tape, hg.output.trans h.output, Nat.le_trans h.size (Nat.le_trans (by simp) hg.size), fun q hq => (hg.block q (by simp; omega) (fun e => by have := hr q e.symm; omega)).trans ((heap_alloc_old wr o (by omega)).trans (h.block q hq))⟩
theorem cell_grown {B : Nat} {wr w1 : World} {o : Obj} {row : Option Nat} {a : Addr} {v : Value} (hg : (wr.alloc o).grownBy w1 row) (hr : ∀ q, row = some q → B ≤ q) (ha : a.block < B) (h : wr.cell? a = some v) : w1.cell? a = some v :=
 hg.cell ((World.cell?_of_block (heap_alloc_old wr o (World.block_lt_of_cell? wr a h))).trans h) (fun e => by have := hr _ e.symm; omega)
theorem size_alloc' (w : World) (o : Obj) : (w.alloc o).heap.size = w.heap.size + 1 := by simp
theorem info_any {t : TypeId} {z : Value} {s b : Nat} (h : (Tryz.prog.info? t).map (fun i => (i.zero, i.size, i.bytes)) = some (some z, s, b)) : ∃ i, Tryz.prog.info? t = some i ∧ i.zero = some z ∧ i.size = s ∧ i.bytes = b := by
 obtain ⟨i, hi, e⟩ := Option.map_eq_some_iff.1 h
 simp at e
 exact ⟨i, hi, e.1, e.2.1, e.2.2⟩
theorem infoInt : (Tryz.prog.info? 3).map (fun i => (i.zero, i.size, i.bytes)) = some (some (.int .i64 0), 1, 8) := by kernel_rfl
theorem infoBool : (Tryz.prog.info? 4).map (fun i => (i.zero, i.size, i.bytes)) = some (some (.bool false), 1, 1) := by kernel_rfl
theorem infoArr : (Tryz.prog.info? 100).map (fun i => (i.zero, i.size, i.bytes)) = some (some (.agg #[.int .i64 0, .int .i64 0]), 2, 16) := by kernel_rfl
theorem underInts : Tryz.prog.underlying 34 = some (.slice 3) := by kernel_rfl
theorem underBools : Tryz.prog.underlying 67 = some (.slice 4) := by kernel_rfl
theorem underArrs : Tryz.prog.underlying 72 = some (.slice 100) := by kernel_rfl
theorem underMap : Tryz.prog.underlying 73 = some (.map 100 3) := by kernel_rfl
theorem zeroInt (w : World) : (zeroValue 3).run Tryz.prog w = .ok (.int .i64 0) w := by kernel_rfl
theorem arrLaw : WideMaps.KeyLaw Tryz.prog 100 := deep_law (m := 20) (by decide) (by kernel_rfl) (by kernel_rfl) (by kernel_rfl)
def sl (N p : Nat) : Value := .slice (some ⟨p / 2 ^ 64, 0, none⟩) N (p % 2 ^ 64)
theorem sl_own {w : World} {base : Nat} {e : TypeId} {sz : Nat} {v : Value} {N : Nat} {xs : List Value} (h : w.ownsRow base e sz v N xs) (hl : 0 < N) : ∃ p, v = sl N p := by
 rcases h.2 with ⟨-, h0⟩ | ⟨g, c, cur, rfl, -, -, -, hc, -⟩
 ·omega
 ·refine ⟨g * 2 ^ 64 + c, ?_⟩
  have hc' : c < 2 ^ 64 := by unfold maxLen at hc; omega
  unfold sl
  rw [show (g * 2 ^ 64 + c) / 2 ^ 64 = g by omega, show (g * 2 ^ 64 + c) % 2 ^ 64 = c by omega]
theorem wp_append_at {P : Program} (w : World) {o : Oper} {a : Act} {K : Act → World → Prop} {Q : Exit → Act → World → Prop} (s x : Operand) (t : TypeId)
  (ho : o.op = .call { callee := .builtin .append, args := #[s, x], argTypes := #[t, t] })
  (base : Nat) (e : TypeId) (i : TypeInfo) (z : Value) (size bytes : Nat) (ht : P.underlying t = some (.slice e)) (hi : P.info? e = some i) (hz : i.zero = some z)
  (hsize : i.size = size) (hby : i.bytes = bytes) (hzs : z.cells.size = size) (hsz : 0 < size)
  (v : Value) (n : Nat) (xs : List Value) (hs : a.eval s = v) (hown : w.ownsRow base e size v n xs)
  (ad : Addr) (m c : Nat) (news : List Value) (hx : a.eval x = .slice (some ad) m c) (hl : news.length = m * size) (hnews : ∀ j u, news[j]? = some u → w.cell? (ad.add j) = some u) (h1 : ∀ u ∈ news, u.oneCell' = true)
  (h63 : n + m ≤ maxLen) (hbytes : (n + m) * bytes ≤ 140737488355328) (hbase : base ≤ w.heap.size)
  (h : ∀ v' w', w'.ownsRow base e size v' (n + m) (xs ++ news) → w.grownBy w' v.ownBlock → (v'.ownBlock = v.ownBlock ∨ v'.ownBlock = some w.heap.size) → K (a.put o.dst v') w') : o.wp P a w K Q := by
 obtain ⟨v', w', hr, h2, h3, h4, h5⟩ := run_append_own_at (P := P) w base t o.type e i z size bytes ht hi hz hsize hby hzs hsz v n xs hown ad m c news hl hnews h1 h63 hbytes hbase
 unfold Oper.wp execOp
 simp only [ho, resolve, invoke, builtin, Sem.run_bind, Sem.run_pure, Result.andThen_ok, List.map_toArray, List.map_cons, List.map_nil, hs, hx, hr]
 exact h v' w' h2 h3 h5
theorem row_far {x : World} {B b j sz : Nat} {u v : Value} {N : Nat} {xs : List Value} {t : TypeId} (h : x.ownsRow B t sz v N xs) (hb : v.ownBlock ≠ some b) : (x.setCell ⟨b, j, none⟩ u).ownsRow B t sz v N xs := by
 refine ⟨h.1, ?_⟩
 rcases h.2 with hn | ⟨g, cap, cur, rfl, h1, hgg, rest⟩
 ·exact .inl hn
 ·refine .inr ⟨g, cap, cur, rfl, h1, ?_, rest⟩
  rw [heap_setCell_other _ _ _ _ (fun e => hb (by rw [e]; rfl))]
  exact hgg
theorem wrap_small {i : Nat} (h : i < 100000) : wrap64 (i : Int) = i := by unfold wrap64; omega
end Go.Proofs.YtcahhahbcijkiaaGreat.Ag
