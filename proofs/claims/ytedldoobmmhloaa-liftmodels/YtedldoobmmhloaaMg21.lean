import Derived.Test.YtedldoobmmhloaaMg20
import Derived.Test.YtedldoobmmhloaaMg9
import Derived.Test.YtedldoobmmhloaaMg19
namespace Go.Proofs.Ytedldoobmmhloaa
set_option maxHeartbeats 12800000
set_option maxRecDepth 100000
open Go.RowKit
set_option linter.unusedSimpArgs false
set_option linter.unusedVariables false
def fits (M : List (Int × Bt)) (id s : Int) : Bool := (getM M id).isSome && rgt ((getM M id).getD zBt).w ((getM M id).getD zBt).lo ((getM M id).getD zBt).hi && decide (((getM M id).getD zBt).w = s)
theorem fit_no {w : World} {b : Nat} {M : List (Int × Bt)} {id s : Int} (h : Bm w b M) (hk : w64 id) (hn : getM M id = none) :
  Calls Try.prog 28 #[.map (some b), .int .i64 id, .int .i64 s] w fun e w' => e = .returned (.tuple #[.agg #[.int .i64 0, .int .u64 0, .int .u64 0], .bool false]) ∧ Below w.heap.size w w' := by
 have hlk : (Instr.lookup 63 (.map (some b)) (.int .i64 id) true).run Try.prog (w.alloc (.cells #[.int .i64 0, .int .u64 0, .int .u64 0] 25)) = .ok (.tuple #[.agg #[.int .i64 0, .int .u64 0, .int .u64 0], .bool false]) (w.alloc (.cells #[.int .i64 0, .int .u64 0, .int .u64 0] 25)) := by
  have h1 := (h.kept (heap_alloc_old w (.cells #[.int .i64 0, .int .u64 0, .int .u64 0] 25) h.mp.lt)).look hk
  rw [hn] at h1
  exact h1
 clear h hk hn
 go_enter Try.func28, Try.ntmps28
 go_wp2_with fail
 go_region
 all_goals
  go_wp2_with fail
  refine bodyPost_ret (v := .tuple #[.agg #[.int .i64 0, .int .u64 0, .int .u64 0], .bool false]) (by simp [results, Try.results28, go_sem]) rfl ?_
  exact ⟨rfl, by go_grown⟩
open Go.RowKit
structure Nv where
 nm : ByteArray
 v : Bt
def Nv.cs (x : Nv) : List Value := [.string x.nm, .int .i64 x.v.w, .int .u64 x.v.lo, .int .u64 x.v.hi]
def Le (w : World) (a : Option Addr) (l : List Nv) : Prop := l = [] ∨ ∃ g o, a = some ⟨g, o, none⟩ ∧ g < w.heap.size ∧ ∀ (j : Nat) (x : Nv), l[j]? = some x → ∀ t u, x.cs[t]? = some u → w.cell? ⟨g, o + j * 4 + t, none⟩ = some u
def fvS (ns : List Nd) (M : List (Int × Bt)) (x : Nv) : List (Int × Bt) := if varAt ns x.nm = 0 then M else if (getM M (varAt ns x.nm)).isSome then M else M ++ [(varAt ns x.nm, x.v)]
def fvF (ns : List Nd) (l : List Nv) : List (Int × Bt) := l.foldl (fvS ns) []
theorem fvF_snoc {ns : List Nd} {l : List Nv} {k : Nat} {x : Nv} (h : l[k]? = some x) : fvF ns (l.take (k + 1)) = fvS ns (fvF ns (l.take k)) x := by
 unfold fvF
 rw [List.take_add_one, h, List.foldl_append]; rfl
theorem varAt_range (ns : List Nd) (s : ByteArray) : 0 ≤ varAt ns s ∧ varAt ns s ≤ (ns.length : Int) := by
 unfold varAt
 split
 ·rename_i i hi
  have := (List.findIdx?_eq_some_iff_getElem.1 hi).1
  omega
 ·omega
theorem fv_any {w : World} {B g mi mv mo c : Nat} {v : Value} {ns : List Nd} {a : Option Addr} {l : List Nv} (h : Gr w B g mi mv v mo ns) (he : Le w a l) (hnm : ∀ x ∈ l, x.nm.size ≤ maxLen) (hl : l.length ≤ 1000) :
  Calls Try.prog 26 #[.pointer (some ⟨g, 0, none⟩), .slice a l.length c] w fun e w' => e = .returned (.map (some w.heap.size)) ∧ Bm w' w.heap.size (fvF ns l) ∧ Below w.heap.size w w' := by
 have hlen := h.len
 have HG : Hid _ := h
 have HE : Hid _ := he
 have HNM : Hid _ := hnm
 obtain ⟨n, hn⟩ : ∃ n, n = l.length := ⟨_, rfl⟩
 have HN : Hid _ := hn
 rw [← hn] at hl ⊢
 have hmm := @run_makeMap Try.prog
 clear h he hnm hn
 go_enter Try.func26, Try.ntmps26
 go_wp2_with fail
 clear hmm
 go_loopw [15] (fun i wr => ∃ k : Nat, k ≤ n ∧ i = .int .i64 (k : Int) ∧ Bm wr w.heap.size (fvF ns (l.take k)) ∧ Below w.heap.size w wr) (fun i wr => n - (intOf i).toNat)
 case atStart => exact ⟨0, Nat.zero_le _, rfl, Bm.made w, by go_grown⟩
 case round =>
  obtain ⟨k, hk, rfl, hM, hbl⟩ := hrel
  have HM : Hid _ := hM
  have hbw : w.heap.size < wr.heap.size := hM.mp.lt
  clear hM
  by_cases hlt : k < n
  ·obtain ⟨x, hx⟩ : ∃ x, l[k]? = some x := ⟨_, List.getElem?_eq_getElem (by rw [← HN.out]; exact hlt)⟩
   obtain ⟨ge, o, rfl, hge, hLe⟩ : ∃ ge o, a = some ⟨ge, o, none⟩ ∧ ge < w.heap.size ∧ ∀ (j : Nat) (x : Nv), l[j]? = some x → ∀ t u, x.cs[t]? = some u → w.cell? ⟨ge, o + j * 4 + t, none⟩ = some u := by
    rcases HE.out with e | h
    ·rw [e] at hx; simp at hx
    ·exact h
   have hc := hLe k x hx
   have d0 : wr.cell? ⟨ge, o + k * 4, none⟩ = some (.string x.nm) := bel_cell hbl hge (hc 0 _ rfl)
   have d1 : wr.cell? ⟨ge, o + k * 4 + 1, none⟩ = some (.int .i64 x.v.w) := bel_cell hbl hge (hc 1 _ rfl)
   have d2 : wr.cell? ⟨ge, o + k * 4 + 2, none⟩ = some (.int .u64 x.v.lo) := bel_cell hbl hge (hc 2 _ rfl)
   have d3 : wr.cell? ⟨ge, o + k * 4 + 3, none⟩ = some (.int .u64 x.v.hi) := bel_cell hbl hge (hc 3 _ rfl)
   have hltI : (k : Int) < (n : Int) := by omega
   have HS : Hid _ := fvF_snoc (ns := ns) hx
   have hsz := HNM.out x (List.mem_of_getElem? hx)
   obtain ⟨V, hV⟩ : ∃ V, V = varAt ns x.nm := ⟨_, rfl⟩
   have HVR : Hid (∀ wx, Below w.heap.size w wx → Calls Try.prog 40 #[.pointer (some ⟨g, 0, none⟩), .string x.nm] wx fun e w' => e = .returned (.tuple #[.int .i64 V, .bool (!decide (V = 0))]) ∧ w' = wx) := fun wx hb => by rw [hV]; exact var_any (HG.out.below hb) hsz
   have HSV : Hid (fvF ns (l.take (k + 1)) = if V = 0 then fvF ns (l.take k) else if (getM (fvF ns (l.take k)) V).isSome then fvF ns (l.take k) else fvF ns (l.take k) ++ [(V, x.v)]) := by unfold Hid; rw [HS.out, hV]; rfl
   have hVr := varAt_range ns x.nm
   rw [← hV] at hVr
   have hV64 : w64 V := by unfold w64; omega
   have HV64 : Hid _ := hV64
   clear hc hLe hx hsz HS hV hVr hV64
   obtain ⟨M, hMM⟩ : ∃ M, M = fvF ns (l.take k) := ⟨_, rfl⟩
   rw [← hMM] at HM HSV
   clear hMM
   have hbc : Below w.heap.size w (wr.alloc (.cells #[.string x.nm, .int .i64 x.v.w, .int .u64 x.v.lo, .int .u64 x.v.hi] 62)) := hbl.alloc hbl.size _
   by_cases hV0 : V = 0
   ·subst hV0
    have HFN : Hid (fvF ns (l.take (k + 1)) = M) := by unfold Hid; rw [HSV.out, if_pos rfl]
    go_wp2_with fail
    refine Calls.mono (HVR.out _ hbc) ?_
    rintro e wq ⟨rfl, hq⟩
    rw [hq]
    clear hq wq
    go_wp2_with fail
    exact ⟨⟨k + 1, by omega, by go_num, by rw [HFN.out]; exact HM.out.kept (heap_alloc_old _ _ hbw), hbc⟩, by simp [intOf]; omega⟩
   ·have HVR2 : Hid (∀ wx, Below w.heap.size w wx → Calls Try.prog 40 #[.pointer (some ⟨g, 0, none⟩), .string x.nm] wx fun e w' => e = .returned (.tuple #[.int .i64 V, .bool true]) ∧ w' = wx) := fun wx hb => by
     have h := HVR.out wx hb
     rw [show (!decide (V = 0)) = true by simp [hV0]] at h
     exact h
    obtain ⟨y, hy⟩ : ∃ y, y = (getM M V).getD zBt := ⟨_, rfl⟩
    obtain ⟨f, hf⟩ : ∃ f, f = (getM M V).isSome := ⟨_, rfl⟩
    have hlk : (Instr.lookup 63 (.map (some w.heap.size)) (.int .i64 V) true).run Try.prog (wr.alloc (.cells #[.string x.nm, .int .i64 x.v.w, .int .u64 x.v.lo, .int .u64 x.v.hi] 62)) = .ok (.tuple #[.agg #[.int .i64 y.w, .int .u64 y.lo, .int .u64 y.hi], .bool f]) (wr.alloc (.cells #[.string x.nm, .int .i64 x.v.w, .int .u64 x.v.lo, .int .u64 x.v.hi] 62)) := by
     rw [hy, hf]
     exact (HM.out.kept (heap_alloc_old wr _ hbw)).look HV64.out
    clear hy
    cases f
    ·have hno : getM M V = none := by simpa using hf.symm
     have HFN : Hid (fvF ns (l.take (k + 1)) = M ++ [(V, x.v)]) := by unfold Hid; rw [HSV.out, if_neg hV0, ← hf]; rfl
     obtain ⟨w6, hmu, hM6, hg6, hs6⟩ := Bm.put (w := (wr.alloc (.cells #[.string x.nm, .int .i64 x.v.w, .int .u64 x.v.lo, .int .u64 x.v.hi] 62)).alloc (.cells #[.int .i64 y.w, .int .u64 y.lo, .int .u64 y.hi] 25)) ((HM.out.kept (heap_alloc_old wr _ hbw)).kept (heap_alloc_old _ _ (by rw [size_alloc']; omega))) HV64.out x.v hno
     have hmu2 : (Instr.mapUpdate 63 (.map (some w.heap.size)) (.int .i64 V) (.agg #[.int .i64 x.v.w, .int .u64 x.v.lo, .int .u64 x.v.hi])).run Try.prog ((wr.alloc (.cells #[.string x.nm, .int .i64 x.v.w, .int .u64 x.v.lo, .int .u64 x.v.hi] 62)).alloc (.cells #[.int .i64 y.w, .int .u64 y.lo, .int .u64 y.hi] 25)) = .ok () w6 := hmu
     have HM6 : Hid _ := hM6
     have hb6 : Below w.heap.size w w6 := (hbc.alloc hbc.size _).trans ⟨hg6.os, hg6.tape, hg6.output, hg6.size, fun q hq => hg6.block q (by rw [size_alloc', size_alloc']; omega) (fun e => by cases e; omega)⟩
     clear hmu hM6 hg6 hs6 hf hno hV0
     go_wp2_with fail
     refine Calls.mono (HVR2.out _ hbc) ?_
     rintro e wq ⟨rfl, hq⟩
     rw [hq]
     clear hq wq
     go_wp2_with fail
     exact ⟨⟨k + 1, by omega, by go_num, by rw [HFN.out]; exact HM6.out, hb6⟩, by simp [intOf]; omega⟩
    ·have HFN : Hid (fvF ns (l.take (k + 1)) = M) := by unfold Hid; rw [HSV.out, if_neg hV0, ← hf]; rfl
     clear hf hV0
     go_wp2_with fail
     refine Calls.mono (HVR2.out _ hbc) ?_
     rintro e wq ⟨rfl, hq⟩
     rw [hq]
     clear hq wq
     go_wp2_with fail
     exact ⟨⟨k + 1, by omega, by go_num, by rw [HFN.out]; exact (HM.out.kept (heap_alloc_old _ _ hbw)).kept (heap_alloc_old _ _ (by rw [size_alloc']; omega)), hbc.alloc hbc.size _⟩, by simp [intOf]; omega⟩
  ·obtain rfl : k = n := by omega
   have hltI : ¬ (k : Int) < (k : Int) := by omega
   have HF : Hid (Bm wr w.heap.size (fvF ns l)) := by have h := HM.out; rw [HN.out, List.take_length] at h; exact h
   clear HM
   go_wp2_with fail
   go_ret
   exact ⟨rfl, HF.out, hbl⟩
end Go.Proofs.Ytedldoobmmhloaa
namespace Go.Proofs.Ytedldoobmmhloaa
set_option maxHeartbeats 12800000
set_option maxRecDepth 100000
set_option linter.unusedSimpArgs false
set_option linter.unusedVariables false
open Go.RowKit Go.ChangeShapes Go.WideShapes Go.Deep
section
variable {H : Type} {enc : TypeId × Value → H} {w : World} {base : Nat} {spare : Nat → Bool} {held : Bool}
instance : Inhabited Nv := ⟨⟨⟨#[]⟩, ⟨0, 0, 0⟩⟩⟩
set_option maxRecDepth 20000 in
theorem named_read {fuel : Nat} {cs : List Value} {x : DataW H × List MemPlace} (h : DataW.trod enc Try.prog w base spare held fuel 62 cs = some x) : ∃ b : Nv, cs = b.cs ∧ Bk b.v ∧ b.nm.size ≤ maxLen := by
 obtain ⟨xs, k, -, -, hl, hxl, hf⟩ := DataW.trod_struct Try.underlying62 h
 have e9 : Try.prog.cellsOf 9 = 1 := by kernel_rfl
 have e34 : Try.prog.cellsOf 25 = 3 := by kernel_rfl
 have e38 : Try.prog.cellsOf 62 = 4 := by kernel_rfl
 rw [e38] at hl
 have hxl2 : xs.length = 2 := hxl
 clear hxl
 match xs, hxl2, cs, hl with
 | [y0, y1], _, [v0, v1, v2, v3], _ =>
  have g0 := hf 0 _ rfl
  have g1 := hf 1 _ rfl
  simp [e9, e34] at g0 g1
  obtain ⟨s, h10, -, w10⟩ := DataW.trod_string Try.underlying9 g0
  obtain ⟨b, hb, hk⟩ := bits_read g1
  cases h10
  refine ⟨⟨s, b⟩, ?_, hk, w10⟩
  unfold Nv.cs
  unfold Bt.cs at hb
  rw [hb]
set_option maxRecDepth 20000 in
theorem slice_readN {fuel : Nat} {s0 : Option Addr} {len cap : Nat} {x : DataW H × List MemPlace} (h : DataW.trod enc Try.prog w base (fun _ => true) held fuel 38 [.slice s0 len cap] = some x) :
  ∃ l : List Nv, l.length = len ∧ Le w s0 l ∧ (∀ b ∈ l, Bk b.v) ∧ (∀ b ∈ l, b.nm.size ≤ maxLen) ∧ len ≤ maxLen := by
 have e36 : Try.prog.cellsOf 62 = 4 := by kernel_rfl
 rcases open_slice Try.underlying38 h with ⟨h0, -⟩ | ⟨a, len', cap', m, nn, D, Pl, hcs, hb, hl, hm, hmm, -, hx⟩
 ·simp at h0
  obtain ⟨rfl, rfl, rfl⟩ := h0
  exact ⟨[], rfl, Or.inl rfl, (fun n hn => nomatch hn), (fun n hn => nomatch hn), by decide⟩
 ·simp at hcs
  obtain ⟨rfl, rfl, rfl⟩ := hcs
  simp only [if_true] at hmm
  subst hmm
  have each : ∀ i, i < len → ∃ n : Nv, (∀ t u, n.cs[t]? = some u → w.cell? (a.add (i * 4 + t)) = some u) ∧ Bk n.v ∧ n.nm.size ≤ maxLen := by
   intro i hi
   obtain ⟨cs', h1, h2⟩ := hx i (by omega)
   obtain ⟨n, rfl, hn⟩ := named_read h2
   rw [e36] at h1
   obtain ⟨_, hlen, hcell⟩ := World.cells?_some h1
   refine ⟨n, fun t u hu => ?_, hn⟩
   have ht : t < 4 := (List.getElem?_eq_some_iff.1 hu).1
   have := hcell t ht
   rw [add_add] at this
   rw [this]; exact hu
  obtain ⟨N, hN⟩ := choose_lt each
  refine ⟨(List.range len).map N, by simp, ?_, ?_, ?_, by omega⟩
  ·by_cases h0 : len = 0
   ·left; rw [h0]; rfl
   ·right
    obtain ⟨g, o, sp⟩ := a
    have hsp : sp = none := by
     have := (hN 0 (by omega)).1 0 _ rfl
     cases sp with
     | none => rfl
     | some x => simp [World.cell?, Addr.add] at this; split at this <;> simp at this
    subst hsp
    have ead : ∀ j, (⟨g, o, none⟩ : Addr).add j = ⟨g, o + j, none⟩ := fun j => by by_cases hj0 : j = 0 <;> simp [Addr.add, hj0]
    have hc : ∀ (j : Nat) (x : Nv), ((List.range len).map N)[j]? = some x → ∀ t u, x.cs[t]? = some u → w.cell? ⟨g, o + j * 4 + t, none⟩ = some u := by
     intro j n hj t u hu
     have hjl : j < len := by have := (List.getElem?_eq_some_iff.1 hj).1; simpa using this
     simp [hjl] at hj
     subst hj
     have := (hN j hjl).1 t u hu
     rw [ead] at this
     rw [Nat.add_assoc]; exact this
    refine ⟨g, o, rfl, ?_, hc⟩
    have := hc 0 (N 0) (by rw [List.getElem?_map, List.getElem?_range (by omega)]; rfl) 0 _ rfl
    exact World.block_lt_of_cell? _ _ this
  ·intro n hn
   obtain ⟨i, hi, rfl⟩ := List.mem_map.1 hn
   exact (hN i (List.mem_range.1 hi)).2.1
  ·intro n hn
   obtain ⟨i, hi, rfl⟩ := List.mem_map.1 hn
   exact (hN i (List.mem_range.1 hi)).2.2
end
end Go.Proofs.Ytedldoobmmhloaa
