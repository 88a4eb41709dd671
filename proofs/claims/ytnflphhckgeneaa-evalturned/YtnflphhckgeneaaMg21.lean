/- Contracts (values of terms): what fits a variable: nothing, where there is no value. -/
import Derived.Test.YtnflphhckgeneaaMg20
import Derived.Test.YtnflphhckgeneaaMg10
namespace Go.Proofs.Ytnflphhckgeneaa
open Go.RowKit
set_option linter.unusedSimpArgs false
set_option linter.unusedVariables false

/-- Is there a value, right, and of the sort? -/
def fits (M : List (Int × Bt)) (id s : Int) : Bool := (getM M id).isSome && rgt ((getM M id).getD zBt).w ((getM M id).getD zBt).lo ((getM M id).getD zBt).hi && decide (((getM M id).getD zBt).w = s)
set_option maxRecDepth 20000 in
set_option maxHeartbeats 6400000 in
theorem fit_no {w : World} {b : Nat} {M : List (Int × Bt)} {id s : Int} (h : Bm w b M) (hk : w64 id) (hn : getM M id = none) :
    Calls Try.prog 22 #[.map (some b), .int .i64 id, .int .i64 s] w fun e w' => e = .returned (.tuple #[.agg #[.int .i64 0, .int .u64 0, .int .u64 0], .bool false]) ∧ Below w.heap.size w w' := by
  have hlk : (Instr.lookup 62 (.map (some b)) (.int .i64 id) true).run Try.prog (w.alloc (.cells #[.int .i64 0, .int .u64 0, .int .u64 0] 24)) = .ok (.tuple #[.agg #[.int .i64 0, .int .u64 0, .int .u64 0], .bool false]) (w.alloc (.cells #[.int .i64 0, .int .u64 0, .int .u64 0] 24)) := by
    have h1 := (h.kept (heap_alloc_old w (.cells #[.int .i64 0, .int .u64 0, .int .u64 0] 24) h.mp.lt)).look hk
    rw [hn] at h1
    exact h1
  clear h hk hn
  go_enter Try.func22, Try.ntmps22
  go_wp2_with fail
  go_region
  all_goals
    go_wp2_with fail
    refine bodyPost_ret (v := .tuple #[.agg #[.int .i64 0, .int .u64 0, .int .u64 0], .bool false]) (by simp [results, Try.results22, go_sem]) rfl ?_
    exact ⟨rfl, by go_grown⟩
end Go.Proofs.Ytnflphhckgeneaa

/- Contracts (values of terms): what an assignment says first. -/
namespace Go.Proofs.Ytnflphhckgeneaa
open Go.RowKit
set_option linter.unusedSimpArgs false
set_option linter.unusedVariables false

/-- A name and its value. -/
structure Nv where
  nm : ByteArray
  v : Bt
def Nv.cs (x : Nv) : List Value := [.string x.nm, .int .i64 x.v.w, .int .u64 x.v.lo, .int .u64 x.v.hi]
/-- The slice at a holds the names l. -/
def Le (w : World) (a : Option Addr) (l : List Nv) : Prop := l = [] ∨ ∃ g o, a = some ⟨g, o, none⟩ ∧ g < w.heap.size ∧ ∀ (j : Nat) (x : Nv), l[j]? = some x → ∀ t u, x.cs[t]? = some u → w.cell? ⟨g, o + j * 4 + t, none⟩ = some u
/-- The first value of each variable, by its number. -/
def fvS (ns : List Nd) (M : List (Int × Bt)) (x : Nv) : List (Int × Bt) := if varAt ns x.nm = 0 then M else if (getM M (varAt ns x.nm)).isSome then M else M ++ [(varAt ns x.nm, x.v)]
def fvF (ns : List Nd) (l : List Nv) : List (Int × Bt) := l.foldl (fvS ns) []
theorem fvF_snoc {ns : List Nd} {l : List Nv} {k : Nat} {x : Nv} (h : l[k]? = some x) : fvF ns (l.take (k + 1)) = fvS ns (fvF ns (l.take k)) x := by
  unfold fvF
  rw [List.take_add_one, h, List.foldl_append]; rfl
theorem varAt_range (ns : List Nd) (s : ByteArray) : 0 ≤ varAt ns s ∧ varAt ns s ≤ (ns.length : Int) := by
  unfold varAt
  split
  · rename_i i hi
    have := (List.findIdx?_eq_some_iff_getElem.1 hi).1
    omega
  · omega

set_option maxRecDepth 20000 in
set_option maxHeartbeats 12800000 in
theorem fv_any {w : World} {B g mi mv mo c : Nat} {v : Value} {ns : List Nd} {a : Option Addr} {l : List Nv} (h : Gr w B g mi mv v mo ns) (he : Le w a l) (hnm : ∀ x ∈ l, x.nm.size ≤ maxLen) (hl : l.length ≤ 1000) :
    Calls Try.prog 19 #[.pointer (some ⟨g, 0, none⟩), .slice a l.length c] w fun e w' => e = .returned (.map (some w.heap.size)) ∧ Bm w' w.heap.size (fvF ns l) ∧ Below w.heap.size w w' := by
  have hlen := h.len
  have HG : Hid _ := h
  have HE : Hid _ := he
  have HNM : Hid _ := hnm
  obtain ⟨n, hn⟩ : ∃ n, n = l.length := ⟨_, rfl⟩
  have HN : Hid _ := hn
  rw [← hn] at hl ⊢
  have hmm := @run_makeMap Try.prog
  clear h he hnm hn
  go_enter Try.func19, Try.ntmps19
  go_wp2_with fail
  clear hmm
  go_loopw [15] (fun i wr => ∃ k : Nat, k ≤ n ∧ i = .int .i64 (k : Int) ∧ Bm wr w.heap.size (fvF ns (l.take k)) ∧ Below w.heap.size w wr) (fun i wr => n - (intOf i).toNat)
  case atStart => exact ⟨0, Nat.zero_le _, rfl, Bm.made w, by go_grown⟩
  case round =>
    obtain ⟨k, hk, rfl, hM, hbl⟩ := hrel
    have HM : Hid _ := hM
    have hbw : w.heap.size < wr.heap.size := hM.mp.lt
    clear hM
    by_cases hlt : k < n
    · obtain ⟨x, hx⟩ : ∃ x, l[k]? = some x := ⟨_, List.getElem?_eq_getElem (by rw [← HN.out]; exact hlt)⟩
      obtain ⟨ge, o, rfl, hge, hLe⟩ : ∃ ge o, a = some ⟨ge, o, none⟩ ∧ ge < w.heap.size ∧ ∀ (j : Nat) (x : Nv), l[j]? = some x → ∀ t u, x.cs[t]? = some u → w.cell? ⟨ge, o + j * 4 + t, none⟩ = some u := by
        rcases HE.out with e | h
        · rw [e] at hx; simp at hx
        · exact h
      have hc := hLe k x hx
      have d0 : wr.cell? ⟨ge, o + k * 4, none⟩ = some (.string x.nm) := bel_cell hbl hge (hc 0 _ rfl)
      have d1 : wr.cell? ⟨ge, o + k * 4 + 1, none⟩ = some (.int .i64 x.v.w) := bel_cell hbl hge (hc 1 _ rfl)
      have d2 : wr.cell? ⟨ge, o + k * 4 + 2, none⟩ = some (.int .u64 x.v.lo) := bel_cell hbl hge (hc 2 _ rfl)
      have d3 : wr.cell? ⟨ge, o + k * 4 + 3, none⟩ = some (.int .u64 x.v.hi) := bel_cell hbl hge (hc 3 _ rfl)
      have hltI : (k : Int) < (n : Int) := by omega
      have HS : Hid _ := fvF_snoc (ns := ns) hx
      have hsz := HNM.out x (List.mem_of_getElem? hx)
      obtain ⟨V, hV⟩ : ∃ V, V = varAt ns x.nm := ⟨_, rfl⟩
      have HVR : Hid (∀ wx, Below w.heap.size w wx → Calls Try.prog 57 #[.pointer (some ⟨g, 0, none⟩), .string x.nm] wx fun e w' => e = .returned (.tuple #[.int .i64 V, .bool (!decide (V = 0))]) ∧ w' = wx) := fun wx hb => by rw [hV]; exact var_any (HG.out.below hb) hsz
      have HSV : Hid (fvF ns (l.take (k + 1)) = if V = 0 then fvF ns (l.take k) else if (getM (fvF ns (l.take k)) V).isSome then fvF ns (l.take k) else fvF ns (l.take k) ++ [(V, x.v)]) := by unfold Hid; rw [HS.out, hV]; rfl
      have hVr := varAt_range ns x.nm
      rw [← hV] at hVr
      have hV64 : w64 V := by unfold w64; omega
      have HV64 : Hid _ := hV64
      clear hc hLe hx hsz HS hV hVr hV64
      obtain ⟨M, hMM⟩ : ∃ M, M = fvF ns (l.take k) := ⟨_, rfl⟩
      rw [← hMM] at HM HSV
      clear hMM
      have hbc : Below w.heap.size w (wr.alloc (.cells #[.string x.nm, .int .i64 x.v.w, .int .u64 x.v.lo, .int .u64 x.v.hi] 38)) := hbl.alloc hbl.size _
      by_cases hV0 : V = 0
      · subst hV0
        have HFN : Hid (fvF ns (l.take (k + 1)) = M) := by unfold Hid; rw [HSV.out, if_pos rfl]
        go_wp2_with fail
        refine Calls.mono (HVR.out _ hbc) ?_
        rintro e wq ⟨rfl, hq⟩
        rw [hq]
        clear hq wq
        go_wp2_with fail
        exact ⟨⟨k + 1, by omega, by go_num, by rw [HFN.out]; exact HM.out.kept (heap_alloc_old _ _ hbw), hbc⟩, by simp [intOf]; omega⟩
      · have HVR2 : Hid (∀ wx, Below w.heap.size w wx → Calls Try.prog 57 #[.pointer (some ⟨g, 0, none⟩), .string x.nm] wx fun e w' => e = .returned (.tuple #[.int .i64 V, .bool true]) ∧ w' = wx) := fun wx hb => by
          have h := HVR.out wx hb
          rw [show (!decide (V = 0)) = true by simp [hV0]] at h
          exact h
        obtain ⟨y, hy⟩ : ∃ y, y = (getM M V).getD zBt := ⟨_, rfl⟩
        obtain ⟨f, hf⟩ : ∃ f, f = (getM M V).isSome := ⟨_, rfl⟩
        have hlk : (Instr.lookup 62 (.map (some w.heap.size)) (.int .i64 V) true).run Try.prog (wr.alloc (.cells #[.string x.nm, .int .i64 x.v.w, .int .u64 x.v.lo, .int .u64 x.v.hi] 38)) = .ok (.tuple #[.agg #[.int .i64 y.w, .int .u64 y.lo, .int .u64 y.hi], .bool f]) (wr.alloc (.cells #[.string x.nm, .int .i64 x.v.w, .int .u64 x.v.lo, .int .u64 x.v.hi] 38)) := by
          rw [hy, hf]
          exact (HM.out.kept (heap_alloc_old wr _ hbw)).look HV64.out
        clear hy
        cases f
        · have hno : getM M V = none := by simpa using hf.symm
          have HFN : Hid (fvF ns (l.take (k + 1)) = M ++ [(V, x.v)]) := by unfold Hid; rw [HSV.out, if_neg hV0, ← hf]; rfl
          obtain ⟨w6, hmu, hM6, hg6, hs6⟩ := Bm.put (w := (wr.alloc (.cells #[.string x.nm, .int .i64 x.v.w, .int .u64 x.v.lo, .int .u64 x.v.hi] 38)).alloc (.cells #[.int .i64 y.w, .int .u64 y.lo, .int .u64 y.hi] 24)) ((HM.out.kept (heap_alloc_old wr _ hbw)).kept (heap_alloc_old _ _ (by rw [size_alloc']; omega))) HV64.out x.v hno
          have hmu2 : (Instr.mapUpdate 62 (.map (some w.heap.size)) (.int .i64 V) (.agg #[.int .i64 x.v.w, .int .u64 x.v.lo, .int .u64 x.v.hi])).run Try.prog ((wr.alloc (.cells #[.string x.nm, .int .i64 x.v.w, .int .u64 x.v.lo, .int .u64 x.v.hi] 38)).alloc (.cells #[.int .i64 y.w, .int .u64 y.lo, .int .u64 y.hi] 24)) = .ok () w6 := hmu
          have HM6 : Hid _ := hM6
          have hb6 : Below w.heap.size w w6 := (hbc.alloc hbc.size _).trans ⟨hg6.os, hg6.tape, hg6.output, hg6.size, fun q hq => hg6.block q (by rw [size_alloc', size_alloc']; omega) (fun e => by cases e; omega)⟩
          clear hmu hM6 hg6 hs6 hf hno hV0
          go_wp2_with fail
          refine Calls.mono (HVR2.out _ hbc) ?_
          rintro e wq ⟨rfl, hq⟩
          rw [hq]
          clear hq wq
          go_wp2_with fail
          exact ⟨⟨k + 1, by omega, by go_num, by rw [HFN.out]; exact HM6.out, hb6⟩, by simp [intOf]; omega⟩
        · have HFN : Hid (fvF ns (l.take (k + 1)) = M) := by unfold Hid; rw [HSV.out, if_neg hV0, ← hf]; rfl
          clear hf hV0
          go_wp2_with fail
          refine Calls.mono (HVR2.out _ hbc) ?_
          rintro e wq ⟨rfl, hq⟩
          rw [hq]
          clear hq wq
          go_wp2_with fail
          exact ⟨⟨k + 1, by omega, by go_num, by rw [HFN.out]; exact (HM.out.kept (heap_alloc_old _ _ hbw)).kept (heap_alloc_old _ _ (by rw [size_alloc']; omega)), hbc.alloc hbc.size _⟩, by simp [intOf]; omega⟩
    · obtain rfl : k = n := by omega
      have hltI : ¬ (k : Int) < (k : Int) := by omega
      have HF : Hid (Bm wr w.heap.size (fvF ns l)) := by have h := HM.out; rw [HN.out, List.take_length] at h; exact h
      clear HM
      go_wp2_with fail
      go_ret
      exact ⟨rfl, HF.out, hbl⟩
end Go.Proofs.Ytnflphhckgeneaa

/- Contracts (values of terms): a walk begins; a constant's value. -/
namespace Go.Proofs.Ytnflphhckgeneaa
open Go.RowKit
set_option linter.unusedSimpArgs false
set_option linter.unusedVariables false

/-- A walk at block wb: its graph, what is given, what is known. -/
structure Wk (w : World) (wb g mg mk : Nat) (G M : List (Int × Bt)) : Prop where
  hd : w.heap[wb]? = some (.cells #[.pointer (some ⟨g, 0, none⟩), .map (some mg), .map (some mk)] 86)
  gv : Bm w mg G
  kn : Bm w mk M
  ne : mg ≠ mk ∧ mg ≠ wb ∧ mk ≠ wb
theorem Wk.below {w w' : World} {wb g mg mk : Nat} {G M : List (Int × Bt)} (h : Wk w wb g mg mk G M) (hb : Below w.heap.size w w') : Wk w' wb g mg mk G M :=
  ⟨(hb.block _ (Array.getElem?_eq_some_iff.1 h.hd).1).trans h.hd, h.gv.kept (hb.block _ h.gv.mp.lt), h.kn.kept (hb.block _ h.kn.mp.lt), h.ne⟩

set_option maxHeartbeats 3200000 in
theorem nw_any {w : World} {B g mi mv mo c : Nat} {v : Value} {ns : List Nd} {a : Option Addr} {l : List Nv} (h : Gr w B g mi mv v mo ns) (he : Le w a l) (hnm : ∀ x ∈ l, x.nm.size ≤ maxLen) (hl : l.length ≤ 1000) :
    Calls Try.prog 17 #[.pointer (some ⟨g, 0, none⟩), .slice a l.length c] w fun e w' => ∃ wb mk, e = .returned (.pointer (some ⟨wb, 0, none⟩)) ∧ w.heap.size ≤ wb ∧ w.heap.size ≤ mk ∧ Wk w' wb g w.heap.size mk (fvF ns l) [] ∧ Below w.heap.size w w' := by
  have HF : Hid _ := fv_any (c := c) h he hnm hl
  have hmm := @run_makeMap Try.prog
  obtain ⟨n, hn⟩ : ∃ n, n = l.length := ⟨_, rfl⟩
  rw [← hn] at HF ⊢
  clear h he hnm hl hn
  go_enter Try.func17, Try.ntmps17
  go_wp2_with fail
  refine Calls.mono HF.out ?_
  rintro e w1 ⟨rfl, hM, hb⟩
  have HM : Hid _ := hM
  have hs := hM.mp.lt
  clear hM
  go_wp2_with fail
  go_ret
  refine ⟨_, _, rfl, ?_, ?_, ⟨?_, (HM.out.kept (heap_alloc_old w1 (.map #[] 0) hs)).kept (heap_alloc_old _ _ (by rw [size_alloc']; omega)), (Bm.made w1).kept (heap_alloc_old _ _ (by rw [size_alloc']; omega)), ?_, ?_, ?_⟩, (hb.alloc hb.size _).alloc (by rw [size_alloc']; have := hb.size; omega) _⟩
  · have := hb.size; omega
  · exact hb.size
  · have := heap_alloc_new (w1.alloc (.map #[] 0)) (.cells #[.pointer (some ⟨g, 0, none⟩), .map (some w.heap.size), .map (some w1.heap.size)] 86)
    rw [size_alloc'] at this
    exact this
  · omega
  · omega
  · omega

end Go.Proofs.Ytnflphhckgeneaa
