/- Every node of numbers in their ranges is a key. -/
import Derived.Test.YtnflphhckgeneaaGreatMg6
import Derived.Test.YtnflphhckgeneaaGreatMg11
namespace Go.Proofs.YtnflphhckgeneaaGreat
set_option maxHeartbeats 12800000
set_option maxRecDepth 100000
open Go.RowKit
set_option linter.unusedSimpArgs false
set_option linter.unusedVariables false
/-- Numbers of their kinds. -/
def w64 (x : Int) : Prop := -9223372036854775808 ≤ x ∧ x ≤ 9223372036854775807
theorem wf64 {x : Int} (h : w64 x) : (Lit.int .i64 x).wf = true := by
  unfold w64 at h
  simp only [Lit.wf, IntKind.min, IntKind.max, IntKind.signed, IntKind.bits, Bool.and_eq_true, decide_eq_true_eq, if_true]
  omega
theorem wfu {x : Int} (h0 : 0 ≤ x) (h1 : x < 18446744073709551616) : (Lit.int .u64 x).wf = true := by
  simp only [Lit.wf, IntKind.min, IntKind.max, IntKind.signed, IntKind.bits, Bool.and_eq_true, decide_eq_true_eq]
  simp
  omega
theorem kn_of {n : Nd} (h1 : w64 n.op) (h2 : w64 n.s) (h3 : w64 n.a) (h4 : w64 n.b) (h5 : w64 n.c) (h6 : w64 n.p) (h7 : w64 n.q) (h8 : w64 n.w) (l0 : 0 ≤ n.lo) (l1 : n.lo < 18446744073709551616) (u0 : 0 ≤ n.hi) (u1 : n.hi < 18446744073709551616) (hs : n.nm.size ≤ maxLen) :
    ∃ kl, keyOf Tryz.prog 53 n.val = some kl := by
  have g1 := wf64 h1
  have g2 := wf64 h2
  have g3 := wf64 h3
  have g4 := wf64 h4
  have g5 := wf64 h5
  have g6 := wf64 h6
  have g7 := wf64 h7
  have g8 := wf64 h8
  have g9 := wfu l0 l1
  have g10 := wfu u0 u1
  have hk : Tryz.prog.keyType 53 = true := by kernel_rfl
  have hfm : n.val.formed Tryz.prog 53 = true := by kernel_rfl
  have hc : ∀ t, Tryz.prog.cellsOf t = Tryz.prog.cellsOf t := fun _ => rfl
  have e3 : Tryz.prog.cellsOf 3 = 1 := by kernel_rfl
  have e9 : Tryz.prog.cellsOf 9 = 1 := by kernel_rfl
  have e32 : Tryz.prog.cellsOf 32 = 1 := by kernel_rfl
  have e34 : Tryz.prog.cellsOf 34 = 3 := by kernel_rfl
  have e36 : Tryz.prog.cellsOf 53 = 11 := by kernel_rfl
  have hz : Tryz.prog.types.size + 1 = 169 + 1 + 1 + 1 := by kernel_rfl
  have q3 : ∀ (d : Nat) (x : Int), (Lit.int .i64 x).wf = true → Tryz.prog.keyLits (d + 1) 3 [.int .i64 x] = some [.int .i64 x] := fun d x hx => by
    unfold Program.keyLits; simp only [Tryz.underlying3]; simp [hx]
  have q32 : ∀ (d : Nat) (x : Int), (Lit.int .u64 x).wf = true → Tryz.prog.keyLits (d + 1) 32 [.int .u64 x] = some [.int .u64 x] := fun d x hx => by
    unfold Program.keyLits; simp only [Tryz.underlying32]; simp [hx]
  have q9 : ∀ (d : Nat) (x : ByteArray), x.size ≤ maxLen → Tryz.prog.keyLits (d + 1) 9 [.string x] = some [.string x.data.toList] := fun d x hx => by
    unfold Program.keyLits; simp only [Tryz.underlying9]; simp [hx]
  have q34 : ∀ (d : Nat), ∃ L, Tryz.prog.keyLits (d + 1 + 1) 34 [.int .i64 n.w, .int .u64 n.lo, .int .u64 n.hi] = some L := fun d => by
    unfold Program.keyLits; simp only [Tryz.underlying34]
    simp [e34, e3, e32, q3 d n.w g8, q32 d n.lo g9, q32 d n.hi g10]
  obtain ⟨L, hL'⟩ := q34 169
  have hL : Tryz.prog.keyLits 171 34 [.int .i64 n.w, .int .u64 n.lo, .int .u64 n.hi] = some L := hL'
  have hmain : ∃ ls, Tryz.prog.keyLits (Tryz.prog.types.size + 1) 53 n.val.cells.toList = some ls := by
    rw [hz]; unfold Program.keyLits; simp only [Tryz.underlying53]
    simp [Nd.val, Value.cells, e36, e34, e3, e9, q3 _ n.op g1, q3 _ n.s g2, q3 _ n.a g3, q3 _ n.b g4, q3 _ n.c g5, q3 _ n.p g6, q3 _ n.q g7, q9 _ n.nm hs, hL]
  obtain ⟨ls, hls⟩ := hmain
  unfold keyOf
  simp only [Tryz.underlying53, hk, hfm, Bool.and_self, if_true, hls, Option.map_some]
  exact ⟨_, rfl⟩

def Bt.val (b : Bt) : Value := .agg #[.int .i64 b.w, .int .u64 b.lo, .int .u64 b.hi]
def zBt : Bt := ⟨0, 0, 0⟩
/-- A map's entries. -/
def bmL (M : List (Int × Bt)) : List (Value × Value) := M.map fun p => (.int .i64 p.1, p.2.val)
/-- What it has for a number. -/
def getM (M : List (Int × Bt)) (k : Int) : Option Bt := (M.find? fun p => decide (p.1 = k)).map (·.2)
structure Bm (w : World) (b : Nat) (M : List (Int × Bt)) : Prop where
  mp : Mp w 3 b (bmL M)
  once : (M.map (·.1)).Nodup
theorem intUnder : Tryz.prog.underlying 3 = some (.int .i64) := by kernel_rfl
theorem intLaw : Go.Maps.Keyed Tryz.prog 3 := Go.Maps.int_keyed intUnder
theorem bmUnder : Tryz.prog.underlying 77 = some (.map 3 34) := by kernel_rfl
theorem zeroBt (w : World) : (zeroValue 34).run Tryz.prog w = .ok zBt.val w := by kernel_rfl
theorem intKey {k : Int} (h : w64 k) : keyOf Tryz.prog 3 (.int .i64 k) = some (.int .i64 k) := Go.Maps.keyOf_int_mk intUnder (wf64 h)
theorem Mp.lookK {w : World} {k e t : TypeId} {b : Nat} {L : List (Value × Value)} (h : Mp w k b L) (K : Go.Maps.Keyed Tryz.prog k) (ht : Tryz.prog.underlying t = some (.map k e)) {z : Value} (hz : (zeroValue e).run Tryz.prog w = .ok z w)
    {key : Value} {kl : Lit} (hkey : keyOf Tryz.prog k key = some kl) :
    ((Instr.lookup t (.map (some b)) key true).run Tryz.prog w = .ok (.tuple #[z, .bool false]) w ∧ ∀ p ∈ L, p.1 ≠ key) ∨
    ∃ p, p ∈ L ∧ p.1 = key ∧ (Instr.lookup t (.map (some b)) key true).run Tryz.prog w = .ok (.tuple #[p.2, .bool true]) w := by
  obtain ⟨es, cl, hb, rfl, hk⟩ := h
  have hes : ∀ x ∈ es.toList, ∃ l, keyOf Tryz.prog k x.key = some l := fun x hx => hk (x.key, x.val) (List.mem_map.2 ⟨x, hx, rfl⟩)
  rcases K.find w hkey es.toList hes with ⟨h1, h2⟩ | ⟨j, e0, h1, h2, h3⟩
  · refine Or.inl ⟨by simp [Instr.lookup, run_underlying ht, MapKept.run_getObj_map hb, K.check w _ hkey, h1, hz, Result.andThen], fun p hp => ?_⟩
    obtain ⟨x, hx, rfl⟩ := List.mem_map.1 hp
    exact h2 x hx
  · exact Or.inr ⟨(e0.key, e0.val), List.mem_map.2 ⟨e0, List.mem_of_getElem? h2, rfl⟩, h3, by simp [Instr.lookup, run_underlying ht, MapKept.run_getObj_map hb, K.check w _ hkey, h1, Result.andThen]⟩

theorem Mp.storeK {w : World} {k e t : TypeId} {b : Nat} {L : List (Value × Value)} (h : Mp w k b L) (K : Go.Maps.Keyed Tryz.prog k) (ht : Tryz.prog.underlying t = some (.map k e))
    {key val : Value} {kl : Lit} (hkey : keyOf Tryz.prog k key = some kl) (hno : ∀ p ∈ L, p.1 ≠ key) :
    ∃ w', (Instr.mapUpdate t (.map (some b)) key val).run Tryz.prog w = .ok () w' ∧ Mp w' k b (L ++ [(key, val)]) ∧ w.grownBy w' (some b) ∧ w'.heap.size = w.heap.size := by
  obtain ⟨es, cl, hb, rfl, hk⟩ := h
  have hes : ∀ x ∈ es.toList, ∃ l, keyOf Tryz.prog k x.key = some l := fun x hx => hk (x.key, x.val) (List.mem_map.2 ⟨x, hx, rfl⟩)
  have hlt : b < w.heap.size := (Array.getElem?_eq_some_iff.1 hb).1
  rcases K.find w hkey es.toList hes with ⟨h1, h2⟩ | ⟨j, e0, h1, h2, h3⟩
  · refine ⟨ChangeMaps.setBlock w b (.map (es.push ⟨key, val, cl⟩) (cl + 1)), by simp [Instr.mapUpdate, run_underlying ht, MapKept.run_getObj_map hb, K.check w false hkey, h1, MapKept.run_setObj_map _ hb, Result.andThen, ChangeMaps.setBlock], ⟨es.push ⟨key, val, cl⟩, cl + 1, by simp [ChangeMaps.setBlock, hlt], by simp, ?_⟩, ⟨rfl, rfl, rfl, by simp [ChangeMaps.setBlock], fun i _ hi => ?_⟩, by simp [ChangeMaps.setBlock]⟩
    · intro p hp
      rcases List.mem_append.1 hp with hp | hp
      · exact hk p hp
      · obtain rfl := List.mem_singleton.1 hp
        exact ⟨_, hkey⟩
    · have : b ≠ i := fun e => hi (by rw [e])
      simp [ChangeMaps.setBlock, this]
  · exact absurd h3 (hno (e0.key, e0.val) (List.mem_map.2 ⟨e0, List.mem_of_getElem? h2, rfl⟩))

theorem Mp.look1 {w : World} {k e t : TypeId} {b : Nat} {L : List (Value × Value)} (h : Mp w k b L) (K : Go.Maps.Keyed Tryz.prog k) (ht : Tryz.prog.underlying t = some (.map k e)) {z : Value} (hz : (zeroValue e).run Tryz.prog w = .ok z w)
    {key : Value} {kl : Lit} (hkey : keyOf Tryz.prog k key = some kl) :
    ((Instr.lookup t (.map (some b)) key false).run Tryz.prog w = .ok z w ∧ ∀ p ∈ L, p.1 ≠ key) ∨
    ∃ p, p ∈ L ∧ p.1 = key ∧ (Instr.lookup t (.map (some b)) key false).run Tryz.prog w = .ok p.2 w := by
  obtain ⟨es, cl, hb, rfl, hk⟩ := h
  have hes : ∀ x ∈ es.toList, ∃ l, keyOf Tryz.prog k x.key = some l := fun x hx => hk (x.key, x.val) (List.mem_map.2 ⟨x, hx, rfl⟩)
  rcases K.find w hkey es.toList hes with ⟨h1, h2⟩ | ⟨j, e0, h1, h2, h3⟩
  · refine Or.inl ⟨by simp [Instr.lookup, run_underlying ht, MapKept.run_getObj_map hb, K.check w _ hkey, h1, hz, Result.andThen], fun p hp => ?_⟩
    obtain ⟨x, hx, rfl⟩ := List.mem_map.1 hp
    exact h2 x hx
  · exact Or.inr ⟨(e0.key, e0.val), List.mem_map.2 ⟨e0, List.mem_of_getElem? h2, rfl⟩, h3, by simp [Instr.lookup, run_underlying ht, MapKept.run_getObj_map hb, K.check w _ hkey, h1, Result.andThen]⟩
theorem getM_none {M : List (Int × Bt)} {k : Int} (h : getM M k = none) : ∀ p ∈ bmL M, p.1 ≠ .int .i64 k := by
  intro p hp e
  obtain ⟨x, hx, rfl⟩ := List.mem_map.1 hp
  have hk : x.1 = k := by simpa using e
  unfold getM at h
  rw [Option.map_eq_none_iff, List.find?_eq_none] at h
  exact h x hx (by simp [hk])
theorem getM_some {M : List (Int × Bt)} {k : Int} {v : Bt} (h : getM M k = some v) (hn : (M.map (·.1)).Nodup) : (.int .i64 k, v.val) ∈ bmL M ∧ ∀ p ∈ bmL M, p.1 = .int .i64 k → p.2 = v.val := by
  unfold getM at h
  obtain ⟨x, hx, rfl⟩ := Option.map_eq_some_iff.1 h
  have hk : x.1 = k := by simpa using List.find?_some hx
  have hm := List.mem_of_find?_eq_some hx
  refine ⟨List.mem_map.2 ⟨x, hm, by rw [← hk]⟩, fun p hp e => ?_⟩
  obtain ⟨y, hy, rfl⟩ := List.mem_map.1 hp
  have hy1 : y.1 = k := by simpa using e
  have : y = x := by
    have hpw := List.pairwise_map.1 hn
    rcases List.mem_iff_getElem.1 hy with ⟨i, hi, ei⟩
    rcases List.mem_iff_getElem.1 hm with ⟨j, hj, ej⟩
    by_cases hij : i = j
    · subst hij; rw [← ei, ← ej]
    · exfalso
      rcases Nat.lt_or_gt_of_ne hij with hl | hl
      · exact List.pairwise_iff_getElem.1 hpw i j hi hj hl (by rw [ei, ej, hy1, hk])
      · exact List.pairwise_iff_getElem.1 hpw j i hj hi hl (by rw [ei, ej, hy1, hk])
  rw [this]
theorem Bm.look {w : World} {b : Nat} {M : List (Int × Bt)} (h : Bm w b M) {k : Int} (hk : w64 k) : (Instr.lookup 77 (.map (some b)) (.int .i64 k) true).run Tryz.prog w = .ok (.tuple #[((getM M k).getD zBt).val, .bool (getM M k).isSome]) w := by
  cases e : getM M k with
  | none =>
    rcases h.mp.lookK intLaw bmUnder (zeroBt w) (intKey hk) with ⟨hr, _⟩ | ⟨p, hp, he, _⟩
    · exact hr
    · exact absurd he (getM_none e p hp)
  | some v =>
    obtain ⟨h1, h2⟩ := getM_some e h.once
    rcases h.mp.lookK intLaw bmUnder (zeroBt w) (intKey hk) with ⟨_, hn⟩ | ⟨p, hp, he, hr⟩
    · exact absurd rfl (hn _ h1)
    · rw [hr, h2 p hp he]; rfl
theorem Bm.look1 {w : World} {b : Nat} {M : List (Int × Bt)} (h : Bm w b M) {k : Int} (hk : w64 k) : (Instr.lookup 77 (.map (some b)) (.int .i64 k) false).run Tryz.prog w = .ok ((getM M k).getD zBt).val w := by
  cases e : getM M k with
  | none =>
    rcases h.mp.look1 intLaw bmUnder (zeroBt w) (intKey hk) with ⟨hr, _⟩ | ⟨p, hp, he, _⟩
    · exact hr
    · exact absurd he (getM_none e p hp)
  | some v =>
    obtain ⟨h1, h2⟩ := getM_some e h.once
    rcases h.mp.look1 intLaw bmUnder (zeroBt w) (intKey hk) with ⟨_, hn⟩ | ⟨p, hp, he, hr⟩
    · exact absurd rfl (hn _ h1)
    · rw [hr, h2 p hp he]; rfl
theorem Bm.kept {w w' : World} {b : Nat} {M : List (Int × Bt)} (h : Bm w b M) (hb : w'.heap[b]? = w.heap[b]?) : Bm w' b M := ⟨h.mp.kept hb, h.once⟩
theorem Bm.put {w : World} {b : Nat} {M : List (Int × Bt)} (h : Bm w b M) {k : Int} (hk : w64 k) (v : Bt) (hno : getM M k = none) :
    ∃ w', (Instr.mapUpdate 77 (.map (some b)) (.int .i64 k) v.val).run Tryz.prog w = .ok () w' ∧ Bm w' b (M ++ [(k, v)]) ∧ w.grownBy w' (some b) ∧ w'.heap.size = w.heap.size := by
  obtain ⟨w', hr, h1, h2, h3⟩ := h.mp.storeK (val := v.val) intLaw bmUnder (intKey hk) (getM_none hno)
  refine ⟨w', hr, ⟨by unfold bmL; rw [List.map_append]; exact h1, ?_⟩, h2, h3⟩
  rw [List.map_append, List.nodup_append]
  refine ⟨h.once, by simp, fun a ha c hc => ?_⟩
  obtain rfl : c = k := by simpa using hc
  obtain ⟨x, hx, rfl⟩ := List.mem_map.1 ha
  intro e
  exact getM_none hno (.int .i64 x.1, x.2.val) (List.mem_map.2 ⟨x, hx, rfl⟩) (by rw [e])
theorem Bm.made (w : World) : Bm (w.alloc (.map #[] 0)) w.heap.size [] := ⟨Mp.made w _, by simp⟩

/-- Is there a value, right, and of the sort? -/
def fits (M : List (Int × Bt)) (id s : Int) : Bool := (getM M id).isSome && rgt ((getM M id).getD zBt).w ((getM M id).getD zBt).lo ((getM M id).getD zBt).hi && decide (((getM M id).getD zBt).w = s)
theorem fit_no {w : World} {b : Nat} {M : List (Int × Bt)} {id s : Int} (h : Bm w b M) (hk : w64 id) (hn : getM M id = none) :
    Rt 35 #[.map (some b), .int .i64 id, .int .i64 s] w (.tuple #[.agg #[.int .i64 0, .int .u64 0, .int .u64 0], .bool false]) := by
  have hlk : (Instr.lookup 77 (.map (some b)) (.int .i64 id) true).run Tryz.prog (w.alloc (.cells #[.int .i64 0, .int .u64 0, .int .u64 0] 34)) = .ok (.tuple #[.agg #[.int .i64 0, .int .u64 0, .int .u64 0], .bool false]) (w.alloc (.cells #[.int .i64 0, .int .u64 0, .int .u64 0] 34)) := by
    have h1 := (h.kept (heap_alloc_old w (.cells #[.int .i64 0, .int .u64 0, .int .u64 0] 34) h.mp.lt)).look hk
    rw [hn] at h1
    exact h1
  clear h hk hn
  go_enter Tryz.func35, Tryz.ntmps35
  go_wp2_with fail
  go_region
  all_goals
    go_wp2_with fail
    refine bodyPost_ret (v := .tuple #[.agg #[.int .i64 0, .int .u64 0, .int .u64 0], .bool false]) (by simp [results, Tryz.results35, go_sem]) rfl ?_
    exact ⟨rfl, by go_grown⟩

/-- A name and its value. -/
structure Nv where
  nm : ByteArray
  v : Bt
def Nv.cs (x : Nv) : List Value := [.string x.nm, .int .i64 x.v.w, .int .u64 x.v.lo, .int .u64 x.v.hi]
/-- The slice at a holds the names l. -/
def Le (w : World) (a : Option Addr) (l : List Nv) : Prop := l = [] ∨ ∃ g o, a = some ⟨g, o, none⟩ ∧ g < w.heap.size ∧ ∀ (j : Nat) (x : Nv), l[j]? = some x → ∀ t u, x.cs[t]? = some u → w.cell? ⟨g, o + j * 4 + t, none⟩ = some u
/-- The first value of each variable, by its number. -/
def fvS (ns : List Nd) (M : List (Int × Bt)) (x : Nv) : List (Int × Bt) := if varAt ns x.nm = 0 then M else if (getM M (varAt ns x.nm)).isSome then M else M ++ [(varAt ns x.nm, x.v)]
def fvF (ns : List Nd) (l : List Nv) : List (Int × Bt) := l.foldl (fvS ns) []
theorem fvF_snoc {ns : List Nd} {l : List Nv} {k : Nat} {x : Nv} (h : l[k]? = some x) : fvF ns (l.take (k + 1)) = fvS ns (fvF ns (l.take k)) x := by
  unfold fvF
  rw [List.take_add_one, h, List.foldl_append]; rfl
theorem varAt_range (ns : List Nd) (s : ByteArray) : 0 ≤ varAt ns s ∧ varAt ns s ≤ (ns.length : Int) := by
  unfold varAt
  split
  · rename_i i hi
    have := (List.findIdx?_eq_some_iff_getElem.1 hi).1
    omega
  · omega

theorem fv_any {w : World} {B g mi mv mo c : Nat} {v : Value} {ns : List Nd} {a : Option Addr} {l : List Nv} (h : Gr w B g mi mv v mo ns) (he : Le w a l) (hnm : ∀ x ∈ l, x.nm.size ≤ maxLen) (hl : l.length ≤ 1000) :
    Calls Tryz.prog 33 #[.pointer (some ⟨g, 0, none⟩), .slice a l.length c] w fun e w' => e = .returned (.map (some w.heap.size)) ∧ Bm w' w.heap.size (fvF ns l) ∧ Below w.heap.size w w' := by
  have hlen := h.len
  have HG : Hid _ := h
  have HE : Hid _ := he
  have HNM : Hid _ := hnm
  obtain ⟨n, hn⟩ : ∃ n, n = l.length := ⟨_, rfl⟩
  have HN : Hid _ := hn
  rw [← hn] at hl ⊢
  have hmm := @run_makeMap Tryz.prog
  clear h he hnm hn
  go_enter Tryz.func33, Tryz.ntmps33
  go_wp2_with fail
  clear hmm
  go_loopw [15] (fun i wr => ∃ k : Nat, k ≤ n ∧ i = .int .i64 (k : Int) ∧ Bm wr w.heap.size (fvF ns (l.take k)) ∧ Below w.heap.size w wr) (fun i wr => n - (intOf i).toNat)
  case atStart => exact ⟨0, Nat.zero_le _, rfl, Bm.made w, by go_grown⟩
  case round =>
    obtain ⟨k, hk, rfl, hM, hbl⟩ := hrel
    have HM : Hid _ := hM
    have hbw : w.heap.size < wr.heap.size := hM.mp.lt
    clear hM
    by_cases hlt : k < n
    · obtain ⟨x, hx⟩ : ∃ x, l[k]? = some x := ⟨_, List.getElem?_eq_getElem (by rw [← HN.out]; exact hlt)⟩
      obtain ⟨ge, o, rfl, hge, hLe⟩ : ∃ ge o, a = some ⟨ge, o, none⟩ ∧ ge < w.heap.size ∧ ∀ (j : Nat) (x : Nv), l[j]? = some x → ∀ t u, x.cs[t]? = some u → w.cell? ⟨ge, o + j * 4 + t, none⟩ = some u := by
        rcases HE.out with e | h
        · rw [e] at hx; simp at hx
        · exact h
      have hc := hLe k x hx
      have d0 : wr.cell? ⟨ge, o + k * 4, none⟩ = some (.string x.nm) := bel_cell hbl hge (hc 0 _ rfl)
      have d1 : wr.cell? ⟨ge, o + k * 4 + 1, none⟩ = some (.int .i64 x.v.w) := bel_cell hbl hge (hc 1 _ rfl)
      have d2 : wr.cell? ⟨ge, o + k * 4 + 2, none⟩ = some (.int .u64 x.v.lo) := bel_cell hbl hge (hc 2 _ rfl)
      have d3 : wr.cell? ⟨ge, o + k * 4 + 3, none⟩ = some (.int .u64 x.v.hi) := bel_cell hbl hge (hc 3 _ rfl)
      have hltI : (k : Int) < (n : Int) := by omega
      have HS : Hid _ := fvF_snoc (ns := ns) hx
      have hsz := HNM.out x (List.mem_of_getElem? hx)
      obtain ⟨V, hV⟩ : ∃ V, V = varAt ns x.nm := ⟨_, rfl⟩
      have HVR : Hid (∀ wx, Below w.heap.size w wx → Calls Tryz.prog 21 #[.pointer (some ⟨g, 0, none⟩), .string x.nm] wx fun e w' => e = .returned (.tuple #[.int .i64 V, .bool (!decide (V = 0))]) ∧ w' = wx) := fun wx hb => by rw [hV]; exact var_any (HG.out.below hb) hsz
      have HSV : Hid (fvF ns (l.take (k + 1)) = if V = 0 then fvF ns (l.take k) else if (getM (fvF ns (l.take k)) V).isSome then fvF ns (l.take k) else fvF ns (l.take k) ++ [(V, x.v)]) := by unfold Hid; rw [HS.out, hV]; rfl
      have hVr := varAt_range ns x.nm
      rw [← hV] at hVr
      have hV64 : w64 V := by unfold w64; omega
      have HV64 : Hid _ := hV64
      clear hc hLe hx hsz HS hV hVr hV64
      obtain ⟨M, hMM⟩ : ∃ M, M = fvF ns (l.take k) := ⟨_, rfl⟩
      rw [← hMM] at HM HSV
      clear hMM
      have hbc : Below w.heap.size w (wr.alloc (.cells #[.string x.nm, .int .i64 x.v.w, .int .u64 x.v.lo, .int .u64 x.v.hi] 60)) := hbl.alloc hbl.size _
      by_cases hV0 : V = 0
      · subst hV0
        have HFN : Hid (fvF ns (l.take (k + 1)) = M) := by unfold Hid; rw [HSV.out, if_pos rfl]
        go_wp2_with fail
        refine Calls.mono (HVR.out _ hbc) ?_
        rintro e wq ⟨rfl, hq⟩
        rw [hq]
        clear hq wq
        go_wp2_with fail
        exact ⟨⟨k + 1, by omega, by go_num, by rw [HFN.out]; exact HM.out.kept (heap_alloc_old _ _ hbw), hbc⟩, by simp [intOf]; omega⟩
      · have HVR2 : Hid (∀ wx, Below w.heap.size w wx → Calls Tryz.prog 21 #[.pointer (some ⟨g, 0, none⟩), .string x.nm] wx fun e w' => e = .returned (.tuple #[.int .i64 V, .bool true]) ∧ w' = wx) := fun wx hb => by
          have h := HVR.out wx hb
          rw [show (!decide (V = 0)) = true by simp [hV0]] at h
          exact h
        obtain ⟨y, hy⟩ : ∃ y, y = (getM M V).getD zBt := ⟨_, rfl⟩
        obtain ⟨f, hf⟩ : ∃ f, f = (getM M V).isSome := ⟨_, rfl⟩
        have hlk : (Instr.lookup 77 (.map (some w.heap.size)) (.int .i64 V) true).run Tryz.prog (wr.alloc (.cells #[.string x.nm, .int .i64 x.v.w, .int .u64 x.v.lo, .int .u64 x.v.hi] 60)) = .ok (.tuple #[.agg #[.int .i64 y.w, .int .u64 y.lo, .int .u64 y.hi], .bool f]) (wr.alloc (.cells #[.string x.nm, .int .i64 x.v.w, .int .u64 x.v.lo, .int .u64 x.v.hi] 60)) := by
          rw [hy, hf]
          exact (HM.out.kept (heap_alloc_old wr _ hbw)).look HV64.out
        clear hy
        cases f
        · have hno : getM M V = none := by simpa using hf.symm
          have HFN : Hid (fvF ns (l.take (k + 1)) = M ++ [(V, x.v)]) := by unfold Hid; rw [HSV.out, if_neg hV0, ← hf]; rfl
          obtain ⟨w6, hmu, hM6, hg6, hs6⟩ := Bm.put (w := (wr.alloc (.cells #[.string x.nm, .int .i64 x.v.w, .int .u64 x.v.lo, .int .u64 x.v.hi] 60)).alloc (.cells #[.int .i64 y.w, .int .u64 y.lo, .int .u64 y.hi] 34)) ((HM.out.kept (heap_alloc_old wr _ hbw)).kept (heap_alloc_old _ _ (by rw [size_alloc']; omega))) HV64.out x.v hno
          have hmu2 : (Instr.mapUpdate 77 (.map (some w.heap.size)) (.int .i64 V) (.agg #[.int .i64 x.v.w, .int .u64 x.v.lo, .int .u64 x.v.hi])).run Tryz.prog ((wr.alloc (.cells #[.string x.nm, .int .i64 x.v.w, .int .u64 x.v.lo, .int .u64 x.v.hi] 60)).alloc (.cells #[.int .i64 y.w, .int .u64 y.lo, .int .u64 y.hi] 34)) = .ok () w6 := hmu
          have HM6 : Hid _ := hM6
          have hb6 : Below w.heap.size w w6 := (hbc.alloc hbc.size _).trans ⟨hg6.os, hg6.tape, hg6.output, hg6.size, fun q hq => hg6.block q (by rw [size_alloc', size_alloc']; omega) (fun e => by cases e; omega)⟩
          clear hmu hM6 hg6 hs6 hf hno hV0
          go_wp2_with fail
          refine Calls.mono (HVR2.out _ hbc) ?_
          rintro e wq ⟨rfl, hq⟩
          rw [hq]
          clear hq wq
          go_wp2_with fail
          exact ⟨⟨k + 1, by omega, by go_num, by rw [HFN.out]; exact HM6.out, hb6⟩, by simp [intOf]; omega⟩
        · have HFN : Hid (fvF ns (l.take (k + 1)) = M) := by unfold Hid; rw [HSV.out, if_neg hV0, ← hf]; rfl
          clear hf hV0
          go_wp2_with fail
          refine Calls.mono (HVR2.out _ hbc) ?_
          rintro e wq ⟨rfl, hq⟩
          rw [hq]
          clear hq wq
          go_wp2_with fail
          exact ⟨⟨k + 1, by omega, by go_num, by rw [HFN.out]; exact (HM.out.kept (heap_alloc_old _ _ hbw)).kept (heap_alloc_old _ _ (by rw [size_alloc']; omega)), hbc.alloc hbc.size _⟩, by simp [intOf]; omega⟩
    · obtain rfl : k = n := by omega
      have hltI : ¬ (k : Int) < (k : Int) := by omega
      have HF : Hid (Bm wr w.heap.size (fvF ns l)) := by have h := HM.out; rw [HN.out, List.take_length] at h; exact h
      clear HM
      go_wp2_with fail
      go_ret
      exact ⟨rfl, HF.out, hbl⟩

/-- A walk at block wb: its graph, what is given, what is known. -/
structure Wk (w : World) (wb g mg mk : Nat) (G M : List (Int × Bt)) : Prop where
  hd : w.heap[wb]? = some (.cells #[.pointer (some ⟨g, 0, none⟩), .map (some mg), .map (some mk)] 97)
  gv : Bm w mg G
  kn : Bm w mk M
  ne : mg ≠ mk ∧ mg ≠ wb ∧ mk ≠ wb
theorem Wk.below {w w' : World} {wb g mg mk : Nat} {G M : List (Int × Bt)} (h : Wk w wb g mg mk G M) (hb : Below w.heap.size w w') : Wk w' wb g mg mk G M :=
  ⟨(hb.block _ (Array.getElem?_eq_some_iff.1 h.hd).1).trans h.hd, h.gv.kept (hb.block _ h.gv.mp.lt), h.kn.kept (hb.block _ h.kn.mp.lt), h.ne⟩

theorem nw_any {w : World} {B g mi mv mo c : Nat} {v : Value} {ns : List Nd} {a : Option Addr} {l : List Nv} (h : Gr w B g mi mv v mo ns) (he : Le w a l) (hnm : ∀ x ∈ l, x.nm.size ≤ maxLen) (hl : l.length ≤ 1000) :
    Calls Tryz.prog 26 #[.pointer (some ⟨g, 0, none⟩), .slice a l.length c] w fun e w' => ∃ wb mk, e = .returned (.pointer (some ⟨wb, 0, none⟩)) ∧ w.heap.size ≤ wb ∧ w.heap.size ≤ mk ∧ Wk w' wb g w.heap.size mk (fvF ns l) [] ∧ Below w.heap.size w w' := by
  have HF : Hid _ := fv_any (c := c) h he hnm hl
  have hmm := @run_makeMap Tryz.prog
  obtain ⟨n, hn⟩ : ∃ n, n = l.length := ⟨_, rfl⟩
  rw [← hn] at HF ⊢
  clear h he hnm hl hn
  go_enter Tryz.func26, Tryz.ntmps26
  go_wp2_with fail
  refine Calls.mono HF.out ?_
  rintro e w1 ⟨rfl, hM, hb⟩
  have HM : Hid _ := hM
  have hs := hM.mp.lt
  clear hM
  go_wp2_with fail
  go_ret
  refine ⟨_, _, rfl, ?_, ?_, ⟨?_, (HM.out.kept (heap_alloc_old w1 (.map #[] 0) hs)).kept (heap_alloc_old _ _ (by rw [size_alloc']; omega)), (Bm.made w1).kept (heap_alloc_old _ _ (by rw [size_alloc']; omega)), ?_, ?_, ?_⟩, (hb.alloc hb.size _).alloc (by rw [size_alloc']; have := hb.size; omega) _⟩
  · have := hb.size; omega
  · exact hb.size
  · have := heap_alloc_new (w1.alloc (.map #[] 0)) (.cells #[.pointer (some ⟨g, 0, none⟩), .map (some w.heap.size), .map (some w1.heap.size)] 97)
    rw [size_alloc'] at this
    exact this
  · omega
  · omega
  · omega

end Go.Proofs.YtnflphhckgeneaaGreat
