/- Every node of numbers in their ranges is a key. -/
import Derived.Test.YtnflphhckgeneaaMg10
import Derived.Test.YtnflphhckgeneaaEA4
namespace Go.Proofs.Ytnflphhckgeneaa
open Go.RowKit
set_option linter.unusedSimpArgs false
set_option linter.unusedVariables false
/-- Numbers of their kinds. -/
def w64 (x : Int) : Prop := -9223372036854775808 ≤ x ∧ x ≤ 9223372036854775807
theorem wf64 {x : Int} (h : w64 x) : (Lit.int .i64 x).wf = true := by
  unfold w64 at h
  simp only [Lit.wf, IntKind.min, IntKind.max, IntKind.signed, IntKind.bits, Bool.and_eq_true, decide_eq_true_eq, if_true]
  omega
theorem wfu {x : Int} (h0 : 0 ≤ x) (h1 : x < 18446744073709551616) : (Lit.int .u64 x).wf = true := by
  simp only [Lit.wf, IntKind.min, IntKind.max, IntKind.signed, IntKind.bits, Bool.and_eq_true, decide_eq_true_eq]
  simp
  omega
set_option maxHeartbeats 1600000 in
theorem kn_of {n : Nd} (h1 : w64 n.op) (h2 : w64 n.s) (h3 : w64 n.a) (h4 : w64 n.b) (h5 : w64 n.c) (h6 : w64 n.p) (h7 : w64 n.q) (h8 : w64 n.w) (l0 : 0 ≤ n.lo) (l1 : n.lo < 18446744073709551616) (u0 : 0 ≤ n.hi) (u1 : n.hi < 18446744073709551616) (hs : n.nm.size ≤ maxLen) :
    ∃ kl, keyOf Try.prog 36 n.val = some kl := by
  have g1 := wf64 h1
  have g2 := wf64 h2
  have g3 := wf64 h3
  have g4 := wf64 h4
  have g5 := wf64 h5
  have g6 := wf64 h6
  have g7 := wf64 h7
  have g8 := wf64 h8
  have g9 := wfu l0 l1
  have g10 := wfu u0 u1
  have hk : Try.prog.keyType 36 = true := by kernel_rfl
  have hfm : n.val.formed Try.prog 36 = true := by kernel_rfl
  have hc : ∀ t, Try.prog.cellsOf t = Try.prog.cellsOf t := fun _ => rfl
  have e3 : Try.prog.cellsOf 3 = 1 := by kernel_rfl
  have e9 : Try.prog.cellsOf 9 = 1 := by kernel_rfl
  have e32 : Try.prog.cellsOf 22 = 1 := by kernel_rfl
  have e34 : Try.prog.cellsOf 24 = 3 := by kernel_rfl
  have e36 : Try.prog.cellsOf 36 = 11 := by kernel_rfl
  have hz : Try.prog.types.size + 1 = 127 + 1 + 1 + 1 := by kernel_rfl
  have q3 : ∀ (d : Nat) (x : Int), (Lit.int .i64 x).wf = true → Try.prog.keyLits (d + 1) 3 [.int .i64 x] = some [.int .i64 x] := fun d x hx => by
    unfold Program.keyLits; simp only [Try.underlying3]; simp [hx]
  have q32 : ∀ (d : Nat) (x : Int), (Lit.int .u64 x).wf = true → Try.prog.keyLits (d + 1) 22 [.int .u64 x] = some [.int .u64 x] := fun d x hx => by
    unfold Program.keyLits; simp only [Try.underlying22]; simp [hx]
  have q9 : ∀ (d : Nat) (x : ByteArray), x.size ≤ maxLen → Try.prog.keyLits (d + 1) 9 [.string x] = some [.string x.data.toList] := fun d x hx => by
    unfold Program.keyLits; simp only [Try.underlying9]; simp [hx]
  have q34 : ∀ (d : Nat), ∃ L, Try.prog.keyLits (d + 1 + 1) 24 [.int .i64 n.w, .int .u64 n.lo, .int .u64 n.hi] = some L := fun d => by
    unfold Program.keyLits; simp only [Try.underlying24]
    simp [e34, e3, e32, q3 d n.w g8, q32 d n.lo g9, q32 d n.hi g10]
  obtain ⟨L, hL'⟩ := q34 127
  have hL : Try.prog.keyLits 129 24 [.int .i64 n.w, .int .u64 n.lo, .int .u64 n.hi] = some L := hL'
  have hmain : ∃ ls, Try.prog.keyLits (Try.prog.types.size + 1) 36 n.val.cells.toList = some ls := by
    rw [hz]; unfold Program.keyLits; simp only [Try.underlying36]
    simp [Nd.val, Value.cells, e36, e34, e3, e9, q3 _ n.op g1, q3 _ n.s g2, q3 _ n.a g3, q3 _ n.b g4, q3 _ n.c g5, q3 _ n.p g6, q3 _ n.q g7, q9 _ n.nm hs, hL]
  obtain ⟨ls, hls⟩ := hmain
  unfold keyOf
  simp only [Try.underlying36, hk, hfm, Bool.and_self, if_true, hls, Option.map_some]
  exact ⟨_, rfl⟩
end Go.Proofs.Ytnflphhckgeneaa

/- Contracts (values of terms): maps from numbers to values; what fits a variable. -/
namespace Go.Proofs.Ytnflphhckgeneaa
open Go.RowKit
set_option linter.unusedSimpArgs false
set_option linter.unusedVariables false

def Bt.val (b : Bt) : Value := .agg #[.int .i64 b.w, .int .u64 b.lo, .int .u64 b.hi]
def zBt : Bt := ⟨0, 0, 0⟩
/-- A map's entries. -/
def bmL (M : List (Int × Bt)) : List (Value × Value) := M.map fun p => (.int .i64 p.1, p.2.val)
/-- What it has for a number. -/
def getM (M : List (Int × Bt)) (k : Int) : Option Bt := (M.find? fun p => decide (p.1 = k)).map (·.2)
structure Bm (w : World) (b : Nat) (M : List (Int × Bt)) : Prop where
  mp : Mp w 3 b (bmL M)
  once : (M.map (·.1)).Nodup
theorem intUnder : Try.prog.underlying 3 = some (.int .i64) := by kernel_rfl
theorem intLaw : Go.Maps.Keyed Try.prog 3 := Go.Maps.int_keyed intUnder
theorem bmUnder : Try.prog.underlying 62 = some (.map 3 24) := by kernel_rfl
theorem zeroBt (w : World) : (zeroValue 24).run Try.prog w = .ok zBt.val w := by kernel_rfl
theorem intKey {k : Int} (h : w64 k) : keyOf Try.prog 3 (.int .i64 k) = some (.int .i64 k) := Go.Maps.keyOf_int_mk intUnder (wf64 h)
theorem Mp.lookK {w : World} {k e t : TypeId} {b : Nat} {L : List (Value × Value)} (h : Mp w k b L) (K : Go.Maps.Keyed Try.prog k) (ht : Try.prog.underlying t = some (.map k e)) {z : Value} (hz : (zeroValue e).run Try.prog w = .ok z w)
    {key : Value} {kl : Lit} (hkey : keyOf Try.prog k key = some kl) :
    ((Instr.lookup t (.map (some b)) key true).run Try.prog w = .ok (.tuple #[z, .bool false]) w ∧ ∀ p ∈ L, p.1 ≠ key) ∨
    ∃ p, p ∈ L ∧ p.1 = key ∧ (Instr.lookup t (.map (some b)) key true).run Try.prog w = .ok (.tuple #[p.2, .bool true]) w := by
  obtain ⟨es, cl, hb, rfl, hk⟩ := h
  have hes : ∀ x ∈ es.toList, ∃ l, keyOf Try.prog k x.key = some l := fun x hx => hk (x.key, x.val) (List.mem_map.2 ⟨x, hx, rfl⟩)
  rcases K.find w hkey es.toList hes with ⟨h1, h2⟩ | ⟨j, e0, h1, h2, h3⟩
  · refine Or.inl ⟨by simp [Instr.lookup, run_underlying ht, MapKept.run_getObj_map hb, K.check w _ hkey, h1, hz, Result.andThen], fun p hp => ?_⟩
    obtain ⟨x, hx, rfl⟩ := List.mem_map.1 hp
    exact h2 x hx
  · exact Or.inr ⟨(e0.key, e0.val), List.mem_map.2 ⟨e0, List.mem_of_getElem? h2, rfl⟩, h3, by simp [Instr.lookup, run_underlying ht, MapKept.run_getObj_map hb, K.check w _ hkey, h1, Result.andThen]⟩

theorem Mp.storeK {w : World} {k e t : TypeId} {b : Nat} {L : List (Value × Value)} (h : Mp w k b L) (K : Go.Maps.Keyed Try.prog k) (ht : Try.prog.underlying t = some (.map k e))
    {key val : Value} {kl : Lit} (hkey : keyOf Try.prog k key = some kl) (hno : ∀ p ∈ L, p.1 ≠ key) :
    ∃ w', (Instr.mapUpdate t (.map (some b)) key val).run Try.prog w = .ok () w' ∧ Mp w' k b (L ++ [(key, val)]) ∧ w.grownBy w' (some b) ∧ w'.heap.size = w.heap.size := by
  obtain ⟨es, cl, hb, rfl, hk⟩ := h
  have hes : ∀ x ∈ es.toList, ∃ l, keyOf Try.prog k x.key = some l := fun x hx => hk (x.key, x.val) (List.mem_map.2 ⟨x, hx, rfl⟩)
  have hlt : b < w.heap.size := (Array.getElem?_eq_some_iff.1 hb).1
  rcases K.find w hkey es.toList hes with ⟨h1, h2⟩ | ⟨j, e0, h1, h2, h3⟩
  · refine ⟨ChangeMaps.setBlock w b (.map (es.push ⟨key, val, cl⟩) (cl + 1)), by simp [Instr.mapUpdate, run_underlying ht, MapKept.run_getObj_map hb, K.check w false hkey, h1, MapKept.run_setObj_map _ hb, Result.andThen, ChangeMaps.setBlock], ⟨es.push ⟨key, val, cl⟩, cl + 1, by simp [ChangeMaps.setBlock, hlt], by simp, ?_⟩, ⟨rfl, rfl, rfl, by simp [ChangeMaps.setBlock], fun i _ hi => ?_⟩, by simp [ChangeMaps.setBlock]⟩
    · intro p hp
      rcases List.mem_append.1 hp with hp | hp
      · exact hk p hp
      · obtain rfl := List.mem_singleton.1 hp
        exact ⟨_, hkey⟩
    · have : b ≠ i := fun e => hi (by rw [e])
      simp [ChangeMaps.setBlock, this]
  · exact absurd h3 (hno (e0.key, e0.val) (List.mem_map.2 ⟨e0, List.mem_of_getElem? h2, rfl⟩))

theorem Mp.look1 {w : World} {k e t : TypeId} {b : Nat} {L : List (Value × Value)} (h : Mp w k b L) (K : Go.Maps.Keyed Try.prog k) (ht : Try.prog.underlying t = some (.map k e)) {z : Value} (hz : (zeroValue e).run Try.prog w = .ok z w)
    {key : Value} {kl : Lit} (hkey : keyOf Try.prog k key = some kl) :
    ((Instr.lookup t (.map (some b)) key false).run Try.prog w = .ok z w ∧ ∀ p ∈ L, p.1 ≠ key) ∨
    ∃ p, p ∈ L ∧ p.1 = key ∧ (Instr.lookup t (.map (some b)) key false).run Try.prog w = .ok p.2 w := by
  obtain ⟨es, cl, hb, rfl, hk⟩ := h
  have hes : ∀ x ∈ es.toList, ∃ l, keyOf Try.prog k x.key = some l := fun x hx => hk (x.key, x.val) (List.mem_map.2 ⟨x, hx, rfl⟩)
  rcases K.find w hkey es.toList hes with ⟨h1, h2⟩ | ⟨j, e0, h1, h2, h3⟩
  · refine Or.inl ⟨by simp [Instr.lookup, run_underlying ht, MapKept.run_getObj_map hb, K.check w _ hkey, h1, hz, Result.andThen], fun p hp => ?_⟩
    obtain ⟨x, hx, rfl⟩ := List.mem_map.1 hp
    exact h2 x hx
  · exact Or.inr ⟨(e0.key, e0.val), List.mem_map.2 ⟨e0, List.mem_of_getElem? h2, rfl⟩, h3, by simp [Instr.lookup, run_underlying ht, MapKept.run_getObj_map hb, K.check w _ hkey, h1, Result.andThen]⟩
theorem getM_none {M : List (Int × Bt)} {k : Int} (h : getM M k = none) : ∀ p ∈ bmL M, p.1 ≠ .int .i64 k := by
  intro p hp e
  obtain ⟨x, hx, rfl⟩ := List.mem_map.1 hp
  have hk : x.1 = k := by simpa using e
  unfold getM at h
  rw [Option.map_eq_none_iff, List.find?_eq_none] at h
  exact h x hx (by simp [hk])
theorem getM_some {M : List (Int × Bt)} {k : Int} {v : Bt} (h : getM M k = some v) (hn : (M.map (·.1)).Nodup) : (.int .i64 k, v.val) ∈ bmL M ∧ ∀ p ∈ bmL M, p.1 = .int .i64 k → p.2 = v.val := by
  unfold getM at h
  obtain ⟨x, hx, rfl⟩ := Option.map_eq_some_iff.1 h
  have hk : x.1 = k := by simpa using List.find?_some hx
  have hm := List.mem_of_find?_eq_some hx
  refine ⟨List.mem_map.2 ⟨x, hm, by rw [← hk]⟩, fun p hp e => ?_⟩
  obtain ⟨y, hy, rfl⟩ := List.mem_map.1 hp
  have hy1 : y.1 = k := by simpa using e
  have : y = x := by
    have hpw := List.pairwise_map.1 hn
    rcases List.mem_iff_getElem.1 hy with ⟨i, hi, ei⟩
    rcases List.mem_iff_getElem.1 hm with ⟨j, hj, ej⟩
    by_cases hij : i = j
    · subst hij; rw [← ei, ← ej]
    · exfalso
      rcases Nat.lt_or_gt_of_ne hij with hl | hl
      · exact List.pairwise_iff_getElem.1 hpw i j hi hj hl (by rw [ei, ej, hy1, hk])
      · exact List.pairwise_iff_getElem.1 hpw j i hj hi hl (by rw [ei, ej, hy1, hk])
  rw [this]
theorem Bm.look {w : World} {b : Nat} {M : List (Int × Bt)} (h : Bm w b M) {k : Int} (hk : w64 k) : (Instr.lookup 62 (.map (some b)) (.int .i64 k) true).run Try.prog w = .ok (.tuple #[((getM M k).getD zBt).val, .bool (getM M k).isSome]) w := by
  cases e : getM M k with
  | none =>
    rcases h.mp.lookK intLaw bmUnder (zeroBt w) (intKey hk) with ⟨hr, _⟩ | ⟨p, hp, he, _⟩
    · exact hr
    · exact absurd he (getM_none e p hp)
  | some v =>
    obtain ⟨h1, h2⟩ := getM_some e h.once
    rcases h.mp.lookK intLaw bmUnder (zeroBt w) (intKey hk) with ⟨_, hn⟩ | ⟨p, hp, he, hr⟩
    · exact absurd rfl (hn _ h1)
    · rw [hr, h2 p hp he]; rfl
theorem Bm.look1 {w : World} {b : Nat} {M : List (Int × Bt)} (h : Bm w b M) {k : Int} (hk : w64 k) : (Instr.lookup 62 (.map (some b)) (.int .i64 k) false).run Try.prog w = .ok ((getM M k).getD zBt).val w := by
  cases e : getM M k with
  | none =>
    rcases h.mp.look1 intLaw bmUnder (zeroBt w) (intKey hk) with ⟨hr, _⟩ | ⟨p, hp, he, _⟩
    · exact hr
    · exact absurd he (getM_none e p hp)
  | some v =>
    obtain ⟨h1, h2⟩ := getM_some e h.once
    rcases h.mp.look1 intLaw bmUnder (zeroBt w) (intKey hk) with ⟨_, hn⟩ | ⟨p, hp, he, hr⟩
    · exact absurd rfl (hn _ h1)
    · rw [hr, h2 p hp he]; rfl
theorem Bm.kept {w w' : World} {b : Nat} {M : List (Int × Bt)} (h : Bm w b M) (hb : w'.heap[b]? = w.heap[b]?) : Bm w' b M := ⟨h.mp.kept hb, h.once⟩
theorem Bm.put {w : World} {b : Nat} {M : List (Int × Bt)} (h : Bm w b M) {k : Int} (hk : w64 k) (v : Bt) (hno : getM M k = none) :
    ∃ w', (Instr.mapUpdate 62 (.map (some b)) (.int .i64 k) v.val).run Try.prog w = .ok () w' ∧ Bm w' b (M ++ [(k, v)]) ∧ w.grownBy w' (some b) ∧ w'.heap.size = w.heap.size := by
  obtain ⟨w', hr, h1, h2, h3⟩ := h.mp.storeK (val := v.val) intLaw bmUnder (intKey hk) (getM_none hno)
  refine ⟨w', hr, ⟨by unfold bmL; rw [List.map_append]; exact h1, ?_⟩, h2, h3⟩
  rw [List.map_append, List.nodup_append]
  refine ⟨h.once, by simp, fun a ha c hc => ?_⟩
  obtain rfl : c = k := by simpa using hc
  obtain ⟨x, hx, rfl⟩ := List.mem_map.1 ha
  intro e
  exact getM_none hno (.int .i64 x.1, x.2.val) (List.mem_map.2 ⟨x, hx, rfl⟩) (by rw [e])
theorem Bm.made (w : World) : Bm (w.alloc (.map #[] 0)) w.heap.size [] := ⟨Mp.made w _, by simp⟩
end Go.Proofs.Ytnflphhckgeneaa
