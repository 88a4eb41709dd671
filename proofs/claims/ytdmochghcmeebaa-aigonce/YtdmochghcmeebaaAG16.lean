/- 'append(s, make([]bool, k)...)'; a slice of truths cut. -/
import Derived.Test.YtdmochghcmeebaaAG17
import Derived.Lib.AppendZerosOnto
namespace Go.Proofs.Ytdmochghcmeebaa
open Go.RowKit
set_option linter.unusedSimpArgs false
set_option linter.unusedVariables false

theorem zero_cells (k : Nat) : Builtin.zeroCells (Value.bool false).cells k = (List.replicate k (Value.bool false)).toArray := by
  have e : (Value.bool false).cells = #[Value.bool false] := rfl
  rw [e]
  refine Array.ext (by simp [size_zeroCells]) fun i h1 h2 => ?_
  simp [Builtin.zeroCells, Nat.mod_one]
theorem ones_false (k : Nat) : ∀ u ∈ List.replicate k (Value.bool false), u.oneCell' = true := by
  intro u hu
  rw [List.eq_of_mem_replicate hu]; rfl
theorem run_append_zeros (w : World) (ty : TypeId) {base n : Nat} {v : Value} {xs : List Value} (hown : w.ownsRow base 4 1 v n xs) (k : Nat) (hk63 : k ≤ 100000) (h63 : n + k ≤ 140737488355328) (hbase : base ≤ w.heap.size) :
    ∃ v' w', (Builtin.append_ #[23, 3] ty #[v, .int .i64 (k : Int)]).run Try.prog w = .ok v' w' ∧ w'.ownsRow base 4 1 v' (n + k) (xs ++ List.replicate k (.bool false)) ∧ w.grownBy w' v.ownBlock := by
  obtain ⟨i, hi, hz, hs, hb⟩ := info_any infoBool
  have hmx : n + k ≤ maxLen := by unfold maxLen; omega
  have hlen : (xs ++ List.replicate k (Value.bool false)).length = (n + k) * 1 := by rw [List.length_append, hown.1, List.length_replicate]; omega
  have grown : ∀ (old : Nat) (o : Array Value), o = xs.toArray → ∀ (row : Option Nat),
      (w.drew.alloc (.cells (o ++ Builtin.zeroCells (Value.bool false).cells k ++ Builtin.zeroCells (Value.bool false).cells (grownCap w (n + k) old 4 - (n + k))) 4)).ownsRow base 4 1
        (.slice (some ⟨w.heap.size, 0, none⟩) (n + k) (grownCap w (n + k) old 4)) (n + k) (xs ++ List.replicate k (.bool false)) ∧
      w.grownBy (w.drew.alloc (.cells (o ++ Builtin.zeroCells (Value.bool false).cells k ++ Builtin.zeroCells (Value.bool false).cells (grownCap w (n + k) old 4 - (n + k))) 4)) row := by
    intro old o ho row
    have hge := grownCap_ge w (n + k) old 4
    have hcm : grownCap w (n + k) old 4 ≤ maxLen := grownCap_le_maxLen w (n + k) old 4 hmx
    refine ⟨⟨hlen, .inr ⟨w.heap.size, _, _, rfl, hbase, heap_alloc_new w.drew _, hge, hcm, ?_, ?_⟩⟩, ⟨rfl, rfl, rfl, by simp, fun q hq _ => heap_alloc_old w.drew _ hq⟩⟩
    · have hx := hown.1
      rw [ho]
      simp only [Array.size_append, List.size_toArray, size_zeroCells, hx, show (Value.bool false).cells.size = 1 from rfl]
      omega
    · rw [ho, zero_cells k, zero_cells (grownCap w (n + k) old 4 - (n + k))]
      simp only [Array.toList_append, List.append_assoc]
      rw [← List.append_assoc, ← hlen]
      exact List.take_left
  rcases hown.2 with ⟨rfl, rfl⟩ | ⟨g, cap, cur, rfl, hbg, hg, hnc, hcm, hcs, htake⟩
  · have hx : xs = [] := List.eq_nil_of_length_eq_zero (by simpa using hown.1)
    subst hx
    by_cases hk : k = 0
    · subst hk
      refine ⟨.slice none 0 0, w, ?_, World.ownsRow_nil w base _ 1, ⟨rfl, rfl, rfl, Nat.le_refl _, fun _ _ _ => rfl⟩⟩
      simp [Builtin.append_, run_underlying underBools, run_underlying underInt, sizeOf, typeInfo, hi, asInt, asIntOf, IntKind.wrap_i64]
    · have hr := Lib.run_append_nil_zeros (P := Try.prog) w 23 3 ty 4 i (.bool false) .i64 .i64 underBools underInt hi hz k (by omega) (by omega) (by omega) (by rw [hb]; omega)
      have hgr := grown 0 #[] rfl none
      simp only [Nat.zero_add, List.nil_append, Array.empty_append] at hgr ⊢
      exact ⟨_, _, hr, hgr.1, hgr.2⟩
  · have holds : ∀ j u, xs[j]? = some u → w.cell? ((⟨g, 0, none⟩ : Addr).add j) = some u := World.ownsRow.cells hown (g := g) rfl
    by_cases hroom : n + k ≤ cap
    · have hst := run_storeCells_at Try.prog g n 4 (List.replicate k (Value.bool false)) 0 cur w hg (by simp; omega) (ones_false k)
      simp only [Nat.add_zero] at hst
      have hw : IntKind.i64.wrap (k : Int) = k := by rw [IntKind.wrap_i64]; omega
      have hneg : ¬ ((k : Int) < 0) := by omega
      have h48 : ¬ (281474976710656 < (k : Int)) := by omega
      rw [List.length_replicate] at hst
      refine ⟨.slice (some ⟨g, 0, none⟩) (n + k) cap, w.setRow g (cur.toList.take n ++ List.replicate k (Value.bool false) ++ cur.toList.drop (n + k)).toArray, ?_, ⟨hlen, .inr ⟨g, cap, _, rfl, hbg, setRow_heap w g cur _ 4 _ hg, hroom, hcm, ?_, ?_⟩⟩, ⟨rfl, rfl, rfl, by simp, fun q _ hq => setRow_other w g q _ (fun e => hq (by simp [Value.ownBlock, e]))⟩⟩
      · by_cases hk : k = 0
        · subst hk
          have hw0 : IntKind.i64.wrap 0 = 0 := by rw [IntKind.wrap_i64]; rfl
          have hst0 : (storeCells ⟨g, n, none⟩ []).run Try.prog w = .ok () (w.setRow g cur) := by simpa using hst
          have hnc0 : n ≤ cap := by omega
          simp [Builtin.append_, run_underlying underBools, run_underlying underInt, sizeOf, typeInfo, zeroValue, hi, hz, hs, hb, asInt, asIntOf, hw0, hnc0, Addr.add_lit, hst0]
        · have hzc := zero_cells k
          simp [Builtin.append_, run_underlying underBools, run_underlying underInt, sizeOf, typeInfo, zeroValue, hi, hz, hs, hb, asInt, asIntOf, hw, hneg, h48, hk, hroom, Addr.add_lit, hzc, hst]
      · simp only [List.size_toArray, List.length_append, List.length_take, List.length_drop, Array.length_toList, List.length_replicate]
        omega
      · have hx := hown.1
        rw [Nat.mul_one] at htake hx
        rw [htake, ← hlen]
        exact List.take_left
    · have hold : (Builtin.firstCells i.size n (.slice (some ⟨g, 0, none⟩) n cap)).run Try.prog w.drew = .ok xs.toArray w.drew := run_firstCells_some w.drew i.size n ⟨g, 0, none⟩ n cap xs (by rw [hs]; exact hown.1) (by simpa using holds)
      have hr := Lib.run_append_grow_zeros (P := Try.prog) w 23 3 ty 4 i (.bool false) .i64 .i64 underBools underInt hi hz (some ⟨g, 0, none⟩) n cap xs hold k (by omega) (by omega) (by omega) (by omega) (by rw [hb]; omega) (growslice_fits (by omega) (by rw [hb]; omega))
      have hgr := grown cap xs.toArray rfl (Value.ownBlock (.slice (some ⟨g, 0, none⟩) n cap))
      exact ⟨_, _, hr, hgr.1, hgr.2⟩
theorem app_nil_eq (w : World) (ty : TypeId) (a : Option Addr) (c : Nat) : (Builtin.append_ #[23, 23] ty #[.slice none 0 0, .slice a 0 c]).run Try.prog w = .ok (.slice none 0 0) w := by
  obtain ⟨i, hi, hz, hs, hb⟩ := info_any infoBool
  cases a <;> simp [Builtin.append_, run_underlying underBools, sizeOf, typeInfo, hi, Builtin.lenOf, Builtin.firstCells, loadCells, loadCellsFrom]
/-- 'append([]bool(nil), in...)'. -/
theorem run_app_nil (w : World) (ty : TypeId) {a : Option Addr} {L c : Nat} {il : List Bool} (h : Bz w (.slice a L c) il) (hL : L = il.length) (hl : il.length ≤ 140737488355328) :
    ∃ v' w', (Builtin.append_ #[23, 23] ty #[.slice none 0 0, .slice a L c]).run Try.prog w = .ok v' w' ∧ Bs' w' w.heap.size v' il ∧ w.grownBy w' none := by
  subst hL
  obtain ⟨a', c', e, h⟩ := h
  cases e
  rcases h with rfl | ⟨r, o, rfl, hc⟩
  · exact ⟨_, _, app_nil_eq w ty a c, World.ownsRow_nil _ _ _ _, ⟨rfl, rfl, rfl, Nat.le_refl _, fun _ _ _ => rfl⟩⟩
  · obtain ⟨i, hi, hz, hs, hb⟩ := info_any infoBool
    obtain ⟨v', w', h1, h2, h3, -, -⟩ := run_append_own_at (P := Try.prog) w w.heap.size 23 ty 4 i (.bool false) 1 1 underBools hi hz hs hb rfl (by decide) (.slice none 0 0) 0 [] (World.ownsRow_nil w _ _ 1) ⟨r, o, none⟩ il.length c (il.map Value.bool) (by simp) (fun j u hj => by
      have hl : j < il.length := by have := (List.getElem?_eq_some_iff.1 hj).1; simpa using this
      have e : (⟨r, o, none⟩ : Addr).add j = ⟨r, o + j, none⟩ := by by_cases hj0 : j = 0 <;> simp [Addr.add, hj0]
      rw [e, hc j hl]
      rw [List.getElem?_map, List.getElem?_eq_getElem hl] at hj
      rw [List.getD_eq_getElem?_getD, List.getElem?_eq_getElem hl]
      simpa using hj) (onesB il) (by unfold maxLen; omega) (by omega) (Nat.le_refl _)
    refine ⟨v', w', h1, ?_, h3⟩
    rw [Nat.zero_add, List.nil_append] at h2
    exact h2
/-- Part of a list of truths. -/
theorem Bs'.cut {w : World} {base : Nat} {v : Value} {l : List Bool} (h : Bs' w base v l) {m : Nat} (hm : m ≤ l.length) : ∃ a c, v = .slice a l.length c ∧ l.length ≤ c ∧ Bz w (.slice a m c) (l.take m) := by
  rcases h.2 with ⟨rfl, hn⟩ | ⟨r, cap, cur, rfl, hb, hg, hc, _, hs, ht⟩
  · have hl : l = [] := List.eq_nil_of_length_eq_zero hn
    subst hl
    have hm0 : m = 0 := by simpa using hm
    subst hm0
    exact ⟨none, 0, rfl, Nat.le_refl _, ⟨none, 0, rfl, Or.inl rfl⟩⟩
  · refine ⟨_, cap, rfl, hc, ⟨_, cap, by rw [List.length_take, Nat.min_eq_left hm], Or.inr ⟨r, 0, rfl, fun j hj => ?_⟩⟩⟩
    have hj' : j < m := by rw [List.length_take] at hj; omega
    have hjl : j < l.length := by omega
    have e : (l.map Value.bool)[j]? = some (.bool ((l.take m).getD j false)) := by
      rw [List.getElem?_map, List.getElem?_eq_getElem hjl, List.getD_eq_getElem?_getD, List.getElem?_take_of_lt hj', List.getElem?_eq_getElem hjl]; rfl
    rw [← ht, List.getElem?_take_of_lt (by omega)] at e
    rw [Nat.zero_add]
    exact cell_of hg _ (by simpa using e)
end Go.Proofs.Ytdmochghcmeebaa
