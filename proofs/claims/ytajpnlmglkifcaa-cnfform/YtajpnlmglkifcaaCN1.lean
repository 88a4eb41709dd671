/- Contracts (clauses): maps from numbers to numbers, as functions; the encoder's small calls. -/
import Derived.Test.YtajpnlmglkifcaaAG11
import Derived.Lib.MinMax
namespace Go.Proofs.Ytajpnlmglkifcaa
open Go.RowKit
set_option linter.unusedSimpArgs false
set_option linter.unusedVariables false

theorem intUnder : Try.prog.underlying 3 = some (.int .i64) := by kernel_rfl
theorem intLaw : Go.Maps.Keyed Try.prog 3 := Go.Maps.int_keyed intUnder
theorem imUnder : Try.prog.underlying 62 = some (.map 3 3) := by kernel_rfl
theorem intKey {k : Int} (h : w64 k) : keyOf Try.prog 3 (.int .i64 k) = some (.int .i64 k) := Go.Maps.keyOf_int_mk intUnder (wf64 h)
/-- A map that has f's value for a number, just where there is one. -/
def Im (w : World) (b : Nat) (f : Int → Option Int) : Prop :=
  ∃ es cl, w.heap[b]? = some (.map es cl) ∧ (∀ e ∈ es.toList, ∃ k v, e.key = .int .i64 k ∧ e.val = .int .i64 v ∧ w64 k ∧ f k = some v) ∧ (∀ k v, f k = some v → ∃ e ∈ es.toList, e.key = .int .i64 k) ∧ (es.toList.map (·.key)).Nodup
theorem Im.lt {w : World} {b : Nat} {f : Int → Option Int} (h : Im w b f) : b < w.heap.size := by
  obtain ⟨es, cl, h1, -⟩ := h
  exact (Array.getElem?_eq_some_iff.1 h1).1
theorem Im.kept {w w' : World} {b : Nat} {f : Int → Option Int} (h : Im w b f) (hb : w'.heap[b]? = w.heap[b]?) : Im w' b f := by
  obtain ⟨es, cl, h1, h2⟩ := h
  exact ⟨es, cl, hb.trans h1, h2⟩
theorem Im.made (w : World) : Im (w.alloc (.map #[] 0)) w.heap.size (fun _ => none) := ⟨#[], 0, heap_alloc_new w _, (fun e he => nomatch he), (fun k v h => nomatch h), by simp⟩
theorem Im.find {wx : World} {es : List MapEntry} {f : Int → Option Int} (h2 : ∀ e ∈ es, ∃ k v, e.key = .int .i64 k ∧ e.val = .int .i64 v ∧ w64 k ∧ f k = some v) (h3 : ∀ k v, f k = some v → ∃ e ∈ es, e.key = .int .i64 k) {k : Int} (hk : w64 k) :
    ((Instr.findKey 3 (.int .i64 k) es).run Try.prog wx = .ok none wx ∧ f k = none) ∨ ∃ j e0 v, (Instr.findKey 3 (.int .i64 k) es).run Try.prog wx = .ok (some (j, e0.val)) wx ∧ es[j]? = some e0 ∧ e0.key = .int .i64 k ∧ e0.val = .int .i64 v ∧ f k = some v := by
  have hes : ∀ x ∈ es, ∃ l, keyOf Try.prog 3 x.key = some l := fun x hx => by
    obtain ⟨k', v', e1, -, e3, -⟩ := h2 x hx
    rw [e1]; exact ⟨_, intKey e3⟩
  rcases intLaw.find wx (intKey hk) es hes with ⟨c1, c2⟩ | ⟨j, e0, c1, c2, c3⟩
  · refine Or.inl ⟨c1, ?_⟩
    cases e : f k with
    | none => rfl
    | some v =>
      obtain ⟨x, hx, hxk⟩ := h3 k v e
      exact absurd hxk (c2 x hx)
  · obtain ⟨k', v', e1, e2, -, e4⟩ := h2 e0 (List.mem_of_getElem? c2)
    have hkk : k = k' := by rw [c3] at e1; simpa using e1
    subst hkk
    exact Or.inr ⟨j, e0, v', c1, c2, c3, e2, e4⟩
theorem Im.look {w : World} {b : Nat} {f : Int → Option Int} (h : Im w b f) {k : Int} (hk : w64 k) : (Instr.lookup 62 (.map (some b)) (.int .i64 k) false).run Try.prog w = .ok (.int .i64 ((f k).getD 0)) w := by
  obtain ⟨es, cl, hb, h2, h3, -⟩ := h
  rcases Im.find (wx := w) h2 h3 hk with ⟨c1, c2⟩ | ⟨j, e0, v, c1, c2, c3, c4, c5⟩
  · simp [Instr.lookup, run_underlying imUnder, MapKept.run_getObj_map hb, intLaw.check w _ (intKey hk), c1, zeroInt, Result.andThen, c2]
  · simp [Instr.lookup, run_underlying imUnder, MapKept.run_getObj_map hb, intLaw.check w _ (intKey hk), c1, Result.andThen, c4, c5]
theorem Im.look2 {w : World} {b : Nat} {f : Int → Option Int} (h : Im w b f) {k : Int} (hk : w64 k) : (Instr.lookup 62 (.map (some b)) (.int .i64 k) true).run Try.prog w = .ok (.tuple #[.int .i64 ((f k).getD 0), .bool (f k).isSome]) w := by
  obtain ⟨es, cl, hb, h2, h3, -⟩ := h
  rcases Im.find (wx := w) h2 h3 hk with ⟨c1, c2⟩ | ⟨j, e0, v, c1, c2, c3, c4, c5⟩
  · simp [Instr.lookup, run_underlying imUnder, MapKept.run_getObj_map hb, intLaw.check w _ (intKey hk), c1, zeroInt, Result.andThen, c2]
  · simp [Instr.lookup, run_underlying imUnder, MapKept.run_getObj_map hb, intLaw.check w _ (intKey hk), c1, Result.andThen, c4, c5]
theorem nodup_at {es : List MapEntry} (h : (es.map (·.key)).Nodup) {i j : Nat} {a b : MapEntry} (ha : es[i]? = some a) (hb : es[j]? = some b) (e : a.key = b.key) : i = j := by
  have hi := (List.getElem?_eq_some_iff.1 ha)
  have hj := (List.getElem?_eq_some_iff.1 hb)
  obtain ⟨hi1, hi2⟩ := hi
  obtain ⟨hj1, hj2⟩ := hj
  have hpw := List.pairwise_map.1 h
  rcases Nat.lt_trichotomy i j with hl | hl | hl
  · exact absurd (by rw [hi2, hj2, e]) (List.pairwise_iff_getElem.1 hpw i j hi1 hj1 hl)
  · exact hl
  · exact absurd (by rw [hi2, hj2, e]) (List.pairwise_iff_getElem.1 hpw j i hj1 hi1 hl)
theorem mod_at (es : Array MapEntry) (g : MapEntry → MapEntry) (i j : Nat) : (es.modify j g).toList[i]? = if j = i then (es.toList[i]?).map g else es.toList[i]? := by
  rw [Array.toList_modify, List.getElem?_modify]
  by_cases h : j = i
  · subst h; simp
  · simp [h]
def upf (f : Int → Option Int) (k v : Int) : Int → Option Int := fun x => if x = k then some v else f x
theorem Im.put {w : World} {b : Nat} {f : Int → Option Int} (h : Im w b f) {k : Int} (hk : w64 k) (v : Int) :
    ∃ w', (Instr.mapUpdate 62 (.map (some b)) (.int .i64 k) (.int .i64 v)).run Try.prog w = .ok () w' ∧ Im w' b (upf f k v) ∧ w.grownBy w' (some b) ∧ w'.heap.size = w.heap.size := by
  obtain ⟨es, cl, hb, h2, h3, h4⟩ := h
  have hlt : b < w.heap.size := (Array.getElem?_eq_some_iff.1 hb).1
  have hgr : ∀ o : Obj, w.grownBy (ChangeMaps.setBlock w b o) (some b) ∧ (ChangeMaps.setBlock w b o).heap.size = w.heap.size ∧ (ChangeMaps.setBlock w b o).heap[b]? = some o := fun o => by
    refine ⟨⟨rfl, rfl, rfl, by simp [ChangeMaps.setBlock], fun i _ hi => ?_⟩, by simp [ChangeMaps.setBlock], by simp [ChangeMaps.setBlock, hlt]⟩
    have : b ≠ i := fun e => hi (by rw [e])
    simp [ChangeMaps.setBlock, this]
  rcases Im.find (wx := w) h2 h3 hk with ⟨c1, c2⟩ | ⟨j, e0, v0, c1, c2, c3, c4, c5⟩
  · refine ⟨ChangeMaps.setBlock w b (.map (es.push ⟨.int .i64 k, .int .i64 v, cl⟩) (cl + 1)), by simp [Instr.mapUpdate, run_underlying imUnder, MapKept.run_getObj_map hb, intLaw.check w false (intKey hk), c1, MapKept.run_setObj_map _ hb, Result.andThen, ChangeMaps.setBlock], ⟨_, _, (hgr _).2.2, ?_, ?_, ?_⟩, (hgr _).1, (hgr _).2.1⟩
    · intro e he
      simp only [Array.toList_push, List.mem_append, List.mem_singleton] at he
      rcases he with he | rfl
      · obtain ⟨k', v', e1, e2, e3, e4⟩ := h2 e he
        refine ⟨k', v', e1, e2, e3, ?_⟩
        unfold upf
        rw [if_neg (fun q => by rw [q, c2] at e4; cases e4)]; exact e4
      · exact ⟨k, v, rfl, rfl, hk, by unfold upf; rw [if_pos rfl]⟩
    · intro k' v' hf
      simp only [Array.toList_push, List.mem_append, List.mem_singleton]
      unfold upf at hf
      split at hf
      · rename_i q; exact ⟨_, Or.inr rfl, by rw [q]⟩
      · obtain ⟨e, he, hk'⟩ := h3 k' v' hf
        exact ⟨e, Or.inl he, hk'⟩
    · simp only [Array.toList_push, List.map_append, List.map_cons, List.map_nil]
      rw [List.nodup_append]
      refine ⟨h4, by simp, fun x hx y hy => ?_⟩
      rw [List.mem_singleton.1 hy]
      obtain ⟨e, he, rfl⟩ := List.mem_map.1 hx
      intro q
      obtain ⟨k', v', e1, -, -, e4⟩ := h2 e he
      rw [e1] at q
      have q2 : k' = k := by simpa using q
      rw [q2, c2] at e4; cases e4
  · have hjl : j < es.toList.length := (List.getElem?_eq_some_iff.1 c2).1
    have hkey : ((es[j]?).map (·.key)).getD (.int .i64 k) = .int .i64 k := by
      rw [← Array.getElem?_toList, c2]; exact c3
    refine ⟨ChangeMaps.setBlock w b (.map (es.modify j fun e => { e with key := .int .i64 k, val := .int .i64 v }) cl), by simp [Instr.mapUpdate, run_underlying imUnder, MapKept.run_getObj_map hb, intLaw.check w false (intKey hk), c1, MapKept.run_setObj_map _ hb, Result.andThen, ChangeMaps.setBlock, hkey, intLaw.stays w (intKey hk)], ⟨_, _, (hgr _).2.2, ?_, ?_, ?_⟩, (hgr _).1, (hgr _).2.1⟩
    · intro e he
      obtain ⟨i, hi⟩ := List.mem_iff_getElem?.1 he
      rw [mod_at] at hi
      by_cases hij : j = i
      · subst hij
        rw [if_pos rfl, c2] at hi
        have e1 := (Option.some.inj hi).symm
        rw [e1]
        exact ⟨k, v, rfl, rfl, hk, by unfold upf; rw [if_pos rfl]⟩
      · rw [if_neg hij] at hi
        obtain ⟨k', v', e1, e2, e3, e4⟩ := h2 e (List.mem_of_getElem? hi)
        refine ⟨k', v', e1, e2, e3, ?_⟩
        unfold upf
        rw [if_neg (fun q => hij (nodup_at h4 c2 hi (by rw [c3, e1, q])))]; exact e4
    · intro k' v' hf
      unfold upf at hf
      split at hf
      · rename_i q
        refine ⟨_, List.mem_iff_getElem?.2 ⟨j, by rw [mod_at, if_pos rfl, c2]; rfl⟩, by rw [q]⟩
      · rename_i q
        obtain ⟨e, he, hk'⟩ := h3 k' v' hf
        obtain ⟨i, hi⟩ := List.mem_iff_getElem?.1 he
        have hij : ¬ j = i := fun hh => by
          subst hh
          rw [c2] at hi
          obtain rfl := Option.some.inj hi
          rw [c3] at hk'
          have q2 : k = k' := by simpa using hk'
          exact q q2.symm
        exact ⟨e, List.mem_iff_getElem?.2 ⟨i, by rw [mod_at, if_neg hij, hi]⟩, hk'⟩
    · have e : ((es.modify j fun e => { e with key := .int .i64 k, val := .int .i64 v }).toList.map (·.key)) = es.toList.map (·.key) := by
        refine List.ext_getElem? fun i => ?_
        rw [List.getElem?_map, List.getElem?_map, mod_at]
        by_cases hij : j = i
        · subst hij
          rw [if_pos rfl, c2]
          show some (Value.int .i64 k) = some e0.key
          rw [c3]
        · rw [if_neg hij]
      rw [e]; exact h4
end Go.Proofs.Ytajpnlmglkifcaa
