/- Contracts (store): a clause's literals, each once. -/
import Derived.Test.YtkndjndhjdfhcaaST2
namespace Go.Proofs.Ytkndjndhjdfhcaa
open Go.RowKit
set_option linter.unusedSimpArgs false
set_option linter.unusedVariables false

theorem intUnder : Try.prog.underlying 3 = some (.int .i64) := by kernel_rfl
theorem intLaw : Go.Maps.Keyed Try.prog 3 := Go.Maps.int_keyed intUnder
theorem msUnder : Try.prog.underlying 65 = some (.map 3 66) := by kernel_rfl
theorem zeroUnit (w : World) : (zeroValue 66).run Try.prog w = .ok (.agg #[]) w := by kernel_rfl
theorem intKey {k : Int} (h : w64 k) : keyOf Try.prog 3 (.int .i64 k) = some (.int .i64 k) := Go.Maps.keyOf_int_mk intUnder (wf64 h)
/-- A map that has just these numbers. -/
def Ms (w : World) (b : Nat) (S : List Int) : Prop :=
  ∃ es cl, w.heap[b]? = some (.map es cl) ∧ (∀ e ∈ es.toList, ∃ k, e.key = .int .i64 k ∧ e.val = .agg #[] ∧ w64 k ∧ k ∈ S) ∧ (∀ k ∈ S, ∃ e ∈ es.toList, e.key = .int .i64 k)
theorem Ms.lt {w : World} {b : Nat} {S : List Int} (h : Ms w b S) : b < w.heap.size := by
  obtain ⟨es, cl, h1, -⟩ := h
  exact (Array.getElem?_eq_some_iff.1 h1).1
theorem Ms.kept {w w' : World} {b : Nat} {S : List Int} (h : Ms w b S) (hb : w'.heap[b]? = w.heap[b]?) : Ms w' b S := by
  obtain ⟨es, cl, h1, h2⟩ := h
  exact ⟨es, cl, hb.trans h1, h2⟩
theorem Ms.made (w : World) : Ms (w.alloc (.map #[] 0)) w.heap.size [] := ⟨#[], 0, heap_alloc_new w _, (fun e he => nomatch he), (fun k h => nomatch h)⟩
theorem Ms.find {wx : World} {es : List MapEntry} {S : List Int} (h2 : ∀ e ∈ es, ∃ k, e.key = .int .i64 k ∧ e.val = .agg #[] ∧ w64 k ∧ k ∈ S) (h3 : ∀ k ∈ S, ∃ e ∈ es, e.key = .int .i64 k) {k : Int} (hk : w64 k) :
    ((Instr.findKey 3 (.int .i64 k) es).run Try.prog wx = .ok none wx ∧ k ∉ S) ∨ ∃ j, (Instr.findKey 3 (.int .i64 k) es).run Try.prog wx = .ok (some (j, .agg #[])) wx ∧ k ∈ S := by
  have hes : ∀ x ∈ es, ∃ l, keyOf Try.prog 3 x.key = some l := fun x hx => by
    obtain ⟨k', e1, -, e3, -⟩ := h2 x hx
    rw [e1]; exact ⟨_, intKey e3⟩
  rcases intLaw.find wx (intKey hk) es hes with ⟨c1, c2⟩ | ⟨j, e0, c1, c2, c3⟩
  · refine Or.inl ⟨c1, fun e => ?_⟩
    obtain ⟨x, hx, hxk⟩ := h3 k e
    exact absurd hxk (c2 x hx)
  · obtain ⟨k', e1, e2, -, e4⟩ := h2 e0 (List.mem_of_getElem? c2)
    have hkk : k = k' := by rw [c3] at e1; simpa using e1
    subst hkk
    rw [e2] at c1
    exact Or.inr ⟨j, c1, e4⟩
theorem Ms.look {w : World} {b : Nat} {S : List Int} (h : Ms w b S) {k : Int} (hk : w64 k) : (Instr.lookup 65 (.map (some b)) (.int .i64 k) true).run Try.prog w = .ok (.tuple #[.agg #[], .bool (decide (k ∈ S))]) w := by
  obtain ⟨es, cl, hb, h2, h3⟩ := h
  rcases Ms.find (wx := w) h2 h3 hk with ⟨c1, c2⟩ | ⟨j, c1, c2⟩
  · simp [Instr.lookup, run_underlying msUnder, MapKept.run_getObj_map hb, intLaw.check w _ (intKey hk), c1, zeroUnit, Result.andThen, c2]
  · simp [Instr.lookup, run_underlying msUnder, MapKept.run_getObj_map hb, intLaw.check w _ (intKey hk), c1, Result.andThen, c2]
theorem Ms.put {w : World} {b : Nat} {S : List Int} (h : Ms w b S) {k : Int} (hk : w64 k) (hn : k ∉ S) :
    ∃ w', (Instr.mapUpdate 65 (.map (some b)) (.int .i64 k) (.agg #[])).run Try.prog w = .ok () w' ∧ Ms w' b (S ++ [k]) ∧ w.grownBy w' (some b) ∧ w'.heap.size = w.heap.size := by
  obtain ⟨es, cl, hb, h2, h3⟩ := h
  have hlt : b < w.heap.size := (Array.getElem?_eq_some_iff.1 hb).1
  have hgr : ∀ o : Obj, w.grownBy (ChangeMaps.setBlock w b o) (some b) ∧ (ChangeMaps.setBlock w b o).heap.size = w.heap.size ∧ (ChangeMaps.setBlock w b o).heap[b]? = some o := fun o => by
    refine ⟨⟨rfl, rfl, rfl, by simp [ChangeMaps.setBlock], fun i _ hi => ?_⟩, by simp [ChangeMaps.setBlock], by simp [ChangeMaps.setBlock, hlt]⟩
    have : b ≠ i := fun e => hi (by rw [e])
    simp [ChangeMaps.setBlock, this]
  rcases Ms.find (wx := w) h2 h3 hk with ⟨c1, c2⟩ | ⟨j, c1, c2⟩
  · refine ⟨ChangeMaps.setBlock w b (.map (es.push ⟨.int .i64 k, .agg #[], cl⟩) (cl + 1)), by simp [Instr.mapUpdate, run_underlying msUnder, MapKept.run_getObj_map hb, intLaw.check w false (intKey hk), c1, MapKept.run_setObj_map _ hb, Result.andThen, ChangeMaps.setBlock], ⟨_, _, (hgr _).2.2, ?_, ?_⟩, (hgr _).1, (hgr _).2.1⟩
    · intro e he
      simp only [Array.toList_push, List.mem_append, List.mem_singleton] at he
      rcases he with he | rfl
      · obtain ⟨k', e1, e2, e3, e4⟩ := h2 e he
        exact ⟨k', e1, e2, e3, List.mem_append_left _ e4⟩
      · exact ⟨k, rfl, rfl, hk, by simp⟩
    · intro k' hf
      simp only [Array.toList_push, List.mem_append, List.mem_singleton]
      rcases List.mem_append.1 hf with hf | hf
      · obtain ⟨e, he, hk'⟩ := h3 k' hf
        exact ⟨e, Or.inl he, hk'⟩
      · rw [List.mem_singleton.1 hf]
        exact ⟨_, Or.inr rfl, rfl⟩
  · exact absurd c2 hn

/-- Each once, in the order of their first places. -/
def ddF : List Int → List Int → List Int
  | acc, [] => acc
  | acc, x :: c => ddF (if x ∈ acc then acc else acc ++ [x]) c
def dd (c : List Int) : List Int := ddF [] c
theorem ddF_snoc (x : Int) : ∀ (c acc : List Int), ddF acc (c ++ [x]) = if x ∈ ddF acc c then ddF acc c else ddF acc c ++ [x]
  | [], acc => rfl
  | y :: c, acc => ddF_snoc x c _
theorem dd_snoc (c : List Int) (x : Int) : dd (c ++ [x]) = if x ∈ dd c then dd c else dd c ++ [x] := ddF_snoc x c []
theorem mem_ddF (y : Int) : ∀ (c acc : List Int), y ∈ ddF acc c ↔ y ∈ acc ∨ y ∈ c
  | [], acc => by simp [ddF]
  | x :: c, acc => by
    rw [ddF, mem_ddF y c]
    by_cases h : x ∈ acc
    · rw [if_pos h]
      constructor
      · rintro (h1 | h1)
        · exact Or.inl h1
        · exact Or.inr (List.mem_cons_of_mem _ h1)
      · rintro (h1 | h1)
        · exact Or.inl h1
        · rcases List.mem_cons.1 h1 with rfl | h1
          · exact Or.inl h
          · exact Or.inr h1
    · rw [if_neg h]; simp [or_assoc]
theorem mem_dd {y : Int} {c : List Int} : y ∈ dd c ↔ y ∈ c := by unfold dd; rw [mem_ddF]; simp
theorem nodup_ddF : ∀ (c acc : List Int), acc.Nodup → (ddF acc c).Nodup
  | [], acc, h => h
  | x :: c, acc, h => by
    rw [ddF]
    by_cases hx : x ∈ acc
    · rw [if_pos hx]; exact nodup_ddF c acc h
    · rw [if_neg hx]
      refine nodup_ddF c _ ?_
      rw [List.nodup_append]
      exact ⟨h, by simp, fun a ha b hb => by rw [List.mem_singleton.1 hb]; intro e; rw [e] at ha; exact hx ha⟩
theorem nodup_dd (c : List Int) : (dd c).Nodup := nodup_ddF c [] List.nodup_nil
theorem len_ddF : ∀ (c acc : List Int), (ddF acc c).length ≤ acc.length + c.length
  | [], acc => by simp [ddF]
  | x :: c, acc => by
    rw [ddF]
    have := len_ddF c (if x ∈ acc then acc else acc ++ [x])
    refine Nat.le_trans this ?_
    split <;> simp <;> omega
theorem len_dd (c : List Int) : (dd c).length ≤ c.length := by have := len_ddF c []; unfold dd; simpa using this
/-- A literal and its opposite. -/
def opp (c : List Int) : Bool := c.any fun x => decide (-x ∈ c)
/-- What a store keeps of a clause; the error. -/
def onceF (c : List Int) : List Int × Int := if c.all isL then (if opp c then ([], 112) else (dd c, 0)) else ([], 110)
theorem opp_take_succ {c : List Int} {k : Nat} {x : Int} (hk : c[k]? = some x) (h : opp (c.take k) = false) (hx : x ≠ 0) : opp (c.take (k + 1)) = decide (-x ∈ c.take k) := by
  unfold opp at *
  rw [List.take_add_one, hk]
  rw [List.any_eq_false] at h
  by_cases hm : -x ∈ c.take k
  · rw [decide_eq_true hm, List.any_eq_true]
    exact ⟨x, by simp, by simp [hm]⟩
  · rw [decide_eq_false hm, List.any_eq_false]
    intro y hy
    simp only [Option.toList_some, List.mem_append, List.mem_singleton] at hy
    rcases hy with hy | rfl
    · have := h y hy
      simp only [decide_eq_true_eq] at this
      simp only [Option.toList_some, List.mem_append, List.mem_singleton, decide_eq_true_eq, not_or]
      refine ⟨this, fun e => hm ?_⟩
      rw [← e, Int.neg_neg]; exact hy
    · simp only [Option.toList_some, List.mem_append, List.mem_singleton, decide_eq_true_eq, not_or]
      exact ⟨hm, by omega⟩
theorem opp_mono {c : List Int} {k : Nat} (h : opp (c.take k) = true) : opp c = true := by
  unfold opp at *
  obtain ⟨x, hx, h⟩ := List.any_eq_true.1 h
  refine List.any_eq_true.2 ⟨x, List.mem_of_mem_take hx, ?_⟩
  simp only [decide_eq_true_eq] at *
  exact List.mem_of_mem_take h
end Go.Proofs.Ytkndjndhjdfhcaa
