/- Every operator asks for its operands' sorts and tells its own as the document says: for every three ints and every slice of ints (a nil one too) TermSorts returns true, and nothing old has turned. No condition. -/
import Derived.Test.YthobimopnommoaaRows
import Derived.WalkKit
import Derived.ProofKit
import Derived.OpenShut
import Derived.Test.YthobimopnommoaaP0
import Derived.Test.YthobimopnommoaaR14
namespace Go.Proofs.Ythobimopnommoaa.termSorts
open Go.ChangeShapes Go.WideShapes Go.ChangeAt Go.RowKit
set_option linter.unusedVariables false

theorem own : ownKnob Try.prog.godebug = none := by kernel_rfl
theorem laidOut : laidOutB Try.prog = true := by kernel_rfl
theorem cells3 : Try.prog.cellsOf 3 = 1 := by kernel_rfl

set_option maxRecDepth 100000 in
theorem lifted (os : Os) (started : os.Started) (H : Type) (enc : TypeId × Value → H) :
    ReturnsInHanded {} Try.checked os 4 .any (Rows.termSortsSpec.pre6 enc Try.prog Try.f4 Rows.termSortsRow.domain false) (Rows.termSortsSpec.post enc Try.prog Try.f4 false true false false) := by
  refine returnsInHanded_of_change (C := Try.checked) own started (by kernel_rfl) Try.func4
    (ChangeSpec.witness6 (enc := enc) (C := Try.checked) false ⟨#[], #[.int .i64 0, .int .i64 0, .int .i64 0, .slice none 0 0], []⟩ 8 (by kernel_rfl) (by kernel_rfl) (by kernel_rfl) (by kernel_rfl)) ?_
  intro W base args ds gs before hval0 hW hcnd _
  have hval : ∀ (j : Nat) t v, Try.f4.params[j]? = some t → args[j]? = some v → Value.okWide Try.prog W .any base t v := hval0
  have hW' := hW
  obtain ⟨p, q, hA0, hV, rfl, hfz, hnd⟩ := hW
  have hA : DataW.TrodAll enc Try.prog W 0 (fun _ => true) true Try.f4.params.toList args.toList ds p := hA0
  rw [Try.params4] at hA hval
  obtain ⟨v0, vs0, d0, ds0, p0, q0, hargs, rfl, rfl, h0, r0⟩ := trodAll_cons hA
  obtain ⟨v1, vs1, d1, ds1, p1, q1, rfl, rfl, rfl, h1, r1⟩ := trodAll_cons r0
  obtain ⟨v2, vs2, d2, ds2, p2, q2, rfl, rfl, rfl, h2, r2⟩ := trodAll_cons r1
  obtain ⟨v3, vs3, d3, ds3, p3, q3, rfl, rfl, rfl, h3, r3⟩ := trodAll_cons r2
  obtain ⟨rfl, rfl, rfl⟩ := trodAll_nil r3
  obtain rfl : args = #[v0, v1, v2, v3] := by cases args; simp_all
  obtain ⟨rfl, rfl⟩ := trodVars_none hV
  obtain ⟨a0, rfl, rfl, rfl, w0⟩ := open_int Try.underlying3 (hval 0 3 v0 rfl rfl) h0
  obtain ⟨a1, rfl, rfl, rfl, w1⟩ := open_int Try.underlying3 (hval 1 3 v1 rfl rfl) h1
  obtain ⟨a2, rfl, rfl, rfl, w2⟩ := open_int Try.underlying3 (hval 2 3 v2 rfl rfl) h2
  obtain ⟨s0, len, cap, rfl⟩ := okWide_slice Try.underlying45 (hval 3 45 v3 rfl rfl)
  have h3k := h3
  obtain ⟨fuel, hf⟩ := h3
  clear hA0 hval0
  simp only [List.append_nil, List.nil_append] at hW'
  have hlt : ∀ x ∈ p3, x.block < W.heap.size := fun x hx => by simpa using hW'.lt x hx
  have close : ∀ W', Below W.heap.size W W' → Rows.termSortsSpec.post enc Try.prog Try.f4 false true false false W #[.int .i64 a0, .int .i64 a1, .int .i64 a2, .slice s0 len cap] (.bool true) W' := by
    intro W' hb
    have h3t := Below.trod laidOut (by kernel_rfl) (of_decide_eq_true (by kernel_rfl)) h3k hb hlt
    have hall := trodAll_cons_mk (shut_int (w := W') (enc := enc) (base := 0) (spare := fun b => decide (b < W.heap.size)) (held := true) Try.underlying3 w0) (trodAll_cons_mk (shut_int Try.underlying3 w1) (trodAll_cons_mk (shut_int Try.underlying3 w2) (trodAll_cons_mk h3t trodAll_mk0)))
    simp only [List.append_nil, List.nil_append] at hall
    exact ⟨_, _, _, [], p3, [], hW', trodAll_cons_mk (shut_bool Try.underlying4 _) trodAll_mk0, hall, rfl, hb.frame _, fun h => by cases h⟩
  rcases open_ints Try.underlying45 Try.underlying3 cells3 hf with ⟨hcs, hx⟩ | ⟨a, len', cap', zs, hcs, _, hl, hm, hz, hx, hcell, hwz⟩
  · simp [Value.cells] at hcs
    obtain ⟨rfl, rfl, rfl⟩ := hcs
    refine (walk_sorts_empty a0 a1 a2 W).mono fun e W' ⟨he, hg⟩ => ?_
    subst he
    exact ⟨_, rfl, close W' hg⟩
  · simp [Value.cells] at hcs
    obtain ⟨rfl, rfl, rfl⟩ := hcs
    simp only [if_true] at hz
    by_cases hl0 : len = 0
    · subst hl0
      refine (walk_sorts_empty a0 a1 a2 W).mono fun e W' ⟨he, hg⟩ => ?_
      subst he
      exact ⟨_, rfl, close W' hg⟩
    · obtain ⟨g, o, sp⟩ := a
      have hsp : sp = none := by
        have := hcell 0 (by omega)
        cases sp with
        | none => rfl
        | some x => simp [World.cell?, Addr.add] at this; split at this <;> simp at this
      subst hsp
      have hln : (zs.take len).length = len := by rw [List.length_take]; omega
      have hLi : Li W g o (zs.take len) := by
        intro j hj
        rw [hln] at hj
        have h := hcell j (by omega)
        rw [List.getD_eq_getElem?_getD, List.getElem?_take_of_lt hj, ← List.getD_eq_getElem?_getD]
        have e : (⟨g, o, none⟩ : Addr).add j = ⟨g, o + j, none⟩ := by by_cases hj0 : j = 0 <;> simp [Addr.add, hj0]
        rw [e] at h
        exact h
      have hwk := walk_sorts (c := cap) a0 a1 a2 W hLi (by omega) (by omega)
      rw [hln] at hwk
      refine hwk.mono fun e W' ⟨he, hg⟩ => ?_
      subst he
      exact ⟨_, rfl, close W' hg⟩

theorem over : Rows.termSortsRow.holds Try.pinned (OpenSpec.ofChange Rows.termSortsSpec) :=
  OpenClaim.holds_of_wide 4 Try.f4 rfl rfl rfl rfl rfl rfl rfl ⟨rfl, rfl, rfl, rfl, rfl⟩ rfl rfl rfl rfl rfl (by kernel_rfl) Try.func4 (by kernel_rfl)
    (of_decide_eq_true (by kernel_rfl)) (by unfold Func.isWrapper; first | (rw [if_pos (by decide +kernel)]; kernel_rfl) | (rw [if_neg (by decide +kernel)]; exact ⟨rfl, rfl⟩))
    (fun os started H enc _ => lifted os started H enc)

theorem proved : Rows.TermSortsSaid :=
  over
#print axioms proved
end Go.Proofs.Ythobimopnommoaa.termSorts

namespace Go.Proofs.Ythobimopnommoaa
theorem termSorts_holds : Rows.TermSortsSaid := termSorts.proved
end Go.Proofs.Ythobimopnommoaa
