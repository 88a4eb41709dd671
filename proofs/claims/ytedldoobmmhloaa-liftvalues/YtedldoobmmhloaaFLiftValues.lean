/- LiftValues: bits become values, and values bits, as the document says, there and back. No condition. -/
import Derived.Test.YtedldoobmmhloaaRows
import Derived.WalkKit
import Derived.ProofKit
import Derived.OpenShut
import Derived.Lib.SmallJoins
import Derived.Test.YtedldoobmmhloaaP0
import Derived.Test.YtedldoobmmhloaaLP1
import Derived.Test.YtedldoobmmhloaaLF6
namespace Go.Proofs.Ytedldoobmmhloaa.liftValues
open Go.ChangeShapes Go.WideShapes Go.ChangeAt Go.RowKit Go.Joins
set_option linter.unusedVariables false

theorem own : ownKnob Try.prog.godebug = none := by kernel_rfl
theorem laidOut : laidOutB Try.prog = true := by kernel_rfl
theorem cellsB : Try.prog.cellsOf 25 = 3 := by kernel_rfl
theorem readsB {H : Type} {enc : TypeId × Value → H} (W' : World) (b : Nat) (sp : Nat → Bool) (hd : Bool) (x y f : Int) (wx : (Lit.int .i64 x).wf = true) (wy : (Lit.int .u64 y).wf = true) (wf : (Lit.int .u64 f).wf = true) :
    DataW.Trod enc Try.prog W' b sp hd 25 (.agg #[.int .i64 x, .int .u64 y, .int .u64 f]) (.agg [.lit (.int .i64 x), .lit (.int .u64 y), .lit (.int .u64 f)]) [] := by
  simpa using shut_agg3 (enc := enc) (w := W') (base := b) (spare := sp) (held := hd) (y0 := (.lit (.int .i64 x), [])) (y1 := (.lit (.int .u64 y), [])) (y2 := (.lit (.int .u64 f), [])) Try.underlying25 (by kernel_rfl) cellsB ⟨1, by simp [DataW.trod, Try.underlying3, wx]⟩ ⟨1, by simp [DataW.trod, Try.underlying23, wy]⟩ ⟨1, by simp [DataW.trod, Try.underlying23, wf]⟩

set_option maxRecDepth 100000 in
theorem lifted (os : Os) (started : os.Started) (H : Type) (enc : TypeId × Value → H) :
    ReturnsInHanded {} Try.checked os 3 .any (Rows.liftValuesSpec.pre6 enc Try.prog Try.f3 Rows.liftValuesRow.domain false) (Rows.liftValuesSpec.post enc Try.prog Try.f3 false true false false) := by
  refine returnsInHanded_of_change (C := Try.checked) own started (by kernel_rfl) Try.func3
    (ChangeSpec.witness6 (enc := enc) (C := Try.checked) false ⟨#[], #[.int .i64 0, .slice none 0 0, .agg #[.int .i64 0, .int .u64 0, .int .u64 0]], []⟩ 8 (by kernel_rfl) (by kernel_rfl) (by kernel_rfl) (by kernel_rfl)) ?_
  intro W base args ds gs before hval0 hW hcnd _
  have hval : ∀ (j : Nat) t v, Try.f3.params[j]? = some t → args[j]? = some v → Value.okWide Try.prog W .any base t v := hval0
  have hW' := hW
  obtain ⟨p, q, hA0, hV, rfl, hfz, hnd⟩ := hW
  have hA : DataW.TrodAll enc Try.prog W 0 (fun _ => true) true Try.f3.params.toList args.toList ds p := hA0
  rw [Try.params3] at hA hval
  obtain ⟨v0, vs0, d0, ds0, p0, q0, hargs, rfl, rfl, h0, r0⟩ := trodAll_cons hA
  obtain ⟨v1, vs1, d1, ds1, p1, q1, rfl, rfl, rfl, h1, r1⟩ := trodAll_cons r0
  obtain ⟨v2, vs2, d2, ds2, p2, q2, rfl, rfl, rfl, h2, r2⟩ := trodAll_cons r1
  obtain ⟨rfl, rfl, rfl⟩ := trodAll_nil r2
  obtain rfl : args = #[v0, v1, v2] := by cases args; simp_all
  obtain ⟨rfl, rfl⟩ := trodVars_none hV
  obtain ⟨a0, rfl, rfl, rfl, w0⟩ := open_int Try.underlying3 (hval 0 3 v0 rfl rfl) h0
  obtain ⟨s1, len1, cap1, rfl⟩ := okWide_slice Try.underlying22 (hval 1 22 v1 rfl rfl)
  have h1k := h1
  obtain ⟨fuel1, hf1⟩ := h1
  obtain ⟨c20, c21, c22, y20, y21, y22, m2, rfl, rfl, rfl, g20, g21, g22⟩ := open_agg3 Try.underlying25 (by kernel_rfl) cellsB (hval 2 25 v2 rfl rfl) h2
  obtain ⟨a20, e20, rfl, w20⟩ := DataW.trod_int Try.underlying3 g20
  obtain ⟨a21, e21, rfl, w21⟩ := DataW.trod_int Try.underlying23 g21
  obtain ⟨a22, e22, rfl, w22⟩ := DataW.trod_int Try.underlying23 g22
  simp at e20 e21 e22
  subst e20 e21 e22
  clear hA0 hval0
  simp only [List.append_nil, List.nil_append] at hW'
  have hlt : ∀ x ∈ p1, x.block < W.heap.size := fun x hx => by simpa using hW'.lt x hx
  have close : ∀ W', Below W.heap.size W W' → Rows.liftValuesSpec.post enc Try.prog Try.f3 false true false false W #[.int .i64 a0, .slice s1 len1 cap1, .agg #[.int .i64 a20, .int .u64 a21, .int .u64 a22]] (.bool true) W' := by
    intro W' hb
    have h1t := Below.trod laidOut (by kernel_rfl) (of_decide_eq_true (by kernel_rfl)) h1k hb hlt
    have hall := trodAll_cons_mk (shut_int (w := W') (enc := enc) (base := 0) (spare := fun b => decide (b < W.heap.size)) (held := true) Try.underlying3 w0) (trodAll_cons_mk h1t (trodAll_cons_mk (readsB _ _ _ _ a20 a21 a22 w20 w21 w22) trodAll_mk0))
    simp only [List.append_nil, List.nil_append] at hall
    exact ⟨_, _, _, [], p1, [], hW', trodAll_cons_mk (shut_bool Try.underlying4 _) trodAll_mk0, hall, rfl, hb.frame _, fun h => by cases h⟩
  obtain ⟨l, hln, hl⟩ := br_read hf1
  refine (values_all a0 a20 a21 a22 w20 w21 w22 W hl hln).mono fun e W' ⟨he, hg⟩ => ?_
  subst he
  exact ⟨_, rfl, close W' hg⟩

theorem over : Rows.liftValuesRow.holds Try.pinned (OpenSpec.ofChange Rows.liftValuesSpec) :=
  OpenClaim.holds_of_wide 3 Try.f3 rfl rfl rfl rfl rfl rfl rfl ⟨rfl, rfl, rfl, rfl, rfl⟩ rfl rfl rfl rfl rfl (by kernel_rfl) Try.func3 (by kernel_rfl)
    (of_decide_eq_true (by kernel_rfl)) (by unfold Func.isWrapper; first | (rw [if_pos (by decide +kernel)]; kernel_rfl) | (rw [if_neg (by decide +kernel)]; exact ⟨rfl, rfl⟩))
    (fun os started H enc _ => lifted os started H enc)

theorem proved : Rows.LiftValuesSaid :=
  over
#print axioms proved
end Go.Proofs.Ytedldoobmmhloaa.liftValues

namespace Go.Proofs.Ytedldoobmmhloaa
theorem liftValues_holds : Rows.LiftValuesSaid := liftValues.proved
end Go.Proofs.Ytedldoobmmhloaa
