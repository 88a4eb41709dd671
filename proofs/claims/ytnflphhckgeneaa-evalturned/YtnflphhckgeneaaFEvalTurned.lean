/- EvalTurned: operators that do not ask for the order answer the same with their two operands turned round, and a choice is one of its two sides, whatever operator and values are handed in. No condition. -/
import Derived.Test.YtnflphhckgeneaaRows
import Derived.WalkKit
import Derived.ProofKit
import Derived.OpenShut
import Derived.Lib.SmallJoins
import Derived.Test.YtnflphhckgeneaaMg1
import Derived.Test.YtnflphhckgeneaaEA25
namespace Go.Proofs.Ytnflphhckgeneaa.evalTurned
open Go.ChangeShapes Go.WideShapes Go.ChangeAt Go.RowKit Go.Joins
set_option linter.unusedVariables false

theorem own : ownKnob Try.prog.godebug = none := by kernel_rfl
theorem cellsB : Try.prog.cellsOf 24 = 3 := by kernel_rfl
theorem readsB {H : Type} {enc : TypeId × Value → H} (W' : World) (b : Nat) (sp : Nat → Bool) (hd : Bool) (x y f : Int) (wx : (Lit.int .i64 x).wf = true) (wy : (Lit.int .u64 y).wf = true) (wf : (Lit.int .u64 f).wf = true) :
    DataW.Trod enc Try.prog W' b sp hd 24 (.agg #[.int .i64 x, .int .u64 y, .int .u64 f]) (.agg [.lit (.int .i64 x), .lit (.int .u64 y), .lit (.int .u64 f)]) [] := by
  simpa using shut_agg3 (enc := enc) (w := W') (base := b) (spare := sp) (held := hd) (y0 := (.lit (.int .i64 x), [])) (y1 := (.lit (.int .u64 y), [])) (y2 := (.lit (.int .u64 f), [])) Try.underlying24 (by kernel_rfl) cellsB ⟨1, by simp [DataW.trod, Try.underlying3, wx]⟩ ⟨1, by simp [DataW.trod, Try.underlying22, wy]⟩ ⟨1, by simp [DataW.trod, Try.underlying22, wf]⟩

set_option maxRecDepth 100000 in
theorem lifted (os : Os) (started : os.Started) (H : Type) (enc : TypeId × Value → H) :
    ReturnsInHanded {} Try.checked os 3 .any (Rows.evalTurnedSpec.pre6 enc Try.prog Try.f3 Rows.evalTurnedRow.domain false) (Rows.evalTurnedSpec.post enc Try.prog Try.f3 false true false false) := by
  refine returnsInHanded_of_change (C := Try.checked) own started (by kernel_rfl) Try.func3
    (ChangeSpec.witness6 (enc := enc) (C := Try.checked) false ⟨#[], #[.int .i64 0, .agg #[.int .i64 0, .int .u64 0, .int .u64 0], .agg #[.int .i64 0, .int .u64 0, .int .u64 0], .agg #[.int .i64 0, .int .u64 0, .int .u64 0]], []⟩ 8 (by kernel_rfl) (by kernel_rfl) (by kernel_rfl) (by kernel_rfl)) ?_
  intro W base args ds gs before hval0 hW hcnd _
  have hval : ∀ (j : Nat) t v, Try.f3.params[j]? = some t → args[j]? = some v → Value.okWide Try.prog W .any base t v := hval0
  have hW' := hW
  obtain ⟨p, q, hA0, hV, rfl, hfz, hnd⟩ := hW
  have hA : DataW.TrodAll enc Try.prog W 0 (fun _ => true) true Try.f3.params.toList args.toList ds p := hA0
  rw [Try.params3] at hA hval
  obtain ⟨v0, vs0, d0, ds0, p0, q0, hargs, rfl, rfl, h0, r0⟩ := trodAll_cons hA
  obtain ⟨v1, vs1, d1, ds1, p1, q1, rfl, rfl, rfl, h1, r1⟩ := trodAll_cons r0
  obtain ⟨v2, vs2, d2, ds2, p2, q2, rfl, rfl, rfl, h2, r2⟩ := trodAll_cons r1
  obtain ⟨v3, vs3, d3, ds3, p3, q3, rfl, rfl, rfl, h3, r3⟩ := trodAll_cons r2
  obtain ⟨rfl, rfl, rfl⟩ := trodAll_nil r3
  obtain rfl : args = #[v0, v1, v2, v3] := by cases args; simp_all
  obtain ⟨rfl, rfl⟩ := trodVars_none hV
  obtain ⟨a0, rfl, rfl, rfl, w0⟩ := open_int Try.underlying3 (hval 0 3 v0 rfl rfl) h0
  obtain ⟨c10, c11, c12, y10, y11, y12, m1, rfl, rfl, rfl, g10, g11, g12⟩ := open_agg3 Try.underlying24 (by kernel_rfl) cellsB (hval 1 24 v1 rfl rfl) h1
  obtain ⟨a10, e10, rfl, w10⟩ := DataW.trod_int Try.underlying3 g10
  obtain ⟨a11, e11, rfl, w11⟩ := DataW.trod_int Try.underlying22 g11
  obtain ⟨a12, e12, rfl, w12⟩ := DataW.trod_int Try.underlying22 g12
  simp at e10 e11 e12
  subst e10 e11 e12
  obtain ⟨c20, c21, c22, y20, y21, y22, m2, rfl, rfl, rfl, g20, g21, g22⟩ := open_agg3 Try.underlying24 (by kernel_rfl) cellsB (hval 2 24 v2 rfl rfl) h2
  obtain ⟨a20, e20, rfl, w20⟩ := DataW.trod_int Try.underlying3 g20
  obtain ⟨a21, e21, rfl, w21⟩ := DataW.trod_int Try.underlying22 g21
  obtain ⟨a22, e22, rfl, w22⟩ := DataW.trod_int Try.underlying22 g22
  simp at e20 e21 e22
  subst e20 e21 e22
  obtain ⟨c30, c31, c32, y30, y31, y32, m3, rfl, rfl, rfl, g30, g31, g32⟩ := open_agg3 Try.underlying24 (by kernel_rfl) cellsB (hval 3 24 v3 rfl rfl) h3
  obtain ⟨a30, e30, rfl, w30⟩ := DataW.trod_int Try.underlying3 g30
  obtain ⟨a31, e31, rfl, w31⟩ := DataW.trod_int Try.underlying22 g31
  obtain ⟨a32, e32, rfl, w32⟩ := DataW.trod_int Try.underlying22 g32
  simp at e30 e31 e32
  subst e30 e31 e32
  clear hA0 hval0
  simp only [List.append_nil] at hW'
  refine (walk_turned a0 a10 a11 a12 a20 a21 a22 a30 a31 a32 w0 w10 w11 w12 w20 w21 w22 w30 w31 w32 W).mono fun e W' ⟨he, hg⟩ => ?_
  subst he
  exact ⟨_, rfl, post_below hW' (fun _ _ _ => (trodAll_cons_mk (shut_bool Try.underlying4 _) trodAll_mk0)) (fun sp => (trodAll_cons_mk (shut_int Try.underlying3 w0) (trodAll_cons_mk (readsB _ _ _ _ a10 a11 a12 w10 w11 w12) (trodAll_cons_mk (readsB _ _ _ _ a20 a21 a22 w20 w21 w22) (trodAll_cons_mk (readsB _ _ _ _ a30 a31 a32 w30 w31 w32) trodAll_mk0))))) (fun _ => rfl)
    hg (ok_one (by kernel_rfl) rfl (okWide_bool_mk Try.underlying4 _))⟩

theorem over : Rows.evalTurnedRow.holds Try.pinned (OpenSpec.ofChange Rows.evalTurnedSpec) :=
  OpenClaim.holds_of_wide 3 Try.f3 rfl rfl rfl rfl rfl rfl rfl ⟨rfl, rfl, rfl, rfl, rfl⟩ rfl rfl rfl rfl rfl (by kernel_rfl) Try.func3 (by kernel_rfl)
    (of_decide_eq_true (by kernel_rfl)) (by unfold Func.isWrapper; first | (rw [if_pos (by decide +kernel)]; kernel_rfl) | (rw [if_neg (by decide +kernel)]; exact ⟨rfl, rfl⟩))
    (fun os started H enc _ => lifted os started H enc)

theorem proved : Rows.EvalTurnedSaid :=
  over
#print axioms proved
end Go.Proofs.Ytnflphhckgeneaa.evalTurned

namespace Go.Proofs.Ytnflphhckgeneaa
theorem evalTurned_holds : Rows.EvalTurnedSaid := evalTurned.proved
end Go.Proofs.Ytnflphhckgeneaa
