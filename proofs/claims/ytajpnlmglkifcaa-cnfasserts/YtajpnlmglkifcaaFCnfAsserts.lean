/- A root may be asserted just if its literal can be true, and both of two roots just if both literals can: whatever the script. -/
import Derived.Test.YtajpnlmglkifcaaRows
import Derived.WalkKit
import Derived.ProofKit
import Derived.OpenShut
import Derived.Test.YtajpnlmglkifcaaP0
import Derived.Test.YtajpnlmglkifcaaP7
import Derived.Test.YtajpnlmglkifcaaCR2
namespace Go.Proofs.Ytajpnlmglkifcaa.cnfAsserts
open Go.ChangeShapes Go.WideShapes Go.ChangeAt Go.RowKit
set_option linter.unusedVariables false

theorem own : ownKnob Try.prog.godebug = none := by kernel_rfl
theorem laidOut : laidOutB Try.prog = true := by kernel_rfl

set_option maxRecDepth 100000 in
theorem lifted (os : Os) (started : os.Started) (H : Type) (enc : TypeId × Value → H) :
    ReturnsInHanded {} Try.checked os 5 .any (Rows.cnfAssertsSpec.pre6 enc Try.prog Try.f5 Rows.cnfAssertsRow.domain false) (Rows.cnfAssertsSpec.post enc Try.prog Try.f5 false true false false) := by
  refine returnsInHanded_of_change (C := Try.checked) own started (by kernel_rfl) Try.func5
    (ChangeSpec.witness6 (enc := enc) (C := Try.checked) false ⟨#[], #[.slice none 0 0], []⟩ 8 (by kernel_rfl) (by kernel_rfl) (by kernel_rfl) (by kernel_rfl)) ?_
  intro W base args ds gs before hval0 hW hcnd _
  have hval : ∀ (j : Nat) t v, Try.f5.params[j]? = some t → args[j]? = some v → Value.okWide Try.prog W .any base t v := hval0
  have hW' := hW
  obtain ⟨p, q, hA0, hV, rfl, hfz, hnd⟩ := hW
  have hA : DataW.TrodAll enc Try.prog W 0 (fun _ => true) true Try.f5.params.toList args.toList ds p := hA0
  rw [Try.params5] at hA hval
  obtain ⟨v0, vs0, d0, ds0, p0, q0, hargs, rfl, rfl, h0, r0⟩ := trodAll_cons hA
  obtain ⟨rfl, rfl, rfl⟩ := trodAll_nil r0
  obtain rfl : args = #[v0] := by cases args; simp_all
  obtain ⟨rfl, rfl⟩ := trodVars_none hV
  obtain ⟨s0, len0, cap0, rfl⟩ := okWide_slice Try.underlying22 (hval 0 22 v0 rfl rfl)
  have h0k := h0
  obtain ⟨fuel0, hf0⟩ := h0
  clear hA0 hval0
  simp only [List.append_nil] at hW'
  have hlt : ∀ x ∈ p0, x.block < W.heap.size := fun x hx => by simpa using hW'.lt x hx
  have close : ∀ W', Below W.heap.size W W' → Rows.cnfAssertsSpec.post enc Try.prog Try.f5 false true false false W #[.slice s0 len0 cap0] (.bool true) W' := by
    intro W' hb
    have h0t := Below.trod laidOut (by kernel_rfl) (of_decide_eq_true (by kernel_rfl)) h0k hb hlt
    have hall := trodAll_cons_mk h0t trodAll_mk0
    simp only [List.append_nil] at hall
    exact ⟨_, _, _, [], p0, [], hW', trodAll_cons_mk (shut_bool Try.underlying4 _) trodAll_mk0, hall, rfl, hb.frame _, fun h => by cases h⟩
  obtain ⟨l, rfl, hLa, hmx⟩ := slice_read hf0
  refine (walk_asserts  W hLa hmx).mono fun e W' ⟨he, hg⟩ => ?_
  subst he
  exact ⟨_, rfl, close W' hg⟩

theorem over : Rows.cnfAssertsRow.holds Try.pinned (OpenSpec.ofChange Rows.cnfAssertsSpec) :=
  OpenClaim.holds_of_wide 5 Try.f5 rfl rfl rfl rfl rfl rfl rfl ⟨rfl, rfl, rfl, rfl, rfl⟩ rfl rfl rfl rfl rfl (by kernel_rfl) Try.func5 (by kernel_rfl)
    (of_decide_eq_true (by kernel_rfl)) (by unfold Func.isWrapper; first | (rw [if_pos (by decide +kernel)]; kernel_rfl) | (rw [if_neg (by decide +kernel)]; exact ⟨rfl, rfl⟩))
    (fun os started H enc _ => lifted os started H enc)

theorem proved : Rows.CnfAssertsSaid :=
  over
#print axioms proved
end Go.Proofs.Ytajpnlmglkifcaa.cnfAsserts

namespace Go.Proofs.Ytajpnlmglkifcaa
theorem cnfAsserts_holds : Rows.CnfAssertsSaid := cnfAsserts.proved
end Go.Proofs.Ytajpnlmglkifcaa
