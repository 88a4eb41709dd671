/- For every input AigPlays returns true and leaves its arguments as they were. -/
import Derived.Test.YtdmochghcmeebaaRows
import Derived.WalkKit
import Derived.ProofKit
import Derived.OpenShut
import Derived.Test.YtdmochghcmeebaaP0
import Derived.Test.YtdmochghcmeebaaP6
import Derived.Test.YtdmochghcmeebaaAR4
namespace Go.Proofs.Ytdmochghcmeebaa.aigPlays
open Go.ChangeShapes Go.WideShapes Go.ChangeAt Go.RowKit
set_option linter.unusedVariables false

theorem own : ownKnob Try.prog.godebug = none := by kernel_rfl
theorem laidOut : laidOutB Try.prog = true := by kernel_rfl

set_option maxRecDepth 100000 in
theorem lifted (os : Os) (started : os.Started) (H : Type) (enc : TypeId × Value → H) :
    ReturnsInHanded {} Try.checked os 3 .any (Rows.aigPlaysSpec.pre6 enc Try.prog Try.f3 Rows.aigPlaysRow.domain false) (Rows.aigPlaysSpec.post enc Try.prog Try.f3 false true false false) := by
  refine returnsInHanded_of_change_sized (C := Try.checked) own started (by kernel_rfl) Try.func3
    (ChangeSpec.witness6 (enc := enc) (C := Try.checked) false ⟨#[], #[.int .i64 0, .slice none 0 0, .slice none 0 0], []⟩ 8 (by kernel_rfl) (by kernel_rfl) (by kernel_rfl) (by kernel_rfl)) ?_
  intro W base args ds gs before hval0 hW hcnd hsz _
  have hval : ∀ (j : Nat) t v, Try.f3.params[j]? = some t → args[j]? = some v → Value.okWide Try.prog W .any base t v := hval0
  have hW' := hW
  obtain ⟨p, q, hA0, hV, rfl, hfz, hnd⟩ := hW
  have hA : DataW.TrodAll enc Try.prog W 0 (fun _ => true) true Try.f3.params.toList args.toList ds p := hA0
  rw [Try.params3] at hA hval
  obtain ⟨v0, vs0, d0, ds0, p0, q0, hargs, rfl, rfl, h0, r0⟩ := trodAll_cons hA
  obtain ⟨v1, vs1, d1, ds1, p1, q1, rfl, rfl, rfl, h1, r1⟩ := trodAll_cons r0
  obtain ⟨v2, vs2, d2, ds2, p2, q2, rfl, rfl, rfl, h2, r2⟩ := trodAll_cons r1
  obtain ⟨rfl, rfl, rfl⟩ := trodAll_nil r2
  obtain rfl : args = #[v0, v1, v2] := by cases args; simp_all
  obtain ⟨rfl, rfl⟩ := trodVars_none hV
  obtain ⟨a0, rfl, rfl, rfl, w0⟩ := open_int Try.underlying3 (hval 0 3 v0 rfl rfl) h0
  obtain ⟨s1, len1, cap1, rfl⟩ := okWide_slice Try.underlying22 (hval 1 22 v1 rfl rfl)
  have h1k := h1
  obtain ⟨fuel1, hf1⟩ := h1
  obtain ⟨s2, len2, cap2, rfl⟩ := okWide_slice Try.underlying23 (hval 2 23 v2 rfl rfl)
  have h2k := h2
  obtain ⟨fuel2, hf2⟩ := h2
  clear hA0 hval0
  simp only [List.append_nil, List.nil_append] at hW'
  have hlt1 : ∀ x ∈ p1, x.block < W.heap.size := fun x hx => hW'.lt x (by simp [hx])
  have hlt2 : ∀ x ∈ p2, x.block < W.heap.size := fun x hx => hW'.lt x (by simp [hx])
  have close : ∀ W', Below W.heap.size W W' → Rows.aigPlaysSpec.post enc Try.prog Try.f3 false true false false W #[.int .i64 a0, .slice s1 len1 cap1, .slice s2 len2 cap2] (.bool true) W' := by
    intro W' hb
    have h1t := Below.trod laidOut (by kernel_rfl) (of_decide_eq_true (by kernel_rfl)) h1k hb hlt1
    have h2t := Below.trod laidOut (by kernel_rfl) (of_decide_eq_true (by kernel_rfl)) h2k hb hlt2
    have hall := trodAll_cons_mk (shut_int (w := W') (enc := enc) (base := 0) (spare := fun b => decide (b < W.heap.size)) (held := true) Try.underlying3 w0) (trodAll_cons_mk h1t (trodAll_cons_mk h2t trodAll_mk0))
    simp only [List.append_nil, List.nil_append] at hall
    exact ⟨_, _, _, [], _, [], hW', trodAll_cons_mk (shut_bool Try.underlying4 _) trodAll_mk0, hall, rfl, hb.frame _, fun h => by cases h⟩
  obtain ⟨l, rfl, hLa, hOk, hmx⟩ := slice_read hf1
  obtain ⟨il, hil, hBz, -, hlz⟩ := bools_sized hf2
  have hbb : Try.checked.prog.bytesOf 4 = 1 := by kernel_rfl
  have hsl : len2 ≤ 140737488351232 := by
    rcases hlz with h0 | ⟨elems, spare, he, hl⟩
    · omega
    · have := sized_slice hsz (j := 2) (t := 23) (e := 4) rfl (by rw [← he]; rfl) Try.underlying23
      rw [hbb, Nat.mul_one] at this
      have e : reachBytes = 140737488351232 := by decide
      omega
  subst hil
  refine (walk_plays a0 W hLa hOk hmx hBz hsl).mono fun e W' ⟨he, hg⟩ => ?_
  subst he
  exact ⟨_, rfl, close W' hg⟩

theorem over : Rows.aigPlaysRow.holds Try.pinned (OpenSpec.ofChange Rows.aigPlaysSpec) :=
  OpenClaim.holds_of_wide 3 Try.f3 rfl rfl rfl rfl rfl rfl rfl ⟨rfl, rfl, rfl, rfl, rfl⟩ rfl rfl rfl rfl rfl (by kernel_rfl) Try.func3 (by kernel_rfl)
    (of_decide_eq_true (by kernel_rfl)) (by unfold Func.isWrapper; first | (rw [if_pos (by decide +kernel)]; kernel_rfl) | (rw [if_neg (by decide +kernel)]; exact ⟨rfl, rfl⟩))
    (fun os started H enc _ => lifted os started H enc)

theorem proved : Rows.AigPlaysSaid :=
  over
#print axioms proved
end Go.Proofs.Ytdmochghcmeebaa.aigPlays

namespace Go.Proofs.Ytdmochghcmeebaa
theorem aigPlays_holds : Rows.AigPlaysSaid := aigPlays.proved
end Go.Proofs.Ytdmochghcmeebaa
