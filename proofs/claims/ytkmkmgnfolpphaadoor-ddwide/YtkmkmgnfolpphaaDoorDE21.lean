/- Contracts (dd): what operations answer where there is room. -/
import Derived.Test.YtkmkmgnfolpphaaDoorDE20
import Derived.Test.YtkmkmgnfolpphaaDoorDDA
namespace Go.Proofs.YtkmkmgnfolpphaaDoor
open Go.RowKit
set_option linter.unusedSimpArgs false
set_option linter.unusedVariables false

/-- The manager at g, with nothing spare. -/
structure Rm (w : World) (F : Nat → Prop) (g vars most : Nat) (S : St) (pn : Int → Int) : Prop where
  gr : Gr w F g vars most S pn
  sp : S.sp = []
  ps : ∃ P : List Int, (∀ f, f ∈ P ↔ 1 ≤ pn f) ∧ ∀ p ∈ P, alive S.ns p
/-- It has grown, no more than by k nodes. -/
structure Gw (vars : Nat) (S S' : St) (k : Nat) : Prop where
  pre : S.ns <+: S'.ns
  sp : S'.sp = []
  cnt : cntF S'.ns ≤ cntF S.ns + k
def OpG (w : World) (F : Nat → Prop) (g vars most : Nat) (S : St) (pn : Int → Int) (k : Nat) (V : (Int → Bool) → Bool) (e : Ending) (w' : World) : Prop :=
  ∃ f S' F', e = .returned (.tuple #[.int .i64 f, .int .i64 0]) ∧ Rm w' F' g vars most S' pn ∧ Ch w w' F F' ∧ Gw vars S S' k ∧ alive S'.ns f ∧ ∀ x, val vars S'.ns x f = V x
theorem Rm.good {w : World} {F : Nat → Prop} {g vars most : Nat} {S : St} {pn : Int → Int} (h : Rm w F g vars most S pn) : Good vars S.ns S.sp := h.gr.mg.good
theorem ansF_room {vars most : Nat} {P : List Int} {S : St} {q : T3} {O : List Int} (g : Good vars S.ns S.sp) (hP : ∀ i ∈ P, alive S.ns i) (hO : ∀ i ∈ O, alive S.ns i) (hq : QOk S.ns O q) (hsp : S.sp = []) (hc : cntF S.ns + 2 ^ vars ≤ most + 1) :
    ∃ f S', ansF vars most P S q O = (f, 0, S') ∧ S'.gone = S.gone ∧ Gw vars S S' (2 ^ vars) ∧ alive S'.ns f ∧ ∀ x, val vars S'.ns x f = qval (val vars S.ns x) q := by
  obtain ⟨f, S', R', e, h1, h2, h3, -, h5, h6, h7⟩ := ans_room g hP hO hq hsp hc
  refine ⟨f, S', ?_, h2, ⟨h5, h1, by omega⟩, h6, h7⟩
  unfold ansF
  rw [if_pos hO, e]
theorem opr_og {w w' : World} {F : Nat → Prop} {g vars most : Nat} {S : St} {pn : Int → Int} {P : List Int} {q : T3} {O : List Int} {e : Ending} {V : (Int → Bool) → Bool} (h : Rm w F g vars most S pn) (hP : ∀ f, f ∈ P ↔ 1 ≤ pn f) (hPa : ∀ p ∈ P, alive S.ns p)
    (hA : ∃ f S', ansF vars most P S q O = (f, 0, S') ∧ S'.gone = S.gone ∧ Gw vars S S' (2 ^ vars) ∧ alive S'.ns f ∧ ∀ x, val vars S'.ns x f = qval (val vars S.ns x) q) (hV : ∀ x, qval (val vars S.ns x) q = V x) (hr : OpR false w F g vars most S pn (ansF vars most P S q O) e w') : OpG w F g vars most S pn (2 ^ vars) V e w' := by
  obtain ⟨f, S', e1, h1, h2, h3, h4⟩ := hA
  rw [e1] at hr
  obtain ⟨r1, r2, F', r3, r4⟩ := hr
  exact ⟨f, S', F', r1, ⟨r3, h2.sp, P, hP, fun p hp => pre_alive h2.pre (hPa p hp)⟩, r4, h2, h3, fun x => by rw [h4 x, hV x]⟩
section
variable {w : World} {F : Nat → Prop} {g vars most : Nat} {S : St} {pn : Int → Int}
theorem rz1 {ns : List T3} {O : List Int} {i : Int} (h : i ∈ O) : Rz ns O i := Or.inr (Or.inr (Rc.base h))
theorem not_room (h : Rm w F g vars most S pn) (f : Int) (hf : alive S.ns f) (hc : cntF S.ns + 2 ^ vars ≤ most + 1) :
    Calls Tryd.prog 24 #[.pointer (some ⟨g, 0, none⟩), .int .i64 f] w (OpG w F g vars most S pn (2 ^ vars) (fun x => !val vars S.ns x f)) := by
  obtain ⟨P, hP, hPa⟩ := h.ps
  have hO : ∀ i ∈ [f], alive S.ns i := by simpa using hf
  have hA := ansF_room (q := (f, 0, 1)) h.good hPa hO ⟨rz1 (by simp), Or.inr (Or.inl rfl), Or.inr (Or.inl rfl)⟩ h.sp hc
  refine (not_any ansC_no h.gr f hP hPa ?_).mono fun e w' hr => opr_og h hP hPa hA (fun x => ?_) hr
  · obtain ⟨f', S', e1, h1, -⟩ := hA
    rw [e1]; exact Or.inr ⟨h.sp, h1⟩
  · obtain ⟨v0, v1⟩ := val_01 vars S.ns x
    simp only [qval, v0, v1]; cases val vars S.ns x f <;> rfl
theorem and_room (h : Rm w F g vars most S pn) (f f2 : Int) (hf : alive S.ns f) (hf2 : alive S.ns f2) (hc : cntF S.ns + 2 ^ vars ≤ most + 1) :
    Calls Tryd.prog 23 #[.pointer (some ⟨g, 0, none⟩), .int .i64 f, .int .i64 f2] w (OpG w F g vars most S pn (2 ^ vars) (fun x => val vars S.ns x f && val vars S.ns x f2)) := by
  obtain ⟨P, hP, hPa⟩ := h.ps
  have hO : ∀ i ∈ [f, f2], alive S.ns i := by simpa using ⟨hf, hf2⟩
  have hA := ansF_room (q := (f, f2, 0)) h.good hPa hO ⟨rz1 (by simp), Or.inr (rz1 (by simp)), Or.inl rfl⟩ h.sp hc
  refine (and_any ansC_no h.gr f f2 hP hPa ?_).mono fun e w' hr => opr_og h hP hPa hA (fun x => ?_) hr
  · obtain ⟨f', S', e1, h1, -⟩ := hA
    rw [e1]; exact Or.inr ⟨h.sp, h1⟩
  · obtain ⟨v0, v1⟩ := val_01 vars S.ns x
    have := hf2.1
    simp only [qval, v0, if_neg (show f2 ≠ -1 by omega)]; cases val vars S.ns x f <;> rfl
theorem or_room (h : Rm w F g vars most S pn) (f f2 : Int) (hf : alive S.ns f) (hf2 : alive S.ns f2) (hc : cntF S.ns + 2 ^ vars ≤ most + 1) :
    Calls Tryd.prog 29 #[.pointer (some ⟨g, 0, none⟩), .int .i64 f, .int .i64 f2] w (OpG w F g vars most S pn (2 ^ vars) (fun x => val vars S.ns x f || val vars S.ns x f2)) := by
  obtain ⟨P, hP, hPa⟩ := h.ps
  have hO : ∀ i ∈ [f, f2], alive S.ns i := by simpa using ⟨hf, hf2⟩
  have hA := ansF_room (q := (f, 1, f2)) h.good hPa hO ⟨rz1 (by simp), Or.inr (Or.inr (Or.inl rfl)), rz1 (by simp)⟩ h.sp hc
  refine (or_any ansC_no h.gr f f2 hP hPa ?_).mono fun e w' hr => opr_og h hP hPa hA (fun x => ?_) hr
  · obtain ⟨f', S', e1, h1, -⟩ := hA
    rw [e1]; exact Or.inr ⟨h.sp, h1⟩
  · obtain ⟨v0, v1⟩ := val_01 vars S.ns x
    simp only [qval, v1]; cases val vars S.ns x f <;> rfl
theorem xor_room (h : Rm w F g vars most S pn) (f f2 : Int) (hf : alive S.ns f) (hf2 : alive S.ns f2) (hc : cntF S.ns + 2 ^ vars ≤ most + 1) :
    Calls Tryd.prog 28 #[.pointer (some ⟨g, 0, none⟩), .int .i64 f, .int .i64 f2] w (OpG w F g vars most S pn (2 ^ vars) (fun x => xor (val vars S.ns x f) (val vars S.ns x f2))) := by
  obtain ⟨P, hP, hPa⟩ := h.ps
  have hO : ∀ i ∈ [f, f2], alive S.ns i := by simpa using ⟨hf, hf2⟩
  have hA := ansF_room (q := (f, -1, f2)) h.good hPa hO ⟨rz1 (by simp), Or.inl rfl, rz1 (by simp)⟩ h.sp hc
  refine (xor_any ansC_no h.gr f f2 hP hPa ?_).mono fun e w' hr => opr_og h hP hPa hA (fun x => ?_) hr
  · obtain ⟨f', S', e1, h1, -⟩ := hA
    rw [e1]; exact Or.inr ⟨h.sp, h1⟩
  · simp only [qval, if_true]; cases val vars S.ns x f <;> simp
theorem ite_room (h : Rm w F g vars most S pn) (f f2 f3 : Int) (hf : alive S.ns f) (hf2 : alive S.ns f2) (hf3 : alive S.ns f3) (hc : cntF S.ns + 2 ^ vars ≤ most + 1) :
    Calls Tryd.prog 34 #[.pointer (some ⟨g, 0, none⟩), .int .i64 f, .int .i64 f2, .int .i64 f3] w (OpG w F g vars most S pn (2 ^ vars) (fun x => if val vars S.ns x f then val vars S.ns x f2 else val vars S.ns x f3)) := by
  obtain ⟨P, hP, hPa⟩ := h.ps
  have hO : ∀ i ∈ [f, f2, f3], alive S.ns i := by simpa using ⟨hf, hf2, hf3⟩
  have hA := ansF_room (q := (f, f2, f3)) h.good hPa hO ⟨rz1 (by simp), Or.inr (rz1 (by simp)), rz1 (by simp)⟩ h.sp hc
  refine (ite_any ansC_no h.gr f f2 f3 hP hPa ?_).mono fun e w' hr => opr_og h hP hPa hA (fun x => ?_) hr
  · obtain ⟨f', S', e1, h1, -⟩ := hA
    rw [e1]; exact Or.inr ⟨h.sp, h1⟩
  · have := hf2.1
    simp only [qval, if_neg (show f2 ≠ -1 by omega)]
theorem var_room' (h : Rm w F g vars most S pn) (i : Int) (hi : 0 ≤ i ∧ i < vars) (hc : cntF S.ns < most) :
    Calls Tryd.prog 22 #[.pointer (some ⟨g, 0, none⟩), .int .i64 i] w (OpG w F g vars most S pn 1 (fun x => x i)) := by
  obtain ⟨P, hP, hPa⟩ := h.ps
  have hA : ∀ i ∈ P ++ valsR [] ++ [], alive S.ns i := by simpa [valsR] using hPa
  obtain ⟨f, S', e, h1, h2, h3, h4, h5, h6, h7⟩ := var_room (most := most) h.good hi h.sp hc hA
  have hV : varF vars most P S i = (f, 0, S') := by unfold varF; rw [if_pos hi, e]; rfl
  refine (var_any nodeC_no h.gr i hP hPa ?_).mono fun e' w' hr => ?_
  · rw [hV]; exact Or.inr ⟨h.sp, h2⟩
  · rw [hV] at hr
    obtain ⟨r1, r2, F', r3, r4⟩ := hr
    exact ⟨f, S', F', r1, ⟨r3, h1, P, hP, fun p hp => pre_alive h5 (hPa p hp)⟩, r4, ⟨h5, h1, h3⟩, h6, h7⟩
theorem var_bad (h : Rm w F g vars most S pn) (i : Int) (hi : ¬ (0 ≤ i ∧ i < vars)) :
    Calls Tryd.prog 22 #[.pointer (some ⟨g, 0, none⟩), .int .i64 i] w fun e w' => e = .returned (.tuple #[.int .i64 0, .int .i64 142]) ∧ ∃ F', Rm w' F' g vars most S pn ∧ Ch w w' F F' := by
  obtain ⟨P, hP, hPa⟩ := h.ps
  have hV : varF vars most P S i = (0, 142, S) := by unfold varF; rw [if_neg hi]
  refine (var_any nodeC_no h.gr i hP hPa ?_).mono fun e' w' hr => ?_
  · rw [hV]; exact Or.inr ⟨h.sp, rfl⟩
  · rw [hV] at hr
    obtain ⟨r1, r2, F', r3, r4⟩ := hr
    exact ⟨r1, F', ⟨r3, h.sp, P, hP, hPa⟩, r4⟩
end
end Go.Proofs.YtkmkmgnfolpphaaDoor
