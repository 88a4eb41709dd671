/- Contracts (dd): Not, And, Or, Xor, Ite, Var, New. -/
import Derived.Test.YtohfjpahdoodgaaGreatDoorDE10
namespace Go.Proofs.YtohfjpahdoodgaaGreatDoor
open Go.RowKit
set_option linter.unusedSimpArgs false
set_option linter.unusedVariables false

/-- What a call that answers leaves. -/
def OpR (full : Bool) (w : World) (F : Nat → Prop) (g vars most : Nat) (S : St) (pn : Int → Int) (r : Int × Int × St) (e : Ending) (w' : World) : Prop :=
  e = .returned (.tuple #[.int .i64 r.1, .int .i64 r.2.1]) ∧ (full = false → S.sp = [] → r.2.2.sp = []) ∧ Did w F g vars most r.2.2 pn w'
theorem Did.wide {w w' : World} {F G : Nat → Prop} {g vars most : Nat} {S : St} {pn : Int → Int} (h : Did w F g vars most S pn w') (hF : ∀ k, F k → G k) : Did w G g vars most S pn w' := by
  obtain ⟨F', h1, h2⟩ := h
  exact ⟨F', h1, h2.wide hF⟩
theorem Did.from {w W w' : World} {F : Nat → Prop} {g vars most : Nat} {S : St} {pn : Int → Int} (h : Did W F g vars most S pn w') (hb : Below w.heap.size w W) : Did w F g vars most S pn w' := by
  obtain ⟨F', h1, h2⟩ := h
  exact ⟨F', h1, (Ch.of_below F hb).trans h2⟩

set_option maxRecDepth 20000 in
set_option maxHeartbeats 1600000 in
theorem not_any {full : Bool} (AC : AnsC full) {w : World} {F : Nat → Prop} {g vars most : Nat} {S : St} {pn : Int → Int} {P : List Int} (h : Gr w F g vars most S pn) (f : Int) (hP : ∀ f, f ∈ P ↔ 1 ≤ pn f) (hPa : ∀ p ∈ P, alive S.ns p) (hreg : Reg full S (ansF vars most P S (f, 0, 1) [f]).2.2) :
    Calls Tryz.prog 11 #[.pointer (some ⟨g, 0, none⟩), .int .i64 f] w (OpR full w F g vars most S pn (ansF vars most P S (f, 0, 1) [f])) := by
  have h0 := h.cut
  have hB : Below w.heap.size w (w.alloc (.cells #[.int .i64 f] 3)) := by go_grown
  have hS : Sf (w.alloc (.cells #[.int .i64 f] 3)) (Fc w F) (.slice (some ⟨w.heap.size, 0, none⟩) 1 1) [f] := by
    refine ⟨some ⟨w.heap.size, 0, none⟩, 1, rfl, Or.inr ⟨w.heap.size, 0, rfl, by simp, fun q => by have := q.2; omega, fun j hj => ?_⟩⟩
    rw [Nat.zero_add]
    have hj' : j < 1 := hj
    match j, hj' with
    | 0, _ => simp
  have HA : Hid (Calls Tryz.prog 29 #[.pointer (some ⟨g, 0, none⟩), t3v (f, 0, 1), .slice (some ⟨w.heap.size, 0, none⟩) 1 1] (w.alloc (.cells #[.int .i64 f] 3)) (OpR full w F g vars most S pn (ansF vars most P S (f, 0, 1) [f]))) :=
    (AC _ (Fc w F) g vars most S pn P [f] (f, 0, 1) _ (h0.below hB) hS (by simp) hP hPa (fun _ => ⟨Or.inr (Or.inr (Rc.base (by simp))), Or.inr (Or.inl rfl), Or.inr (Or.inl rfl)⟩) hreg).mono fun e w' ⟨h1, h2, h3⟩ => ⟨h1, h2, (h3.from hB).wide fun k hk => hk.1⟩
  obtain ⟨AR, hAR⟩ : ∃ AR, AR = ansF vars most P S (f, 0, 1) [f] := ⟨_, rfl⟩
  rw [← hAR] at HA ⊢
  unfold t3v at HA
  dsimp only at HA
  clear h h0 hB hS hP hPa hreg hAR AC
  go_enter Tryz.func11, Tryz.ntmps11
  go_wp2_with fail
  refine HA.out.mono ?_
  rintro e w1 ⟨rfl, h2, h3⟩
  have H2 : Hid _ := h2
  have H3 : Hid (Did w F g vars most AR.2.2 pn w1) := h3
  clear h2 h3
  go_wp2_with fail
  refine bodyPost_ret (v := .tuple #[.int .i64 AR.1, .int .i64 AR.2.1]) (by simp [results, Tryz.results11, go_sem]) rfl ?_
  exact ⟨rfl, H2.out, H3.out⟩
set_option maxRecDepth 20000 in
set_option maxHeartbeats 1600000 in
theorem and_any {full : Bool} (AC : AnsC full) {w : World} {F : Nat → Prop} {g vars most : Nat} {S : St} {pn : Int → Int} {P : List Int} (h : Gr w F g vars most S pn) (f g2 : Int) (hP : ∀ f, f ∈ P ↔ 1 ≤ pn f) (hPa : ∀ p ∈ P, alive S.ns p) (hreg : Reg full S (ansF vars most P S (f, g2, 0) [f, g2]).2.2) :
    Calls Tryz.prog 8 #[.pointer (some ⟨g, 0, none⟩), .int .i64 f, .int .i64 g2] w (OpR full w F g vars most S pn (ansF vars most P S (f, g2, 0) [f, g2])) := by
  have h0 := h.cut
  have hB : Below w.heap.size w (w.alloc (.cells #[.int .i64 f, .int .i64 g2] 3)) := by go_grown
  have hS : Sf (w.alloc (.cells #[.int .i64 f, .int .i64 g2] 3)) (Fc w F) (.slice (some ⟨w.heap.size, 0, none⟩) 2 2) [f, g2] := by
    refine ⟨some ⟨w.heap.size, 0, none⟩, 2, rfl, Or.inr ⟨w.heap.size, 0, rfl, by simp, fun q => by have := q.2; omega, fun j hj => ?_⟩⟩
    rw [Nat.zero_add]
    have hj' : j < 2 := hj
    match j, hj' with
    | 0, _ => simp
    | 1, _ => simp
  have HA : Hid (Calls Tryz.prog 29 #[.pointer (some ⟨g, 0, none⟩), t3v (f, g2, 0), .slice (some ⟨w.heap.size, 0, none⟩) 2 2] (w.alloc (.cells #[.int .i64 f, .int .i64 g2] 3)) (OpR full w F g vars most S pn (ansF vars most P S (f, g2, 0) [f, g2]))) :=
    (AC _ (Fc w F) g vars most S pn P [f, g2] (f, g2, 0) _ (h0.below hB) hS (by simp) hP hPa (fun _ => ⟨Or.inr (Or.inr (Rc.base (by simp))), Or.inr (Or.inr (Or.inr (Rc.base (by simp)))), Or.inl rfl⟩) hreg).mono fun e w' ⟨h1, h2, h3⟩ => ⟨h1, h2, (h3.from hB).wide fun k hk => hk.1⟩
  obtain ⟨AR, hAR⟩ : ∃ AR, AR = ansF vars most P S (f, g2, 0) [f, g2] := ⟨_, rfl⟩
  rw [← hAR] at HA ⊢
  unfold t3v at HA
  dsimp only at HA
  clear h h0 hB hS hP hPa hreg hAR AC
  go_enter Tryz.func8, Tryz.ntmps8
  go_wp2_with fail
  refine HA.out.mono ?_
  rintro e w1 ⟨rfl, h2, h3⟩
  have H2 : Hid _ := h2
  have H3 : Hid (Did w F g vars most AR.2.2 pn w1) := h3
  clear h2 h3
  go_wp2_with fail
  refine bodyPost_ret (v := .tuple #[.int .i64 AR.1, .int .i64 AR.2.1]) (by simp [results, Tryz.results8, go_sem]) rfl ?_
  exact ⟨rfl, H2.out, H3.out⟩
set_option maxRecDepth 20000 in
set_option maxHeartbeats 1600000 in
theorem or_any {full : Bool} (AC : AnsC full) {w : World} {F : Nat → Prop} {g vars most : Nat} {S : St} {pn : Int → Int} {P : List Int} (h : Gr w F g vars most S pn) (f g2 : Int) (hP : ∀ f, f ∈ P ↔ 1 ≤ pn f) (hPa : ∀ p ∈ P, alive S.ns p) (hreg : Reg full S (ansF vars most P S (f, 1, g2) [f, g2]).2.2) :
    Calls Tryz.prog 10 #[.pointer (some ⟨g, 0, none⟩), .int .i64 f, .int .i64 g2] w (OpR full w F g vars most S pn (ansF vars most P S (f, 1, g2) [f, g2])) := by
  have h0 := h.cut
  have hB : Below w.heap.size w (w.alloc (.cells #[.int .i64 f, .int .i64 g2] 3)) := by go_grown
  have hS : Sf (w.alloc (.cells #[.int .i64 f, .int .i64 g2] 3)) (Fc w F) (.slice (some ⟨w.heap.size, 0, none⟩) 2 2) [f, g2] := by
    refine ⟨some ⟨w.heap.size, 0, none⟩, 2, rfl, Or.inr ⟨w.heap.size, 0, rfl, by simp, fun q => by have := q.2; omega, fun j hj => ?_⟩⟩
    rw [Nat.zero_add]
    have hj' : j < 2 := hj
    match j, hj' with
    | 0, _ => simp
    | 1, _ => simp
  have HA : Hid (Calls Tryz.prog 29 #[.pointer (some ⟨g, 0, none⟩), t3v (f, 1, g2), .slice (some ⟨w.heap.size, 0, none⟩) 2 2] (w.alloc (.cells #[.int .i64 f, .int .i64 g2] 3)) (OpR full w F g vars most S pn (ansF vars most P S (f, 1, g2) [f, g2]))) :=
    (AC _ (Fc w F) g vars most S pn P [f, g2] (f, 1, g2) _ (h0.below hB) hS (by simp) hP hPa (fun _ => ⟨Or.inr (Or.inr (Rc.base (by simp))), Or.inr (Or.inr (Or.inl rfl)), Or.inr (Or.inr (Rc.base (by simp)))⟩) hreg).mono fun e w' ⟨h1, h2, h3⟩ => ⟨h1, h2, (h3.from hB).wide fun k hk => hk.1⟩
  obtain ⟨AR, hAR⟩ : ∃ AR, AR = ansF vars most P S (f, 1, g2) [f, g2] := ⟨_, rfl⟩
  rw [← hAR] at HA ⊢
  unfold t3v at HA
  dsimp only at HA
  clear h h0 hB hS hP hPa hreg hAR AC
  go_enter Tryz.func10, Tryz.ntmps10
  go_wp2_with fail
  refine HA.out.mono ?_
  rintro e w1 ⟨rfl, h2, h3⟩
  have H2 : Hid _ := h2
  have H3 : Hid (Did w F g vars most AR.2.2 pn w1) := h3
  clear h2 h3
  go_wp2_with fail
  refine bodyPost_ret (v := .tuple #[.int .i64 AR.1, .int .i64 AR.2.1]) (by simp [results, Tryz.results10, go_sem]) rfl ?_
  exact ⟨rfl, H2.out, H3.out⟩
set_option maxRecDepth 20000 in
set_option maxHeartbeats 1600000 in
theorem xor_any {full : Bool} (AC : AnsC full) {w : World} {F : Nat → Prop} {g vars most : Nat} {S : St} {pn : Int → Int} {P : List Int} (h : Gr w F g vars most S pn) (f g2 : Int) (hP : ∀ f, f ∈ P ↔ 1 ≤ pn f) (hPa : ∀ p ∈ P, alive S.ns p) (hreg : Reg full S (ansF vars most P S (f, -1, g2) [f, g2]).2.2) :
    Calls Tryz.prog 17 #[.pointer (some ⟨g, 0, none⟩), .int .i64 f, .int .i64 g2] w (OpR full w F g vars most S pn (ansF vars most P S (f, -1, g2) [f, g2])) := by
  have h0 := h.cut
  have hB : Below w.heap.size w (w.alloc (.cells #[.int .i64 f, .int .i64 g2] 3)) := by go_grown
  have hS : Sf (w.alloc (.cells #[.int .i64 f, .int .i64 g2] 3)) (Fc w F) (.slice (some ⟨w.heap.size, 0, none⟩) 2 2) [f, g2] := by
    refine ⟨some ⟨w.heap.size, 0, none⟩, 2, rfl, Or.inr ⟨w.heap.size, 0, rfl, by simp, fun q => by have := q.2; omega, fun j hj => ?_⟩⟩
    rw [Nat.zero_add]
    have hj' : j < 2 := hj
    match j, hj' with
    | 0, _ => simp
    | 1, _ => simp
  have HA : Hid (Calls Tryz.prog 29 #[.pointer (some ⟨g, 0, none⟩), t3v (f, -1, g2), .slice (some ⟨w.heap.size, 0, none⟩) 2 2] (w.alloc (.cells #[.int .i64 f, .int .i64 g2] 3)) (OpR full w F g vars most S pn (ansF vars most P S (f, -1, g2) [f, g2]))) :=
    (AC _ (Fc w F) g vars most S pn P [f, g2] (f, -1, g2) _ (h0.below hB) hS (by simp) hP hPa (fun _ => ⟨Or.inr (Or.inr (Rc.base (by simp))), Or.inl rfl, Or.inr (Or.inr (Rc.base (by simp)))⟩) hreg).mono fun e w' ⟨h1, h2, h3⟩ => ⟨h1, h2, (h3.from hB).wide fun k hk => hk.1⟩
  obtain ⟨AR, hAR⟩ : ∃ AR, AR = ansF vars most P S (f, -1, g2) [f, g2] := ⟨_, rfl⟩
  rw [← hAR] at HA ⊢
  unfold t3v at HA
  dsimp only at HA
  clear h h0 hB hS hP hPa hreg hAR AC
  go_enter Tryz.func17, Tryz.ntmps17
  go_wp2_with fail
  refine HA.out.mono ?_
  rintro e w1 ⟨rfl, h2, h3⟩
  have H2 : Hid _ := h2
  have H3 : Hid (Did w F g vars most AR.2.2 pn w1) := h3
  clear h2 h3
  go_wp2_with fail
  refine bodyPost_ret (v := .tuple #[.int .i64 AR.1, .int .i64 AR.2.1]) (by simp [results, Tryz.results17, go_sem]) rfl ?_
  exact ⟨rfl, H2.out, H3.out⟩
set_option maxRecDepth 20000 in
set_option maxHeartbeats 1600000 in
theorem ite_any {full : Bool} (AC : AnsC full) {w : World} {F : Nat → Prop} {g vars most : Nat} {S : St} {pn : Int → Int} {P : List Int} (h : Gr w F g vars most S pn) (f g2 h2 : Int) (hP : ∀ f, f ∈ P ↔ 1 ≤ pn f) (hPa : ∀ p ∈ P, alive S.ns p) (hreg : Reg full S (ansF vars most P S (f, g2, h2) [f, g2, h2]).2.2) :
    Calls Tryz.prog 25 #[.pointer (some ⟨g, 0, none⟩), .int .i64 f, .int .i64 g2, .int .i64 h2] w (OpR full w F g vars most S pn (ansF vars most P S (f, g2, h2) [f, g2, h2])) := by
  have h0 := h.cut
  have hB : Below w.heap.size w (w.alloc (.cells #[.int .i64 f, .int .i64 g2, .int .i64 h2] 3)) := by go_grown
  have hS : Sf (w.alloc (.cells #[.int .i64 f, .int .i64 g2, .int .i64 h2] 3)) (Fc w F) (.slice (some ⟨w.heap.size, 0, none⟩) 3 3) [f, g2, h2] := by
    refine ⟨some ⟨w.heap.size, 0, none⟩, 3, rfl, Or.inr ⟨w.heap.size, 0, rfl, by simp, fun q => by have := q.2; omega, fun j hj => ?_⟩⟩
    rw [Nat.zero_add]
    have hj' : j < 3 := hj
    match j, hj' with
    | 0, _ => simp
    | 1, _ => simp
    | 2, _ => simp
  have HA : Hid (Calls Tryz.prog 29 #[.pointer (some ⟨g, 0, none⟩), t3v (f, g2, h2), .slice (some ⟨w.heap.size, 0, none⟩) 3 3] (w.alloc (.cells #[.int .i64 f, .int .i64 g2, .int .i64 h2] 3)) (OpR full w F g vars most S pn (ansF vars most P S (f, g2, h2) [f, g2, h2]))) :=
    (AC _ (Fc w F) g vars most S pn P [f, g2, h2] (f, g2, h2) _ (h0.below hB) hS (by simp) hP hPa (fun _ => ⟨Or.inr (Or.inr (Rc.base (by simp))), Or.inr (Or.inr (Or.inr (Rc.base (by simp)))), Or.inr (Or.inr (Rc.base (by simp)))⟩) hreg).mono fun e w' ⟨h1, h2, h3⟩ => ⟨h1, h2, (h3.from hB).wide fun k hk => hk.1⟩
  obtain ⟨AR, hAR⟩ : ∃ AR, AR = ansF vars most P S (f, g2, h2) [f, g2, h2] := ⟨_, rfl⟩
  rw [← hAR] at HA ⊢
  unfold t3v at HA
  dsimp only at HA
  clear h h0 hB hS hP hPa hreg hAR AC
  go_enter Tryz.func25, Tryz.ntmps25
  go_wp2_with fail
  refine HA.out.mono ?_
  rintro e w1 ⟨rfl, h2, h3⟩
  have H2 : Hid _ := h2
  have H3 : Hid (Did w F g vars most AR.2.2 pn w1) := h3
  clear h2 h3
  go_wp2_with fail
  refine bodyPost_ret (v := .tuple #[.int .i64 AR.1, .int .i64 AR.2.1]) (by simp [results, Tryz.results25, go_sem]) rfl ?_
  exact ⟨rfl, H2.out, H3.out⟩
def resV (r : Option Int) (T : St) : Int × Int × St := match r with | some f => (f, 0, T) | none => (0, 141, T)
noncomputable def varF (vars most : Nat) (P : List Int) (S : St) (i : Int) : Int × Int × St :=
  if 0 ≤ i ∧ i < vars then
    resV (nodeF most S (P ++ valsR [] ++ []) i 0 1).1 (nodeF most S (P ++ valsR [] ++ []) i 0 1).2
  else (0, 142, S)
set_option maxRecDepth 20000 in
set_option maxHeartbeats 1600000 in
theorem var_any {full : Bool} (NC : NodeC full) {w : World} {F : Nat → Prop} {g vars most : Nat} {S : St} {pn : Int → Int} {P : List Int} (h : Gr w F g vars most S pn) (i : Int) (hP : ∀ f, f ∈ P ↔ 1 ≤ pn f) (hPa : ∀ p ∈ P, alive S.ns p) (hreg : Reg full S (varF vars most P S i).2.2) :
    Calls Tryz.prog 16 #[.pointer (some ⟨g, 0, none⟩), .int .i64 i] w (OpR full w F g vars most S pn (varF vars most P S i)) := by
  have h0 := h.cut
  have HG : Hid (Gr w F g vars most S pn) := h
  have hv := h.mg.vr
  have hgood := h.mg.good
  have c0 : w.cell? ⟨g, 0, none⟩ = some (.int .i64 (vars : Int)) := by
    obtain ⟨m, p, v, u, hx, -⟩ := h
    exact hx.c0
  by_cases hi : 0 ≤ i ∧ i < vars
  · have hlt : ¬ i < 0 := by omega
    have hlt2 : ¬ (vars : Int) ≤ i := by omega
    have hd1 : decide (i < 0) = false := decide_eq_false hlt
    have hd2 : decide ((vars : Int) ≤ i) = false := decide_eq_false hlt2
    have hA : ∀ j ∈ P ++ valsR [] ++ [], alive S.ns j := fun j hj => by simp [valsR] at hj; exact hPa j hj
    have hB : Below w.heap.size w (w.alloc (.cells #[.pointer (some ⟨g, 0, none⟩), .slice none 0 0, .map none] 84)) := by go_grown
    have hR : Rn (w.alloc (.cells #[.pointer (some ⟨g, 0, none⟩), .slice none 0 0, .map none] 84)) (Fc w F) w.heap.size g none [] [] :=
      ⟨⟨.slice none 0 0, heap_alloc_new _ _, ⟨none, 0, rfl, Or.inl rfl⟩⟩, fun q => by have := q.2; omega, Or.inl ⟨rfl, rfl⟩, List.nodup_nil⟩
    obtain ⟨r3, S3, e3⟩ : ∃ r3 S3, nodeF most S (P ++ valsR [] ++ []) i 0 1 = (r3, S3) := ⟨_, _, rfl⟩
    have ev : varF vars most P S i = resV r3 S3 := by unfold varF; rw [if_pos hi, e3]
    have hreg' : Reg full S S3 := by rw [ev] at hreg; cases r3 <;> exact hreg
    have HN : Hid (Calls Tryz.prog 35 #[.pointer (some ⟨w.heap.size, 0, none⟩), .int .i64 i, .int .i64 0, .int .i64 1] (w.alloc (.cells #[.pointer (some ⟨g, 0, none⟩), .slice none 0 0, .map none] 84)) fun e w' => e = .returned (ansV r3) ∧ (full = false → S3.sp = []) ∧ Did w F g vars most S3 pn w') := by
      have k := NC _ (Fc w F) g vars most w.heap.size none [] [] S pn P i 0 1 (h0.below hB) hR hP hA hi (Or.inl rfl) (Or.inr (Or.inl rfl)) (by rw [hgood.z]; exact hi.2) (by rw [hgood.o]; exact hi.2) (by rw [e3]; exact hreg')
      rw [e3] at k
      exact k.mono fun e w' ⟨h1, h2, h3⟩ => ⟨h1, h2, (h3.from hB).wide fun k hk => hk.1⟩
    rw [ev]
    clear ev hreg hreg' e3 hA hB hR h0 h hi hgood hP hPa NC
    go_enter Tryz.func16, Tryz.ntmps16
    go_wp2_with fail
    refine HN.out.mono ?_
    rintro e w1 ⟨he, h2, h3⟩
    have H2 : Hid _ := h2
    have H3 : Hid (Did w F g vars most S3 pn w1) := h3
    clear h2 h3
    cases r3 with
    | none =>
      have he' : e = .returned (.tuple #[.int .i64 0, .int .i64 141]) := he
      subst he'
      clear he
      go_wp2_with fail
      refine bodyPost_ret (v := .tuple #[.int .i64 0, .int .i64 141]) (by simp [results, Tryz.results16, go_sem]) rfl ?_
      exact ⟨rfl, fun e _ => H2.out e, H3.out⟩
    | some f =>
      have he' : e = .returned (.tuple #[.int .i64 f, .int .i64 0]) := he
      subst he'
      clear he
      go_wp2_with fail
      refine bodyPost_ret (v := .tuple #[.int .i64 f, .int .i64 0]) (by simp [results, Tryz.results16, go_sem]) rfl ?_
      exact ⟨rfl, fun e _ => H2.out e, H3.out⟩
  · have ev : varF vars most P S i = (0, 142, S) := by unfold varF; rw [if_neg hi]
    rw [ev]
    clear ev hreg hP hPa NC
    have HD : Hid (Did w F g vars most S pn w) := ⟨F, h, Ch.refl _ _⟩
    by_cases h1 : i < 0
    · go_enter Tryz.func16, Tryz.ntmps16
      go_wp2_with fail
      refine bodyPost_ret (v := .tuple #[.int .i64 0, .int .i64 142]) (by simp [results, Tryz.results16, go_sem]) rfl ?_
      exact ⟨rfl, fun _ q => q, HD.out⟩
    · have h2 : (vars : Int) ≤ i := by omega
      have hd1 : decide (i < 0) = false := decide_eq_false h1
      go_enter Tryz.func16, Tryz.ntmps16
      go_wp2_with fail
      refine bodyPost_ret (v := .tuple #[.int .i64 0, .int .i64 142]) (by simp [results, Tryz.results16, go_sem]) rfl ?_
      exact ⟨rfl, fun _ q => q, HD.out⟩
end Go.Proofs.YtohfjpahdoodgaaGreatDoor

/- Contracts (dd): a manager is made. -/
namespace Go.Proofs.YtohfjpahdoodgaaGreatDoor
open Go.RowKit
set_option linter.unusedSimpArgs false
set_option linter.unusedVariables false

theorem alloc3 (w : World) (a b c : Obj) : (((w.alloc a).alloc b).alloc c).heap.size = w.heap.size + 3 ∧ (((w.alloc a).alloc b).alloc c).heap[w.heap.size + 1]? = some b ∧ (((w.alloc a).alloc b).alloc c).heap[w.heap.size + 2]? = some c := by
  have s1 : (w.alloc a).heap.size = w.heap.size + 1 := by simp
  have s2 : ((w.alloc a).alloc b).heap.size = w.heap.size + 2 := by simp
  refine ⟨by simp, ?_, ?_⟩
  · rw [heap_alloc_old _ _ (by omega), ← s1]; exact heap_alloc_new _ _
  · rw [← s2]; exact heap_alloc_new _ _
theorem newTable_any (v m : Int) (w : World) :
    Calls Tryz.prog 34 #[.int .i64 v, .int .i64 m] w fun e w' => e = .returned (.agg #[.int .i64 m, .slice (some ⟨w.heap.size + 1, 0, none⟩) 2 2, .map (some (w.heap.size + 2)), .slice none 0 0]) ∧ Below w.heap.size w w' ∧ w'.heap.size = w.heap.size + 3 ∧ w'.heap[w.heap.size + 1]? = some (.cells #[.int .i64 v, .int .i64 0, .int .i64 0, .int .i64 v, .int .i64 1, .int .i64 1] 90) ∧ w'.heap[w.heap.size + 2]? = some (.map #[] 0) := by
  have hmm := @run_makeMap Tryz.prog
  have H3 : Hid _ := alloc3
  go_enter Tryz.func34, Tryz.ntmps34
  go_wp2_with fail
  refine bodyPost_ret (v := .agg #[.int .i64 m, .slice (some ⟨w.heap.size + 1, 0, none⟩) 2 2, .map (some (w.heap.size + 2)), .slice none 0 0]) (by simp [results, Tryz.results34, go_sem]) rfl ?_
  obtain ⟨q1, q2, q3⟩ := H3.out w (.cells #[.int .i64 m, .slice (some ⟨w.heap.size + 1, 0, none⟩) 2 2, .map (some (w.heap.size + 2)), .slice none 0 0] 70) (.cells #[.int .i64 v, .int .i64 0, .int .i64 0, .int .i64 v, .int .i64 1, .int .i64 1] 90) (.map #[] 0)
  exact ⟨rfl, by go_grown, q1, q2, q3⟩
def varsOf (v : Int) : Nat := (min (max v 0) 4096).toNat
def mostOf (m : Int) : Nat := (min (max m 2) 16384).toNat
def St0 (vars : Nat) : St := { ns := [((vars : Int), 0, 0), ((vars : Int), 1, 1)], sp := [], gone := 0 }
theorem mg0 {vars most : Nat} (hv : vars ≤ 4096) (hm : 2 ≤ most ∧ most ≤ 16384) : Mg vars most (St0 vars) := by
  have hno : ∀ i : Int, 2 ≤ i → ¬ i.toNat < (St0 vars).ns.length := fun i hi h => by
    have : (St0 vars).ns.length = 2 := rfl
    omega
  exact ⟨⟨Nat.le_refl 2, rfl, rfl, fun i h2 ha => absurd ha.2.1 (hno i h2), fun i j h2 _ hi => absurd hi.2.1 (hno i h2), (fun s hs => nomatch hs), List.nodup_nil⟩, hv, hm, rfl, by show 2 ≤ most + 2; omega, fun i h2 hi => absurd hi (hno i h2)⟩
set_option maxRecDepth 20000 in
set_option maxHeartbeats 1600000 in
theorem new_any (v m : Int) (w : World) :
    Calls Tryz.prog 15 #[.int .i64 v, .int .i64 m] w fun e w' => ∃ g, e = .returned (.pointer (some ⟨g, 0, none⟩)) ∧ w.heap.size ≤ g ∧ Below w.heap.size w w' ∧ Gr w' (fun k => w.heap.size ≤ k ∧ k < w'.heap.size) g (varsOf v) (mostOf m) (St0 (varsOf v)) (fun _ => 0) := by
  have hmm := @run_makeMap Tryz.prog
  have HV : Hid (min (max v 0) 4096 = (varsOf v : Int)) := by unfold Hid varsOf; omega
  have HM : Hid (min (max m 2) 16384 = (mostOf m : Int)) := by unfold Hid mostOf; omega
  have HV2 : Hid (varsOf v ≤ 4096) := by unfold Hid varsOf; omega
  have HM2 : Hid (2 ≤ mostOf m ∧ mostOf m ≤ 16384) := by unfold Hid mostOf; omega
  have HT : Hid _ := newTable_any
  go_enter Tryz.func15, Tryz.ntmps15
  go_wp2_with fail
  refine (HT.out _ _ _).mono ?_
  rintro e w1 ⟨rfl, hB, hs, h1, h2⟩
  have HB : Hid (Below w.heap.size w w1) := hB
  have HS : Hid (w1.heap.size = w.heap.size + 3) := hs
  have H1 : Hid _ := h1
  have H2 : Hid _ := h2
  clear hB hs h1 h2
  go_wp2_with fail
  go_ret
  have hs := HS.out
  have q1 := H1.out
  have q2 := H2.out
  rw [HV.out] at q1
  refine ⟨w1.heap.size + 1, rfl, by omega, HB.out.trans (by have := HS.out; go_grown), w.heap.size + 2, w1.heap.size, .slice (some ⟨w.heap.size + 1, 0, none⟩) 2 2, .slice none 0 0, ⟨?_, ⟨rfl, Or.inr ⟨w.heap.size + 1, 2, #[.int .i64 (varsOf v : Int), .int .i64 0, .int .i64 0, .int .i64 (varsOf v : Int), .int .i64 1, .int .i64 1], rfl, Nat.zero_le _, ?_, Nat.le_refl _, by decide, rfl, rfl⟩⟩, ⟨[], ⟨#[], 0, ?_, rfl, fun p hp => nomatch hp⟩, List.Perm.refl _⟩, World.ownsRow_nil _ _ _ _, Pm.made ?_, mg0 HV2.out HM2.out⟩, by omega, ?_, ?_, ?_, (fun b e => ?_), (fun b e => by cases e)⟩
  · rw [← HV.out, ← HM.out]
    have e : w1.heap.size + 1 = (w1.alloc (.map #[] 0)).heap.size := by simp
    rw [e]; exact heap_alloc_new _ _
  · exact (heap_alloc_old _ _ (by simp; omega)).trans ((heap_alloc_old _ _ (by omega)).trans q1)
  · exact (heap_alloc_old _ _ (by simp; omega)).trans ((heap_alloc_old _ _ (by omega)).trans q2)
  · exact (heap_alloc_old _ _ (by simp)).trans (heap_alloc_new _ _)
  · simp; omega
  · simp; omega
  · simp; omega
  · cases e; simp; omega
end Go.Proofs.YtohfjpahdoodgaaGreatDoor
