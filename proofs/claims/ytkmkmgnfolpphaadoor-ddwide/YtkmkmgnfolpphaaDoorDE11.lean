/- Contracts (dd): Not, And, Or, Xor, Ite, Var, New. -/
import Derived.Test.YtkmkmgnfolpphaaDoorDE10
namespace Go.Proofs.YtkmkmgnfolpphaaDoor
open Go.RowKit
set_option linter.unusedSimpArgs false
set_option linter.unusedVariables false

/-- What a call that answers leaves. -/
def OpR (full : Bool) (w : World) (F : Nat → Prop) (g vars most : Nat) (S : St) (pn : Int → Int) (r : Int × Int × St) (e : Ending) (w' : World) : Prop :=
  e = .returned (.tuple #[.int .i64 r.1, .int .i64 r.2.1]) ∧ (full = false → S.sp = [] → r.2.2.sp = []) ∧ Did w F g vars most r.2.2 pn w'
theorem Did.wide {w w' : World} {F G : Nat → Prop} {g vars most : Nat} {S : St} {pn : Int → Int} (h : Did w F g vars most S pn w') (hF : ∀ k, F k → G k) : Did w G g vars most S pn w' := by
  obtain ⟨F', h1, h2⟩ := h
  exact ⟨F', h1, h2.wide hF⟩
theorem Did.from {w W w' : World} {F : Nat → Prop} {g vars most : Nat} {S : St} {pn : Int → Int} (h : Did W F g vars most S pn w') (hb : Below w.heap.size w W) : Did w F g vars most S pn w' := by
  obtain ⟨F', h1, h2⟩ := h
  exact ⟨F', h1, (Ch.of_below F hb).trans h2⟩

set_option maxRecDepth 20000 in
set_option maxHeartbeats 1600000 in
theorem not_any {full : Bool} (AC : AnsC full) {w : World} {F : Nat → Prop} {g vars most : Nat} {S : St} {pn : Int → Int} {P : List Int} (h : Gr w F g vars most S pn) (f : Int) (hP : ∀ f, f ∈ P ↔ 1 ≤ pn f) (hPa : ∀ p ∈ P, alive S.ns p) (hreg : Reg full S (ansF vars most P S (f, 0, 1) [f]).2.2) :
    Calls Tryd.prog 24 #[.pointer (some ⟨g, 0, none⟩), .int .i64 f] w (OpR full w F g vars most S pn (ansF vars most P S (f, 0, 1) [f])) := by
  have h0 := h.cut
  have hB : Below w.heap.size w (w.alloc (.cells #[.int .i64 f] 3)) := by go_grown
  have hS : Sf (w.alloc (.cells #[.int .i64 f] 3)) (Fc w F) (.slice (some ⟨w.heap.size, 0, none⟩) 1 1) [f] := by
    refine ⟨some ⟨w.heap.size, 0, none⟩, 1, rfl, Or.inr ⟨w.heap.size, 0, rfl, by simp, fun q => by have := q.2; omega, fun j hj => ?_⟩⟩
    rw [Nat.zero_add]
    have hj' : j < 1 := hj
    match j, hj' with
    | 0, _ => simp
  have HA : Hid (Calls Tryd.prog 49 #[.pointer (some ⟨g, 0, none⟩), t3v (f, 0, 1), .slice (some ⟨w.heap.size, 0, none⟩) 1 1] (w.alloc (.cells #[.int .i64 f] 3)) (OpR full w F g vars most S pn (ansF vars most P S (f, 0, 1) [f]))) :=
    (AC _ (Fc w F) g vars most S pn P [f] (f, 0, 1) _ (h0.below hB) hS (by simp) hP hPa (fun _ => ⟨Or.inr (Or.inr (Rc.base (by simp))), Or.inr (Or.inl rfl), Or.inr (Or.inl rfl)⟩) hreg).mono fun e w' ⟨h1, h2, h3⟩ => ⟨h1, h2, (h3.from hB).wide fun k hk => hk.1⟩
  obtain ⟨AR, hAR⟩ : ∃ AR, AR = ansF vars most P S (f, 0, 1) [f] := ⟨_, rfl⟩
  rw [← hAR] at HA ⊢
  unfold t3v at HA
  dsimp only at HA
  clear h h0 hB hS hP hPa hreg hAR AC
  go_enter Tryd.func24, Tryd.ntmps24
  go_wp2_with fail
  refine HA.out.mono ?_
  rintro e w1 ⟨rfl, h2, h3⟩
  have H2 : Hid _ := h2
  have H3 : Hid (Did w F g vars most AR.2.2 pn w1) := h3
  clear h2 h3
  go_wp2_with fail
  refine bodyPost_ret (v := .tuple #[.int .i64 AR.1, .int .i64 AR.2.1]) (by simp [results, Tryd.results24, go_sem]) rfl ?_
  exact ⟨rfl, H2.out, H3.out⟩
set_option maxRecDepth 20000 in
set_option maxHeartbeats 1600000 in
theorem and_any {full : Bool} (AC : AnsC full) {w : World} {F : Nat → Prop} {g vars most : Nat} {S : St} {pn : Int → Int} {P : List Int} (h : Gr w F g vars most S pn) (f g2 : Int) (hP : ∀ f, f ∈ P ↔ 1 ≤ pn f) (hPa : ∀ p ∈ P, alive S.ns p) (hreg : Reg full S (ansF vars most P S (f, g2, 0) [f, g2]).2.2) :
    Calls Tryd.prog 23 #[.pointer (some ⟨g, 0, none⟩), .int .i64 f, .int .i64 g2] w (OpR full w F g vars most S pn (ansF vars most P S (f, g2, 0) [f, g2])) := by
  have h0 := h.cut
  have hB : Below w.heap.size w (w.alloc (.cells #[.int .i64 f, .int .i64 g2] 3)) := by go_grown
  have hS : Sf (w.alloc (.cells #[.int .i64 f, .int .i64 g2] 3)) (Fc w F) (.slice (some ⟨w.heap.size, 0, none⟩) 2 2) [f, g2] := by
    refine ⟨some ⟨w.heap.size, 0, none⟩, 2, rfl, Or.inr ⟨w.heap.size, 0, rfl, by simp, fun q => by have := q.2; omega, fun j hj => ?_⟩⟩
    rw [Nat.zero_add]
    have hj' : j < 2 := hj
    match j, hj' with
    | 0, _ => simp
    | 1, _ => simp
  have HA : Hid (Calls Tryd.prog 49 #[.pointer (some ⟨g, 0, none⟩), t3v (f, g2, 0), .slice (some ⟨w.heap.size, 0, none⟩) 2 2] (w.alloc (.cells #[.int .i64 f, .int .i64 g2] 3)) (OpR full w F g vars most S pn (ansF vars most P S (f, g2, 0) [f, g2]))) :=
    (AC _ (Fc w F) g vars most S pn P [f, g2] (f, g2, 0) _ (h0.below hB) hS (by simp) hP hPa (fun _ => ⟨Or.inr (Or.inr (Rc.base (by simp))), Or.inr (Or.inr (Or.inr (Rc.base (by simp)))), Or.inl rfl⟩) hreg).mono fun e w' ⟨h1, h2, h3⟩ => ⟨h1, h2, (h3.from hB).wide fun k hk => hk.1⟩
  obtain ⟨AR, hAR⟩ : ∃ AR, AR = ansF vars most P S (f, g2, 0) [f, g2] := ⟨_, rfl⟩
  rw [← hAR] at HA ⊢
  unfold t3v at HA
  dsimp only at HA
  clear h h0 hB hS hP hPa hreg hAR AC
  go_enter Tryd.func23, Tryd.ntmps23
  go_wp2_with fail
  refine HA.out.mono ?_
  rintro e w1 ⟨rfl, h2, h3⟩
  have H2 : Hid _ := h2
  have H3 : Hid (Did w F g vars most AR.2.2 pn w1) := h3
  clear h2 h3
  go_wp2_with fail
  refine bodyPost_ret (v := .tuple #[.int .i64 AR.1, .int .i64 AR.2.1]) (by simp [results, Tryd.results23, go_sem]) rfl ?_
  exact ⟨rfl, H2.out, H3.out⟩
set_option maxRecDepth 20000 in
set_option maxHeartbeats 1600000 in
theorem or_any {full : Bool} (AC : AnsC full) {w : World} {F : Nat → Prop} {g vars most : Nat} {S : St} {pn : Int → Int} {P : List Int} (h : Gr w F g vars most S pn) (f g2 : Int) (hP : ∀ f, f ∈ P ↔ 1 ≤ pn f) (hPa : ∀ p ∈ P, alive S.ns p) (hreg : Reg full S (ansF vars most P S (f, 1, g2) [f, g2]).2.2) :
    Calls Tryd.prog 29 #[.pointer (some ⟨g, 0, none⟩), .int .i64 f, .int .i64 g2] w (OpR full w F g vars most S pn (ansF vars most P S (f, 1, g2) [f, g2])) := by
  have h0 := h.cut
  have hB : Below w.heap.size w (w.alloc (.cells #[.int .i64 f, .int .i64 g2] 3)) := by go_grown
  have hS : Sf (w.alloc (.cells #[.int .i64 f, .int .i64 g2] 3)) (Fc w F) (.slice (some ⟨w.heap.size, 0, none⟩) 2 2) [f, g2] := by
    refine ⟨some ⟨w.heap.size, 0, none⟩, 2, rfl, Or.inr ⟨w.heap.size, 0, rfl, by simp, fun q => by have := q.2; omega, fun j hj => ?_⟩⟩
    rw [Nat.zero_add]
    have hj' : j < 2 := hj
    match j, hj' with
    | 0, _ => simp
    | 1, _ => simp
  have HA : Hid (Calls Tryd.prog 49 #[.pointer (some ⟨g, 0, none⟩), t3v (f, 1, g2), .slice (some ⟨w.heap.size, 0, none⟩) 2 2] (w.alloc (.cells #[.int .i64 f, .int .i64 g2] 3)) (OpR full w F g vars most S pn (ansF vars most P S (f, 1, g2) [f, g2]))) :=
    (AC _ (Fc w F) g vars most S pn P [f, g2] (f, 1, g2) _ (h0.below hB) hS (by simp) hP hPa (fun _ => ⟨Or.inr (Or.inr (Rc.base (by simp))), Or.inr (Or.inr (Or.inl rfl)), Or.inr (Or.inr (Rc.base (by simp)))⟩) hreg).mono fun e w' ⟨h1, h2, h3⟩ => ⟨h1, h2, (h3.from hB).wide fun k hk => hk.1⟩
  obtain ⟨AR, hAR⟩ : ∃ AR, AR = ansF vars most P S (f, 1, g2) [f, g2] := ⟨_, rfl⟩
  rw [← hAR] at HA ⊢
  unfold t3v at HA
  dsimp only at HA
  clear h h0 hB hS hP hPa hreg hAR AC
  go_enter Tryd.func29, Tryd.ntmps29
  go_wp2_with fail
  refine HA.out.mono ?_
  rintro e w1 ⟨rfl, h2, h3⟩
  have H2 : Hid _ := h2
  have H3 : Hid (Did w F g vars most AR.2.2 pn w1) := h3
  clear h2 h3
  go_wp2_with fail
  refine bodyPost_ret (v := .tuple #[.int .i64 AR.1, .int .i64 AR.2.1]) (by simp [results, Tryd.results29, go_sem]) rfl ?_
  exact ⟨rfl, H2.out, H3.out⟩
set_option maxRecDepth 20000 in
set_option maxHeartbeats 1600000 in
theorem xor_any {full : Bool} (AC : AnsC full) {w : World} {F : Nat → Prop} {g vars most : Nat} {S : St} {pn : Int → Int} {P : List Int} (h : Gr w F g vars most S pn) (f g2 : Int) (hP : ∀ f, f ∈ P ↔ 1 ≤ pn f) (hPa : ∀ p ∈ P, alive S.ns p) (hreg : Reg full S (ansF vars most P S (f, -1, g2) [f, g2]).2.2) :
    Calls Tryd.prog 28 #[.pointer (some ⟨g, 0, none⟩), .int .i64 f, .int .i64 g2] w (OpR full w F g vars most S pn (ansF vars most P S (f, -1, g2) [f, g2])) := by
  have h0 := h.cut
  have hB : Below w.heap.size w (w.alloc (.cells #[.int .i64 f, .int .i64 g2] 3)) := by go_grown
  have hS : Sf (w.alloc (.cells #[.int .i64 f, .int .i64 g2] 3)) (Fc w F) (.slice (some ⟨w.heap.size, 0, none⟩) 2 2) [f, g2] := by
    refine ⟨some ⟨w.heap.size, 0, none⟩, 2, rfl, Or.inr ⟨w.heap.size, 0, rfl, by simp, fun q => by have := q.2; omega, fun j hj => ?_⟩⟩
    rw [Nat.zero_add]
    have hj' : j < 2 := hj
    match j, hj' with
    | 0, _ => simp
    | 1, _ => simp
  have HA : Hid (Calls Tryd.prog 49 #[.pointer (some ⟨g, 0, none⟩), t3v (f, -1, g2), .slice (some ⟨w.heap.size, 0, none⟩) 2 2] (w.alloc (.cells #[.int .i64 f, .int .i64 g2] 3)) (OpR full w F g vars most S pn (ansF vars most P S (f, -1, g2) [f, g2]))) :=
    (AC _ (Fc w F) g vars most S pn P [f, g2] (f, -1, g2) _ (h0.below hB) hS (by simp) hP hPa (fun _ => ⟨Or.inr (Or.inr (Rc.base (by simp))), Or.inl rfl, Or.inr (Or.inr (Rc.base (by simp)))⟩) hreg).mono fun e w' ⟨h1, h2, h3⟩ => ⟨h1, h2, (h3.from hB).wide fun k hk => hk.1⟩
  obtain ⟨AR, hAR⟩ : ∃ AR, AR = ansF vars most P S (f, -1, g2) [f, g2] := ⟨_, rfl⟩
  rw [← hAR] at HA ⊢
  unfold t3v at HA
  dsimp only at HA
  clear h h0 hB hS hP hPa hreg hAR AC
  go_enter Tryd.func28, Tryd.ntmps28
  go_wp2_with fail
  refine HA.out.mono ?_
  rintro e w1 ⟨rfl, h2, h3⟩
  have H2 : Hid _ := h2
  have H3 : Hid (Did w F g vars most AR.2.2 pn w1) := h3
  clear h2 h3
  go_wp2_with fail
  refine bodyPost_ret (v := .tuple #[.int .i64 AR.1, .int .i64 AR.2.1]) (by simp [results, Tryd.results28, go_sem]) rfl ?_
  exact ⟨rfl, H2.out, H3.out⟩
set_option maxRecDepth 20000 in
set_option maxHeartbeats 1600000 in
theorem ite_any {full : Bool} (AC : AnsC full) {w : World} {F : Nat → Prop} {g vars most : Nat} {S : St} {pn : Int → Int} {P : List Int} (h : Gr w F g vars most S pn) (f g2 h2 : Int) (hP : ∀ f, f ∈ P ↔ 1 ≤ pn f) (hPa : ∀ p ∈ P, alive S.ns p) (hreg : Reg full S (ansF vars most P S (f, g2, h2) [f, g2, h2]).2.2) :
    Calls Tryd.prog 34 #[.pointer (some ⟨g, 0, none⟩), .int .i64 f, .int .i64 g2, .int .i64 h2] w (OpR full w F g vars most S pn (ansF vars most P S (f, g2, h2) [f, g2, h2])) := by
  have h0 := h.cut
  have hB : Below w.heap.size w (w.alloc (.cells #[.int .i64 f, .int .i64 g2, .int .i64 h2] 3)) := by go_grown
  have hS : Sf (w.alloc (.cells #[.int .i64 f, .int .i64 g2, .int .i64 h2] 3)) (Fc w F) (.slice (some ⟨w.heap.size, 0, none⟩) 3 3) [f, g2, h2] := by
    refine ⟨some ⟨w.heap.size, 0, none⟩, 3, rfl, Or.inr ⟨w.heap.size, 0, rfl, by simp, fun q => by have := q.2; omega, fun j hj => ?_⟩⟩
    rw [Nat.zero_add]
    have hj' : j < 3 := hj
    match j, hj' with
    | 0, _ => simp
    | 1, _ => simp
    | 2, _ => simp
  have HA : Hid (Calls Tryd.prog 49 #[.pointer (some ⟨g, 0, none⟩), t3v (f, g2, h2), .slice (some ⟨w.heap.size, 0, none⟩) 3 3] (w.alloc (.cells #[.int .i64 f, .int .i64 g2, .int .i64 h2] 3)) (OpR full w F g vars most S pn (ansF vars most P S (f, g2, h2) [f, g2, h2]))) :=
    (AC _ (Fc w F) g vars most S pn P [f, g2, h2] (f, g2, h2) _ (h0.below hB) hS (by simp) hP hPa (fun _ => ⟨Or.inr (Or.inr (Rc.base (by simp))), Or.inr (Or.inr (Or.inr (Rc.base (by simp)))), Or.inr (Or.inr (Rc.base (by simp)))⟩) hreg).mono fun e w' ⟨h1, h2, h3⟩ => ⟨h1, h2, (h3.from hB).wide fun k hk => hk.1⟩
  obtain ⟨AR, hAR⟩ : ∃ AR, AR = ansF vars most P S (f, g2, h2) [f, g2, h2] := ⟨_, rfl⟩
  rw [← hAR] at HA ⊢
  unfold t3v at HA
  dsimp only at HA
  clear h h0 hB hS hP hPa hreg hAR AC
  go_enter Tryd.func34, Tryd.ntmps34
  go_wp2_with fail
  refine HA.out.mono ?_
  rintro e w1 ⟨rfl, h2, h3⟩
  have H2 : Hid _ := h2
  have H3 : Hid (Did w F g vars most AR.2.2 pn w1) := h3
  clear h2 h3
  go_wp2_with fail
  refine bodyPost_ret (v := .tuple #[.int .i64 AR.1, .int .i64 AR.2.1]) (by simp [results, Tryd.results34, go_sem]) rfl ?_
  exact ⟨rfl, H2.out, H3.out⟩
def resV (r : Option Int) (T : St) : Int × Int × St := match r with | some f => (f, 0, T) | none => (0, 141, T)
noncomputable def varF (vars most : Nat) (P : List Int) (S : St) (i : Int) : Int × Int × St :=
  if 0 ≤ i ∧ i < vars then
    resV (nodeF most S (P ++ valsR [] ++ []) i 0 1).1 (nodeF most S (P ++ valsR [] ++ []) i 0 1).2
  else (0, 142, S)
set_option maxRecDepth 20000 in
set_option maxHeartbeats 1600000 in
theorem var_any {full : Bool} (NC : NodeC full) {w : World} {F : Nat → Prop} {g vars most : Nat} {S : St} {pn : Int → Int} {P : List Int} (h : Gr w F g vars most S pn) (i : Int) (hP : ∀ f, f ∈ P ↔ 1 ≤ pn f) (hPa : ∀ p ∈ P, alive S.ns p) (hreg : Reg full S (varF vars most P S i).2.2) :
    Calls Tryd.prog 22 #[.pointer (some ⟨g, 0, none⟩), .int .i64 i] w (OpR full w F g vars most S pn (varF vars most P S i)) := by
  have h0 := h.cut
  have HG : Hid (Gr w F g vars most S pn) := h
  have hv := h.mg.vr
  have hgood := h.mg.good
  have c0 : w.cell? ⟨g, 0, none⟩ = some (.int .i64 (vars : Int)) := by
    obtain ⟨m, p, v, u, hx, -⟩ := h
    exact hx.c0
  by_cases hi : 0 ≤ i ∧ i < vars
  · have hlt : ¬ i < 0 := by omega
    have hlt2 : ¬ (vars : Int) ≤ i := by omega
    have hd1 : decide (i < 0) = false := decide_eq_false hlt
    have hd2 : decide ((vars : Int) ≤ i) = false := decide_eq_false hlt2
    have hA : ∀ j ∈ P ++ valsR [] ++ [], alive S.ns j := fun j hj => by simp [valsR] at hj; exact hPa j hj
    have hB : Below w.heap.size w (w.alloc (.cells #[.pointer (some ⟨g, 0, none⟩), .slice none 0 0, .map none] 96)) := by go_grown
    have hR : Rn (w.alloc (.cells #[.pointer (some ⟨g, 0, none⟩), .slice none 0 0, .map none] 96)) (Fc w F) w.heap.size g none [] [] :=
      ⟨⟨.slice none 0 0, heap_alloc_new _ _, ⟨none, 0, rfl, Or.inl rfl⟩⟩, fun q => by have := q.2; omega, Or.inl ⟨rfl, rfl⟩, List.nodup_nil⟩
    obtain ⟨r3, S3, e3⟩ : ∃ r3 S3, nodeF most S (P ++ valsR [] ++ []) i 0 1 = (r3, S3) := ⟨_, _, rfl⟩
    have ev : varF vars most P S i = resV r3 S3 := by unfold varF; rw [if_pos hi, e3]
    have hreg' : Reg full S S3 := by rw [ev] at hreg; cases r3 <;> exact hreg
    have HN : Hid (Calls Tryd.prog 48 #[.pointer (some ⟨w.heap.size, 0, none⟩), .int .i64 i, .int .i64 0, .int .i64 1] (w.alloc (.cells #[.pointer (some ⟨g, 0, none⟩), .slice none 0 0, .map none] 96)) fun e w' => e = .returned (ansV r3) ∧ (full = false → S3.sp = []) ∧ Did w F g vars most S3 pn w') := by
      have k := NC _ (Fc w F) g vars most w.heap.size none [] [] S pn P i 0 1 (h0.below hB) hR hP hA hi (Or.inl rfl) (Or.inr (Or.inl rfl)) (by rw [hgood.z]; exact hi.2) (by rw [hgood.o]; exact hi.2) (by rw [e3]; exact hreg')
      rw [e3] at k
      exact k.mono fun e w' ⟨h1, h2, h3⟩ => ⟨h1, h2, (h3.from hB).wide fun k hk => hk.1⟩
    rw [ev]
    clear ev hreg hreg' e3 hA hB hR h0 h hi hgood hP hPa NC
    go_enter Tryd.func22, Tryd.ntmps22
    go_wp2_with fail
    refine HN.out.mono ?_
    rintro e w1 ⟨he, h2, h3⟩
    have H2 : Hid _ := h2
    have H3 : Hid (Did w F g vars most S3 pn w1) := h3
    clear h2 h3
    cases r3 with
    | none =>
      have he' : e = .returned (.tuple #[.int .i64 0, .int .i64 141]) := he
      subst he'
      clear he
      go_wp2_with fail
      refine bodyPost_ret (v := .tuple #[.int .i64 0, .int .i64 141]) (by simp [results, Tryd.results22, go_sem]) rfl ?_
      exact ⟨rfl, fun e _ => H2.out e, H3.out⟩
    | some f =>
      have he' : e = .returned (.tuple #[.int .i64 f, .int .i64 0]) := he
      subst he'
      clear he
      go_wp2_with fail
      refine bodyPost_ret (v := .tuple #[.int .i64 f, .int .i64 0]) (by simp [results, Tryd.results22, go_sem]) rfl ?_
      exact ⟨rfl, fun e _ => H2.out e, H3.out⟩
  · have ev : varF vars most P S i = (0, 142, S) := by unfold varF; rw [if_neg hi]
    rw [ev]
    clear ev hreg hP hPa NC
    have HD : Hid (Did w F g vars most S pn w) := ⟨F, h, Ch.refl _ _⟩
    by_cases h1 : i < 0
    · go_enter Tryd.func22, Tryd.ntmps22
      go_wp2_with fail
      refine bodyPost_ret (v := .tuple #[.int .i64 0, .int .i64 142]) (by simp [results, Tryd.results22, go_sem]) rfl ?_
      exact ⟨rfl, fun _ q => q, HD.out⟩
    · have h2 : (vars : Int) ≤ i := by omega
      have hd1 : decide (i < 0) = false := decide_eq_false h1
      go_enter Tryd.func22, Tryd.ntmps22
      go_wp2_with fail
      refine bodyPost_ret (v := .tuple #[.int .i64 0, .int .i64 142]) (by simp [results, Tryd.results22, go_sem]) rfl ?_
      exact ⟨rfl, fun _ q => q, HD.out⟩
end Go.Proofs.YtkmkmgnfolpphaaDoor
