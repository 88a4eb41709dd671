/- Contracts (dd): a question about operands is answered. -/
import Derived.Test.YtkmkmgnfolpphaaDoorDE9
namespace Go.Proofs.YtkmkmgnfolpphaaDoor
open Go.RowKit
set_option linter.unusedSimpArgs false
set_option linter.unusedVariables false

noncomputable def ansF (vars most : Nat) (P : List Int) (S : St) (q : T3) (O : List Int) : Int × Int × St :=
  if ∀ i ∈ O, alive S.ns i then
    match (solveF vars most P O (vars + 1) S [] q).1 with
    | some f => (f, 0, (solveF vars most P O (vars + 1) S [] q).2.1)
    | none => (0, 141, colF (solveF vars most P O (vars + 1) S [] q).2.1 (P ++ O))
  else (0, 140, S)
def AnsC (full : Bool) : Prop := ∀ (w : World) (F : Nat → Prop) (g vars most : Nat) (S : St) (pn : Int → Int) (P O : List Int) (q : T3) (ov : Value),
  Gr w F g vars most S pn → Sf w F ov O → O.length ≤ 1000 → (∀ f, f ∈ P ↔ 1 ≤ pn f) → (∀ p ∈ P, alive S.ns p) → ((∀ i ∈ O, alive S.ns i) → QOk S.ns O q) → Reg full S (ansF vars most P S q O).2.2 →
  Calls Tryd.prog 49 #[.pointer (some ⟨g, 0, none⟩), t3v q, ov] w fun e w' => e = .returned (.tuple #[.int .i64 (ansF vars most P S q O).1, .int .i64 (ansF vars most P S q O).2.1]) ∧ (full = false → S.sp = [] → (ansF vars most P S q O).2.2.sp = []) ∧ Did w F g vars most (ansF vars most P S q O).2.2 pn w'
theorem nodeF_none {most : Nat} {S : St} {A : List Int} {top no yes : Int} (h : (nodeF most S A top no yes).1 = none) : S.gone < (nodeF most S A top no yes).2.gone := by
  unfold nodeF at h ⊢
  split at h
  · cases h
  · next hn =>
    rw [if_neg hn]
    split at h
    · cases h
    · next hf =>
      split at h
      · next hc =>
        rw [if_pos hc]
        split at h
        · next hc2 => rw [if_pos hc2]; exact Nat.lt_succ_self _
        · cases h
      · cases h
theorem solveF_none (vars most : Nat) (P O : List Int) : ∀ (n : Nat) (S : St) (R : Rs) (q : T3) (t : Int), Good vars S.ns S.sp → (∀ i ∈ P ++ valsR R ++ O, alive S.ns i) → RsOk vars S.ns O R → QOk S.ns O q → LB S.ns q t → 0 ≤ t → t ≤ vars → (vars : Int) - t < n → (solveF vars most P O n S R q).1 = none → S.gone < (solveF vars most P O n S R q).2.1.gone := by
  intro n
  induction n with
  | zero => intro S R q t _ _ _ _ _ h0 h1 h2; omega
  | succ n ih =>
    intro S R q t g hA hR hq hl h0 htv hn hnone
    obtain ⟨p, hp⟩ : ∃ p, p = plainF q := ⟨_, rfl⟩
    rw [solveF, ← hp] at hnone ⊢
    cases hk : knownF p with
    | some f => rw [hk] at hnone; cases hnone
    | none =>
      rw [hk] at hnone
      dsimp only at hnone ⊢
      cases hlk : lookR R p with
      | some f => rw [hlk] at hnone; cases hnone
      | none =>
        rw [hlk] at hnone
        dsimp only at hnone ⊢
        obtain ⟨m1a, m1b, m1c, m1d, m1e, m1f, m1g⟩ := mid1 (n := n) g hA hq hl h0 htv hn hp hk
        have i1 := ih S R (halfF S.ns (topF vars S.ns p) false p) (topF vars S.ns p + 1) g hA hR m1e m1f (by omega) (by omega) m1g
        have s1 := solve_ok (most := most) n S R (halfF S.ns (topF vars S.ns p) false p) (topF vars S.ns p + 1) g hA hR m1e m1f (by omega) (by omega) m1g
        obtain ⟨r1, S1, R1, e1⟩ : ∃ r1 S1 R1, solveF vars most P O n S R (halfF S.ns (topF vars S.ns p) false p) = (r1, S1, R1) := ⟨_, _, _, rfl⟩
        rw [e1] at hnone i1 s1 ⊢
        dsimp only at i1 s1
        cases r1 with
        | none => exact i1 rfl
        | some no =>
          dsimp only at hnone ⊢
          obtain ⟨hA1, pq1, m2e, m2f⟩ := mid2 g hA m1a m1d m1c s1
          have i2 := ih S1 R1 (halfF S1.ns (topF vars S.ns p) true p) (topF vars S.ns p + 1) s1.good hA1 s1.rs m2e m2f (by omega) (by omega) m1g
          have s1g := s1.gone
          have s2g := solveF_gone vars most P O n S1 R1 (halfF S1.ns (topF vars S.ns p) true p)
          obtain ⟨r2, S2, R2, e2⟩ : ∃ r2 S2 R2, solveF vars most P O n S1 R1 (halfF S1.ns (topF vars S.ns p) true p) = (r2, S2, R2) := ⟨_, _, _, rfl⟩
          rw [e2] at hnone i2 s2g ⊢
          cases r2 with
          | none => have := i2 rfl; dsimp only at this ⊢; omega
          | some yes =>
            dsimp only at hnone s2g ⊢
            have i3 := @nodeF_none most S2 (P ++ R2.map (·.2) ++ O) (topF vars S.ns p) no yes
            obtain ⟨r3, S3, e3⟩ : ∃ r3 S3, nodeF most S2 (P ++ R2.map (·.2) ++ O) (topF vars S.ns p) no yes = (r3, S3) := ⟨_, _, rfl⟩
            rw [e3] at hnone i3 ⊢
            cases r3 with
            | none => have := i3 rfl; dsimp only at this ⊢; omega
            | some f => cases hnone
theorem lb0 {vars : Nat} {ns : List T3} {sp O : List Int} (g : Good vars ns sp) (hO : ∀ i ∈ O, alive ns i) {q : T3} (hq : QOk ns O q) : LB ns q 0 :=
  ⟨(g.var (hq.f.alive g hO)).1, hq.g.imp id (fun h => (g.var (h.alive g hO)).1), (g.var (hq.h.alive g hO)).1⟩
theorem Sf.at' {w w' : World} {F : Nat → Prop} {v : Value} {l : List Int} (h : Sf w F v l) (hb : Below w.heap.size w w') {j : Nat} (hj : j < l.length) : ∃ r o c, v = .slice (some ⟨r, o, none⟩) l.length c ∧ w'.cell? ⟨r, o + j, none⟩ = some (.int .i64 (l.getD j 0)) := by
  obtain ⟨a, c, e, h2⟩ := h.ex
  rcases h2 with h2 | ⟨r, o, h3, h4, h5, h6⟩
  · rw [h2] at hj; simp at hj
  · refine ⟨r, o, c, by rw [e, h3], ?_⟩
    rw [hb.cell (p := ⟨r, o + j, none⟩) h4]
    exact h6 j hj
set_option maxRecDepth 20000 in
set_option maxHeartbeats 6400000 in
theorem ansC_no : AnsC false := by
  intro w F0 g vars most S pn P O q ov hG0 hS0 hOl hP hPa hq hreg
  obtain ⟨hsp, hgone⟩ := hreg.resolve_left (by decide)
  obtain ⟨F, hFd⟩ : ∃ F, F = Fc w F0 := ⟨_, rfl⟩
  have hFF : ∀ k, F k → F0 k := fun k hk => by rw [hFd] at hk; exact hk.1
  have hFl : ∀ k, F k → k < w.heap.size := fun k hk => by rw [hFd] at hk; exact hk.2
  have hG : Gr w F g vars most S pn := by rw [hFd]; exact hG0.cut
  have hS := hS0.sub hFF
  have HWI : Hid (∀ S' w', Did w F g vars most S' pn w' → Did w F0 g vars most S' pn w') := fun S' w' h => by
    obtain ⟨F', h1, h2⟩ := h
    exact ⟨F', h1, h2.wide hFF⟩
  obtain ⟨AR, hAR⟩ : ∃ AR, AR = ansF vars most P S q O := ⟨_, rfl⟩
  rw [← hAR] at hgone ⊢
  have HAR : Hid _ := hAR
  have HG : Hid (Gr w F g vars most S pn) := hG
  have HS : Hid (Sf w F ov O) := hS
  have HHAS : Hid (∀ wx (i : Int), Below w.heap.size w wx → Calls Tryd.prog 38 #[.pointer (some ⟨g, 1, none⟩), .int .i64 i] wx fun e w' => e = .returned (.bool (decide (alive S.ns i))) ∧ w' = wx) := fun wx i hb => has_any (HG.out.below hb) i
  have HSP : Hid (S.sp = []) := hsp
  have HSOL : Hid ((∀ i ∈ O, alive S.ns i) → ∃ f S', AR = (f, 0, S') ∧ ∀ wx rb r, Below w.heap.size w wx → Rn wx F rb g (some r) O [] → Calls Tryd.prog 61 #[.pointer (some ⟨rb, 0, none⟩), t3v q] wx fun e w' => e = .returned (.tuple #[.int .i64 f, .int .i64 0]) ∧ S'.sp = [] ∧ ∃ F', Gr w' F' g vars most S' pn ∧ Ch wx w' (Fm F r) (Fm F' r)) := fun hal => by
    have hqo := hq hal
    have hA : ∀ i ∈ P ++ valsR [] ++ O, alive S.ns i := fun i hi => by
      simp [valsR] at hi
      exact hi.elim (hPa i) (hal i)
    have hlb := lb0 hG.mg.good hal hqo
    have hrs : RsOk vars S.ns O [] := fun p hp => nomatch hp
    have hnn := solveF_none vars most P O (vars + 1) S [] q 0 hG.mg.good hA hrs hqo hlb (by omega) (by omega) (by omega)
    have hau : AR = match (solveF vars most P O (vars + 1) S [] q).1 with
      | some f => (f, 0, (solveF vars most P O (vars + 1) S [] q).2.1)
      | none => (0, 141, colF (solveF vars most P O (vars + 1) S [] q).2.1 (P ++ O)) := by rw [hAR]; unfold ansF; rw [if_pos hal]
    obtain ⟨r1, S1, R1, e1⟩ : ∃ r1 S1 R1, solveF vars most P O (vars + 1) S [] q = (r1, S1, R1) := ⟨_, _, _, rfl⟩
    have key := fun wx rb r hb hr hreg' => solve_any nodeC_no (vars + 1) wx F g vars most rb r O [] S pn P q 0 (HG.out.below hb) hr hP hA hrs hqo hlb (by omega) (by omega) (by omega) hreg'
    rw [e1] at hau key hnn
    cases r1 with
    | none =>
      have := hnn rfl
      dsimp only at hau this
      rw [hau] at hgone
      simp only [colF] at hgone
      omega
    | some f =>
      dsimp only at hau key
      rw [hau] at hgone
      dsimp only at hgone
      have hr : Reg false S S1 := Or.inr ⟨hsp, hgone⟩
      exact ⟨f, S1, hau, fun wx rb r hb hrn => (key wx rb r hb hrn hr).mono fun e w' ⟨h1, h2, F', h3, h4, h5⟩ => ⟨h1, h2 rfl, F', h3, h5⟩⟩
  have HNO : Hid ((¬ ∀ i ∈ O, alive S.ns i) → AR = (0, 140, S)) := fun h => by rw [hAR]; unfold ansF; rw [if_neg h]
  obtain ⟨m, hm⟩ : ∃ m, m = O.length := ⟨_, rfl⟩
  have HM : Hid _ := hm
  have hmw : m ≤ 1000 := by rw [hm]; exact hOl
  obtain ⟨oa, oc, hov⟩ : ∃ a c, ov = .slice a m c := by
    obtain ⟨a, c, e, _⟩ := hS.ex
    exact ⟨a, c, by rw [hm]; exact e⟩
  have HFL : Hid _ := hFl
  clear hAR hG0 hS0 hG hS hP hPa hq hgone hFd hFF hFl hOl hm hsp
  subst hov
  obtain ⟨q0, q1, q2⟩ := q
  unfold t3v at HSOL ⊢
  dsimp only at HSOL ⊢
  have hmm := @run_makeMap Tryd.prog
  go_enter Tryd.func49, Tryd.ntmps49
  go_wp2_with fail
  go_loopw [15] (fun i wr => ∃ k : Nat, k ≤ m ∧ i = .int .i64 (k : Int) ∧ Hid ((∀ j, j < k → alive S.ns (O.getD j 0))) ∧ wr = w.alloc (.cells #[.int .i64 q0, .int .i64 q1, .int .i64 q2] 98)) (fun i wr => m - (intOf i).toNat)
  case atStart => exact ⟨0, Nat.zero_le _, rfl, (fun j hj => by omega), rfl⟩
  case round =>
    obtain ⟨k, hk, rfl, hz, rfl⟩ := hrel
    have hBW : Below w.heap.size w (w.alloc (.cells #[.int .i64 q0, .int .i64 q1, .int .i64 q2] 98)) := by go_grown
    by_cases hlt : k < m
    · have hltI : (k : Int) < (m : Int) := by omega
      obtain ⟨ro, o, c, he, hc⟩ := HS.out.at' hBW (j := k) (by rw [← HM.out]; exact hlt)
      rw [← HM.out] at he
      injection he with he1 he2 he3
      subst he1
      obtain ⟨x, hx⟩ : ∃ x, x = O.getD k 0 := ⟨_, rfl⟩
      rw [← hx] at hc
      have HX : Hid _ := hx
      clear hx he2 he3
      cases hd : decide (alive S.ns x) with
      | false =>
        have HE : Hid (AR = (0, 140, S)) := by
          refine HNO.out fun hall => ?_
          have h1 := of_decide_eq_false hd
          rw [HX.out, List.getD_eq_getElem?_getD, List.getElem?_eq_getElem (by rw [← HM.out]; exact hlt)] at h1
          exact h1 (hall _ (List.getElem_mem _))
        have HH : Hid (∀ wx, Below w.heap.size w wx → Calls Tryd.prog 38 #[.pointer (some ⟨g, 1, none⟩), .int .i64 x] wx fun e w' => e = .returned (.bool false) ∧ w' = wx) := fun wx hb => by rw [← hd]; exact HHAS.out wx x hb
        clear hd
        go_wp2_with fail
        refine (HH.out _ hBW).mono ?_
        rintro e w0 ⟨rfl, rfl⟩
        go_wp2_with fail
        go_ret2
        rw [HE.out]
        exact ⟨rfl, fun _ _ => HSP.out, HWI.out _ _ ⟨F, HG.out.below hBW, Ch.of_below F hBW⟩⟩
      | true =>
        have HZ : Hid (∀ j, j < k + 1 → alive S.ns (O.getD j 0)) := fun j hj => by
          by_cases e : j = k
          · rw [e, ← HX.out]; exact of_decide_eq_true hd
          · exact hz.out j (by omega)
        have HH : Hid (∀ wx, Below w.heap.size w wx → Calls Tryd.prog 38 #[.pointer (some ⟨g, 1, none⟩), .int .i64 x] wx fun e w' => e = .returned (.bool true) ∧ w' = wx) := fun wx hb => by rw [← hd]; exact HHAS.out wx x hb
        clear hd
        go_wp2_with fail
        refine (HH.out _ hBW).mono ?_
        rintro e w0 ⟨rfl, rfl⟩
        go_wp2_with fail
        exact ⟨⟨k + 1, by omega, by go_num, HZ.out, trivial⟩, by simp [intOf]; omega⟩
    · obtain rfl : k = m := by omega
      have hltI : ¬ (k : Int) < (k : Int) := by omega
      have hall : ∀ i ∈ O, alive S.ns i := fun i hi => by
        obtain ⟨j, hj, rfl⟩ := List.getElem_of_mem hi
        have := hz.out j (by rw [HM.out]; exact hj)
        rwa [List.getD_eq_getElem?_getD, List.getElem?_eq_getElem hj] at this
      obtain ⟨f, S', hAR, hsol⟩ := HSOL.out hall
      have HAE : Hid _ := hAR
      have HSO : Hid _ := hsol
      clear hAR hsol hall
      go_wp2_with fail
      obtain ⟨W, hW⟩ : ∃ W, W = ((w.alloc (.cells #[.int .i64 q0, .int .i64 q1, .int .i64 q2] 98)).alloc (.map #[] 0)).alloc (.cells #[.pointer (some ⟨g, 0, none⟩), .slice oa k oc, .map (some (w.heap.size + 1))] 96) := ⟨_, rfl⟩
      have hBW3 : Below w.heap.size w W := by rw [hW]; go_grown
      have hRN : Rn W F (w.heap.size + 1 + 1) g (some (w.heap.size + 1)) O [] := by
        refine ⟨⟨.slice oa k oc, ?_, ?_⟩, fun h => by have := HFL.out _ h; omega, Or.inr ⟨w.heap.size + 1, rfl, ⟨#[], 0, ?_, rfl, fun p hp => nomatch hp⟩, fun h => by have := HFL.out _ h; omega⟩, List.nodup_nil⟩
        · rw [hW]
          have e : w.heap.size + 1 + 1 = ((w.alloc (.cells #[.int .i64 q0, .int .i64 q1, .int .i64 q2] 98)).alloc (.map #[] 0)).heap.size := by simp
          rw [e]; exact heap_alloc_new _ _
        · exact HS.out.ch (Ch.of_below F hBW3)
        · rw [hW]
          refine (heap_alloc_old _ _ (by simp)).trans ?_
          have e : w.heap.size + 1 = (w.alloc (.cells #[.int .i64 q0, .int .i64 q1, .int .i64 q2] 98)).heap.size := by simp
          rw [e]; exact heap_alloc_new _ _
      have hsz : W.heap.size = w.heap.size + 3 := by rw [hW]; simp
      rw [← hW]
      clear hW hBW
      refine (HSO.out W _ _ hBW3 hRN).mono ?_
      rintro e w1 ⟨rfl, hsp1, F1, hG1, hC1⟩
      have HEND : Hid (AR = (f, 0, S') ∧ S'.sp = [] ∧ Did w F0 g vars most S' pn w1) := by
        refine ⟨HAE.out, hsp1, HWI.out _ _ ⟨F1, hG1, ?_⟩⟩
        have hs1 := hC1.size
        refine ⟨hC1.os.trans hBW3.os, hC1.tape.trans hBW3.tape, hC1.output.trans hBW3.output, by omega, fun k' hk' hf => (hC1.block k' (by omega) (fun h => h.elim hf (fun e => by omega))).trans (hBW3.block k' hk'), fun k' hk' => ?_⟩
        rcases hC1.foot k' (Or.inl hk') with (h | h) | ⟨h, h2⟩
        · exact Or.inl h
        · exact Or.inr ⟨by omega, by omega⟩
        · exact Or.inr ⟨by omega, h2⟩
      clear hG1 hC1 hsp1 hRN hBW3 hsz
      go_wp2_with fail
      refine bodyPost_ret (v := .tuple #[.int .i64 f, .int .i64 0]) (by simp [results, Tryd.results49, go_sem]) rfl ?_
      rw [HEND.out.1]
      exact ⟨rfl, fun _ _ => HEND.out.2.1, HEND.out.2.2⟩
end Go.Proofs.YtkmkmgnfolpphaaDoor
