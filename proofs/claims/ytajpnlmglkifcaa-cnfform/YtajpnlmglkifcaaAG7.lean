/- Contracts (aig): or, mux, xor; what a step does. -/
import Derived.Test.YtajpnlmglkifcaaAG6
namespace Go.Proofs.Ytajpnlmglkifcaa
open Go.RowKit
set_option linter.unusedSimpArgs false
set_option linter.unusedVariables false

theorem litB_iff {N : Nat} {l : Int} : litB N l = true ↔ 0 ≤ l ∧ l < 2 * (N : Int) := by simp [litB]
theorem tu_lit {N : Nat} {l : Int} : litB N (tu l) = litB N l := by
  rw [Bool.eq_iff_iff, litB_iff, litB_iff]; unfold tu; omega
theorem tu_tu (l : Int) : tu (tu l) = l := by unfold tu; omega
/-- An answer: a literal of the nodes then, or an error beside 0. -/
def AnsOk (r : Ans) : Prop := (r.2.1 = 0 ∧ litB r.2.2.length r.1 = true) ∨ (r.1 = 0 ∧ (r.2.1 = 80 ∨ r.2.1 = 81))
theorem both_ok {mo : Nat} {ks : List Kd} {k : Kd} : AnsOk (bothF mo ks k) := by
  unfold bothF
  cases hf : ks.findIdx? (fun l => decide (l = k)) with
  | some i =>
    have := (List.getElem?_eq_some_iff.1 (find_some hf)).1
    exact Or.inl ⟨rfl, litB_iff.2 ⟨by dsimp only; omega, by dsimp only; omega⟩⟩
  | none =>
    dsimp only
    split
    · exact Or.inr ⟨rfl, Or.inr rfl⟩
    · exact Or.inl ⟨rfl, litB_iff.2 ⟨by dsimp only; omega, by simp; omega⟩⟩
theorem and_ok {mo : Nat} {ks : List Kd} (hp : 0 < ks.length) (a b : Int) : AnsOk (andF mo ks a b) := by
  unfold andF
  split
  · next hv =>
    have hv' : (0 ≤ a ∧ a < 2 * (ks.length : Int)) ∧ (0 ≤ b ∧ b < 2 * (ks.length : Int)) := by
      rw [Bool.and_eq_true] at hv
      exact ⟨litB_iff.1 hv.1, litB_iff.1 hv.2⟩
    split
    · exact Or.inl ⟨rfl, litB_iff.2 ⟨by dsimp only; omega, by dsimp only; omega⟩⟩
    · split
      · exact Or.inl ⟨rfl, litB_iff.2 ⟨by dsimp only; omega, by dsimp only; omega⟩⟩
      · exact both_ok
  · exact Or.inr ⟨rfl, Or.inl rfl⟩
theorem or_ok {mo : Nat} {ks : List Kd} (hp : 0 < ks.length) (a b : Int) : AnsOk (orF mo ks a b) := by
  unfold orF
  have h := and_ok (mo := mo) hp (tu a) (tu b)
  split
  · next he =>
    rcases h with ⟨_, h⟩ | ⟨_, h | h⟩
    · exact Or.inl ⟨rfl, by rw [tu_lit]; exact h⟩
    · rw [h] at he; cases he
    · rw [h] at he; cases he
  · next he =>
    rcases h with ⟨h, _⟩ | ⟨_, h⟩
    · exact absurd h he
    · exact Or.inr ⟨rfl, h⟩
theorem Did.rng {w w' : World} {F : Nat → Prop} {g mo : Nat} {r : Ans} (hG : Gr w F g mo r.2.2) (h : AnsOk r) : -9223372036854775808 ≤ r.1 ∧ r.1 ≤ 9223372036854775807 := by
  have := hG.len
  rcases h with ⟨_, h⟩ | ⟨h, _⟩
  · have := litB_iff.1 h
    omega
  · omega
theorem tu_w64 {a : Int} (h : w64 a) : w64 (tu a) := by unfold w64 at *; unfold tu; omega

set_option maxHeartbeats 3200000 in
theorem or_any {w : World} {F : Nat → Prop} {g mo : Nat} {ks : List Kd} (h : Gr w F g mo ks) {a b : Int} (ha : w64 a) (hb : w64 b) :
    Calls Try.prog 57 #[.pointer (some ⟨g, 0, none⟩), .int .i64 a, .int .i64 b] w (Did w F g mo (orF mo ks a b)) := by
  have H1 : Hid (∀ wx, Calls Try.prog 47 #[.int .i64 a] wx fun e w' => e = .returned (.int .i64 (tu a)) ∧ w' = wx) := fun wx => turn_any ha.1 ha.2 wx
  have H2 : Hid (∀ wx, Calls Try.prog 47 #[.int .i64 b] wx fun e w' => e = .returned (.int .i64 (tu b)) ∧ w' = wx) := fun wx => turn_any hb.1 hb.2 wx
  have HA : Hid _ := and_any h (tu a) (tu b)
  have HOK : Hid _ := and_ok (mo := mo) h.inv.pos (tu a) (tu b)
  obtain ⟨R, hR⟩ : ∃ R, R = andF mo ks (tu a) (tu b) := ⟨_, rfl⟩
  have HOR : Hid (orF mo ks a b = if R.2.1 = 0 then (tu R.1, 0, R.2.2) else (0, R.2.1, R.2.2)) := by unfold Hid orF; rw [← hR]
  rw [← hR] at HA HOK
  obtain ⟨A, hA⟩ : ∃ A, A = tu a := ⟨_, rfl⟩
  obtain ⟨B, hB⟩ : ∃ B, B = tu b := ⟨_, rfl⟩
  rw [← hA] at H1 HA
  rw [← hB] at H2 HA
  clear h ha hb hR hA hB
  go_enter Try.func57, Try.ntmps57
  go_wp2_with fail
  refine (H1.out _).mono ?_
  rintro e wz ⟨rfl, hw⟩
  rw [hw]
  clear hw wz
  go_wp2_with fail
  refine (H2.out _).mono ?_
  rintro e wz ⟨rfl, hw⟩
  rw [hw]
  clear hw wz
  go_wp2_with fail
  refine Calls.mono HA.out ?_
  rintro e w1 ⟨rfl, F', hG, hC⟩
  have HG : Hid _ := hG
  have HC : Hid _ := hC
  obtain ⟨l1, l2⟩ := Did.rng (w' := w1) hG HOK.out
  clear hG hC HA H1 H2
  obtain ⟨l, er, ks'⟩ := R
  dsimp only at HOR HG HC l1 l2 ⊢
  have HT : Hid (∀ wx, Calls Try.prog 47 #[.int .i64 l] wx fun e w' => e = .returned (.int .i64 (tu l)) ∧ w' = wx) := fun wx => turn_any l1 l2 wx
  by_cases he : er = 0
  · have HE : Hid (orF mo ks a b = (tu l, 0, ks')) := by unfold Hid; rw [HOR.out, if_pos he]
    subst he
    obtain ⟨L, hL⟩ : ∃ L, L = tu l := ⟨_, rfl⟩
    rw [← hL] at HT HE
    clear HOR hL HOK
    go_wp2_with fail
    refine (HT.out _).mono ?_
    rintro e wz ⟨rfl, hw⟩
    rw [hw]
    clear hw wz
    go_wp2_with fail
    refine bodyPost_ret (v := .tuple #[.int .i64 L, .int .i64 0]) (by simp [results, Try.results57, go_sem]) rfl ?_
    rw [HE.out]
    exact ⟨rfl, F', HG.out, HC.out⟩
  · have HE : Hid (orF mo ks a b = (0, er, ks')) := by unfold Hid; rw [HOR.out, if_neg he]
    have z : (er == 0) = false := by simp [he]
    have z' : (er != 0) = true := by simp [he]
    clear HOR HOK HT
    go_wp2_with fail
    refine bodyPost_ret (v := .tuple #[.int .i64 0, .int .i64 er]) (by simp [results, Try.results57, go_sem]) rfl ?_
    rw [HE.out]
    exact ⟨rfl, F', HG.out, HC.out⟩

set_option maxHeartbeats 1600000 in
theorem mux_no {w : World} {F : Nat → Prop} {g mo : Nat} {ks : List Kd} (h : Gr w F g mo ks) {a b c : Int} (hv : (litB ks.length c && litB ks.length a && litB ks.length b) = false) :
    Calls Try.prog 49 #[.pointer (some ⟨g, 0, none⟩), .int .i64 c, .int .i64 a, .int .i64 b] w fun e w' => e = .returned (.tuple #[.int .i64 0, .int .i64 80]) ∧ Below w.heap.size w w' := by
  have HH : Hid (∀ (wx : World) q, Below w.heap.size w wx → Li wx q 0 [c, a, b] → Calls Try.prog 33 #[.pointer (some ⟨g, 0, none⟩), .slice (some ⟨q, 0, none⟩) 3 3] wx fun e w' => e = .returned (.bool false) ∧ Below wx.heap.size wx w') := fun wx q hb hl => by
    have := has_any (h.below hb) (c := 3) hl (by simp)
    rw [show [c, a, b].all (litB ks.length) = (litB ks.length c && litB ks.length a && litB ks.length b) by simp [Bool.and_assoc], hv] at this
    exact this
  clear h hv
  go_enter Try.func49, Try.ntmps49
  go_wp2_with fail
  refine (HH.out _ _ (by go_grown) (Li_three w c a b _)).mono ?_
  rintro e w1 ⟨rfl, hb⟩
  have hb1 : Below w.heap.size w w1 := Below.trans (by go_grown) (hb.mono (by simp))
  clear hb
  go_wp2_with fail
  refine bodyPost_ret (v := .tuple #[.int .i64 0, .int .i64 80]) (by simp [results, Try.results49, go_sem]) rfl ?_
  exact ⟨rfl, hb1⟩

set_option maxHeartbeats 6400000 in
theorem mux_any {w : World} {F : Nat → Prop} {g mo : Nat} {ks : List Kd} (h : Gr w F g mo ks) {c a b : Int} (hc : w64 c) (ha : w64 a) (hb : w64 b) :
    Calls Try.prog 49 #[.pointer (some ⟨g, 0, none⟩), .int .i64 c, .int .i64 a, .int .i64 b] w (Did w F g mo (muxF mo ks c a b)) := by
  cases hv : (litB ks.length c && litB ks.length a && litB ks.length b)
  · have e : muxF mo ks c a b = (0, 80, ks) := by unfold muxF; rw [hv]; rfl
    rw [e]
    exact (mux_no h hv).mono fun e w' hb => Did.of_below h hb
  have HH : Hid (∀ (wx : World) q, Below w.heap.size w wx → Li wx q 0 [c, a, b] → Calls Try.prog 33 #[.pointer (some ⟨g, 0, none⟩), .slice (some ⟨q, 0, none⟩) 3 3] wx fun e w' => e = .returned (.bool true) ∧ Below wx.heap.size wx w') := fun wx q hb hl => by
    have := has_any (h.below hb) (c := 3) hl (by simp)
    rw [show [c, a, b].all (litB ks.length) = (litB ks.length c && litB ks.length a && litB ks.length b) by simp [Bool.and_assoc], hv] at this
    exact this
  have H1 : Hid (∀ wx, Calls Try.prog 47 #[.int .i64 c] wx fun e w' => e = .returned (.int .i64 (tu c)) ∧ w' = wx) := fun wx => turn_any hc.1 hc.2 wx
  have HA : Hid (∀ wx, Below w.heap.size w wx → Calls Try.prog 27 #[.pointer (some ⟨g, 0, none⟩), .int .i64 c, .int .i64 a] wx (Did wx F g mo (andF mo ks c a))) := fun wx hb => and_any (h.below hb) c a
  have HOK : Hid _ := and_ok (mo := mo) h.inv.pos c a
  obtain ⟨R, hR⟩ : ∃ R, R = andF mo ks c a := ⟨_, rfl⟩
  have HMX : Hid (muxF mo ks c a b = if R.2.1 = 0 then (if (andF mo R.2.2 (tu c) b).2.1 = 0 then orF mo (andF mo R.2.2 (tu c) b).2.2 R.1 (andF mo R.2.2 (tu c) b).1 else (0, (andF mo R.2.2 (tu c) b).2.1, (andF mo R.2.2 (tu c) b).2.2)) else (0, R.2.1, R.2.2)) := by
    unfold Hid muxF; rw [hv, ← hR]; rfl
  rw [← hR] at HA HOK
  obtain ⟨C, hC⟩ : ∃ C, C = tu c := ⟨_, rfl⟩
  rw [← hC] at H1 HMX
  have HB64 : Hid _ := hb
  clear h ha hb hc hR hC hv
  go_enter Try.func49, Try.ntmps49
  go_wp2_with fail
  refine (HH.out _ _ (by go_grown) (Li_three w c a b _)).mono ?_
  rintro e w0 ⟨rfl, hb⟩
  have hb0 : Below w.heap.size w w0 := Below.trans (by go_grown) (hb.mono (by simp))
  clear hb HH
  go_wp2_with fail
  refine (HA.out _ hb0).mono ?_
  rintro e w1 ⟨rfl, F', hG, hC⟩
  have HG : Hid _ := hG
  have HC : Hid _ := Ch.trans (Ch.of_below F hb0) hC
  obtain ⟨l1, l2⟩ := Did.rng (w' := w1) hG HOK.out
  have HL1 : Hid (w64 R.1) := ⟨l1, l2⟩
  clear hG hC HA hb0 HOK l1 l2
  obtain ⟨l, er, ks1⟩ := R
  dsimp only at HMX HG HC HL1 ⊢
  by_cases he : er = 0
  · rw [if_pos he] at HMX
    subst he
    have HA2 : Hid _ := and_any HG.out C b
    have HOK2 : Hid _ := and_ok (mo := mo) (Gr.inv HG.out).pos C b
    obtain ⟨R2, hR2⟩ : ∃ R2, R2 = andF mo ks1 C b := ⟨_, rfl⟩
    rw [← hR2] at HA2 HOK2 HMX
    clear hR2
    go_wp2_with fail
    refine (H1.out _).mono ?_
    rintro e wz ⟨rfl, hw⟩
    rw [hw]
    clear hw wz
    go_wp2_with fail
    refine Calls.mono HA2.out ?_
    rintro e w2 ⟨rfl, F2, hG, hC⟩
    have HG2 : Hid _ := hG
    have HC2 : Hid _ := Ch.trans HC.out hC
    obtain ⟨l1, l2⟩ := Did.rng (w' := w1) hG HOK2.out
    have HL2 : Hid (w64 R2.1) := ⟨l1, l2⟩
    clear hG hC HA2 HOK2 l1 l2 HC HG H1
    obtain ⟨m, er2, ks2⟩ := R2
    dsimp only at HMX HG2 HC2 HL2 ⊢
    by_cases he2 : er2 = 0
    · rw [if_pos he2] at HMX
      subst he2
      have HO : Hid _ := or_any HG2.out HL1.out HL2.out
      obtain ⟨R3, hR3⟩ : ∃ R3, R3 = orF mo ks2 l m := ⟨_, rfl⟩
      rw [← hR3] at HO HMX
      clear hR3
      go_wp2_with fail
      refine Calls.mono HO.out ?_
      rintro e w3 ⟨rfl, F3, hG, hC⟩
      have HG3 : Hid _ := hG
      have HC3 : Hid _ := Ch.trans HC2.out hC
      clear hG hC HO HC2 HG2
      obtain ⟨q, er3, ks3⟩ := R3
      dsimp only at HMX HG3 HC3 ⊢
      go_wp2_with fail
      refine bodyPost_ret (v := .tuple #[.int .i64 q, .int .i64 er3]) (by simp [results, Try.results49, go_sem]) rfl ?_
      rw [HMX.out]
      exact ⟨rfl, F3, HG3.out, HC3.out⟩
    · rw [if_neg he2] at HMX
      have z : (er2 == 0) = false := by simp [he2]
      have z' : (er2 != 0) = true := by simp [he2]
      go_wp2_with fail
      refine bodyPost_ret (v := .tuple #[.int .i64 0, .int .i64 er2]) (by simp [results, Try.results49, go_sem]) rfl ?_
      rw [HMX.out]
      exact ⟨rfl, F2, HG2.out, HC2.out⟩
  · rw [if_neg he] at HMX
    have z : (er == 0) = false := by simp [he]
    have z' : (er != 0) = true := by simp [he]
    go_wp2_with fail
    refine bodyPost_ret (v := .tuple #[.int .i64 0, .int .i64 er]) (by simp [results, Try.results49, go_sem]) rfl ?_
    rw [HMX.out]
    exact ⟨rfl, F', HG.out, HC.out⟩

set_option maxHeartbeats 3200000 in
theorem xor_any {w : World} {F : Nat → Prop} {g mo : Nat} {ks : List Kd} (h : Gr w F g mo ks) {a b : Int} (ha : w64 a) (hb : w64 b) :
    Calls Try.prog 28 #[.pointer (some ⟨g, 0, none⟩), .int .i64 a, .int .i64 b] w (Did w F g mo (xorF mo ks a b)) := by
  have H2 : Hid (∀ wx, Calls Try.prog 47 #[.int .i64 b] wx fun e w' => e = .returned (.int .i64 (tu b)) ∧ w' = wx) := fun wx => turn_any hb.1 hb.2 wx
  have HM : Hid _ := mux_any h ha (tu_w64 hb) hb
  unfold xorF
  obtain ⟨R, hR⟩ : ∃ R, R = muxF mo ks a (tu b) b := ⟨_, rfl⟩
  rw [← hR] at HM ⊢
  obtain ⟨B, hB⟩ : ∃ B, B = tu b := ⟨_, rfl⟩
  rw [← hB] at H2 HM
  clear h ha hb hR hB
  go_enter Try.func28, Try.ntmps28
  go_wp2_with fail
  refine (H2.out _).mono ?_
  rintro e wz ⟨rfl, hw⟩
  rw [hw]
  clear hw wz
  go_wp2_with fail
  refine Calls.mono HM.out ?_
  rintro e w3 ⟨rfl, F3, hG, hC⟩
  have HG3 : Hid _ := hG
  have HC3 : Hid _ := hC
  clear hG hC HM
  obtain ⟨q, er3, ks3⟩ := R
  dsimp only at HG3 HC3 ⊢
  go_wp2_with fail
  refine bodyPost_ret (v := .tuple #[.int .i64 q, .int .i64 er3]) (by simp [results, Try.results28, go_sem]) rfl ?_
  exact ⟨rfl, F3, HG3.out, HC3.out⟩
end Go.Proofs.Ytajpnlmglkifcaa
