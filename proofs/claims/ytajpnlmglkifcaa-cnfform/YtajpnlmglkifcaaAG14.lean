/- What was made once is found again (aig; no walk). -/
import Derived.Test.YtajpnlmglkifcaaAG8
namespace Go.Proofs.Ytajpnlmglkifcaa
open Go.RowKit
set_option linter.unusedSimpArgs false
set_option linter.unusedVariables false

theorem both_pre {mo : Nat} {ks : List Kd} {k : Kd} : ks <+: (bothF mo ks k).2.2 ∧ (bothF mo ks k).2.2.length ≤ ks.length + 1 := by
  unfold bothF
  split
  · exact ⟨List.prefix_refl _, by simp⟩
  · split
    · exact ⟨List.prefix_refl _, by simp⟩
    · exact ⟨List.prefix_append _ _, by simp⟩
theorem and_pre {mo : Nat} {ks : List Kd} {a b : Int} : ks <+: (andF mo ks a b).2.2 ∧ (andF mo ks a b).2.2.length ≤ ks.length + 1 := by
  unfold andF
  split
  · split
    · exact ⟨List.prefix_refl _, by simp⟩
    · split
      · exact ⟨List.prefix_refl _, by simp⟩
      · exact both_pre
  · exact ⟨List.prefix_refl _, by simp⟩
theorem or_ks {mo : Nat} {ks : List Kd} {a b : Int} : (orF mo ks a b).2.2 = (andF mo ks (tu a) (tu b)).2.2 := by
  unfold orF
  split <;> rfl
theorem or_pre {mo : Nat} {ks : List Kd} {a b : Int} : ks <+: (orF mo ks a b).2.2 ∧ (orF mo ks a b).2.2.length ≤ ks.length + 1 := by
  rw [or_ks]; exact and_pre
theorem mux_pre {mo : Nat} {ks : List Kd} {c a b : Int} : ks <+: (muxF mo ks c a b).2.2 ∧ (muxF mo ks c a b).2.2.length ≤ ks.length + 3 := by
  unfold muxF
  have h1 := and_pre (mo := mo) (ks := ks) (a := c) (b := a)
  have h2 := and_pre (mo := mo) (ks := (andF mo ks c a).2.2) (a := tu c) (b := b)
  split
  · split
    · split
      · have h3 := or_pre (mo := mo) (ks := (andF mo (andF mo ks c a).2.2 (tu c) b).2.2) (a := (andF mo ks c a).1) (b := (andF mo (andF mo ks c a).2.2 (tu c) b).1)
        exact ⟨h1.1.trans (h2.1.trans h3.1), by omega⟩
      · exact ⟨h1.1.trans h2.1, by dsimp only; omega⟩
    · exact ⟨h1.1, by dsimp only; omega⟩
  · exact ⟨List.prefix_refl _, by simp⟩
theorem do_pre {mo : Nat} {ks : List Kd} {what a b c : Int} : ks <+: (doF mo ks what a b c).2.2 ∧ (doF mo ks what a b c).2.2.length ≤ ks.length + 3 := by
  unfold doF
  split
  · unfold inpF
    split
    · exact ⟨List.prefix_refl _, by simp⟩
    · exact ⟨List.prefix_append _ _, by simp⟩
  · split
    · have := and_pre (mo := mo) (ks := ks) (a := a) (b := b); exact ⟨this.1, by omega⟩
    · split
      · have := or_pre (mo := mo) (ks := ks) (a := a) (b := b); exact ⟨this.1, by omega⟩
      · split
        · exact mux_pre
        · split
          · exact mux_pre
          · exact ⟨List.prefix_refl _, by simp⟩
theorem pre_len {ks ks2 : List Kd} (h : ks <+: ks2) : ks.length ≤ ks2.length := h.length_le
theorem pre_at {ks ks2 : List Kd} (h : ks <+: ks2) {i : Nat} {k : Kd} (hi : ks[i]? = some k) : ks2[i]? = some k := by
  obtain ⟨t, rfl⟩ := h
  rw [List.getElem?_append_left (List.getElem?_eq_some_iff.1 hi).1]; exact hi
theorem lit_pre {ks ks2 : List Kd} (h : ks <+: ks2) {l : Int} (hl : litB ks.length l = true) : litB ks2.length l = true := by
  have := pre_len h
  have := litB_iff.1 hl
  exact litB_iff.2 ⟨by omega, by omega⟩
theorem and_comm (mo : Nat) (ks : List Kd) (a b : Int) : andF mo ks a b = andF mo ks b a := by
  unfold andF
  rw [Bool.and_comm, Int.min_comm, Int.max_comm]
/-- Without an error, an and is found in every greater graph. -/
theorem both_has {mo mo2 : Nat} {ks ks2 : List Kd} {k : Kd} (hk : k ≠ (0, 0)) (h : (bothF mo ks k).2.1 = 0) (hp : (bothF mo ks k).2.2 <+: ks2) (hi : Inv ks2) : bothF mo2 ks2 k = ((bothF mo ks k).1, 0, ks2) := by
  have key : ∀ i : Nat, ks2[i]? = some k → bothF mo2 ks2 k = (2 * (i : Int), 0, ks2) := fun i h2 => by
    unfold bothF
    cases hf : ks2.findIdx? (fun l => decide (l = k)) with
    | some j => rw [hi.once j i k (find_some hf) h2 hk]
    | none => exact absurd (List.mem_of_getElem? h2) (find_none hf)
  unfold bothF at h hp ⊢
  cases hf : ks.findIdx? (fun l => decide (l = k)) with
  | some i =>
    rw [hf] at hp
    exact key i (pre_at hp (find_some hf))
  | none =>
    rw [hf] at h hp
    dsimp only at h hp ⊢
    by_cases hr : ks.length = mo + 1
    · rw [if_pos hr] at h; cases h
    · rw [if_neg hr] at hp ⊢
      refine key ks.length (pre_at hp ?_)
      simp
theorem and_has {mo mo2 : Nat} {ks ks2 : List Kd} {a b : Int} (h : (andF mo ks a b).2.1 = 0) (hp : (andF mo ks a b).2.2 <+: ks2) (hi : Inv ks2) : andF mo2 ks2 a b = ((andF mo ks a b).1, 0, ks2) := by
  have hp0 : ks <+: ks2 := and_pre.1.trans hp
  unfold andF at h hp ⊢
  by_cases hv : (litB ks.length a && litB ks.length b) = true
  · rw [if_pos hv] at h hp ⊢
    rw [Bool.and_eq_true] at hv
    rw [if_pos (by rw [lit_pre hp0 hv.1, lit_pre hp0 hv.2]; rfl)]
    have h1 := litB_iff.1 hv.1
    have h2 := litB_iff.1 hv.2
    by_cases c1 : min a b = 0 ∨ max a b = tu (min a b)
    · rw [if_pos c1, if_pos c1]
    · rw [if_neg c1] at h hp ⊢
      rw [if_neg c1]
      by_cases c2 : min a b = 1 ∨ min a b = max a b
      · rw [if_pos c2, if_pos c2]
      · rw [if_neg c2] at h hp ⊢
        rw [if_neg c2]
        exact both_has (fun e => by have := congrArg Prod.fst e; dsimp only at this; omega) h hp hi
  · rw [if_neg hv] at h; cases h
theorem or_has {mo mo2 : Nat} {ks ks2 : List Kd} {a b : Int} (h : (orF mo ks a b).2.1 = 0) (hp : (orF mo ks a b).2.2 <+: ks2) (hi : Inv ks2) : orF mo2 ks2 a b = ((orF mo ks a b).1, 0, ks2) ∧ andF mo2 ks2 (tu a) (tu b) = (tu (orF mo ks a b).1, 0, ks2) := by
  rw [or_ks] at hp
  have he : (andF mo ks (tu a) (tu b)).2.1 = 0 := by
    unfold orF at h
    by_cases e : (andF mo ks (tu a) (tu b)).2.1 = 0
    · exact e
    · rw [if_neg e] at h; exact h
  have hA := and_has (mo2 := mo2) he hp hi
  have h1 : (orF mo ks a b).1 = tu (andF mo ks (tu a) (tu b)).1 := by unfold orF; rw [if_pos he]
  rw [h1, tu_tu]
  refine ⟨?_, hA⟩
  unfold orF
  rw [hA]
  rfl
theorem or_comm' (mo : Nat) (ks : List Kd) (a b : Int) : orF mo ks a b = orF mo ks b a := by
  unfold orF
  rw [and_comm mo ks (tu a) (tu b)]
/-- A choice without an error: its two ands and the or are found in every greater graph. -/
theorem mux_has {mo mo2 : Nat} {ks ks2 : List Kd} {c a b : Int} (h : (muxF mo ks c a b).2.1 = 0) (hp : (muxF mo ks c a b).2.2 <+: ks2) (hi : Inv ks2) :
    ∃ p q, andF mo2 ks2 c a = (p, 0, ks2) ∧ andF mo2 ks2 (tu c) b = (q, 0, ks2) ∧ orF mo2 ks2 p q = ((muxF mo ks c a b).1, 0, ks2) ∧ litB ks2.length c = true ∧ litB ks2.length a = true ∧ litB ks2.length b = true := by
  have hp0 : ks <+: ks2 := mux_pre.1.trans hp
  unfold muxF at h hp ⊢
  by_cases hv : (litB ks.length c && litB ks.length a && litB ks.length b) = true
  · rw [if_pos hv] at h hp ⊢
    simp only [Bool.and_eq_true] at hv
    by_cases h1 : (andF mo ks c a).2.1 = 0
    · rw [if_pos h1] at h hp ⊢
      by_cases h2 : (andF mo (andF mo ks c a).2.2 (tu c) b).2.1 = 0
      · rw [if_pos h2] at h hp ⊢
        have q3 := or_has (mo2 := mo2) h hp hi
        have q2 := and_has (mo2 := mo2) h2 (or_pre.1.trans hp) hi
        have q1 := and_has (mo2 := mo2) h1 (and_pre.1.trans (or_pre.1.trans hp)) hi
        exact ⟨_, _, q1, q2, q3.1, lit_pre hp0 hv.1.1, lit_pre hp0 hv.1.2, lit_pre hp0 hv.2⟩
      · rw [if_neg h2] at h; exact absurd h h2
    · rw [if_neg h1] at h; exact absurd h h1
  · rw [if_neg hv] at h; cases h
theorem mux_of {mo : Nat} {ks : List Kd} {c a b p q l : Int} (hc : litB ks.length c = true) (ha : litB ks.length a = true) (hb : litB ks.length b = true) (h1 : andF mo ks c a = (p, 0, ks)) (h2 : andF mo ks (tu c) b = (q, 0, ks)) (h3 : orF mo ks p q = (l, 0, ks)) : muxF mo ks c a b = (l, 0, ks) := by
  unfold muxF
  rw [hc, ha, hb, if_pos (by decide), h1]
  dsimp only
  rw [if_pos rfl, h2]
  dsimp only
  rw [if_pos rfl, h3]
/-- A choice turned round. -/
theorem mux_turn {mo mo2 : Nat} {ks ks2 : List Kd} {c a b : Int} (h : (muxF mo ks c a b).2.1 = 0) (hp : (muxF mo ks c a b).2.2 <+: ks2) (hi : Inv ks2) : muxF mo2 ks2 (tu c) b a = ((muxF mo ks c a b).1, 0, ks2) := by
  obtain ⟨p, q, h1, h2, h3, hc, ha, hb⟩ := mux_has (mo2 := mo2) h hp hi
  exact mux_of (by rw [tu_lit]; exact hc) hb ha h2 (by rw [tu_tu]; exact h1) (by rw [or_comm']; exact h3)
theorem xor_turn {mo mo2 : Nat} {ks ks2 : List Kd} {a b : Int} (h : (xorF mo ks a b).2.1 = 0) (hp : (xorF mo ks a b).2.2 <+: ks2) (hi : Inv ks2) : xorF mo2 ks2 b a = ((xorF mo ks a b).1, 0, ks2) := by
  unfold xorF at h hp ⊢
  obtain ⟨p, q, h1, h2, h3, hc, ha, hb⟩ := mux_has (mo2 := mo2) h hp hi
  exact mux_of hb (by rw [tu_lit]; exact hc) hc (by rw [and_comm]; exact h2) (by rw [and_comm]; exact h1) (by rw [or_comm']; exact h3)
/-- Room enough: no error. -/
theorem both_fine {mo : Nat} {ks : List Kd} {k : Kd} (h : ks.length ≤ mo) : (bothF mo ks k).2.1 = 0 := by
  unfold bothF
  split
  · rfl
  · rw [if_neg (by omega)]
theorem and_fine {mo : Nat} {ks : List Kd} {a b : Int} (h : ks.length ≤ mo) (ha : litB ks.length a = true) (hb : litB ks.length b = true) : (andF mo ks a b).2.1 = 0 := by
  unfold andF
  rw [ha, hb, if_pos (by decide)]
  split
  · rfl
  · split
    · rfl
    · exact both_fine h
theorem or_fine {mo : Nat} {ks : List Kd} {a b : Int} (h : ks.length ≤ mo) (ha : litB ks.length a = true) (hb : litB ks.length b = true) : (orF mo ks a b).2.1 = 0 := by
  unfold orF
  rw [if_pos (and_fine h (by rw [tu_lit]; exact ha) (by rw [tu_lit]; exact hb))]
theorem mux_fine {mo : Nat} {ks : List Kd} {c a b : Int} (h : ks.length + 2 ≤ mo) (hc : litB ks.length c = true) (ha : litB ks.length a = true) (hb : litB ks.length b = true) (h0 : 0 < ks.length) : (muxF mo ks c a b).2.1 = 0 := by
  have p1 := and_pre (mo := mo) (ks := ks) (a := c) (b := a)
  have f1 := and_fine (mo := mo) (by omega) hc ha
  have p2 := and_pre (mo := mo) (ks := (andF mo ks c a).2.2) (a := tu c) (b := b)
  have f2 : (andF mo (andF mo ks c a).2.2 (tu c) b).2.1 = 0 := and_fine (by omega) (by rw [tu_lit]; exact lit_pre p1.1 hc) (lit_pre p1.1 hb)
  have l1 : litB (andF mo ks c a).2.2.length (andF mo ks c a).1 = true := by
    rcases and_ok (mo := mo) h0 c a with ⟨_, q⟩ | ⟨_, q | q⟩
    · exact q
    · rw [f1] at q; cases q
    · rw [f1] at q; cases q
  have l2 : litB (andF mo (andF mo ks c a).2.2 (tu c) b).2.2.length (andF mo (andF mo ks c a).2.2 (tu c) b).1 = true := by
    rcases and_ok (mo := mo) (Nat.lt_of_lt_of_le h0 (pre_len p1.1)) (tu c) b with ⟨_, q⟩ | ⟨_, q | q⟩
    · exact q
    · rw [f2] at q; cases q
    · rw [f2] at q; cases q
  unfold muxF
  rw [hc, ha, hb, if_pos (by decide), if_pos f1, if_pos f2]
  exact or_fine (by omega) (lit_pre p2.1 l1) l2
end Go.Proofs.Ytajpnlmglkifcaa
