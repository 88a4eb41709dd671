/- What literals are worth (aig; no walk). -/
import Derived.Test.YtajpnlmglkifcaaAG10
import Derived.Test.YtajpnlmglkifcaaAG14
namespace Go.Proofs.Ytajpnlmglkifcaa
open Go.RowKit
set_option linter.unusedSimpArgs false
set_option linter.unusedVariables false

/-- The value of a node. -/
def vN (ks : List Kd) (il : List Bool) (j : Nat) : Bool := sN ks (s0F ks il) (j + 1) j
theorem sN_far {ks : List Kd} {s0 : Nat → Bool} {j : Nat} : ∀ t, j < t → sN ks s0 t j = sN ks s0 (j + 1) j
  | 0, h => by omega
  | t + 1, h => by
    by_cases e : j = t
    · rw [e]
    · have ih := sN_far (ks := ks) (s0 := s0) (j := j) t (by omega)
      show (if j = t ∧ isK (ks.getD t (0, 0)) = true then litV (sN ks s0 t) (ks.getD t (0, 0)).1 && litV (sN ks s0 t) (ks.getD t (0, 0)).2 else sN ks s0 t j) = _
      rw [if_neg (fun x => e x.1), ih]
theorem evV_eq (ks : List Kd) (il : List Bool) (l : Nat) : evV ks il l = litV (vN ks il) l := rfl
theorem vN_and {ks : List Kd} (hi : Inv ks) (il : List Bool) {n : Nat} {k : Kd} (h : ks[n]? = some k) (hk : k ≠ (0, 0)) : vN ks il n = (evV ks il k.1 && evV ks il k.2) := by
  have h1 := hi.kid n k h hk
  have hK : isK k = true := by unfold isK; simp [hk]
  unfold vN
  rw [sN_and h hK, if_pos rfl]
  have key : ∀ l : Nat, l < 2 * n → litV (sN ks (s0F ks il) n) l = evV ks il l := fun l hl => by
    unfold evV litV
    rw [sN_far n (by omega)]
  rw [key _ (by omega), key _ (by omega)]
theorem sI_zero (ins : List Int) (il : List Bool) (h : ∀ x ∈ ins, x ≠ 0) : ∀ i, i ≤ ins.length → sI ins il i 0 = false
  | 0, _ => rfl
  | i + 1, hi => by
    show (if 2 * ((0 : Nat) : Int) = ins.getD i 0 then il.getD i false else sI ins il i 0) = false
    have hm : ins.getD i 0 ∈ ins := by
      rw [List.getD_eq_getElem?_getD, List.getElem?_eq_getElem (by omega)]; exact List.getElem_mem _
    have := h _ hm
    rw [if_neg (by omega)]
    exact sI_zero ins il h i (by omega)
theorem vN_zero {ks : List Kd} (hi : Inv ks) (il : List Bool) : vN ks il 0 = false := by
  unfold vN
  rw [sN_in hi.z rfl]
  show s0F ks il 0 = false
  refine sI_zero _ _ (fun x hx => ?_) _ (Nat.le_refl _)
  obtain ⟨i, _, h0, rfl⟩ := mem_insL.1 hx
  omega
/-- The value of a literal. -/
def vI (ks : List Kd) (il : List Bool) (l : Int) : Bool := evV ks il l.toNat
theorem vI_tu {ks : List Kd} {il : List Bool} {l : Int} (h : 0 ≤ l) : vI ks il (tu l) = !vI ks il l := by
  obtain ⟨n, rfl⟩ : ∃ n : Nat, l = (n : Int) := ⟨l.toNat, by omega⟩
  unfold vI evV litV
  rw [show (tu (n : Int)).toNat / 2 = n / 2 by unfold tu; omega, show ((n : Int).toNat) = n by omega]
  have e : decide ((tu (n : Int)).toNat % 2 = 1) = !decide (n % 2 = 1) := by
    by_cases q : n % 2 = 1
    · rw [decide_eq_true q, decide_eq_false (by unfold tu; omega)]; rfl
    · rw [decide_eq_false q, decide_eq_true (by unfold tu; omega)]; rfl
  rw [e]
  cases sN ks (s0F ks il) (n / 2 + 1) (n / 2) <;> cases decide (n % 2 = 1) <;> rfl
theorem vI_zero {ks : List Kd} (hi : Inv ks) (il : List Bool) : vI ks il 0 = false := by
  show litV (vN ks il) 0 = false
  unfold litV
  rw [show 0 / 2 = 0 from rfl, vN_zero hi]; rfl
theorem vI_one {ks : List Kd} (hi : Inv ks) (il : List Bool) : vI ks il 1 = true := by
  have := vI_tu (ks := ks) (il := il) (l := 0) (by omega)
  rw [vI_zero hi] at this
  exact this
theorem and_val {mo : Nat} {ks : List Kd} (hi : Inv ks) {a b l : Int} (h : andF mo ks a b = (l, 0, ks)) (il : List Bool) : vI ks il l = (vI ks il a && vI ks il b) := by
  have key : ∀ x y : Int, (x = a ∧ y = b ∨ x = b ∧ y = a) → vI ks il l = (vI ks il x && vI ks il y) → vI ks il l = (vI ks il a && vI ks il b) := fun x y hxy hv => by
    rcases hxy with ⟨rfl, rfl⟩ | ⟨rfl, rfl⟩
    · exact hv
    · rw [hv, Bool.and_comm]
  refine key (min a b) (max a b) (by omega) ?_
  unfold andF at h
  by_cases hv : (litB ks.length a && litB ks.length b) = true
  · rw [if_pos hv] at h
    rw [Bool.and_eq_true] at hv
    have h1 := litB_iff.1 hv.1
    have h2 := litB_iff.1 hv.2
    by_cases c1 : min a b = 0 ∨ max a b = tu (min a b)
    · rw [if_pos c1] at h
      cases h
      rw [vI_zero hi]
      rcases c1 with c | c
      · rw [c, vI_zero hi]; rfl
      · rw [c, vI_tu (by omega)]
        cases vI ks il (min a b) <;> rfl
    · rw [if_neg c1] at h
      by_cases c2 : min a b = 1 ∨ min a b = max a b
      · rw [if_pos c2] at h
        cases h
        rcases c2 with c | c
        · rw [c, vI_one hi]; rfl
        · rw [c]; simp
      · rw [if_neg c2] at h
        have hk : ((min a b).toNat, (max a b).toNat) ≠ (0, 0) := fun e => by have := congrArg Prod.fst e; dsimp only at this; omega
        obtain ⟨i, hk2, rfl⟩ : ∃ i : Nat, ks[i]? = some ((min a b).toNat, (max a b).toNat) ∧ l = 2 * (i : Int) := by
          unfold bothF at h
          cases hf : ks.findIdx? (fun l => decide (l = ((min a b).toNat, (max a b).toNat))) with
          | some i =>
            rw [hf] at h
            cases h
            exact ⟨i, find_some hf, rfl⟩
          | none =>
            rw [hf] at h
            dsimp only at h
            split at h
            · cases h
            · have := congrArg (fun r : Ans => r.2.2.length) h
              simp at this
        have := vN_and hi il hk2 hk
        show evV ks il (2 * (i : Int)).toNat = _
        unfold vI
        rw [← this, evV_eq, show (2 * (i : Int)).toNat = 2 * i by omega]
        unfold litV
        rw [show 2 * i / 2 = i by omega, show (2 * i) % 2 = 0 by omega]
        simp
  · rw [if_neg hv] at h; cases h
theorem or_val {mo : Nat} {ks : List Kd} (hi : Inv ks) {a b l : Int} (h : orF mo ks a b = (l, 0, ks)) (il : List Bool) : vI ks il l = (vI ks il a || vI ks il b) := by
  have h2 := or_has (mo := mo) (mo2 := mo) (ks := ks) (ks2 := ks) (a := a) (b := b) (by rw [h]) (by rw [h]; exact List.prefix_refl _) hi
  rw [h] at h2
  have hA := and_val hi h2.2 il
  have hok := and_ok (mo := mo) hi.pos (tu a) (tu b)
  rw [h2.2] at hok
  have hl : litB ks.length (tu l) = true := by
    rcases hok with ⟨_, q⟩ | ⟨_, q | q⟩
    · exact q
    · cases q
    · cases q
  rw [tu_lit] at hl
  have hl0 := (litB_iff.1 hl).1
  have hv : litB ks.length (tu a) = true ∧ litB ks.length (tu b) = true := by
    have := h2.2
    unfold andF at this
    by_cases q : (litB ks.length (tu a) && litB ks.length (tu b)) = true
    · rwa [Bool.and_eq_true] at q
    · rw [if_neg q] at this
      exact absurd (congrArg (fun r : Ans => r.2.1) this) (by simp)
  rw [tu_lit, tu_lit] at hv
  rw [vI_tu hl0, vI_tu (litB_iff.1 hv.1).1, vI_tu (litB_iff.1 hv.2).1] at hA
  cases e : vI ks il l <;> rw [e] at hA <;> cases e1 : vI ks il a <;> cases e2 : vI ks il b <;> rw [e1, e2] at hA <;> first | rfl | cases hA
theorem mux_val {mo : Nat} {ks : List Kd} (hi : Inv ks) {c a b l : Int} (h : muxF mo ks c a b = (l, 0, ks)) (il : List Bool) : vI ks il l = (vI ks il c && vI ks il a || !vI ks il c && vI ks il b) := by
  obtain ⟨p, q, h1, h2, h3, hc, ha, hb⟩ := mux_has (mo := mo) (mo2 := mo) (ks := ks) (ks2 := ks) (c := c) (a := a) (b := b) (by rw [h]) (by rw [h]; exact List.prefix_refl _) hi
  rw [h] at h3
  rw [or_val hi h3 il, and_val hi h1 il, and_val hi h2 il, vI_tu (litB_iff.1 hc).1]
theorem xor_val {mo : Nat} {ks : List Kd} (hi : Inv ks) {a b l : Int} (h : xorF mo ks a b = (l, 0, ks)) (hb : 0 ≤ b) (il : List Bool) : vI ks il l = (vI ks il a != vI ks il b) := by
  unfold xorF at h
  rw [mux_val hi h il, vI_tu hb]
  cases vI ks il a <;> cases vI ks il b <;> rfl
/-- Ands make no inputs. -/
theorem both_ins {mo : Nat} {ks : List Kd} {k : Kd} (hk : k ≠ (0, 0)) : insL (bothF mo ks k).2.2 = insL ks := by
  unfold bothF
  split
  · rfl
  · split
    · rfl
    · dsimp only
      rw [insL_snoc, if_neg (fun e => hk e.1), List.append_nil]
theorem and_ins {mo : Nat} {ks : List Kd} {a b : Int} : insL (andF mo ks a b).2.2 = insL ks := by
  unfold andF
  split
  · next hv =>
    rw [Bool.and_eq_true] at hv
    have h1 := litB_iff.1 hv.1
    have h2 := litB_iff.1 hv.2
    split
    · rfl
    · next c1 =>
      split
      · rfl
      · next c2 =>
        refine both_ins fun e => ?_
        have := congrArg Prod.fst e
        dsimp only at this
        omega
  · rfl
theorem or_ins {mo : Nat} {ks : List Kd} {a b : Int} : insL (orF mo ks a b).2.2 = insL ks := by rw [or_ks]; exact and_ins
theorem mux_ins {mo : Nat} {ks : List Kd} {c a b : Int} : insL (muxF mo ks c a b).2.2 = insL ks := by
  unfold muxF
  split
  · split
    · split
      · rw [or_ins, and_ins, and_ins]
      · dsimp only; rw [and_ins, and_ins]
    · dsimp only; rw [and_ins]
  · rfl
theorem do_ins {mo : Nat} {ks : List Kd} {what a b c : Int} (h : what ≠ 0) : insL (doF mo ks what a b c).2.2 = insL ks := by
  unfold doF
  rw [if_neg h]
  split
  · exact and_ins
  · split
    · exact or_ins
    · split
      · exact mux_ins
      · split
        · exact mux_ins
        · rfl
theorem do_ins0 {mo : Nat} {ks : List Kd} {what a b c : Int} : (insL (doF mo ks what a b c).2.2).length ≤ (insL ks).length + (if what = 0 then 1 else 0) := by
  by_cases h : what = 0
  · unfold doF inpF
    rw [if_pos h, if_pos h]
    split
    · simp
    · dsimp only
      rw [insL_snoc]
      split <;> simp
  · rw [do_ins h, if_neg h]; simp
/-- What a step's answer means. -/
theorem do_val {mo : Nat} {ks : List Kd} {what a b c l : Int} {ks2 : List Kd} (h : doF mo ks what a b c = (l, 0, ks2)) (hw : 1 ≤ what ∧ what ≤ 6) (hi : Inv ks2) (il : List Bool) :
    litB ks2.length a = true ∧ litB ks2.length b = true ∧ litB ks2.length l = true ∧ (what = 6 → litB ks2.length c = true) ∧
    vI ks2 il l = (if what = 4 then (vI ks2 il a || vI ks2 il b) else if what = 5 then (vI ks2 il a != vI ks2 il b) else if what = 6 then (vI ks2 il c && vI ks2 il a || !vI ks2 il c && vI ks2 il b) else (vI ks2 il a && vI ks2 il b)) := by
  have lv : ∀ {r : Ans}, AnsOk r → r = (l, 0, ks2) → litB ks2.length l = true := fun hr e => by
    rw [e] at hr
    rcases hr with ⟨_, q⟩ | ⟨_, q | q⟩
    · exact q
    · cases q
    · cases q
  have av : ∀ {x y z : Int}, andF mo ks2 x y = (z, 0, ks2) → litB ks2.length x = true ∧ litB ks2.length y = true := fun {x y z} e => by
    unfold andF at e
    by_cases q : (litB ks2.length x && litB ks2.length y) = true
    · rwa [Bool.and_eq_true] at q
    · rw [if_neg q] at e
      exact absurd (congrArg (fun r : Ans => r.2.1) e) (by simp)
  unfold doF at h
  rw [if_neg (by omega)] at h
  by_cases c1 : what = 1 ∨ what = 2 ∨ what = 3
  · rw [if_pos c1] at h
    have hh := and_has (mo := mo) (mo2 := mo) (ks := ks) (ks2 := ks2) (a := a) (b := b) (by rw [h]) (by rw [h]; exact List.prefix_refl _) hi
    rw [h] at hh
    have hv := av hh
    refine ⟨hv.1, hv.2, lv (and_ok (mo := mo) hi.pos a b) hh, fun e => by omega, ?_⟩
    rw [if_neg (by omega), if_neg (by omega), if_neg (by omega)]
    exact and_val hi hh il
  · rw [if_neg c1] at h
    by_cases c4 : what = 4
    · rw [if_pos c4] at h
      have hh := or_has (mo := mo) (mo2 := mo) (ks := ks) (ks2 := ks2) (a := a) (b := b) (by rw [h]) (by rw [h]; exact List.prefix_refl _) hi
      rw [h] at hh
      have hv := av hh.2
      rw [tu_lit, tu_lit] at hv
      refine ⟨hv.1, hv.2, lv (or_ok (mo := mo) hi.pos a b) hh.1, fun e => by omega, ?_⟩
      rw [if_pos c4]
      exact or_val hi hh.1 il
    · rw [if_neg c4] at h
      by_cases c5 : what = 5
      · rw [if_pos c5] at h
        unfold xorF at h
        obtain ⟨p, q, h1, h2, h3, hc, ha, hb⟩ := mux_has (mo := mo) (mo2 := mo) (ks := ks) (ks2 := ks2) (c := a) (a := tu b) (b := b) (by rw [h]) (by rw [h]; exact List.prefix_refl _) hi
        rw [h] at h3
        refine ⟨hc, hb, lv (or_ok (mo := mo) hi.pos p q) h3, fun e => by omega, ?_⟩
        rw [if_neg c4, if_pos c5]
        exact xor_val hi (mux_of hc ha hb h1 h2 h3) (litB_iff.1 hb).1 il
      · rw [if_neg c5] at h
        have c6 : what = 6 := by omega
        rw [if_pos c6] at h
        obtain ⟨p, q, h1, h2, h3, hc, ha, hb⟩ := mux_has (mo := mo) (mo2 := mo) (ks := ks) (ks2 := ks2) (c := c) (a := a) (b := b) (by rw [h]) (by rw [h]; exact List.prefix_refl _) hi
        rw [h] at h3
        refine ⟨ha, hb, lv (or_ok (mo := mo) hi.pos p q) h3, fun _ => hc, ?_⟩
        rw [if_neg c4, if_neg c5, if_pos c6]
        exact mux_val hi (mux_of hc ha hb h1 h2 h3) il
end Go.Proofs.Ytajpnlmglkifcaa
