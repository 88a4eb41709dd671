/- Pure facts (clauses): they are sound and complete. -/
import Derived.Test.YtajpnlmglkifcaaCN17
namespace Go.Proofs.Ytajpnlmglkifcaa
open Go.RowKit
set_option linter.unusedSimpArgs false
set_option linter.unusedVariables false

/-- A number by its bits. -/
def bn (p : Nat → Bool) : Nat → Nat
  | 0 => 0
  | m + 1 => (if p 0 then 1 else 0) + 2 * bn (fun j => p (j + 1)) m
theorem bn_lt : ∀ (m : Nat) (p : Nat → Bool), bn p m < 2 ^ m
  | 0, _ => by simp [bn]
  | m + 1, p => by
    have := bn_lt m (fun j => p (j + 1))
    unfold bn
    rw [Nat.pow_succ]
    split <;> omega
theorem bn_bit : ∀ (m : Nat) (p : Nat → Bool) (j : Nat), j < m → (bn p m).testBit j = p j
  | 0, _, _, h => by omega
  | m + 1, p, 0, _ => by
    unfold bn
    rw [Nat.testBit_zero]
    split
    · next h => rw [h]; simp
    · next h => rw [Bool.not_eq_true] at h; rw [h]; simp
  | m + 1, p, j + 1, h => by
    unfold bn
    rw [Nat.testBit_succ, show ((if p 0 = true then 1 else 0) + 2 * bn (fun j => p (j + 1)) m) / 2 = bn (fun j => p (j + 1)) m by split <;> omega]
    exact bn_bit m (fun j => p (j + 1)) j (by omega)
theorem insL_nodup (ks : List Kd) : ∀ n, n ≤ ks.length → (insL (ks.take n)).Nodup
  | 0, _ => by simp [insL]
  | n + 1, h => by
    have ih := insL_nodup ks n (by omega)
    rw [List.take_add_one, List.getElem?_eq_getElem (by omega), Option.toList_some, insL_snoc]
    split
    · rw [List.nodup_append]
      refine ⟨ih, List.nodup_cons.2 ⟨by simp, List.nodup_nil⟩, fun x hx y hy e => ?_⟩
      rw [List.mem_singleton] at hy
      obtain ⟨i, hi, _, rfl⟩ := mem_insL.1 hx
      have := (List.getElem?_eq_some_iff.1 hi).1
      omega
    · rw [List.append_nil]; exact ih
theorem sI_at {ins : List Int} {il : List Bool} {n k : Nat} (hk : ins[k]? = some (2 * (n : Int))) (hu : ins.Nodup) : ∀ t, k < t → t ≤ ins.length → sI ins il t n = il.getD k false
  | 0, h, _ => by omega
  | t + 1, h, ht => by
    show (if 2 * (n : Int) = ins.getD t 0 then il.getD t false else sI ins il t n) = _
    have hg : ins.getD t 0 = ins[t] := by rw [List.getD_eq_getElem?_getD, List.getElem?_eq_getElem (by omega)]; rfl
    by_cases e : t = k
    · subst e
      rw [List.getElem?_eq_getElem (by omega)] at hk
      rw [if_pos (by rw [hg]; exact (Option.some.inj hk).symm)]
    · rw [if_neg (fun q => ?_)]
      · exact sI_at hk hu t (by omega) (by omega)
      · obtain ⟨hkl, hkv⟩ := List.getElem?_eq_some_iff.1 hk
        rw [hg, ← hkv] at q
        exact e ((List.getElem_inj hu).1 q.symm)

theorem ltT_pos {n : Nat} {v : Int} (h : 1 ≤ v) : ltT n v = bt n (v.toNat - 1) := by
  unfold ltT
  rw [show v.natAbs - 1 = v.toNat - 1 by omega, decide_eq_true (by omega)]
  cases bt n (v.toNat - 1) <;> rfl
theorem ltT_neg {n : Nat} {v : Int} (h : 1 ≤ v) : ltT n (-v) = !bt n (v.toNat - 1) := by
  unfold ltT
  rw [show (-v).natAbs - 1 = v.toNat - 1 by omega, decide_eq_false (by omega)]
  cases bt n (v.toNat - 1) <;> rfl
theorem ltT_opp {n : Nat} {x : Int} (h : x ≠ 0) : ltT n (-x) = !ltT n x := by
  rcases (show 1 ≤ x ∨ 1 ≤ -x by omega) with h | h
  · rw [ltT_neg h, ltT_pos h]
  · obtain ⟨y, rfl⟩ : ∃ y, x = -y := ⟨-x, by omega⟩
    rw [Int.neg_neg] at h ⊢
    rw [ltT_pos h, ltT_neg h, Bool.not_not]
theorem lt_lit {V : Int → Option Int} {x : Nat} {v : Int} (hv : V ((x / 2 : Nat) : Int) = some v) (h1 : 1 ≤ v) (n : Nat) : ltT n (lit V x) = (bt n (v.toNat - 1) != decide (x % 2 = 1)) := by
  unfold lit
  rw [hv]
  by_cases ho : x % 2 = 1
  · rw [if_pos ho, decide_eq_true ho, Option.getD_some, ltT_neg h1]
    cases bt n (v.toNat - 1) <;> rfl
  · rw [if_neg ho, decide_eq_false ho, Option.getD_some, ltT_pos h1]
    cases bt n (v.toNat - 1) <;> rfl
theorem lit_nz {V : Int → Option Int} {x : Nat} {v : Int} (hv : V ((x / 2 : Nat) : Int) = some v) (h1 : 1 ≤ v) : lit V x ≠ 0 := by
  unfold lit
  rw [hv, Option.getD_some]
  split <;> omega
theorem lit_xr (V : Int → Option Int) (k : Nat) : lit V (xr k 1) = - lit V k := by
  unfold lit
  rw [xr_half]
  by_cases ho : k % 2 = 1
  · rw [if_pos ho, if_neg (by unfold xr; rw [if_neg (by decide)]; omega), Int.neg_neg]
  · rw [if_neg ho, if_pos (by unfold xr; rw [if_neg (by decide)]; omega)]
theorem xr_zero (k : Nat) : xr k 0 = k := rfl
theorem ev_xr (ks : List Kd) (il : List Bool) (k : Nat) : evV ks il (xr k 1) = !evV ks il k := by
  rw [evV_eq, evV_eq]
  unfold litV
  rw [xr_half]
  by_cases ho : k % 2 = 1
  · rw [decide_eq_true ho, decide_eq_false (by unfold xr; rw [if_neg (by decide)]; omega)]
    cases vN ks il (k / 2) <;> rfl
  · rw [decide_eq_false ho, decide_eq_true (by unfold xr; rw [if_neg (by decide)]; omega)]
    cases vN ks il (k / 2) <;> rfl
/-- The inputs' variables have these values. -/
def Sat (s : Rz) (il : List Bool) (n : Nat) : Prop := ∀ (i : Nat) (v : Int), s.ks[i]? = some (0, 0) → i ≠ 0 → s.V (i : Int) = some v → bt n (v.toNat - 1) = vN s.ks il i
theorem Pz.vr {first : Int} {f : Nat} {s : Rz} (h : Pz first f s) (h1 : 1 ≤ first) {x : Nat} (hx : x ∈ s.T) : ∃ v, s.V ((x / 2 : Nat) : Int) = some v ∧ 1 ≤ v := by
  obtain ⟨v, hv⟩ := Option.isSome_iff_exists.1 (h.dm x hx)
  exact ⟨v, hv, by have := h.rg _ _ hv; omega⟩
/-- Where all clauses are true, a literal that was told is implied. -/
theorem Pz.sound {first : Int} {f : Nat} {s : Rz} (h : Pz first f s) (h1 : 1 ≤ first) {n : Nat} {il : List Bool} (hs : Sat s il n) (hC : allF n s.C = true) : ∀ (d x : Nat), x ∈ s.T → x / 2 < d → ltT n (lit s.V x) = true → evV s.ks il x = true := by
  intro d
  induction d with
  | zero => intro x _ hd; omega
  | succ d ih =>
    intro x hx hd ht
    obtain ⟨v, hv, hv1⟩ := h.vr h1 hx
    have hcl : ∀ c ∈ cls s.ks s.V x, trF n c = true := fun c hc => by
      unfold allF at hC
      rw [List.all_eq_true] at hC
      exact hC c (by rw [h.cc]; exact List.mem_flatMap.2 ⟨x, hx, hc⟩)
    by_cases h0 : x / 2 = 0
    · have := (h.vt x hx).2
      obtain rfl : x = 1 := by omega
      exact vI_one h.inv il
    cases hk : s.ks[x / 2]? with
    | none =>
      rw [List.getElem?_eq_none_iff] at hk
      have := (h.vt x hx).1
      omega
    | some k =>
      rw [evV_eq]
      unfold litV
      by_cases hi : k = (0, 0)
      · subst hi
        rw [← hs (x / 2) v hk h0 hv, ← lt_lit hv hv1]
        exact ht
      · have hK : isK k = true := by unfold isK; simp [hi]
        have hkid := h.inv.kid _ _ hk hi
        have hkids : kidsL s.ks x = [xr k.1 (x % 2), xr k.2 (x % 2)] := by
          unfold kidsL
          rw [hk]
          simp only
          rw [if_pos hK]
        unfold cls at hcl
        rw [if_neg h0, hk] at hcl
        simp only at hcl
        rw [if_pos hK] at hcl
        have hno : ltT n (- lit s.V x) = false := by rw [ltT_opp (lit_nz hv hv1), ht]; rfl
        rw [vN_and h.inv il hk hi]
        by_cases ho : x % 2 = 1
        · rw [if_pos ho] at hcl
          have hc := hcl _ (List.mem_singleton.2 rfl)
          unfold trF at hc
          simp only [List.any_cons, List.any_nil, Bool.or_false, Bool.or_eq_true, hno, Bool.false_eq_true, false_or] at hc
          rw [decide_eq_true ho]
          have key : ∀ y, y ∈ [k.1, k.2] → ltT n (- lit s.V y) = true → evV s.ks il y = false := fun y hy e => by
            rw [← lit_xr] at e
            have hym : xr y 1 ∈ s.T := h.cl x hx _ (by
              rw [hkids, ho]
              rcases List.mem_cons.1 hy with rfl | hy
              · simp
              · rw [List.mem_singleton.1 hy]; simp)
            have hyl : y / 2 < d := by
              rcases List.mem_cons.1 hy with rfl | hy
              · omega
              · rw [List.mem_singleton.1 hy]; omega
            have := ih (xr y 1) hym (by rw [xr_half]; exact hyl) e
            rw [ev_xr] at this
            simpa using this
          rcases hc with e | e
          · rw [key k.1 (by simp) e]; rfl
          · rw [key k.2 (by simp) e, Bool.and_false]; rfl
        · rw [if_neg ho] at hcl
          have h2 : x % 2 = 0 := by omega
          rw [decide_eq_false ho]
          have key : ∀ y, y ∈ [k.1, k.2] → [- lit s.V x, lit s.V y] ∈ [[- lit s.V x, lit s.V k.1], [- lit s.V x, lit s.V k.2]] → evV s.ks il y = true := fun y hy hm => by
            have hc := hcl _ hm
            unfold trF at hc
            simp only [List.any_cons, List.any_nil, Bool.or_false, Bool.or_eq_true, hno, Bool.false_eq_true, false_or] at hc
            have hym : y ∈ s.T := h.cl x hx _ (by
              rw [hkids, h2, xr_zero, xr_zero]
              exact hy)
            have hyl : y / 2 < d := by
              rcases List.mem_cons.1 hy with rfl | hy
              · omega
              · rw [List.mem_singleton.1 hy]; omega
            exact ih y hym hyl hc
          rw [key k.1 (by simp) (by simp), key k.2 (by simp) (by simp)]
          rfl
/-- An assignment by the nodes' values. -/
def Cmp (s : Rz) (il : List Bool) (n : Nat) : Prop := ∀ (i : Nat) (v : Int), s.V (i : Int) = some v → bt n (v.toNat - 1) = vN s.ks il i
theorem Pz.compl {first : Int} {f : Nat} {s : Rz} (h : Pz first f s) (h1 : 1 ≤ first) (il : List Bool) {m : Nat} (hm : s.vars ≤ (m : Int)) (hm2 : m ≤ 14) : ∃ n, n < 2 ^ m ∧ Cmp s il n := by
  obtain ⟨p, hp⟩ : ∃ p : Nat → Bool, ∀ j, p j = true ↔ ∃ i : Nat, s.V (i : Int) = some ((j : Int) + 1) ∧ vN s.ks il i = true := ⟨fun j => @decide _ (Classical.propDecidable (∃ i : Nat, s.V (i : Int) = some ((j : Int) + 1) ∧ vN s.ks il i = true)), fun j => @decide_eq_true_iff _ (Classical.propDecidable _)⟩
  have hlt := bn_lt m p
  have h16 : (2 : Nat) ^ m ≤ 2 ^ 14 := Nat.pow_le_pow_right (by decide) hm2
  refine ⟨bn p m, hlt, fun i v hv => ?_⟩
  have hr := h.rg _ _ hv
  rw [bt_eq (Nat.lt_of_lt_of_le hlt (Nat.le_trans h16 (by decide))), bn_bit m p _ (by omega)]
  have hj : (((v.toNat - 1 : Nat)) : Int) + 1 = v := by omega
  cases e : vN s.ks il i with
  | true => rw [hp, hj]; exact ⟨i, hv, e⟩
  | false =>
    rw [← Bool.not_eq_true, hp, hj]
    rintro ⟨i', e1, e2⟩
    have := h.ij _ _ _ hv e1
    obtain rfl : i = i' := by omega
    rw [e] at e2
    cases e2
theorem Cmp.sat {s : Rz} {il : List Bool} {n : Nat} (h : Cmp s il n) : Sat s il n := fun i v _ _ hv => h i v hv
theorem Cmp.lit {s : Rz} {il : List Bool} {n x : Nat} {v : Int} (h : Cmp s il n) (hv : s.V ((x / 2 : Nat) : Int) = some v) (h1 : 1 ≤ v) : ltT n (lit s.V x) = evV s.ks il x := by
  rw [lt_lit hv h1, h _ _ hv]
  rfl
theorem Pz.compl_all {first : Int} {f : Nat} {s : Rz} (h : Pz first f s) (h1 : 1 ≤ first) {il : List Bool} {n : Nat} (hn : Cmp s il n) : allF n s.C = true := by
  unfold allF
  rw [List.all_eq_true]
  intro c hc
  rw [h.cc] at hc
  obtain ⟨x, hx, hc⟩ := List.mem_flatMap.1 hc
  have hlit : ∀ y ∈ s.T, ltT n (Go.Proofs.Ytajpnlmglkifcaa.lit s.V y) = evV s.ks il y := fun y hy => by
    obtain ⟨v, hv, hv1⟩ := h.vr h1 hy
    exact hn.lit hv hv1
  have hnz : ∀ y ∈ s.T, Go.Proofs.Ytajpnlmglkifcaa.lit s.V y ≠ 0 := fun y hy => by
    obtain ⟨v, hv, hv1⟩ := h.vr h1 hy
    exact lit_nz hv hv1
  unfold cls at hc
  unfold trF
  by_cases h0 : x / 2 = 0
  · rw [if_pos h0, List.mem_singleton] at hc
    subst hc
    have := (h.vt x hx).2
    obtain rfl : x = 1 := by omega
    simp only [List.any_cons, List.any_nil, Bool.or_false]
    rw [hlit 1 hx]
    exact vI_one h.inv il
  rw [if_neg h0] at hc
  cases hk : s.ks[x / 2]? with
  | none => rw [hk] at hc; cases hc
  | some k =>
    rw [hk] at hc
    simp only at hc
    by_cases hi : k = (0, 0)
    · subst hi; cases hc
    · have hK : isK k = true := by unfold isK; simp [hi]
      rw [if_pos hK] at hc
      have hkids : kidsL s.ks x = [xr k.1 (x % 2), xr k.2 (x % 2)] := by
        unfold kidsL
        rw [hk]
        simp only
        rw [if_pos hK]
      have hx1 := hlit x hx
      have hval : evV s.ks il x = ((evV s.ks il k.1 && evV s.ks il k.2) != decide (x % 2 = 1)) := by
        rw [evV_eq]
        unfold litV
        rw [vN_and h.inv il hk hi]
      by_cases ho : x % 2 = 1
      · rw [if_pos ho, List.mem_singleton] at hc
        subst hc
        have hy1 : xr k.1 1 ∈ s.T := h.cl x hx _ (by rw [hkids, ho]; simp)
        have hy2 : xr k.2 1 ∈ s.T := h.cl x hx _ (by rw [hkids, ho]; simp)
        have e1 := hlit _ hy1
        have e2 := hlit _ hy2
        rw [lit_xr, ev_xr] at e1 e2
        simp only [List.any_cons, List.any_nil, Bool.or_false]
        rw [ltT_opp (hnz x hx), hx1, hval, e1, e2, decide_eq_true ho]
        cases evV s.ks il k.1 <;> cases evV s.ks il k.2 <;> rfl
      · rw [if_neg ho] at hc
        have h2 : x % 2 = 0 := by omega
        have e1 := hlit k.1 (h.cl x hx _ (by rw [hkids, h2, xr_zero, xr_zero]; simp))
        have e2 := hlit k.2 (h.cl x hx _ (by rw [hkids, h2, xr_zero, xr_zero]; simp))
        rcases List.mem_cons.1 hc with rfl | hc
        · simp only [List.any_cons, List.any_nil, Bool.or_false]
          rw [ltT_opp (hnz x hx), hx1, hval, e1, decide_eq_false ho]
          cases evV s.ks il k.1 <;> cases evV s.ks il k.2 <;> rfl
        · rw [List.mem_singleton] at hc
          subst hc
          simp only [List.any_cons, List.any_nil, Bool.or_false]
          rw [ltT_opp (hnz x hx), hx1, hval, e2, decide_eq_false ho]
          cases evV s.ks il k.1 <;> cases evV s.ks il k.2 <;> rfl
/-- A root's literal: told, or node 0's. -/
theorem Pz.root_v {first : Int} {f : Nat} {s : Rz} (h : Pz first f s) (h1 : 1 ≤ first) {l : Nat} (hl : l ∈ s.Lt) : ∃ v, s.V ((l / 2 : Nat) : Int) = some v ∧ 1 ≤ v := by
  have := h.vr h1 (h.lt l hl)
  rwa [show max l 1 / 2 = l / 2 by omega] at this
theorem Pz.root_sound {first : Int} {f : Nat} {s : Rz} (h : Pz first f s) (h1 : 1 ≤ first) {n : Nat} {il : List Bool} (hs : Sat s il n) (hC : allF n s.C = true) {l : Nat} (hl : l ∈ s.Lt) (ht : ltT n (lit s.V l) = true) : evV s.ks il l = true := by
  by_cases h0 : l = 0
  · subst h0
    exfalso
    have hm := h.lt 0 hl
    obtain ⟨v, hv, hv1⟩ := h.vr h1 hm
    have hcl : trF n [lit s.V 1] = true := by
      unfold allF at hC
      rw [List.all_eq_true] at hC
      refine hC _ ?_
      rw [h.cc]
      exact List.mem_flatMap.2 ⟨1, hm, List.mem_singleton.2 rfl⟩
    have e : lit s.V 1 = - lit s.V 0 := lit_xr s.V 0
    unfold trF at hcl
    simp only [List.any_cons, List.any_nil, Bool.or_false] at hcl
    rw [e, ltT_opp (lit_nz (x := 0) hv hv1), ht] at hcl
    cases hcl
  · have hm := h.lt l hl
    rw [show max l 1 = l by omega] at hm
    exact h.sound h1 hs hC _ l hm (Nat.lt_succ_self _) ht
theorem Pz.root_compl {first : Int} {f : Nat} {s : Rz} (h : Pz first f s) (h1 : 1 ≤ first) {il : List Bool} {n : Nat} (hn : Cmp s il n) {l : Nat} (hl : l ∈ s.Lt) : ltT n (lit s.V l) = evV s.ks il l := by
  obtain ⟨v, hv, hv1⟩ := h.root_v h1 hl
  exact hn.lit hv hv1
theorem ins_at {ks : List Kd} {k : Nat} {y : Int} (h : (insL ks)[k]? = some y) : ∃ n : Nat, y = 2 * (n : Int) ∧ n ≠ 0 ∧ ks[n]? = some (0, 0) := by
  obtain ⟨n, h1, h2, h3⟩ := mem_insL.1 (List.mem_of_getElem? h)
  exact ⟨n, h3, h2, h1⟩
theorem vN_ins {ks : List Kd} (il : List Bool) {k n : Nat} (h : (insL ks)[k]? = some (2 * (n : Int))) : vN ks il n = il.getD k false := by
  obtain ⟨n', e, h0, hk⟩ := ins_at h
  obtain rfl : n' = n := by omega
  unfold vN
  rw [sN_in hk rfl]
  have far : ∀ t, t ≤ n' → sN ks (s0F ks il) t n' = s0F ks il n' := fun t => by
    induction t with
    | zero => intro _; rfl
    | succ t ih =>
      intro ht
      show (if n' = t ∧ isK (ks.getD t (0, 0)) = true then litV (sN ks (s0F ks il) t) (ks.getD t (0, 0)).1 && litV (sN ks (s0F ks il) t) (ks.getD t (0, 0)).2 else sN ks (s0F ks il) t n') = _
      rw [if_neg (fun q => by omega)]
      exact ih (by omega)
  rw [far n' (Nat.le_refl _)]
  have hnd : (insL ks).Nodup := by
    have := insL_nodup ks ks.length (Nat.le_refl _)
    rwa [List.take_length] at this
  exact sI_at h hnd _ (List.getElem?_eq_some_iff.1 h).1 (Nat.le_refl _)
/-- Do the inputs' variables have the values il in the n-th assignment? -/
def fitF (s : Rz) (il : List Bool) (n : Nat) : Prop := ∀ (k : Nat) (y v : Int), (insL s.ks)[k]? = some y → s.V (y / 2) = some v → bt n (v.toNat - 1) = il.getD k false
theorem fit_sat {s : Rz} {il : List Bool} {n : Nat} : fitF s il n → Sat s il n := fun h i v hi h0 hv => by
  obtain ⟨k, hk⟩ := List.mem_iff_getElem?.1 (mem_insL.2 ⟨i, hi, h0, rfl⟩)
  rw [vN_ins il hk]
  exact h k _ v hk (by rw [show (2 * (i : Int)) / 2 = (i : Int) by omega]; exact hv)
theorem cmp_fit {s : Rz} {il : List Bool} {n : Nat} (h : Cmp s il n) : fitF s il n := fun k y v hk hv => by
  obtain ⟨i, rfl, h0, hi⟩ := ins_at hk
  rw [show (2 * (i : Int)) / 2 = (i : Int) by omega] at hv
  rw [h i v hv, vN_ins il hk]
end Go.Proofs.Ytajpnlmglkifcaa
