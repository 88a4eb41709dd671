/- Plain: names otherwise, or turned. -/
import Derived.Test.YthdgmkjjpmigeabTP6
namespace Go.Proofs.Ythdgmkjjpmigeab
open Go.RowKit
set_option linter.unusedSimpArgs false
set_option linter.unusedVariables false

/-- Literals of P are named otherwise by r. -/
structure Rn (P : Int → Prop) (r : Int → Int) : Prop where
  neg : ∀ x, P x → r (-x) = -r x
  inj : ∀ x y, P x → P y → r x = r y → x = y
  opp : ∀ x, P x → P (-x)
  ok : ∀ x, P x → okZ x = true
  ok' : ∀ x, P x → okZ (r x) = true
/-- c' is c with other names. -/
structure Im (P : Int → Prop) (r : Int → Int) (c c' : List Int) : Prop where
  all : ∀ x ∈ c, P x
  mem : ∀ y, y ∈ c' ↔ ∃ x, x ∈ c ∧ r x = y
def Oi (P : Int → Prop) (r : Int → Int) (o o' : Option (List Int)) : Prop := (o = none ∧ o' = none) ∨ ∃ c c', o = some c ∧ o' = some c' ∧ Im P r c c'
/-- Lists of those. -/
structure Ils (P : Int → Prop) (r : Int → Int) (D D' : List (List Int)) : Prop where
  len : D'.length = D.length
  each : ∀ (i : Nat) d d', D[i]? = some d → D'[i]? = some d' → Im P r d d'
section
variable {P : Int → Prop} {r : Int → Int} (hr : Rn P r)
include hr
theorem Im.ok {c c' : List Int} (h : Im P r c c') : (∀ x ∈ c, okZ x = true) ∧ ∀ y ∈ c', okZ y = true :=
  ⟨fun x hx => hr.ok x (h.all x hx), fun y hy => by obtain ⟨x, hx, rfl⟩ := (h.mem y).1 hy; exact hr.ok' x (h.all x hx)⟩
theorem one_im {cur cur' c c' : List Int} (h1 : Im P r cur cur') (h2 : Im P r c c') {q : Int} (h : One cur c q) : One cur' c' (r q) := by
  have hq := h1.all q h.1.1
  refine ⟨⟨(h1.mem _).2 ⟨q, h.1.1, rfl⟩, (h2.mem _).2 ⟨-q, h.1.2, hr.neg q hq⟩⟩, fun y hy hyc => ?_⟩
  obtain ⟨x, hx, rfl⟩ := (h1.mem y).1 hy
  obtain ⟨z, hz, e⟩ := (h2.mem _).1 hyc
  have hxP := h1.all x hx
  rw [← hr.neg x hxP] at e
  have e2 := hr.inj z (-x) (h2.all z hz) (hr.opp x hxP) e
  rw [e2] at hz
  rw [h.2 x hx hz]
theorem one_mi {cur cur' c c' : List Int} (h1 : Im P r cur cur') (h2 : Im P r c c') {q' : Int} (h : One cur' c' q') : ∃ q, One cur c q := by
  obtain ⟨x, hx, e⟩ := (h1.mem q').1 h.1.1
  obtain ⟨z, hz, e1⟩ := (h2.mem _).1 h.1.2
  have hxP := h1.all x hx
  rw [← e, ← hr.neg x hxP] at e1
  have e2 := hr.inj z (-x) (h2.all z hz) (hr.opp x hxP) e1
  rw [e2] at hz
  refine ⟨x, ⟨hx, hz⟩, fun y hy hyc => ?_⟩
  have hyP := h1.all y hy
  have := h.2 (r y) ((h1.mem _).2 ⟨y, hy, rfl⟩) ((h2.mem _).2 ⟨-y, hyc, hr.neg y hyP⟩)
  exact hr.inj y x hyP hxP (this.trans e.symm)
theorem join_im {cur cur' c c' : List Int} (h1 : Im P r cur cur') (h2 : Im P r c c') {q : Int} (hq : P q) : Im P r (joinL cur c q) (joinL cur' c' (r q)) := by
  have hm : ∀ (a b : List Int) (p x : Int), x ∈ joinL a b p ↔ (x ∈ a ∧ x ≠ p) ∨ (x ∈ b ∧ x ≠ -p) := fun a b p x => by
    unfold joinL; rw [setF_mem, List.mem_append, List.mem_filter, List.mem_filter]; simp
  refine ⟨fun x hx => ?_, fun y => ?_⟩
  · rcases (hm _ _ _ _).1 hx with h | h
    · exact h1.all x h.1
    · exact h2.all x h.1
  · rw [hm]
    constructor
    · rintro (⟨h3, h4⟩ | ⟨h3, h4⟩)
      · obtain ⟨x, hx, rfl⟩ := (h1.mem y).1 h3
        exact ⟨x, (hm _ _ _ _).2 (Or.inl ⟨hx, fun e => h4 (by rw [e])⟩), rfl⟩
      · obtain ⟨x, hx, rfl⟩ := (h2.mem y).1 h3
        exact ⟨x, (hm _ _ _ _).2 (Or.inr ⟨hx, fun e => h4 (by rw [e, hr.neg q hq])⟩), rfl⟩
    · rintro ⟨x, hx, rfl⟩
      rcases (hm _ _ _ _).1 hx with h | h
      · exact Or.inl ⟨(h1.mem _).2 ⟨x, h.1, rfl⟩, fun e => h.2 (hr.inj x q (h1.all x h.1) hq e)⟩
      · refine Or.inr ⟨(h2.mem _).2 ⟨x, h.1, rfl⟩, fun e => h.2 ?_⟩
        rw [← hr.neg q hq] at e
        exact hr.inj x (-q) (h2.all x h.1) (hr.opp q hq) e
theorem join0_im {cur cur' c c' : List Int} (h1 : Im P r cur cur') (h2 : Im P r c c') : Im P r (joinL cur c 0) (joinL cur' c' 0) := by
  have hm : ∀ (a b : List Int) (x : Int), (∀ x ∈ a, okZ x = true) → (∀ x ∈ b, okZ x = true) → (x ∈ joinL a b 0 ↔ x ∈ a ∨ x ∈ b) := fun a b x ha hb => by
    unfold joinL; rw [setF_mem, List.mem_append, List.mem_filter, List.mem_filter]
    constructor
    · rintro (h | h)
      · exact Or.inl h.1
      · exact Or.inr h.1
    · rintro (h | h)
      · exact Or.inl ⟨h, decide_eq_true (okZ_b (ha x h)).1⟩
      · exact Or.inr ⟨h, decide_eq_true (by have := (okZ_b (hb x h)).1; omega)⟩
  have k1 := Im.ok hr h1
  have k2 := Im.ok hr h2
  refine ⟨fun x hx => ?_, fun y => ?_⟩
  · rcases (hm _ _ _ k1.1 k2.1).1 hx with h | h
    · exact h1.all x h
    · exact h2.all x h
  · rw [hm _ _ _ k1.2 k2.2, h1.mem, h2.mem]
    constructor
    · rintro (⟨x, hx, e⟩ | ⟨x, hx, e⟩)
      · exact ⟨x, (hm _ _ _ k1.1 k2.1).2 (Or.inl hx), e⟩
      · exact ⟨x, (hm _ _ _ k1.1 k2.1).2 (Or.inr hx), e⟩
    · rintro ⟨x, hx, e⟩
      rcases (hm _ _ _ k1.1 k2.1).1 hx with h | h
      · exact Or.inl ⟨x, h, e⟩
      · exact Or.inr ⟨x, h, e⟩
omit hr in
theorem at_im {D D' : List (List Int)} (h : Ils P r D D') (i : Nat) : Oi P r D[i]? D'[i]? := by
  by_cases hi : i < D.length
  · obtain ⟨d, hd⟩ : ∃ d, D[i]? = some d := ⟨_, List.getElem?_eq_getElem hi⟩
    obtain ⟨d', hd'⟩ : ∃ d, D'[i]? = some d := ⟨_, List.getElem?_eq_getElem (by rw [h.len]; exact hi)⟩
    exact Or.inr ⟨d, d', hd, hd', h.each i d d' hd hd'⟩
  · exact Or.inl ⟨List.getElem?_eq_none (by omega), List.getElem?_eq_none (by rw [h.len]; omega)⟩
theorem clF_im {G G' D D' : List (List Int)} (hG : Ils P r G G') (hD : Ils P r D D') (x : Int) : Oi P r (clF G D x) (clF G' D' x) := by
  unfold clF
  rw [hG.len, hD.len]
  split
  · exact Or.inl ⟨rfl, rfl⟩
  · split
    · exact at_im hD _
    · rcases at_im hG x.toNat with ⟨e1, e2⟩ | ⟨c, c', e1, e2, h⟩
      · rw [e1, e2]; exact Or.inl ⟨rfl, rfl⟩
      · rw [e1, e2]
        have k := Im.ok hr h
        have n1 : c.any noL = false := by
          rw [List.any_eq_false]; intro y hy; unfold noL; rw [k.1 y hy]; decide
        have n2 : c'.any noL = false := by
          rw [List.any_eq_false]; intro y hy; unfold noL; rw [k.2 y hy]; decide
        refine Or.inr ⟨c, c', ?_, ?_, h⟩
        · show (if c.any noL = true then none else some c) = _
          rw [n1]; rfl
        · show (if c'.any noL = true then none else some c') = _
          rw [n2]; rfl
theorem goF_im {G G' D D' : List (List Int)} (hG : Ils P r G G') (hD : Ils P r D D') : ∀ (F cur cur' : List Int) (b : Bool), Im P r cur cur' → Oi P r (goF G D cur b F) (goF G' D' cur' b F)
  | [], cur, cur', b, h => Or.inr ⟨cur, cur', rfl, rfl, h⟩
  | n :: F, cur, cur', b, h => by
    rw [goF, goF]
    rcases clF_im hr hG hD n with ⟨e1, e2⟩ | ⟨c, c', e1, e2, hc⟩
    · rw [e1, e2]; exact Or.inl ⟨rfl, rfl⟩
    · rw [e1, e2]
      cases b with
      | true => exact goF_im hG hD F _ _ false (join0_im hr h hc)
      | false =>
        have k := Im.ok hr hc
        simp only [Bool.false_eq_true, if_false]
        rcases pivF_zero (cur := cur) (c := c) (fun l hl => (okZ_b (k.1 l hl)).1) with ⟨q, h1, h2⟩ | ⟨h1, h2⟩
        · rcases pivF_zero (cur := cur') (c := c') (fun l hl => (okZ_b (k.2 l hl)).1) with ⟨q', h3, h4⟩ | ⟨h3, h4⟩
          · have e := h3.2 (r q) (one_im hr h hc h1).1.1 (one_im hr h hc h1).1.2
            rw [h2, h4, ← e]
            exact goF_im hG hD F _ _ false (join_im hr h hc (h.all q h1.1.1))
          · exact absurd ⟨_, one_im hr h hc h1⟩ h3
        · rcases pivF_zero (cur := cur') (c := c') (fun l hl => (okZ_b (k.2 l hl)).1) with ⟨q', h3, h4⟩ | ⟨h3, h4⟩
          · exact absurd (one_mi hr h hc h3) h1
          · rw [h2, h4]; exact Or.inl ⟨rfl, rfl⟩
theorem resF_im {G G' D D' : List (List Int)} (hG : Ils P r G G') (hD : Ils P r D D') (F : List Int) : Oi P r (resF G D F) (resF G' D' F) := by
  unfold resF
  split
  · exact Or.inl ⟨rfl, rfl⟩
  · exact goF_im hr hG hD F [] [] true ⟨fun x hx => by simp at hx, fun y => by simp⟩
theorem derL_im {G G' : List (List Int)} (hG : Ils P r G G') : ∀ (L D D' : List (List Int)), Ils P r D D' → (derL G D L = none ∧ derL G' D' L = none) ∨ ∃ E E', derL G D L = some E ∧ derL G' D' L = some E' ∧ Ils P r E E'
  | [], D, D', h => Or.inr ⟨D, D', rfl, rfl, h⟩
  | F :: L, D, D', h => by
    rw [derL, derL]
    rcases resF_im hr hG h F with ⟨e1, e2⟩ | ⟨c, c', e1, e2, hc⟩
    · rw [e1, e2]; exact Or.inl ⟨rfl, rfl⟩
    · rw [e1, e2]
      refine derL_im hG L _ _ ⟨by simp [h.len], fun i d d' hd hd' => ?_⟩
      by_cases hi : i < D.length
      · rw [List.getElem?_append_left hi] at hd
        rw [List.getElem?_append_left (by rw [h.len]; exact hi)] at hd'
        exact h.each i d d' hd hd'
      · rw [List.getElem?_append_right (by omega)] at hd
        rw [List.getElem?_append_right (by rw [h.len]; omega), h.len] at hd'
        have hl : i - D.length < 1 := (List.getElem?_eq_some_iff.1 hd).1
        rw [show i - D.length = 0 by omega] at hd hd'
        simp at hd hd'
        subst hd hd'
        exact hc
theorem endF_im {G G' : List (List Int)} (hG : Ils P r G G') (L : List (List Int)) : endF G' L = endF G L := by
  unfold endF derF
  rcases derL_im hr hG L [] [] ⟨rfl, fun i d d' hd => by simp at hd⟩ with ⟨e1, e2⟩ | ⟨E, E', e1, e2, h⟩
  · rw [e1, e2]
  · rw [e1, e2]
    simp only [ne_eq, not_true_eq_false, if_false]
    rw [List.getLast?_eq_getElem?, List.getLast?_eq_getElem?, h.len]
    rcases at_im h (E.length - 1) with ⟨e3, e4⟩ | ⟨c, c', e3, e4, hc⟩
    · rw [e3, e4]
    · rw [e3, e4]
      cases c with
      | nil =>
        cases c' with
        | nil => rfl
        | cons y t => have := (hc.mem y).1 (by simp); simp at this
      | cons x t =>
        cases c' with
        | nil => have := (hc.mem (r x)).2 ⟨x, by simp, rfl⟩; simp at this
        | cons y t' => rfl
end
/-- A literal's new name: its variable moved by a, turned where T says so. -/
def rho (T : Nat → Bool) (a : Nat) (x : Int) : Int := if (decide (x < 0) != T (x.natAbs - 1)) = true then -((x.natAbs : Int) + (a : Int)) else (x.natAbs : Int) + (a : Int)
theorem rho_rn (T : Nat → Bool) {a : Nat} (ha : a ≤ 1000) : Rn (fun x => x ≠ 0 ∧ -60 ≤ x ∧ x ≤ 60) (rho T a) := by
  refine ⟨fun x hx => ?_, fun x y hx hy h => ?_, fun x hx => by omega, fun x hx => ?_, fun x hx => ?_⟩
  · unfold rho
    rw [Int.natAbs_neg]
    have e : decide (-x < 0) = !decide (x < 0) := by
      rcases (show 0 < x ∨ x < 0 by omega) with h | h
      · rw [decide_eq_true (show -x < 0 by omega), decide_eq_false (show ¬ x < 0 by omega)]; rfl
      · rw [decide_eq_false (show ¬ -x < 0 by omega), decide_eq_true h]; rfl
    rw [e]
    cases decide (x < 0) <;> cases T (x.natAbs - 1) <;> simp
  · have habs : x.natAbs = y.natAbs := by
      unfold rho at h
      split at h <;> split at h <;> omega
    unfold rho at h
    rw [habs] at h
    have hsg : decide (x < 0) = decide (y < 0) := by
      cases hx2 : decide (x < 0) <;> cases hy2 : decide (y < 0) <;> cases hT : T (y.natAbs - 1) <;> rw [hx2, hy2, hT] at h <;> simp at h ⊢ <;> omega
    by_cases hxn : x < 0
    · have : decide (y < 0) = true := by rw [← hsg]; exact decide_eq_true hxn
      have := of_decide_eq_true this
      omega
    · have : decide (y < 0) = false := by rw [← hsg]; exact decide_eq_false hxn
      have := of_decide_eq_false this
      omega
  · unfold okZ; simp; omega
  · unfold rho
    split <;> (unfold okZ; simp; omega)
theorem map_im {P : Int → Prop} {r : Int → Int} {G : List (List Int)} (h : ∀ c ∈ G, ∀ x ∈ c, P x) : Ils P r G (G.map fun c => c.map r) := by
  refine ⟨by simp, fun i d d' hd hd' => ?_⟩
  rw [List.getElem?_map, hd] at hd'
  injection hd' with hd'
  subst hd'
  exact ⟨h d (List.mem_of_getElem? hd), fun y => by rw [List.mem_map]⟩
end Go.Proofs.Ythdgmkjjpmigeab
