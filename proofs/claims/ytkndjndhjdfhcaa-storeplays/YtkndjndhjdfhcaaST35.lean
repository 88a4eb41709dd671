/- Plain: the chapter's examples. -/
import Derived.Test.YtkndjndhjdfhcaaST34
namespace Go.Proofs.Ytkndjndhjdfhcaa
open Go.RowKit
set_option linter.unusedSimpArgs false
set_option linter.unusedVariables false

/-- What may be told next. -/
def nxt (C : List (List Int)) (I P : List Int) : List Int := (I ++ C.flatten).filter fun x => !(decide (x ∈ P)) && (decide (x ∈ I) || C.any fun c => decide (x ∈ c) && c.all fun y => decide (y = x) || decide (-y ∈ P))
theorem der_nxt {C : List (List Int)} {I T : List Int} (h : Der C I T) (hn : T.Nodup) {i : Nat} {x : Int} (hx : T[i]? = some x) : x ∈ nxt C I (T.take i) := by
  unfold nxt
  have hnt : x ∉ T.take i := fun hm => by
    have hi := (List.getElem?_eq_some_iff.1 hx).1
    rw [← List.take_append_drop (i + 1) T, List.take_add_one, hx, List.nodup_append] at hn
    have h2 := hn.1
    rw [List.nodup_append] at h2
    exact h2.2.2 x hm x (by simp) rfl
  rw [List.mem_filter]
  rcases h i x hx with h1 | ⟨c, hc, hxc, hy⟩
  · exact ⟨List.mem_append_left _ h1, by simp [hnt, h1]⟩
  · refine ⟨List.mem_append_right _ (List.mem_flatten.2 ⟨c, hc, hxc⟩), ?_⟩
    have : (C.any fun c => decide (x ∈ c) && c.all fun y => decide (y = x) || decide (-y ∈ T.take i)) = true := by
      refine List.any_eq_true.2 ⟨c, hc, ?_⟩
      rw [Bool.and_eq_true, List.all_eq_true]
      refine ⟨decide_eq_true hxc, fun y hyc => ?_⟩
      by_cases e : y = x
      · simp [e]
      · rw [decide_eq_true (hy y hyc e)]; simp
    rw [this]
    simp [hnt]
theorem der_take {C : List (List Int)} {I T : List Int} (h : Der C I T) (n : Nat) : Der C I (T.take n) := fun i x hx => by
  have hi : i < n := by
    have := (List.getElem?_eq_some_iff.1 hx).1
    rw [List.length_take] at this; omega
  rw [List.getElem?_take_of_lt hi] at hx
  rw [List.take_take, show min i n = i by omega]
  exact h i x hx
/-- What is told, where just one may be told at each step. -/
theorem der_pre {C : List (List Int)} {I : List Int} : ∀ (S : List Int), (∀ n, n < S.length → ∀ x ∈ nxt C I (S.take n), x = S.getD n 0) → nxt C I S = [] → ∀ {T : List Int}, Der C I T → T.Nodup → T <+: S := by
  intro S hS hE T hD hN
  have key : ∀ n, n ≤ T.length → T.take n = S.take n ∧ n ≤ S.length := by
    intro n
    induction n with
    | zero => exact fun _ => ⟨rfl, Nat.zero_le _⟩
    | succ n ih =>
      intro hn
      obtain ⟨h1, h2⟩ := ih (by omega)
      have hx : T[n]? = some T[n] := List.getElem?_eq_getElem (by omega)
      have h3 := der_nxt hD hN hx
      rw [h1] at h3
      by_cases h4 : n < S.length
      · refine ⟨?_, h4⟩
        rw [List.take_add_one, List.take_add_one, h1, hx, List.getElem?_eq_getElem h4]
        have h5 := hS n h4 _ h3
        rw [h5, List.getD_eq_getElem?_getD, List.getElem?_eq_getElem h4]; rfl
      · have h7 : S.take n = S := List.take_of_length_le (by omega)
        rw [h7, hE] at h3; cases h3
  obtain ⟨h1, h2⟩ := key T.length (Nat.le_refl _)
  rw [List.take_length] at h1
  rw [h1]; exact List.take_prefix _ _
abbrev KC : List (List Int) := [[1, 2], [-1, 3], [-2, -3]]
theorem pre3 {T : List Int} (h : T <+: [1, 3, -2]) : T = [] ∨ T = [1] ∨ T = [1, 3] ∨ T = [1, 3, -2] := by
  obtain ⟨t, ht⟩ := h
  match T, ht with
  | [], _ => exact Or.inl rfl
  | [a], ht => simp at ht; simp [ht.1]
  | [a, b], ht => simp at ht; simp [ht.1, ht.2.1]
  | [a, b, c], ht => simp at ht; simp [ht.1, ht.2.1, ht.2.2.1]
  | a :: b :: c :: d :: r, ht => simp at ht
theorem der1 {T : List Int} (h : Der KC [1] T) (hn : T.Nodup) : T = [] ∨ T = [1] ∨ T = [1, 3] ∨ T = [1, 3, -2] := by
  refine pre3 (der_pre [1, 3, -2] (fun n hn => ?_) (by decide) h hn)
  match n, hn with
  | 0, _ => decide
  | 1, _ => decide
  | 2, _ => decide
theorem der0 {T : List Int} (h : Der KC [] T) (hn : T.Nodup) : T = [] := by
  have := der_pre (C := KC) (I := []) [] (fun n hn => by simp at hn) (by decide) h hn
  simpa using this
theorem mem_c {i : Nat} {c : List Int} (h : KC[i]? = some c) : c = [1, 2] ∨ c = [-1, 3] ∨ c = [-2, -3] := by
  have := List.mem_of_getElem? h
  simpa using this
theorem kn1 {T : List Int} {r : Int} (h : FolR KC [1] T r) : T = [1, 3, -2] ∧ r = -1 := by
  obtain ⟨k, hk, hD, hL, hN, hC, hI, h⟩ := h
  have hk2 : k = 0 ∨ k = 1 := by simp at hk; omega
  have hT : T = [] ∨ T = [1] ∨ T = [1, 3] ∨ T = [1, 3, -2] := by
    refine der1 (hD.mono (fun x hx => List.mem_of_mem_take hx)) hN
  rcases h with ⟨e, hk1, hclo⟩ | ⟨e, hclo, x, hx, hb⟩ | ⟨i, c, e, hi, hf, -⟩
  · refine ⟨?_, e⟩
    have h1 := hI 1 (by rw [hk1]; simp)
    rcases hT with rfl | rfl | rfl | rfl
    · simp at h1
    · exact absurd hclo (by unfold Clo; decide)
    · exact absurd hclo (by unfold Clo; decide)
    · rfl
  · exfalso
    rcases hk2 with rfl | rfl
    · obtain rfl : (1 : Int) = x := by simpa using hx
      rcases hb with hb | hb
      · exact absurd hb (by decide)
      · rcases hT with rfl | rfl | rfl | rfl <;> exact absurd hb (by decide)
    · simp at hx
  · exfalso
    rcases mem_c hi with rfl | rfl | rfl
    · have h1 := hf 1 (by simp)
      rcases hT with rfl | rfl | rfl | rfl <;> exact absurd h1 (by decide)
    · have h1 := hf 3 (by simp)
      rcases hT with rfl | rfl | rfl | rfl <;> exact absurd h1 (by decide)
    · have h1 := hf (-2) (by simp)
      rcases hT with rfl | rfl | rfl | rfl <;> exact absurd h1 (by decide)
/-- In a shut set with 1 there is -2. -/
theorem kc_shut {T : List Int} (hC : ∀ x ∈ T, -x ∉ T) (hclo : Clo KC T) (h1 : (1 : Int) ∈ T) : (-2 : Int) ∈ T := by
  have h3 : (3 : Int) ∈ T := by
    rcases hclo [-1, 3] (by simp) with ⟨y, hy, hyT⟩ | ⟨y, hy, z, hz, hne, hy1, hz1⟩
    · rcases List.mem_cons.1 hy with rfl | hy
      · exact absurd hyT (hC 1 h1)
      · rw [List.mem_singleton.1 hy] at hyT; exact hyT
    · exfalso
      have key : ∀ q : Int, q ∈ ([-1, 3] : List Int) → -q ∉ T → q = 3 := fun q hq hqT => by
        rcases List.mem_cons.1 hq with rfl | hq
        · exact absurd h1 hqT
        · exact List.mem_singleton.1 hq
      exact hne ((key y hy hy1).trans (key z hz hz1).symm)
  rcases hclo [-2, -3] (by simp) with ⟨y, hy, hyT⟩ | ⟨y, hy, z, hz, hne, hy1, hz1⟩
  · rcases List.mem_cons.1 hy with rfl | hy
    · exact hyT
    · rw [List.mem_singleton.1 hy] at hyT
      exact absurd hyT (hC 3 h3)
  · exfalso
    have key : ∀ q : Int, q ∈ ([-2, -3] : List Int) → -q ∉ T → q = -2 := fun q hq hqT => by
      rcases List.mem_cons.1 hq with rfl | hq
      · rfl
      · rw [List.mem_singleton.1 hq] at hqT; exact absurd h3 hqT
    exact hne ((key y hy hy1).trans (key z hz hz1).symm)
theorem kn2 {T : List Int} {r : Int} (h : FolR KC [1, 2] T r) : T.length = 3 ∧ r = -2 := by
  obtain ⟨k, hk, hD, hL, hN, hC, hI, h⟩ := h
  have hk2 : k = 0 ∨ k = 1 ∨ k = 2 := by simp at hk; omega
  rcases hk2 with rfl | rfl | rfl
  · exfalso
    have hT := der0 hD hN
    subst hT
    rcases h with ⟨-, e, -⟩ | ⟨-, -, x, hx, hb⟩ | ⟨i, c, e, hi, hf, -⟩
    · simp at e
    · obtain rfl : (1 : Int) = x := by simpa using hx
      rcases hb with hb | hb
      · exact absurd hb (by decide)
      · cases hb
    · rcases mem_c hi with rfl | rfl | rfl
      · exact absurd (hf 1 (by simp)) (by simp)
      · exact absurd (hf 3 (by simp)) (by simp)
      · exact absurd (hf (-2) (by simp)) (by simp)
  · have hT := der1 hD hN
    have h1 := hI 1 (by simp)
    rcases h with ⟨-, e, -⟩ | ⟨e, hclo, x, hx, hb⟩ | ⟨i, c, e, hi, hf, -⟩
    · simp at e
    · refine ⟨?_, e⟩
      rcases hT with rfl | rfl | rfl | rfl
      · simp at h1
      · exact absurd hclo (by unfold Clo; decide)
      · exact absurd hclo (by unfold Clo; decide)
      · rfl
    · exfalso
      rcases mem_c hi with rfl | rfl | rfl
      · have h1 := hf 1 (by simp)
        rcases hT with rfl | rfl | rfl | rfl <;> exact absurd h1 (by decide)
      · have h1 := hf 3 (by simp)
        rcases hT with rfl | rfl | rfl | rfl <;> exact absurd h1 (by decide)
      · have h1 := hf (-2) (by simp)
        rcases hT with rfl | rfl | rfl | rfl <;> exact absurd h1 (by decide)
  · exfalso
    have h1 := hI 1 (by simp)
    have h2 := hI 2 (by simp)
    rcases h with ⟨-, -, hclo⟩ | ⟨-, -, x, hx, -⟩ | ⟨i, c, e, hi, hf, hk⟩
    · exact hC 2 h2 (kc_shut hC hclo h1)
    · simp at hx
    · rcases hk with hk | ⟨T0, x, hp, hclo, hx, -, hxT, hall⟩
      · omega
      · obtain rfl : (2 : Int) = x := by simpa using hx
        exact hxT (kc_shut (fun y hy hn => hC y (hp.subset hy) (hp.subset hn)) hclo (hall 1 (by simp)))
end Go.Proofs.Ytkndjndhjdfhcaa
