/- A chain of implications: what follows. -/
import Derived.Test.YtcbkgnalfdoemaaST42
namespace Go.Proofs.Ytcbkgnalfdoemaa
open Go.RowKit
set_option linter.unusedSimpArgs false
set_option linter.unusedVariables false

theorem nodup_at {T : List Int} (hn : T.Nodup) {i j : Nat} {x : Int} (hi : T[i]? = some x) (hj : T[j]? = some x) : j = i := by
  obtain ⟨h1, h1'⟩ := List.getElem?_eq_some_iff.1 hi
  obtain ⟨h2, h2'⟩ := List.getElem?_eq_some_iff.1 hj
  have hp := List.pairwise_iff_getElem.1 hn
  rcases Nat.lt_trichotomy i j with h | h | h
  · exact absurd (h1'.trans h2'.symm) (hp i j h1 h2 h)
  · exact h.symm
  · exact absurd (h2'.trans h1'.symm) (hp j i h2 h1 h)
/-- The clauses of a chain. -/
def Chn (n : Int) (C : List (List Int)) : Prop := ∀ c, c ∈ C ↔ ∃ i : Int, 1 ≤ i ∧ i < n ∧ c = [-i, i + 1]
section
variable {n : Int} {C : List (List Int)}
theorem chn_up (hC : Chn n C) {I T : List Int} (hI : ∀ x ∈ I, x = 1) (h : Der C I T) (hn : T.Nodup) : ∀ (i : Nat) x, T[i]? = some x → x = (i : Int) + 1 ∧ (x = 1 ∨ x ≤ n) := by
  intro i
  induction i using Nat.strongRecOn with
  | _ i ih =>
    intro x hx
    have hmem : ∀ y ∈ T.take i, ∃ j : Nat, j < i ∧ T[j]? = some y ∧ y = (j : Int) + 1 := fun y hy => by
      obtain ⟨j, hj⟩ := List.getElem?_of_mem hy
      have hji : j < i := by
        have := (List.getElem?_eq_some_iff.1 hj).1
        rw [List.length_take] at this; omega
      rw [List.getElem?_take_of_lt hji] at hj
      exact ⟨j, hji, hj, (ih j hji _ hj).1⟩
    have huniq : ∀ j : Nat, T[j]? = some x → j = i := fun j hj => nodup_at hn hx hj
    have hprev : ∀ j : Nat, j < i → ∃ y, T[j]? = some y := fun j hj => ⟨_, List.getElem?_eq_getElem (by have := (List.getElem?_eq_some_iff.1 hx).1; omega)⟩
    rcases h i x hx with h1 | ⟨c, hc, hxc, h2⟩
    · have h1 := hI x h1
      subst h1
      cases i with
      | zero => exact ⟨rfl, Or.inl rfl⟩
      | succ i =>
        obtain ⟨y, hy⟩ := hprev 0 (by omega)
        have h3 := (ih 0 (by omega) y hy).1
        have h4 : y = 1 := by simpa using h3
        rw [h4] at hy
        have := huniq 0 hy
        omega
    · obtain ⟨j, hj1, hj2, rfl⟩ := (hC c).1 hc
      simp only [List.mem_cons, List.not_mem_nil, or_false] at hxc
      rcases hxc with rfl | rfl
      · obtain ⟨k, hk, -, e⟩ := hmem _ (h2 (j + 1) (by simp) (by omega))
        omega
      · obtain ⟨k, hk, hk2, e⟩ := hmem _ (h2 (-j) (by simp) (by omega))
        by_cases hki : k + 1 < i
        · obtain ⟨y, hy⟩ := hprev (k + 1) hki
          have h3 := (ih (k + 1) hki y hy).1
          have h4 : y = j + 1 := by omega
          rw [h4] at hy
          have := huniq (k + 1) hy
          omega
        · exact ⟨by omega, Or.inr (by omega)⟩
theorem chn_down (hC : Chn n C) (h2 : 1 ≤ n) {I T : List Int} (hI : ∀ x ∈ I, x = -n) (h : Der C I T) (hn : T.Nodup) : ∀ (i : Nat) x, T[i]? = some x → x = (i : Int) - n ∧ x < 0 := by
  intro i
  induction i using Nat.strongRecOn with
  | _ i ih =>
    intro x hx
    have hmem : ∀ y ∈ T.take i, ∃ j : Nat, j < i ∧ T[j]? = some y ∧ y = (j : Int) - n ∧ y < 0 := fun y hy => by
      obtain ⟨j, hj⟩ := List.getElem?_of_mem hy
      have hji : j < i := by
        have := (List.getElem?_eq_some_iff.1 hj).1
        rw [List.length_take] at this; omega
      rw [List.getElem?_take_of_lt hji] at hj
      exact ⟨j, hji, hj, ih j hji _ hj⟩
    have huniq : ∀ j : Nat, T[j]? = some x → j = i := fun j hj => nodup_at hn hx hj
    have hprev : ∀ j : Nat, j < i → ∃ y, T[j]? = some y := fun j hj => ⟨_, List.getElem?_eq_getElem (by have := (List.getElem?_eq_some_iff.1 hx).1; omega)⟩
    rcases h i x hx with h1 | ⟨c, hc, hxc, h3⟩
    · have h1 := hI x h1
      subst h1
      cases i with
      | zero => exact ⟨by simp, by omega⟩
      | succ i =>
        obtain ⟨y, hy⟩ := hprev 0 (by omega)
        have h3 := (ih 0 (by omega) y hy).1
        have h4 : y = -n := by simpa using h3
        rw [h4] at hy
        have := huniq 0 hy
        omega
    · obtain ⟨j, hj1, hj2, rfl⟩ := (hC c).1 hc
      simp only [List.mem_cons, List.not_mem_nil, or_false] at hxc
      rcases hxc with rfl | rfl
      · obtain ⟨k, hk, hk2, e, -⟩ := hmem _ (h3 (j + 1) (by simp) (by omega))
        by_cases hki : k + 1 < i
        · obtain ⟨y, hy⟩ := hprev (k + 1) hki
          have h5 := (ih (k + 1) hki y hy).1
          have h4 : y = -j := by omega
          rw [h4] at hy
          have := huniq (k + 1) hy
          omega
        · exact ⟨by omega, by omega⟩
      · obtain ⟨k, hk, hk2, e, e2⟩ := hmem _ (h3 (-j) (by simp) (by omega))
        omega
theorem isL_small {x : Int} (h0 : x ≠ 0) (h1 : -60000 ≤ x) (h2 : x ≤ 60000) : isL x = true := by
  unfold isL
  simp
  omega
theorem chain_up (hC : Chn n C) (h2 : 2 ≤ n) {T : List Int} {r : Int} (h : FolR C [1] T r) : r = -1 ∧ (T.length : Int) = n ∧ ∀ (i : Nat) x, T[i]? = some x → x = (i : Int) + 1 := by
  obtain ⟨k, hk, hd, hL, hn, hcs, hin, hend⟩ := h
  have hu := chn_up hC (fun x hx => by simpa using take_mem hx) hd hn
  have hpos : ∀ y ∈ T, 1 ≤ y ∧ y ≤ T.length := fun y hy => by
    obtain ⟨j, hj⟩ := List.getElem?_of_mem hy
    have := (hu j y hj).1
    have := (List.getElem?_eq_some_iff.1 hj).1
    omega
  have hall : ∀ y : Int, 1 ≤ y → y ≤ T.length → y ∈ T := fun y h1 h3 => by
    obtain ⟨x, hx⟩ : ∃ x, T[(y - 1).toNat]? = some x := ⟨_, List.getElem?_eq_getElem (by omega)⟩
    have := (hu _ x hx).1
    have e : x = y := by omega
    rw [← e]; exact List.mem_of_getElem? hx
  rcases hend with ⟨rfl, hk1, hclo⟩ | ⟨-, -, x, hx, e⟩ | ⟨i, c, -, hc, hf, -⟩
  · refine ⟨rfl, ?_, fun i x hx => (hu i x hx).1⟩
    have h1 : (1 : Int) ∈ T := hin 1 (by rw [hk1]; simp)
    have hm := hpos 1 h1
    have hle : (T.length : Int) ≤ n := by
      obtain ⟨x, hx⟩ : ∃ x, T[T.length - 1]? = some x := ⟨_, List.getElem?_eq_getElem (by omega)⟩
      have := hu _ x hx
      omega
    by_cases hlt : (T.length : Int) < n
    · exfalso
      rcases hclo [-(T.length : Int), (T.length : Int) + 1] ((hC _).2 ⟨T.length, by omega, hlt, rfl⟩) with ⟨y, hy, hyT⟩ | ⟨y, hy, z, hz, hne, hyn, hzn⟩
      · have := hpos y hyT
        simp only [List.mem_cons, List.not_mem_nil, or_false] at hy
        omega
      · have hm' := hall T.length (by omega) (by omega)
        simp only [List.mem_cons, List.not_mem_nil, or_false] at hy hz
        rcases hy with rfl | rfl
        · exact hyn (by rw [Int.neg_neg]; exact hm')
        · rcases hz with rfl | rfl
          · exact hzn (by rw [Int.neg_neg]; exact hm')
          · exact hne rfl
    · omega
  · exfalso
    have hk0 : k = 0 := by
      have := (List.getElem?_eq_some_iff.1 hx).1
      simp at this; omega
    subst hk0
    simp at hx
    subst hx
    rcases e with e | e
    · exact absurd (isL_small (x := 1) (by decide) (by decide) (by decide)) (by rw [e]; decide)
    · have := hpos _ e; omega
  · exfalso
    obtain ⟨j, hj1, hj2, rfl⟩ := (hC c).1 (List.mem_of_getElem? hc)
    have := hpos _ (hf (j + 1) (by simp))
    omega
theorem chain_down (hC : Chn n C) (h2 : 2 ≤ n) (hb : n ≤ 10000) {T : List Int} {r : Int} (h : FolR C [-n] T r) : r = -1 ∧ (T.length : Int) = n ∧ ∀ (i : Nat) x, T[i]? = some x → x = (i : Int) - n := by
  obtain ⟨k, hk, hd, hL, hn, hcs, hin, hend⟩ := h
  have hu := chn_down hC (by omega) (fun x hx => by simpa using take_mem hx) hd hn
  have hpos : ∀ y ∈ T, -n ≤ y ∧ y < (T.length : Int) - n ∧ y < 0 := fun y hy => by
    obtain ⟨j, hj⟩ := List.getElem?_of_mem hy
    have := hu j y hj
    have := (List.getElem?_eq_some_iff.1 hj).1
    omega
  have hall : ∀ y : Int, -n ≤ y → y < (T.length : Int) - n → y ∈ T := fun y h1 h3 => by
    obtain ⟨x, hx⟩ : ∃ x, T[(y + n).toNat]? = some x := ⟨_, List.getElem?_eq_getElem (by omega)⟩
    have := (hu _ x hx).1
    have e : x = y := by omega
    rw [← e]; exact List.mem_of_getElem? hx
  rcases hend with ⟨rfl, hk1, hclo⟩ | ⟨-, -, x, hx, e⟩ | ⟨i, c, -, hc, hf, -⟩
  · refine ⟨rfl, ?_, fun i x hx => (hu i x hx).1⟩
    have h1 : -n ∈ T := hin (-n) (by rw [hk1]; simp)
    have hm := hpos _ h1
    have hle : (T.length : Int) ≤ n := by
      obtain ⟨x, hx⟩ : ∃ x, T[T.length - 1]? = some x := ⟨_, List.getElem?_eq_getElem (by omega)⟩
      have := hu _ x hx
      omega
    by_cases hlt : (T.length : Int) < n
    · exfalso
      have hm' := hall ((T.length : Int) - n - 1) (by omega) (by omega)
      rcases hclo [-(n - T.length), (n - T.length) + 1] ((hC _).2 ⟨n - T.length, by omega, by omega, rfl⟩) with ⟨y, hy, hyT⟩ | ⟨y, hy, z, hz, hne, hyn, hzn⟩
      · have := hpos y hyT
        simp only [List.mem_cons, List.not_mem_nil, or_false] at hy
        omega
      · simp only [List.mem_cons, List.not_mem_nil, or_false] at hy hz
        have e2 : -(n - (T.length : Int) + 1) = (T.length : Int) - n - 1 := by omega
        rcases hy with rfl | rfl
        · rcases hz with rfl | rfl
          · exact hne rfl
          · exact hzn (by rw [e2]; exact hm')
        · exact hyn (by rw [e2]; exact hm')
    · omega
  · exfalso
    have hk0 : k = 0 := by
      have := (List.getElem?_eq_some_iff.1 hx).1
      simp at this; omega
    subst hk0
    simp at hx
    subst hx
    rcases e with e | e
    · exact absurd (isL_small (x := -n) (by omega) (by omega) (by omega)) (by rw [e]; decide)
    · have := hpos _ e; omega
  · exfalso
    obtain ⟨j, hj1, hj2, rfl⟩ := (hC c).1 (List.mem_of_getElem? hc)
    have := hpos _ (hf (-j) (by simp))
    omega
theorem clo_chain (hC : Chn n C) {T : List Int} (hcs : ∀ x ∈ T, -x ∉ T) (hclo : Clo C T) (h1 : (1 : Int) ∈ T) : ∀ i : Nat, (i : Int) + 1 ≤ n → ((i : Int) + 1) ∈ T
  | 0, _ => h1
  | i + 1, h => by
    have ih := clo_chain hC hcs hclo h1 i (by omega)
    rcases hclo [-((i : Int) + 1), ((i : Int) + 1) + 1] ((hC _).2 ⟨(i : Int) + 1, by omega, by omega, rfl⟩) with ⟨y, hy, hyT⟩ | ⟨y, hy, z, hz, hne, hyn, hzn⟩
    · simp only [List.mem_cons, List.not_mem_nil, or_false] at hy
      rcases hy with rfl | rfl
      · exact absurd hyT (hcs _ ih)
      · exact hyT
    · simp only [List.mem_cons, List.not_mem_nil, or_false] at hy hz
      exfalso
      rcases hy with rfl | rfl
      · exact hyn (by rw [Int.neg_neg]; exact ih)
      · rcases hz with rfl | rfl
        · exact hzn (by rw [Int.neg_neg]; exact ih)
        · exact hne rfl
theorem chain_two (hC : Chn n C) (h2 : 2 ≤ n) {T : List Int} {r : Int} (h : FolR C [1, -n] T r) : r = -2 := by
  obtain ⟨k, hk, hd, hL, hn, hcs, hin, hend⟩ := h
  have hn1 : ∀ T0 : List Int, (∀ x ∈ T0, -x ∉ T0) → Clo C T0 → (1 : Int) ∈ T0 → n ∈ T0 := fun T0 a b c => by
    have := clo_chain hC a b c (n - 1).toNat (by omega)
    have e : (((n - 1).toNat : Nat) : Int) + 1 = n := by omega
    rw [e] at this; exact this
  rcases hend with ⟨-, hk1, hclo⟩ | ⟨e, -⟩ | ⟨i, c, -, hc, hf, hT0⟩
  · exfalso
    have h1 : (1 : Int) ∈ T := hin 1 (by rw [hk1]; simp)
    have h3 : -n ∈ T := hin (-n) (by rw [hk1]; simp)
    exact hcs n (hn1 T hcs hclo h1) h3
  · exact e
  · exfalso
    obtain ⟨j, hj1, hj2, rfl⟩ := (hC c).1 (List.mem_of_getElem? hc)
    have hneg := hf (j + 1) (by simp)
    have hk2 : k ≤ 2 := by simpa using hk
    by_cases hk1 : k ≤ 1
    · have hu := chn_up hC (I := [1, -n].take k) (fun x hx => by
        have : x ∈ [1, -n].take 1 := take_le hk1 hx
        simpa using this) hd hn
      obtain ⟨q, hq⟩ := List.getElem?_of_mem hneg
      have := (hu q _ hq).1
      omega
    · have hk' : k = 2 := by omega
      subst hk'
      rcases hT0 with h0 | ⟨T0, x, hp, hc0, hx, -, hnx, hin0⟩
      · omega
      · have hT0T : ∀ y ∈ T0, y ∈ T := fun y hy => hp.subset hy
        have hcs0 : ∀ y ∈ T0, -y ∉ T0 := fun y hy hm => hcs y (hT0T y hy) (hT0T _ hm)
        simp at hx
        subst hx
        exact hnx (by rw [Int.neg_neg]; exact hn1 T0 hcs0 hc0 (hin0 1 (by simp)))
end
end Go.Proofs.Ytcbkgnalfdoemaa
