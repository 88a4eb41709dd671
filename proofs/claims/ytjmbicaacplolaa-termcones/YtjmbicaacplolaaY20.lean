/- What a term is made of: the numbers that can be reached, in their order. -/
import Derived.Test.YtjmbicaacplolaaY19
namespace Go.Proofs.Ytjmbicaacplolaa
open Go.RowKit
set_option linter.unusedSimpArgs false
set_option linter.unusedVariables false

def Kid (n : Nd) (j : Nat) : Prop := (j : Int) = n.a ∨ (j : Int) = n.b ∨ (j : Int) = n.c
inductive Rch (ns : List Nd) (id : Nat) : Nat → Prop
  | here : Rch ns id id
  | step {i j : Nat} {n : Nd} : Rch ns id i → 1 ≤ i → ns[i - 1]? = some n → Kid n j → Rch ns id j
theorem kid_lt {ns : List Nd} (hv : Inv ns) {i j : Nat} {n : Nd} (h1 : 1 ≤ i) (hn : ns[i - 1]? = some n) (hk : Kid n j) : j < i := by
  have := hv.kids (i - 1) n hn
  rcases hk with h | h | h <;> omega
theorem Rch.le {ns : List Nd} (hv : Inv ns) {id j : Nat} (h : Rch ns id j) : j ≤ id := by
  induction h with
  | here => exact Nat.le_refl _
  | step _ h1 hn hk ih => have := kid_lt hv h1 hn hk; omega
theorem Rch.trans {ns : List Nd} {a b c : Nat} (h : Rch ns a b) (h2 : Rch ns b c) : Rch ns a c := by
  induction h2 with
  | here => exact h
  | step _ h1 hn hk ih => exact .step ih h1 hn hk
theorem Rch.first {ns : List Nd} {id j : Nat} (h : Rch ns id j) : j = id ∨ ∃ n k, 1 ≤ id ∧ ns[id - 1]? = some n ∧ Kid n k ∧ Rch ns k j := by
  induction h with
  | here => exact Or.inl rfl
  | step _ h1 hn hk ih =>
    right
    rcases ih with rfl | ⟨n', k, h1', hn', hk', hr⟩
    · exact ⟨_, _, h1, hn, hk, .here⟩
    · exact ⟨n', k, h1', hn', hk', .step hr h1 hn hk⟩
theorem Rch.nought {ns : List Nd} (hv : Inv ns) {j : Nat} (h : Rch ns 0 j) : j = 0 := by have := h.le hv; omega

/-- What holds on the way down. -/
structure Way (ns : List Nd) (id t : Nat) : Prop where
  only : ∀ j, (dn ns id t).1 j = true → Rch ns id j
  top : (dn ns id t).1 id = true
  shut : ∀ (i : Nat) (n : Nd), id - t < i → i ≤ id → (dn ns id t).1 i = true → ns[i - 1]? = some n → ∀ j, Kid n j → (dn ns id t).1 j = true
  list : (dn ns id t).2.reverse = ((List.range' (id - t + 1) t).filter (dn ns id t).1).map (fun j : Nat => (j : Int))
theorem way_any {ns : List Nd} (hv : Inv ns) {id : Nat} (hid : id ≤ ns.length) : ∀ t, t ≤ id → Way ns id t
  | 0, _ => ⟨fun j hj => by
      have : j = id := of_decide_eq_true hj
      rw [this]; exact .here, decide_eq_true rfl, fun i n h1 h2 => by omega, rfl⟩
  | t + 1, ht => by
    have ih := way_any hv hid t (by omega)
    obtain ⟨k, hk⟩ : ∃ k, id = k + 1 + t := ⟨id - t - 1, by omega⟩
    have e1 : id - (k + 1) = t := by omega
    have e2 : id - k = t + 1 := by omega
    have e3 : id - t = k + 1 := by omega
    have e4 : id - (t + 1) = k := by omega
    obtain ⟨n, hn⟩ : ∃ n, ns[k]? = some n := ⟨_, List.getElem?_eq_getElem (by omega)⟩
    have er : List.range' (k + 1) (t + 1) = (k + 1) :: List.range' (k + 1 + 1) t := rfl
    have hl := ih.list
    rw [e3] at hl
    by_cases hm : (dn ns id t).1 (k + 1) = true
    · have h := dn_yes (ns := ns) (id := id) (k := k) (by omega) (by rw [e1]; exact hm) hn
      rw [e1, e2] at h
      have hM : ∀ j, (dn ns id (t + 1)).1 j = true ↔ ((dn ns id t).1 j = true ∨ Kid n j) := fun j => by
        rw [h]
        simp only [Bool.or_eq_true, decide_eq_true_eq, Kid]
        constructor
        · rintro (((h | h) | h) | h)
          · exact Or.inl h
          · exact Or.inr (Or.inl h)
          · exact Or.inr (Or.inr (Or.inl h))
          · exact Or.inr (Or.inr (Or.inr h))
        · rintro (h | h | h | h)
          · exact Or.inl (Or.inl (Or.inl h))
          · exact Or.inl (Or.inl (Or.inr h))
          · exact Or.inl (Or.inr h)
          · exact Or.inr h
      have hL : (dn ns id (t + 1)).2 = (dn ns id t).2 ++ [((k + 1 : Nat) : Int)] := by rw [h]; rfl
      have hkid : ∀ j, Kid n j → j < k + 1 := fun j hj => kid_lt hv (i := k + 1) (by omega) (by simpa using hn) hj
      refine ⟨fun j hj => ?_, (hM _).2 (Or.inl ih.top), fun i n' h1 h2 hi hn' j hj => ?_, ?_⟩
      · rcases (hM j).1 hj with h | h
        · exact ih.only j h
        · exact .step (ih.only _ hm) (by omega) (by simpa using hn) h
      · rw [e4] at h1
        by_cases hik : i = k + 1
        · subst hik
          have : n' = n := by simpa [hn] using hn'.symm
          subst this
          exact (hM j).2 (Or.inr hj)
        · have hi' : (dn ns id t).1 i = true := by
            rcases (hM i).1 hi with h | h
            · exact h
            · have := hkid i h; omega
          exact (hM j).2 (Or.inl (ih.shut i n' (by omega) h2 hi' hn' j hj))
      · rw [hL, List.reverse_append, hl, e4, er]
        have hf : (List.range' (k + 1 + 1) t).filter (dn ns id (t + 1)).1 = (List.range' (k + 1 + 1) t).filter (dn ns id t).1 := by
          apply List.filter_congr
          intro j hj
          have hj' : k + 1 + 1 ≤ j := (List.mem_range'_1.1 hj).1
          cases e : (dn ns id t).1 j
          · cases e' : (dn ns id (t + 1)).1 j
            · rfl
            · rcases (hM j).1 e' with h | h
              · rw [e] at h; cases h
              · have := hkid j h; omega
          · exact (hM j).2 (Or.inl e)
        rw [List.filter_cons, if_pos ((hM _).2 (Or.inl hm)), hf]
        rfl
    · rw [Bool.not_eq_true] at hm
      have h := dn_no (ns := ns) (id := id) (k := k) (by omega) (by rw [e1]; exact hm)
      rw [e1, e2] at h
      refine ⟨fun j hj => ih.only j (by rw [h] at hj; exact hj), by rw [h]; exact ih.top, fun i n' h1 h2 hi hn' j hj => ?_, ?_⟩
      · rw [e4] at h1
        rw [h] at hi ⊢
        by_cases hik : i = k + 1
        · subst hik; rw [hm] at hi; cases hi
        · exact ih.shut i n' (by omega) h2 hi hn' j hj
      · rw [h, hl, e4, er, List.filter_cons, if_neg (by rw [hm]; decide)]
theorem cone_list {ns : List Nd} (hv : Inv ns) {id : Nat} (hid : id ≤ ns.length) : coneF ns id = ((List.range' 1 id).filter (dn ns id id).1).map (fun j : Nat => (j : Int)) := by
  have h := (way_any hv hid id (Nat.le_refl _)).list
  rw [Nat.sub_self] at h
  exact h
theorem mark_iff {ns : List Nd} (hv : Inv ns) {id : Nat} (hid : id ≤ ns.length) {j : Nat} : (dn ns id id).1 j = true ↔ Rch ns id j := by
  have hw := way_any hv hid id (Nat.le_refl _)
  refine ⟨hw.only j, fun h => ?_⟩
  induction h with
  | here => exact hw.top
  | step hr h1 hn hk ih => exact hw.shut _ _ (by omega) (hr.le hv) ih hn _ hk
theorem mem_cone {ns : List Nd} (hv : Inv ns) {id : Nat} (hid : id ≤ ns.length) {j : Nat} : (j : Int) ∈ coneF ns id ↔ 1 ≤ j ∧ Rch ns id j := by
  rw [cone_list hv hid]
  constructor
  · intro h
    obtain ⟨x, hx, e⟩ := List.mem_map.1 h
    obtain rfl : x = j := by have e1 : (x : Int) = j := e; omega
    obtain ⟨h1, h2⟩ := List.mem_filter.1 hx
    exact ⟨(List.mem_range'_1.1 h1).1, (mark_iff hv hid).1 h2⟩
  · rintro ⟨h1, h2⟩
    refine List.mem_map.2 ⟨j, List.mem_filter.2 ⟨List.mem_range'_1.2 ⟨h1, ?_⟩, (mark_iff hv hid).2 h2⟩, rfl⟩
    have := h2.le hv
    omega
theorem cone_in {ns : List Nd} (hv : Inv ns) {i x : Int} (h : x ∈ coneL ns i) : 1 ≤ x ∧ x ≤ i ∧ i ≤ (ns.length : Int) := by
  unfold coneL at h
  split at h
  · rename_i hb
    have hb' : 1 ≤ i ∧ i ≤ (ns.length : Int) := by simpa [hasB] using hb
    have hid : i.toNat ≤ ns.length := by omega
    rw [cone_list hv hid] at h
    obtain ⟨y, hy, rfl⟩ := List.mem_map.1 h
    obtain ⟨h1, -⟩ := List.mem_filter.1 hy
    have := List.mem_range'_1.1 h1
    omega
  · cases h
theorem mem_coneL {ns : List Nd} (hv : Inv ns) {i j : Nat} (h1 : 1 ≤ j) (hi : i ≤ ns.length) : (j : Int) ∈ coneL ns (i : Int) ↔ Rch ns i j := by
  unfold coneL
  by_cases h0 : 1 ≤ i
  · rw [if_pos (by simp [hasB]; omega), Int.toNat_natCast, mem_cone hv hi]
    exact ⟨fun h => h.2, fun h => ⟨h1, h⟩⟩
  · obtain rfl : i = 0 := by omega
    rw [if_neg (by simp [hasB])]
    exact ⟨(fun h => nomatch h), fun h => by have := h.nought hv; omega⟩
/-- The chapter's words: a term's parts are its operands' parts, and itself, in their order. -/
theorem cone_want {ns : List Nd} (hv : Inv ns) {i : Nat} {n : Nd} (hn : ns[i]? = some n) (F : Nat → Bool)
    (hF : ∀ j, 1 ≤ j → j ≤ ns.length → (F j = true ↔ (j = i + 1 ∨ (j : Int) ∈ coneL ns n.a ∨ (j : Int) ∈ coneL ns n.b ∨ (j : Int) ∈ coneL ns n.c))) :
    coneF ns (i + 1) = ((List.range' 1 ns.length).filter F).map (fun j : Nat => (j : Int)) := by
  have hi : i < ns.length := (List.getElem?_eq_some_iff.1 hn).1
  have hk := hv.kids i n hn
  rw [cone_list hv (by omega)]
  congr 1
  have hmark : ∀ j, 1 ≤ j → j ≤ ns.length → F j = (dn ns (i + 1) (i + 1)).1 j := fun j h1 h2 => by
    have hA : ∀ x : Int, 0 ≤ x → x ≤ i → ((j : Int) ∈ coneL ns x ↔ Rch ns x.toNat j) := fun x h0 hx => by
      have := mem_coneL hv (i := x.toNat) h1 (by omega)
      rwa [Int.toNat_of_nonneg h0] at this
    have hiff : F j = true ↔ (dn ns (i + 1) (i + 1)).1 j = true := by
      rw [hF j h1 h2, mark_iff hv (by omega), hA n.a hk.1 hk.2.1, hA n.b hk.2.2.1 hk.2.2.2.1, hA n.c hk.2.2.2.2.1 hk.2.2.2.2.2]
      have st : ∀ x : Int, 0 ≤ x → (x = n.a ∨ x = n.b ∨ x = n.c) → Rch ns x.toNat j → Rch ns (i + 1) j := fun x h0 hx hr =>
        Rch.trans (.step .here (by omega) (by simpa using hn) (by unfold Kid; rw [Int.toNat_of_nonneg h0]; exact hx)) hr
      constructor
      · rintro (rfl | h | h | h)
        · exact .here
        · exact st n.a (by omega) (Or.inl rfl) h
        · exact st n.b (by omega) (Or.inr (Or.inl rfl)) h
        · exact st n.c (by omega) (Or.inr (Or.inr rfl)) h
      · intro h
        rcases h.first with h | ⟨n', k, h1', hn', hk', hr⟩
        · exact Or.inl h
        · right
          have : n' = n := by
            rw [show i + 1 - 1 = i by omega, hn] at hn'
            exact (Option.some.inj hn').symm
          subst this
          rcases hk' with e | e | e
          · left; rw [← e, Int.toNat_natCast]; exact hr
          · right; left; rw [← e, Int.toNat_natCast]; exact hr
          · right; right; rw [← e, Int.toNat_natCast]; exact hr
    cases e : (dn ns (i + 1) (i + 1)).1 j
    · cases e' : F j
      · rfl
      · rw [hiff.1 e'] at e; cases e
    · exact hiff.2 e
  have hr : List.range' 1 ns.length = List.range' 1 (i + 1) ++ List.range' (1 + (i + 1)) (ns.length - (i + 1)) := by
    rw [List.range'_append_1]
    congr 1
    omega
  rw [hr, List.filter_append]
  have h2 : (List.range' (1 + (i + 1)) (ns.length - (i + 1))).filter F = [] := by
    rw [List.filter_eq_nil_iff]
    intro j hj
    have := List.mem_range'_1.1 hj
    rw [hmark j (by omega) (by omega), mark_iff hv (by omega)]
    intro h
    have := h.le hv
    omega
  rw [h2, List.append_nil]
  apply List.filter_congr
  intro j hj
  have := List.mem_range'_1.1 hj
  exact (hmark j (by omega) (by omega)).symm
end Go.Proofs.Ytjmbicaacplolaa
