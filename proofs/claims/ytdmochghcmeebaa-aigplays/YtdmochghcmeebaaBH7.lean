/- Contracts (the document's and-inverter graphs): Cone (its marks and the program's; no walk). -/
import Derived.Test.YtdmochghcmeebaaBH6
import Derived.Test.YtdmochghcmeebaaAG12
namespace Go.Proofs.Ytdmochghcmeebaa
open Go.RowKit
set_option linter.unusedSimpArgs false
set_option linter.unusedVariables false

/-- The document's marks behind t nodes. -/
def rdn (ks : List Kd) (id : Nat) : Nat → Nat → Bool
  | 0 => fun j => decide (j = id)
  | t + 1 => fun j => if (rdn ks id t (id - t) && isK (ks.getD (id - t) (0, 0))) = true then rdn ks id t j || decide (j = (ks.getD (id - t) (0, 0)).1 / 2) || decide (j = (ks.getD (id - t) (0, 0)).2 / 2) else rdn ks id t j
/-- Both mark the same nodes but node 0. -/
theorem rdn_eq {ks : List Kd} {id : Nat} : ∀ t, t ≤ id → ∀ j, 1 ≤ j → rdn ks id t j = (dn ks id t).1 j
  | 0, _, j, _ => rfl
  | t + 1, ht, j, hj => by
    have ih := rdn_eq (ks := ks) (id := id) t (by omega)
    have hi := ih (id - t) (by omega)
    show (if (rdn ks id t (id - t) && isK (ks.getD (id - t) (0, 0))) = true then rdn ks id t j || decide (j = (ks.getD (id - t) (0, 0)).1 / 2) || decide (j = (ks.getD (id - t) (0, 0)).2 / 2) else rdn ks id t j) = (stp ks (id - t) (dn ks id t)).1 j
    unfold stp
    rw [hi, ih j hj]
    by_cases hm : (dn ks id t).1 (id - t) = true
    · rw [hm, if_pos rfl, Bool.true_and]
      by_cases hk : isK (ks.getD (id - t) (0, 0)) = true
      · rw [if_pos hk]
      · rw [if_neg hk]
        have h0 : ks.getD (id - t) (0, 0) = (0, 0) := by
          unfold isK at hk
          simpa using hk
        rw [h0]
        simp
        omega
    · rw [if_neg hm, if_neg (by simp [hm])]
/-- A node that was gone by keeps its mark. -/
theorem dn_fix {ks : List Kd} (hv : Inv ks) {id : Nat} (hid : id < ks.length) {i : Nat} (h1 : 1 ≤ i) (hi : i ≤ id) : ∀ t, id - i ≤ t → t ≤ id → (dn ks id t).1 i = (dn ks id (id - i)).1 i
  | 0, h, _ => by rw [show id - i = 0 by omega]
  | t + 1, h, ht => by
    by_cases e : id - i = t + 1
    · rw [e]
    · have ih := dn_fix hv hid h1 hi t (by omega) (by omega)
      rw [← ih]
      show (stp ks (id - t) (dn ks id t)).1 i = _
      unfold stp
      split
      · obtain ⟨k, hk⟩ : ∃ k, ks[id - t]? = some k := ⟨_, List.getElem?_eq_getElem (by omega)⟩
        have hg : ks.getD (id - t) (0, 0) = k := by rw [List.getD_eq_getElem?_getD, hk]; rfl
        rw [hg]
        by_cases h0 : k = (0, 0)
        · subst h0; simp; omega
        · have := hv.kid (id - t) k hk h0
          have n1 : i ≠ k.1 / 2 := by omega
          have n2 : i ≠ k.2 / 2 := by omega
          simp [n1, n2]
      · rfl
/-- The list of a literal's parts, by the marks at the end. -/
theorem dn_list {ks : List Kd} (hv : Inv ks) {id : Nat} (hid : id < ks.length) : ∀ t, t ≤ id → (dn ks id t).2.reverse = ((List.range t).map fun s => id - t + 1 + s).filterMap fun i => if (dn ks id id).1 i = true then some (i : Int) else none
  | 0, _ => rfl
  | t + 1, ht => by
    have ih := dn_list hv hid t (by omega)
    have hfix := dn_fix hv hid (i := id - t) (by omega) (by omega) id (by omega) (Nat.le_refl _)
    rw [show id - (id - t) = t by omega] at hfix
    have e : (List.range (t + 1)).map (fun s => id - (t + 1) + 1 + s) = (id - t) :: (List.range t).map (fun s => id - t + 1 + s) := by
      rw [List.range_succ_eq_map, List.map_cons, List.map_map]
      congr 1
      · omega
      · apply List.map_congr_left
        intro s hs
        simp only [Function.comp]
        omega
    rw [e, List.filterMap_cons, ← ih, hfix]
    show (stp ks (id - t) (dn ks id t)).2.reverse = _
    unfold stp
    by_cases hm : (dn ks id t).1 (id - t) = true
    · rw [if_pos hm, if_pos hm]; simp
    · rw [if_neg hm, if_neg hm]
theorem fm_congr {α β : Type} {f g : α → Option β} : ∀ {l : List α}, (∀ x ∈ l, f x = g x) → l.filterMap f = l.filterMap g
  | [], _ => rfl
  | x :: l, h => by rw [List.filterMap_cons, List.filterMap_cons, h x (by simp), fm_congr fun y hy => h y (by simp [hy])]
/-- The document's list. -/
theorem cone_up {ks : List Kd} (hv : Inv ks) {id : Nat} (hid : id < ks.length) : coneF ks id = ((List.range id).map fun s => 1 + s).filterMap fun i => if rdn ks id id i = true then some (i : Int) else none := by
  unfold coneF
  rw [dn_list hv hid id (Nat.le_refl _)]
  rw [show id - id + 1 = 1 by omega]
  refine fm_congr fun i hi => ?_
  obtain ⟨s, _, rfl⟩ := List.mem_map.1 hi
  rw [rdn_eq id (Nat.le_refl _) (1 + s) (by omega)]
end Go.Proofs.Ytdmochghcmeebaa
