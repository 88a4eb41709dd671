/- Contracts (clauses): numbers sorted, and each once (by the shelf's contracts: wip/gen/cns.sh). -/
import Derived.Test.YtajpnlmglkifcaaCN6
import Derived.Test.YtajpnlmglkifcaaCNS
import Derived.Lib.OwnBridge
import Derived.Sort.Grow
namespace Go.Proofs.Ytajpnlmglkifcaa
open Go.RowKit Go.Sort

theorem sort_any {wx : World} {B : Nat} {u : Value} {L : List Int} (h : Is' wx B u L) (hl : L.length ≤ 100000) :
    Calls Try.prog 54 #[u] wx fun ev w' => ev = .returned (.tuple #[]) ∧ Is' w' B u (L.mergeSort fun x y => decide (x ≤ y)) ∧ Below B wx w' := by
  have hlm : (L.mergeSort fun x y => decide (x ≤ y)).length = L.length := List.length_mergeSort L
  by_cases hu : u = .slice none 0 0
  · subst hu
    have h0 : L = [] := by
      rcases h.2 with ⟨-, h0⟩ | ⟨g, cap, cur, e, -⟩
      · exact List.eq_nil_of_length_eq_zero h0
      · cases e
    subst h0
    refine (Try.slices_Sort_int_none none 0 wx).mono ?_
    rintro e w' ⟨rfl, rfl⟩
    exact ⟨rfl, by rw [List.mergeSort_nil]; exact h, Below.refl _ _⟩
  · obtain ⟨g, cap, rfl, hB, hg, hc, hm, hz, hH⟩ := Lib.holds_of_ownsRow (zs := L) h hu
    refine (Try.slices_Sort_int g 0 cap L wx hH hg (by omega)).mono ?_
    rintro e w' ⟨rfl, n, os, rfl⟩
    have h1 := Lib.ownsRow_putRow (q := n) (k := L.length) (ys := L.mergeSort fun x y => decide (x ≤ y)) h hlm (Nat.le_refl _)
    rw [List.take_of_length_le (by rw [hlm]; exact Nat.le_refl _)] at h1
    refine ⟨rfl, ?_, ?_⟩
    · unfold Is'
      rw [hlm]
      exact row_own h1 (fun q hq => heap_grow_old _ _ (h1.lt q hq).2)
    · have h2 : Below B wx (putRow (Value.int .i64) (Sort.ahead wx n) g 0 (L.mergeSort fun x y => decide (x ≤ y)).toArray) := Lib.below_putRow (Below.refl _ _) hB
      exact ⟨h2.os, h2.tape, h2.output, Nat.le_trans h2.size (by simp [grow]), fun q hq => (heap_grow_old _ _ (by have := h2.size; have := h.lt g rfl; omega)).trans (h2.block q hq)⟩
theorem untold_any {w : World} {F : Nat → Prop} {e g mo mv mp l : Nat} {ks : List Kd} {vars : Int} {V : Int → Option Int} {T : List Nat}
    (hE : En w e g vars mv mp V (polF T)) (hG : Gr w F g mo ks) (hll : l / 2 < ks.length) (hks : ks.length ≤ 40000) :
    Calls Try.prog 39 #[.pointer (some ⟨e, 0, none⟩), .int .i64 (l : Int)] w fun ev w' => ∃ u L, ev = .returned u ∧ Is' w' w.heap.size u (nats L) ∧ UO ks T l L ∧ Below w.heap.size w w' :=
  untold_of hE hG hll hks (fun _ _ _ h hl => sort_any h hl)
theorem compact_up (d : Array Int) (hs : ∀ i j, i ≤ j → j < d.size → d[i]! ≤ d[j]!) : ∀ m, m ≤ d.size → (∀ x, x ∈ Lib.compactUpTo d m ↔ ∃ j, j < m ∧ d[j]! = x) ∧ (Lib.compactUpTo d m).Pairwise (· < ·)
  | 0, _ => ⟨fun x => ⟨fun h => by simp [Lib.compactUpTo] at h, fun ⟨j, hj, _⟩ => by omega⟩, by simp [Lib.compactUpTo]⟩
  | m + 1, hm => by
    obtain ⟨h1, h2⟩ := compact_up d hs m (by omega)
    rw [Lib.compactUpTo_succ]
    by_cases hk : Lib.keeps d m = true
    · rw [if_pos hk]
      refine ⟨fun x => ?_, ?_⟩
      · rw [List.mem_append, h1, List.mem_singleton]
        constructor
        · rintro (⟨j, hj, e⟩ | e)
          · exact ⟨j, by omega, e⟩
          · exact ⟨m, by omega, e.symm⟩
        · rintro ⟨j, hj, e⟩
          by_cases hjm : j = m
          · right; rw [← e, hjm]
          · left; exact ⟨j, by omega, e⟩
      · rw [List.pairwise_append]
        refine ⟨h2, List.pairwise_singleton _ _, fun a ha b hb => ?_⟩
        rw [List.mem_singleton.1 hb]
        obtain ⟨j, hj, rfl⟩ := (h1 a).1 ha
        have h3 := hs j (m - 1) (by omega) (by omega)
        have h4 := hs (m - 1) m (by omega) (by omega)
        have h5 : d[m]! ≠ d[m - 1]! := by
          unfold Lib.keeps at hk
          simp at hk
          rcases hk with hk | hk
          · omega
          · exact fun e => hk (by first | exact e | exact e.symm)
        omega
    · rw [if_neg hk, List.append_nil]
      refine ⟨fun x => ?_, h2⟩
      rw [h1]
      constructor
      · rintro ⟨j, hj, e⟩; exact ⟨j, by omega, e⟩
      · rintro ⟨j, hj, e⟩
        by_cases hjm : j = m
        · subst hjm
          have h5 : j ≠ 0 ∧ d[j]! = d[j - 1]! := by
            unfold Lib.keeps at hk
            simp at hk
            first | exact ⟨hk.1, hk.2⟩ | exact ⟨hk.1, hk.2.symm⟩
          exact ⟨j - 1, by omega, by rw [← h5.2]; exact e⟩
        · exact ⟨j, by omega, e⟩
theorem compact_list {L : List Int} (hs : L.Pairwise (· ≤ ·)) : (∀ x, x ∈ Lib.compact L ↔ x ∈ L) ∧ (Lib.compact L).Pairwise (· < ·) := by
  have hs' : ∀ i j, i ≤ j → j < L.toArray.size → L.toArray[i]! ≤ L.toArray[j]! := by
    intro i j hij hj
    have hj' : j < L.length := by simpa using hj
    have hi' : i < L.length := by omega
    simp only [List.getElem!_toArray]
    rw [getElem!_pos L i hi', getElem!_pos L j hj']
    by_cases e : i = j
    · subst e; exact Int.le_refl _
    · exact List.pairwise_iff_getElem.1 hs i j hi' hj' (by omega)
  obtain ⟨h1, h2⟩ := compact_up L.toArray hs' L.length (by simp)
  refine ⟨fun x => ?_, h2⟩
  unfold Lib.compact
  rw [h1]
  constructor
  · rintro ⟨j, hj, rfl⟩
    simp only [List.getElem!_toArray]
    rw [getElem!_pos L j hj]
    exact List.getElem_mem hj
  · intro hx
    obtain ⟨j, hj, rfl⟩ := List.getElem_of_mem hx
    exact ⟨j, hj, by simp only [List.getElem!_toArray]; rw [getElem!_pos L j hj]⟩
theorem compact_any {wx : World} {B : Nat} {u : Value} {L : List Int} (h : Is' wx B u L) (hl : L.length ≤ 100000) :
    Calls Try.prog 55 #[u] wx fun ev w' => ∃ u', ev = .returned u' ∧ Is' w' B u' (Lib.compact L) ∧ Below B wx w' := by
  have hle := Lib.compact_length_le L
  by_cases hu : u = .slice none 0 0
  · subst hu
    have h0 : L = [] := by
      rcases h.2 with ⟨-, h0⟩ | ⟨g, cap, cur, e, -⟩
      · exact List.eq_nil_of_length_eq_zero h0
      · cases e
    subst h0
    refine (Try.slices_Compact_int_empty none 0 wx).mono ?_
    rintro e w' ⟨rfl, rfl⟩
    exact ⟨_, rfl, h, Below.refl _ _⟩
  · obtain ⟨g, cap, rfl, hB, hg, hc, hm, hz, hH⟩ := Lib.holds_of_ownsRow (zs := L) h hu
    refine (Try.slices_Compact_int g 0 cap L wx hH (by omega) hc).mono ?_
    rintro e w' ⟨rfl, n, rfl⟩
    have h1 := Lib.ownsRow_putRow (q := n) (k := (Lib.compact L).length) (ys := Lib.compact L ++ List.replicate (L.length - (Lib.compact L).length) 0) h (by rw [List.length_append, List.length_replicate]; omega) hle
    rw [List.take_left] at h1
    exact ⟨_, rfl, h1, Lib.below_putRow (Below.refl _ _) hB⟩
end Go.Proofs.Ytajpnlmglkifcaa
