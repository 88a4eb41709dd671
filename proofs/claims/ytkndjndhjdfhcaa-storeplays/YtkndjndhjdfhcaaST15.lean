/- Contracts (store): Has. -/
import Derived.Test.YtkndjndhjdfhcaaST14
import Derived.Test.YtkndjndhjdfhcaaCNS
import Derived.Lib.OwnBridge
import Derived.Sort.Grow
namespace Go.Proofs.Ytkndjndhjdfhcaa
open Go.RowKit Go.Sort

theorem sort_any {wx : World} {B : Nat} {u : Value} {L : List Int} (h : Is' wx B u L) (hl : L.length ≤ 1000000) :
    Calls Try.prog 31 #[u] wx fun ev w' => ev = .returned (.tuple #[]) ∧ Is' w' B u (L.mergeSort fun x y => decide (x ≤ y)) ∧ wx.grownBy w' u.ownBlock := by
  have hlm : (L.mergeSort fun x y => decide (x ≤ y)).length = L.length := List.length_mergeSort L
  by_cases hu : u = .slice none 0 0
  · subst hu
    have h0 : L = [] := by
      rcases h.2 with ⟨-, h0⟩ | ⟨g, cap, cur, e, -⟩
      · exact List.eq_nil_of_length_eq_zero h0
      · cases e
    subst h0
    refine (Try.slices_Sort_int_none none 0 wx).mono ?_
    rintro e w' ⟨rfl, rfl⟩
    exact ⟨rfl, by rw [List.mergeSort_nil]; exact h, ⟨rfl, rfl, rfl, Nat.le_refl _, fun _ _ _ => rfl⟩⟩
  · obtain ⟨g, cap, rfl, hB, hg, hc, hm, hz, hH⟩ := Lib.holds_of_ownsRow (zs := L) h hu
    refine (Try.slices_Sort_int g 0 cap L wx hH hg (by omega)).mono ?_
    rintro e w' ⟨rfl, n, os, rfl⟩
    have h1 := Lib.ownsRow_putRow (q := n) (k := L.length) (ys := L.mergeSort fun x y => decide (x ≤ y)) h hlm (Nat.le_refl _)
    rw [List.take_of_length_le (by rw [hlm]; exact Nat.le_refl _)] at h1
    refine ⟨rfl, ?_, ?_⟩
    · unfold Is'
      rw [hlm]
      exact row_own h1 (fun q hq => heap_grow_old _ _ (h1.lt q hq).2)
    · have h2 : Below B wx (putRow (Value.int .i64) (Sort.ahead wx n) g 0 (L.mergeSort fun x y => decide (x ≤ y)).toArray) := Lib.below_putRow (Below.refl _ _) hB
      refine ⟨h2.os, h2.tape, h2.output, Nat.le_trans h2.size (by simp [grow]), fun q hq hn => (heap_grow_old _ _ (by have := h2.size; omega)).trans ?_⟩
      have hgq : g ≠ q := fun e => hn (by rw [e]; rfl)
      simp [putRow, mapBlock, Sort.ahead, Array.getElem?_modify, hgq]
theorem sort_up {L : List Int} (hn : L.Nodup) : (L.mergeSort fun x y => decide (x ≤ y)).Pairwise (· < ·) := by
  have h1 : (L.mergeSort fun x y => decide (x ≤ y)).Pairwise (fun a b => decide (a ≤ b) = true) := List.pairwise_mergeSort (by intro a b c h1 h2; simp at *; omega) (by intro a b; simp; omega) L
  have h2 : (L.mergeSort fun x y => decide (x ≤ y)).Nodup := (List.mergeSort_perm L _).nodup_iff.2 hn
  refine (h1.and h2).imp fun {a b} h => ?_
  have := h.1
  have := h.2
  simp at *
  omega
theorem sort_mem {L : List Int} {x : Int} : x ∈ L.mergeSort (fun x y => decide (x ≤ y)) ↔ x ∈ L := (List.mergeSort_perm L _).mem_iff
/-- What the function within Has looks at. -/
structure Cap (w : World) (F : Nat → Prop) (s mo p q : Nat) (C : List (List Int)) (m : List Int) : Prop where
  so : So w F s mo C
  c0 : w.cell? ⟨p, 0, none⟩ = some (.pointer (some ⟨s, 0, none⟩))
  cq : ∃ u, w.cell? ⟨q, 0, none⟩ = some u ∧ Sr w u m
theorem Cap.al {w w' : World} {F : Nat → Prop} {s mo p q : Nat} {C : List (List Int)} {m : List Int} (h : Cap w F s mo p q C m) (ha : Al w w') : Cap w' F s mo p q C m := by
  obtain ⟨u, h1, h2⟩ := h.cq
  exact ⟨h.so.below (ha.below _), by rw [ha.cell]; exact h.c0, u, by rw [ha.cell]; exact h1, h2.below (ha.below _)⟩
set_option maxRecDepth 20000 in
set_option maxHeartbeats 3200000 in
theorem same_any {w : World} {F : Nat → Prop} {s mo p q : Nat} {C : List (List Int)} {m : List Int} (h : Cap w F s mo p q C m) (hup : m.Pairwise (· < ·)) (hm : m.length ≤ 1000000) {k : Nat} {c : List Int} (hk : C[k]? = some c) :
    Calls Try.prog 32 #[.int .i64 (k : Int), .pointer (some ⟨p, 0, none⟩), .pointer (some ⟨q, 0, none⟩)] w fun e w' => e = .returned (.bool (hj c m)) ∧ Al w w' := by
  obtain ⟨u, cq, hu⟩ := h.cq
  have c0 := h.c0
  have hcl : c.length ≤ 1000000 := by
    have h1 := arN_succ hk
    have h2 := arN_le C (k + 1)
    have := h.so.len
    omega
  obtain ⟨ul, hsl, ⟨al, hul⟩, hlit⟩ := slits_q h.so hk
  have HL : Hid (∀ n, Calls Try.prog 34 #[.pointer (some ⟨s, 0, none⟩), .int .i64 (k : Int)] (w.drewN n) fun e w' => e = .returned ul ∧ ∃ m, w' = (w.drewN n).drewN m) := fun n => hlit (w.drewN n) (Al.drewN w n)
  obtain ⟨a, n, kk, hue⟩ : ∃ a n c, u = .slice a n c := by
    obtain ⟨a, c, e⟩ := hu.out
    exact ⟨_, _, _, e⟩
  subst hue
  have HJ : Hid (∀ i, Calls Try.prog 33 #[ul, .slice a n kk] (w.drewN i) fun e w' => e = .returned (.bool (hj c m)) ∧ w' = w.drewN i) := fun i => hasJust_any (hsl.below ((Al.drewN w i).below _)) (hu.below ((Al.drewN w i).below _)) hup hcl hm
  obtain ⟨nl, hnl⟩ : ∃ n, n = c.length := ⟨_, rfl⟩
  rw [← hnl] at hul
  subst hul
  obtain ⟨R, hR⟩ : ∃ R, R = hj c m := ⟨_, rfl⟩
  rw [← hR] at HJ ⊢
  clear h hu hk hup hlit hsl hcl hm hnl hR
  go_enter Try.func32, Try.ntmps32
  go_wp2_with fail
  go_quiet ((first | (go_at_call 34; refine Calls.quiet_of (HL.out _)) | (go_at_call 33; refine Calls.quiet_of_same (HJ.out _))))
  go_wp2_with fail
  go_ret
  exact ⟨rfl, Al.drewN w _⟩
end Go.Proofs.Ytkndjndhjdfhcaa
