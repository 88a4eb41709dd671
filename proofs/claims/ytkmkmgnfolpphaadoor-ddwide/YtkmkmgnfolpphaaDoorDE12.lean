/- Contracts (dd): a manager is made. -/
import Derived.Test.YtkmkmgnfolpphaaDoorDE11
namespace Go.Proofs.YtkmkmgnfolpphaaDoor
open Go.RowKit
set_option linter.unusedSimpArgs false
set_option linter.unusedVariables false

theorem alloc3 (w : World) (a b c : Obj) : (((w.alloc a).alloc b).alloc c).heap.size = w.heap.size + 3 ∧ (((w.alloc a).alloc b).alloc c).heap[w.heap.size + 1]? = some b ∧ (((w.alloc a).alloc b).alloc c).heap[w.heap.size + 2]? = some c := by
  have s1 : (w.alloc a).heap.size = w.heap.size + 1 := by simp
  have s2 : ((w.alloc a).alloc b).heap.size = w.heap.size + 2 := by simp
  refine ⟨by simp, ?_, ?_⟩
  · rw [heap_alloc_old _ _ (by omega), ← s1]; exact heap_alloc_new _ _
  · rw [← s2]; exact heap_alloc_new _ _
theorem newTable_any (v m : Int) (w : World) :
    Calls Tryd.prog 47 #[.int .i64 v, .int .i64 m] w fun e w' => e = .returned (.agg #[.int .i64 m, .slice (some ⟨w.heap.size + 1, 0, none⟩) 2 2, .map (some (w.heap.size + 2)), .slice none 0 0]) ∧ Below w.heap.size w w' ∧ w'.heap.size = w.heap.size + 3 ∧ w'.heap[w.heap.size + 1]? = some (.cells #[.int .i64 v, .int .i64 0, .int .i64 0, .int .i64 v, .int .i64 1, .int .i64 1] 80) ∧ w'.heap[w.heap.size + 2]? = some (.map #[] 0) := by
  have hmm := @run_makeMap Tryd.prog
  have H3 : Hid _ := alloc3
  go_enter Tryd.func47, Tryd.ntmps47
  go_wp2_with fail
  refine bodyPost_ret (v := .agg #[.int .i64 m, .slice (some ⟨w.heap.size + 1, 0, none⟩) 2 2, .map (some (w.heap.size + 2)), .slice none 0 0]) (by simp [results, Tryd.results47, go_sem]) rfl ?_
  obtain ⟨q1, q2, q3⟩ := H3.out w (.cells #[.int .i64 m, .slice (some ⟨w.heap.size + 1, 0, none⟩) 2 2, .map (some (w.heap.size + 2)), .slice none 0 0] 75) (.cells #[.int .i64 v, .int .i64 0, .int .i64 0, .int .i64 v, .int .i64 1, .int .i64 1] 80) (.map #[] 0)
  exact ⟨rfl, by go_grown, q1, q2, q3⟩
def varsOf (v : Int) : Nat := (min (max v 0) 4096).toNat
def mostOf (m : Int) : Nat := (min (max m 2) 16384).toNat
def St0 (vars : Nat) : St := { ns := [((vars : Int), 0, 0), ((vars : Int), 1, 1)], sp := [], gone := 0 }
theorem mg0 {vars most : Nat} (hv : vars ≤ 4096) (hm : 2 ≤ most ∧ most ≤ 16384) : Mg vars most (St0 vars) := by
  have hno : ∀ i : Int, 2 ≤ i → ¬ i.toNat < (St0 vars).ns.length := fun i hi h => by
    have : (St0 vars).ns.length = 2 := rfl
    omega
  exact ⟨⟨Nat.le_refl 2, rfl, rfl, fun i h2 ha => absurd ha.2.1 (hno i h2), fun i j h2 _ hi => absurd hi.2.1 (hno i h2), (fun s hs => nomatch hs), List.nodup_nil⟩, hv, hm, rfl, by show 2 ≤ most + 2; omega, fun i h2 hi => absurd hi (hno i h2)⟩
set_option maxRecDepth 20000 in
set_option maxHeartbeats 1600000 in
theorem new_any (v m : Int) (w : World) :
    Calls Tryd.prog 21 #[.int .i64 v, .int .i64 m] w fun e w' => ∃ g, e = .returned (.pointer (some ⟨g, 0, none⟩)) ∧ w.heap.size ≤ g ∧ Below w.heap.size w w' ∧ Gr w' (fun k => w.heap.size ≤ k ∧ k < w'.heap.size) g (varsOf v) (mostOf m) (St0 (varsOf v)) (fun _ => 0) := by
  have hmm := @run_makeMap Tryd.prog
  have HV : Hid (min (max v 0) 4096 = (varsOf v : Int)) := by unfold Hid varsOf; omega
  have HM : Hid (min (max m 2) 16384 = (mostOf m : Int)) := by unfold Hid mostOf; omega
  have HV2 : Hid (varsOf v ≤ 4096) := by unfold Hid varsOf; omega
  have HM2 : Hid (2 ≤ mostOf m ∧ mostOf m ≤ 16384) := by unfold Hid mostOf; omega
  have HT : Hid _ := newTable_any
  go_enter Tryd.func21, Tryd.ntmps21
  go_wp2_with fail
  refine (HT.out _ _ _).mono ?_
  rintro e w1 ⟨rfl, hB, hs, h1, h2⟩
  have HB : Hid (Below w.heap.size w w1) := hB
  have HS : Hid (w1.heap.size = w.heap.size + 3) := hs
  have H1 : Hid _ := h1
  have H2 : Hid _ := h2
  clear hB hs h1 h2
  go_wp2_with fail
  go_ret
  have hs := HS.out
  have q1 := H1.out
  have q2 := H2.out
  rw [HV.out] at q1
  refine ⟨w1.heap.size + 1, rfl, by omega, HB.out.trans (by have := HS.out; go_grown), w.heap.size + 2, w1.heap.size, .slice (some ⟨w.heap.size + 1, 0, none⟩) 2 2, .slice none 0 0, ⟨?_, ⟨rfl, Or.inr ⟨w.heap.size + 1, 2, #[.int .i64 (varsOf v : Int), .int .i64 0, .int .i64 0, .int .i64 (varsOf v : Int), .int .i64 1, .int .i64 1], rfl, Nat.zero_le _, ?_, Nat.le_refl _, by decide, rfl, rfl⟩⟩, ⟨[], ⟨#[], 0, ?_, rfl, fun p hp => nomatch hp⟩, List.Perm.refl _⟩, World.ownsRow_nil _ _ _ _, Pm.made ?_, mg0 HV2.out HM2.out⟩, by omega, ?_, ?_, ?_, (fun b e => ?_), (fun b e => by cases e)⟩
  · rw [← HV.out, ← HM.out]
    have e : w1.heap.size + 1 = (w1.alloc (.map #[] 0)).heap.size := by simp
    rw [e]; exact heap_alloc_new _ _
  · exact (heap_alloc_old _ _ (by simp; omega)).trans ((heap_alloc_old _ _ (by omega)).trans q1)
  · exact (heap_alloc_old _ _ (by simp; omega)).trans ((heap_alloc_old _ _ (by omega)).trans q2)
  · exact (heap_alloc_old _ _ (by simp)).trans (heap_alloc_new _ _)
  · simp; omega
  · simp; omega
  · simp; omega
  · cases e; simp; omega
end Go.Proofs.YtkmkmgnfolpphaaDoor
