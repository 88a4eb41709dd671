/- Contracts (terms): whether sorts are alike; whether numbers fit. -/
import Derived.Deep.RegionHeld3
import Derived.Test.YtjmbicaacplolaaX1
namespace Go.Proofs.Ytjmbicaacplolaa
open Go.RowKit
set_option linter.unusedSimpArgs false
set_option linter.unusedVariables false

/-- All the same as the first. -/
def alk (l : List Int) : Bool := l.all fun s => s == l.getD 0 0

set_option maxHeartbeats 1600000 in
theorem alike_any {w : World} {g o c : Nat} {l : List Int} (h : Li w g o l) (hl : l.length ≤ 1000) (h1 : 1 ≤ l.length) :
    Calls Try.prog 49 #[.slice (some ⟨g, o, none⟩) l.length c] w fun e w' => e = .returned (.bool (alk l)) ∧ w' = w := by
  have HC : Hid _ := h
  obtain ⟨s0, hs0⟩ : ∃ s, s = l.getD 0 0 := ⟨_, rfl⟩
  have hc0 : w.cell? ⟨g, o, none⟩ = some (.int .i64 s0) := by rw [hs0]; exact HC.out 0 (by omega)
  obtain ⟨n, hn⟩ : ∃ n, n = l.length := ⟨_, rfl⟩
  rw [← hn] at hl h1 ⊢
  obtain ⟨r, hr⟩ : ∃ r, r = alk l := ⟨_, rfl⟩
  rw [← hr]
  have HR : Hid (r = l.all fun s => s == l.getD 0 0) := hr
  have HS : Hid (s0 = l.getD 0 0) := hs0
  have HN : Hid (n = l.length) := hn
  clear h hr hn hs0
  go_enter Try.func49, Try.ntmps49
  go_wp2_with fail
  go_loop [7] (fun i => ∃ k : Nat, 0 ≤ k ∧ k ≤ n ∧ i = .int .i64 (k : Int) ∧ ∀ j, j < k → (l.getD j 0 == l.getD 0 0) = true) (fun i => n - (intOf i).toNat)
  case atStart => exact ⟨0, Nat.le_refl _, by omega, rfl, fun j hj => by omega⟩
  case round =>
    obtain ⟨k, hk1, hk, rfl, hz⟩ := hrel
    have HZ : Hid _ := hz
    clear hz
    by_cases hlt : k < n
    · obtain ⟨s, hs⟩ : ∃ s, s = l.getD k 0 := ⟨_, rfl⟩
      have hck : w.cell? ⟨g, o + k, none⟩ = some (.int .i64 s) := by rw [hs]; exact HC.out k (by rw [← HN.out]; exact hlt)
      by_cases e : s = s0
      · have HB : Hid ((l.getD k 0 == l.getD 0 0) = true) := by unfold Hid; rw [← hs, ← HS.out]; simp [e]
        subst e
        clear hs
        go_wp2_with fail
        go_round
        case rel =>
          refine ⟨k + 1, by omega, by omega, by go_num, fun j hj => ?_⟩
          by_cases e : j = k
          · subst e; exact HB.out
          · exact HZ.out j (by omega)
        case measure => simp [intOf]; omega
      · have HB : Hid ((l.getD k 0 == l.getD 0 0) = false) := by unfold Hid; rw [← hs, ← HS.out]; simp [e]
        have hne : (s == s0) = false := by simp [e]
        have hne2 : (s != s0) = true := by simp [e]
        clear hs
        go_wp2_with fail
        go_ret
        exact ⟨by rw [HR.out, all_no (f := fun s => s == l.getD 0 0) (by rw [← HN.out]; exact hlt) HB.out]; rfl, rfl⟩
    · obtain rfl : k = n := by omega
      go_wp2_with fail
      go_ret
      exact ⟨by rw [HR.out, all_yes (f := fun s => s == l.getD 0 0) (fun j hj => HZ.out j (by rw [HN.out]; exact hj))]; rfl, rfl⟩

set_option maxHeartbeats 1600000 in
theorem refalike_any {w : World} {g o c : Nat} {l : List Int} (h : Li w g o l) (hl : l.length ≤ 1000) (h1 : 1 ≤ l.length) :
    Calls Try.prog 40 #[.slice (some ⟨g, o, none⟩) l.length c] w fun e w' => e = .returned (.bool (alk l)) ∧ Below w.heap.size w w' := by
  have HC : Hid _ := h
  obtain ⟨s0, hs0⟩ : ∃ s, s = l.getD 0 0 := ⟨_, rfl⟩
  have hc0 : w.cell? ⟨g, o, none⟩ = some (.int .i64 s0) := by rw [hs0]; exact HC.out 0 (by omega)
  have hg : g < w.heap.size := World.block_lt_of_cell? _ _ hc0
  have HC0 : Hid _ := hc0
  obtain ⟨n, hn⟩ : ∃ n, n = l.length := ⟨_, rfl⟩
  rw [← hn] at hl h1 ⊢
  obtain ⟨r, hr⟩ : ∃ r, r = alk l := ⟨_, rfl⟩
  rw [← hr]
  have HR : Hid (r = l.all fun s => s == l.getD 0 0) := hr
  have HS : Hid (s0 = l.getD 0 0) := hs0
  have HN : Hid (n = l.length) := hn
  clear h hr hn hs0 hc0
  go_enter Try.func40, Try.ntmps40
  go_wp2_with fail
  go_loopw [3] (fun i wr => ∃ k : Nat, 1 ≤ k ∧ k ≤ n ∧ i = .int .i64 (k : Int) ∧ (∀ j, j < k → (l.getD j 0 == l.getD 0 0) = true) ∧ Below w.heap.size w wr) (fun i _ => n - (intOf i).toNat)
  case atStart => exact ⟨1, Nat.le_refl _, h1, rfl, fun j hj => (by rw [show j = 0 by omega]; simp), Below.refl _ _⟩
  case round =>
    obtain ⟨k, hk1, hk, rfl, hz, hbl⟩ := hrel
    have HZ : Hid _ := hz
    clear hz
    by_cases hlt : k < n
    · obtain ⟨s, hs⟩ : ∃ s, s = l.getD k 0 := ⟨_, rfl⟩
      have hck : wr.cell? ⟨g, o + k, none⟩ = some (.int .i64 s) := by rw [hs, hbl.cell (p := ⟨g, o + k, none⟩) hg]; exact HC.out k (by rw [← HN.out]; exact hlt)
      have hc0 : wr.cell? ⟨g, o, none⟩ = some (.int .i64 s0) := by rw [hbl.cell (p := ⟨g, o, none⟩) hg]; exact HC0.out
      have hbx : (0 : Int) < (n : Int) := by omega
      have hbn : 0 < n := by omega
      by_cases e : s = s0
      · have HB : Hid ((l.getD k 0 == l.getD 0 0) = true) := by unfold Hid; rw [← hs, ← HS.out]; simp [e]
        subst e
        clear hs
        go_wp2_with fail
        go_region_held3 (fun x => x.cell? ⟨g, o + k, none⟩ = some (.int .i64 s) ∧ x.cell? ⟨g, o, none⟩ = some (.int .i64 s))
          ((refine ⟨?_, ?_⟩ <;> simp [go_sem, hck, hc0]))
          (fail)
        go_wp2_with fail
        refine ⟨⟨k + 1, by omega, by omega, by go_num, fun j hj => ?_, hbl.drew⟩, by simp [intOf]; omega⟩
        by_cases e : j = k
        · subst e; exact HB.out
        · exact HZ.out j (by omega)
      · have HB : Hid ((l.getD k 0 == l.getD 0 0) = false) := by unfold Hid; rw [← hs, ← HS.out]; simp [e]
        have hne : (s == s0) = false := by simp [e]
        have hne2 : (s != s0) = true := by simp [e]
        clear hs
        go_wp2_with fail
        go_region_held3 (fun x => x.cell? ⟨g, o + k, none⟩ = some (.int .i64 s) ∧ x.cell? ⟨g, o, none⟩ = some (.int .i64 s0))
          ((refine ⟨?_, ?_⟩ <;> simp [go_sem, hck, hc0]))
          (fail)
        go_wp2_with fail
        go_ret
        exact ⟨by rw [HR.out, all_no (f := fun s => s == l.getD 0 0) (by rw [← HN.out]; exact hlt) HB.out]; rfl, hbl.drew⟩
    · obtain rfl : k = n := by omega
      go_wp2_with fail
      go_ret
      exact ⟨by rw [HR.out, all_yes (f := fun s => s == l.getD 0 0) (fun j hj => HZ.out j (by rw [HN.out]; exact hj))]; rfl, hbl⟩

end Go.Proofs.Ytjmbicaacplolaa
