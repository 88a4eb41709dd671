/- Contracts (helps): two lists of numbers alike. -/
import Derived.Test.YtjmbicaacplolaaX9
import Derived.Deep.QuietTactic
import Derived.BigQuiet
namespace Go.Proofs.Ytjmbicaacplolaa
open Go.RowKit
set_option linter.unusedSimpArgs false
set_option linter.unusedVariables false

set_option maxHeartbeats 3200000 in
theorem ints_any {w : World} {g o c g' o' c' : Nat} {l m : List Int} (h : Li w g o l) (h' : Li w g' o' m) (hl : l.length ≤ 100000) (hm : m.length ≤ 100000) :
    Calls Try.prog 17 #[.slice (some ⟨g, o, none⟩) l.length c, .slice (some ⟨g', o', none⟩) m.length c'] w fun e w' => e = .returned (.bool (decide (l = m))) ∧ Below w.heap.size w w' := by
  have HC : Hid _ := h
  have HD : Hid _ := h'
  obtain ⟨n, hn⟩ : ∃ n, n = l.length := ⟨_, rfl⟩
  obtain ⟨n', hn'⟩ : ∃ n', n' = m.length := ⟨_, rfl⟩
  obtain ⟨r, hr⟩ : ∃ r, r = decide (l = m) := ⟨_, rfl⟩
  rw [← hn] at hl ⊢
  rw [← hn'] at hm ⊢
  rw [← hr]
  have HR : Hid _ := hr
  have HN : Hid _ := hn
  have HN' : Hid _ := hn'
  clear h h' hr hn hn'
  by_cases hne : (n : Int) = n'
  · obtain rfl : n = n' := by omega
    have z1 : ((n : Int) == n) = true := by simp
    have y1 : ((n : Int) != n) = false := by simp
    clear hne
    go_enter Try.func17, Try.ntmps17
    go_wp2_with fail
    go_loopw [5] (fun i wr => ∃ k : Nat, k ≤ n ∧ i = .int .i64 (k : Int) ∧ (∀ j, j < k → l.getD j 0 = m.getD j 0) ∧ Below w.heap.size w wr) (fun i wr => n - (intOf i).toNat)
    case atStart => exact ⟨0, Nat.zero_le _, rfl, (fun j hj => by omega), Below.refl _ _⟩
    case round =>
      obtain ⟨k, hk, rfl, hz, hbl⟩ := hrel
      have HZ : Hid _ := hz
      clear hz
      by_cases hlt : k < n
      · obtain ⟨s, hs⟩ : ∃ s, s = l.getD k 0 := ⟨_, rfl⟩
        obtain ⟨s', hs'⟩ : ∃ s', s' = m.getD k 0 := ⟨_, rfl⟩
        have q1 := HC.out k (by rw [← HN.out]; exact hlt)
        have q2 := HD.out k (by rw [← HN'.out]; exact hlt)
        have hck : wr.cell? ⟨g, o + k, none⟩ = some (.int .i64 s) := by rw [hs, hbl.cell (p := ⟨g, o + k, none⟩) (World.block_lt_of_cell? _ _ q1)]; exact q1
        have hcm : wr.cell? ⟨g', o' + k, none⟩ = some (.int .i64 s') := by rw [hs', hbl.cell (p := ⟨g', o' + k, none⟩) (World.block_lt_of_cell? _ _ q2)]; exact q2
        clear q1 q2
        by_cases e : s = s'
        · have HB : Hid (l.getD k 0 = m.getD k 0) := by unfold Hid; rw [← hs, ← hs', e]
          subst e
          have y2 : (s != s) = false := by simp
          clear hs hs'
          go_wp2_with fail
          go_region_held3 (fun x => x.cell? ⟨g, o + k, none⟩ = some (.int .i64 s) ∧ x.cell? ⟨g', o' + k, none⟩ = some (.int .i64 s))
            ((refine ⟨?_, ?_⟩ <;> simp [go_sem, hck, hcm]))
            (fail)
          go_wp2_with fail
          refine ⟨⟨k + 1, by omega, by go_num, fun j hj => ?_, hbl.drew⟩, by simp [intOf]; omega⟩
          by_cases e : j = k
          · subst e; exact HB.out
          · exact HZ.out j (by omega)
        · have HB : Hid (¬ l.getD k 0 = m.getD k 0) := by unfold Hid; rw [← hs, ← hs']; exact e
          have hne : (s == s') = false := by simp [e]
          have hne2 : (s != s') = true := by simp [e]
          clear hs hs'
          go_wp2_with fail
          go_region_held3 (fun x => x.cell? ⟨g, o + k, none⟩ = some (.int .i64 s) ∧ x.cell? ⟨g', o' + k, none⟩ = some (.int .i64 s'))
            ((refine ⟨?_, ?_⟩ <;> simp [go_sem, hck, hcm]))
            (fail)
          go_wp2_with fail
          go_ret
          exact ⟨by rw [HR.out, show decide (l = m) = false by simp; intro q; exact HB.out (by rw [q])]; rfl, hbl.drew⟩
      · obtain rfl : k = n := by omega
        have HT : Hid (r = true) := by
          unfold Hid
          rw [HR.out, decide_eq_true_eq]
          refine List.ext_getElem (by rw [← HN.out, ← HN'.out]) fun j h1 h2 => ?_
          have := HZ.out j (by rw [HN.out]; exact h1)
          rwa [List.getD_eq_getElem?_getD, List.getD_eq_getElem?_getD, List.getElem?_eq_getElem h1, List.getElem?_eq_getElem h2] at this
        go_wp2_with fail
        go_ret
        exact ⟨by rw [HT.out]; rfl, hbl⟩
  · have z1 : ((n : Int) == n') = false := by simp [hne]
    have y1 : ((n : Int) != n') = true := by simp [hne]
    go_enter Try.func17, Try.ntmps17
    go_wp2_with fail
    go_ret
    exact ⟨by rw [HR.out]; simp; intro e; exact hne (by rw [HN.out, HN'.out, e]), Below.refl _ _⟩
end Go.Proofs.Ytjmbicaacplolaa
