/- Contracts (the laws of terms): lists of nodes that are looked at. -/
import Derived.Test.YtjmbicaacplolaaY2
namespace Go.Proofs.Ytjmbicaacplolaa
open Go.RowKit
set_option linter.unusedSimpArgs false
set_option linter.unusedVariables false

/-- The cells behind g, o hold the nodes l. -/
def Ln (w : World) (g o : Nat) (l : List Nd) : Prop := ∀ (j : Nat) (n : Nd), l[j]? = some n → ∀ t u, n.cs[t]? = some u → w.cell? ⟨g, o + j * 11 + t, none⟩ = some u
/-- Few enough, with short names. -/
def litB (l : List Nd) : Bool := decide (l.length ≤ 200) && l.all fun n => decide (n.nm.size ≤ 100)
theorem lit_no {l : List Nd} {k : Nat} {n : Nd} (h : l[k]? = some n) (hn : ¬ n.nm.size ≤ 100) : litB l = false := by
  unfold litB
  rw [Bool.and_eq_false_iff]
  right
  rw [List.all_eq_false]
  exact ⟨n, List.mem_of_getElem? h, by simpa using hn⟩
theorem lit_yes {l : List Nd} (h : ∀ (j : Nat) (n : Nd), l[j]? = some n → n.nm.size ≤ 100) : litB l = decide (l.length ≤ 200) := by
  unfold litB
  rw [show (l.all fun n => decide (n.nm.size ≤ 100)) = true from ?_, Bool.and_true]
  rw [List.all_eq_true]
  intro n hn
  obtain ⟨j, hj, rfl⟩ := List.getElem_of_mem hn
  simpa using h j _ (List.getElem?_eq_getElem hj)

set_option maxHeartbeats 1600000 in
theorem light_any {w : World} {g o c : Nat} {l : List Nd} (h : Ln w g o l) (hl : l.length ≤ maxLen) :
    Calls Try.prog 9 #[.slice (some ⟨g, o, none⟩) l.length c] w fun e w' => e = .returned (.bool (litB l)) ∧ w' = w := by
  have HC : Hid _ := h
  obtain ⟨n, hn⟩ : ∃ n, n = l.length := ⟨_, rfl⟩
  obtain ⟨r, hr⟩ : ∃ r, r = litB l := ⟨_, rfl⟩
  rw [← hn] at hl ⊢
  rw [← hr]
  have HR : Hid _ := hr
  have HN : Hid _ := hn
  clear h hr hn
  go_enter Try.func9, Try.ntmps9
  go_wp2_with fail
  go_loop [3] (fun i => ∃ k : Nat, k ≤ n ∧ k ≤ 201 ∧ i = .int .i64 (k : Int) ∧ ∀ (j : Nat) (m : Nd), j < k → l[j]? = some m → m.nm.size ≤ 100) (fun i => 201 - (intOf i).toNat)
  case atStart => exact ⟨0, Nat.zero_le _, by omega, rfl, fun j m hj => by omega⟩
  case round =>
    obtain ⟨k, hk, hk2, rfl, hz⟩ := hrel
    have HZ : Hid _ := hz
    clear hz
    by_cases hlt : k < n
    · by_cases h2 : k ≤ 200
      · obtain ⟨m, hm⟩ : ∃ m, l[k]? = some m := ⟨_, List.getElem?_eq_getElem (by rw [← HN.out]; exact hlt)⟩
        have hck : w.cell? ⟨g, o + k * 11 + 10, none⟩ = some (.string m.nm) := HC.out k m hm 10 _ rfl
        have HM : Hid _ := hm
        have h2' : (k : Int) ≤ 200 := by omega
        have hltI : (k : Int) < (n : Int) := by omega
        clear hm
        by_cases hs : m.nm.size ≤ 100
        · have hs' : ¬ (100 : Int) < (m.nm.size : Int) := by omega
          go_wp2_with fail
          go_round
          case rel =>
            refine ⟨k + 1, by omega, by omega, by go_num, fun j m' hj hm' => ?_⟩
            by_cases e : j = k
            · subst e
              have := HM.out.symm.trans hm'
              cases this
              exact hs
            · exact HZ.out j m' (by omega) hm'
          case measure => simp [intOf]; omega
        · have hs' : (100 : Int) < (m.nm.size : Int) := by omega
          have HF : Hid (r = false) := by unfold Hid; rw [HR.out]; exact lit_no HM.out hs
          go_wp2_with fail
          go_ret
          exact ⟨by rw [HF.out]; rfl, rfl⟩
      · have h2' : ¬ (k : Int) ≤ 200 := by omega
        have hltI : (k : Int) < (n : Int) := by omega
        have hn2 : ¬ (n : Int) ≤ 200 := by omega
        have HF : Hid (r = false) := by unfold Hid; rw [HR.out]; unfold litB; rw [← HN.out, show decide (n ≤ 200) = false by simp; omega]; rfl
        go_wp2_with fail
        go_ret
        exact ⟨by rw [HF.out]; simp [hn2], rfl⟩
    · obtain rfl : k = n := by omega
      have hltI : ¬ (k : Int) < (k : Int) := by omega
      have HF : Hid (r = decide (k ≤ 200)) := by
        unfold Hid
        rw [HR.out, lit_yes (fun j m hm => HZ.out j m (by rw [HN.out]; exact (List.getElem?_eq_some_iff.1 hm).1) hm), ← HN.out]
      go_wp2_with fail
      go_ret
      refine ⟨?_, rfl⟩
      rw [HF.out]
      congr 2
      simp
      omega
end Go.Proofs.Ytjmbicaacplolaa
