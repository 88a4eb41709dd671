/- Contracts (terms): a list turned round; what a term is made of. -/
import Derived.Test.YtjmbicaacplolaaY13
import Derived.Test.YtjmbicaacplolaaY8
import Derived.Deep.OwnRows
namespace Go.Proofs.Ytjmbicaacplolaa
open Go.RowKit
set_option linter.unusedSimpArgs false
set_option linter.unusedVariables false

theorem Is'.row {w : World} {base : Nat} {v : Value} {l : List Int} (h : Is' w base v l) (hl : l ≠ []) :
    ∃ r cap C f, v = .slice (some ⟨r, 0, none⟩) l.length cap ∧ base ≤ r ∧ l.length ≤ cap ∧ w.rowIs r 3 C f ∧ l.length ≤ C ∧ ∀ x, x < l.length → f x = .int .i64 (l.getD x 0) := by
  rcases h.2 with ⟨rfl, hn⟩ | ⟨r, cap, cur, rfl, hb, hg, hc, _, hs, ht⟩
  · exact absurd (List.eq_nil_of_length_eq_zero hn) hl
  · have hcs : l.length ≤ cur.size := by
      have := congrArg List.length ht
      simp at this
      omega
    refine ⟨r, cap, cur.size, fun x => cur[x]?.getD (.bool false), rfl, hb, hc, ⟨cur, hg, rfl, fun i hi => by simp [hi]⟩, hcs, fun x hx => ?_⟩
    have e : (l.map (Value.int .i64))[x]? = some (.int .i64 (l.getD x 0)) := by
      rw [List.getElem?_map, List.getElem?_eq_getElem hx, List.getD_eq_getElem?_getD, List.getElem?_eq_getElem hx]; rfl
    rw [← ht, List.getElem?_take_of_lt (by omega)] at e
    have e' : cur[x]? = some (.int .i64 (l.getD x 0)) := by simpa using e
    show cur[x]?.getD _ = _
    rw [e']; rfl

/-- A list that is turned round up to its k-th place. -/
def rvF (L : List Int) (n k x : Nat) : Int := if x < k ∨ n ≤ x + k then L.getD (n - 1 - x) 0 else L.getD x 0
def rvV (L : List Int) (f : Nat → Value) (n k x : Nat) : Value := if x < n then .int .i64 (rvF L n k x) else f x
theorem rvV_in {L : List Int} {f : Nat → Value} {n k x : Nat} (hx : x < n) (h : ¬ (x < k ∨ n ≤ x + k)) : rvV L f n k x = .int .i64 (L.getD x 0) := by
  unfold rvV rvF; rw [if_pos hx, if_neg h]
theorem rvV_step {L : List Int} {f : Nat → Value} {n k J : Nat} (h : k + J + 1 = n) (hk : k < J) (x : Nat) : rvV L f n (k + 1) x = if x = J then .int .i64 (L.getD k 0) else if x = k then .int .i64 (L.getD J 0) else rvV L f n k x := by
  by_cases h1 : x = J
  · rw [if_pos h1, h1]
    unfold rvV rvF
    rw [if_pos (by omega), if_pos (by omega), show n - 1 - J = k by omega]
  · rw [if_neg h1]
    by_cases h2 : x = k
    · rw [if_pos h2, h2]
      unfold rvV rvF
      rw [if_pos (by omega), if_pos (by omega), show n - 1 - k = J by omega]
    · rw [if_neg h2]
      unfold rvV rvF
      by_cases h3 : x < n
      · rw [if_pos h3, if_pos h3]
        by_cases h4 : x < k ∨ n ≤ x + k
        · rw [if_pos h4, if_pos (by omega)]
        · rw [if_neg h4, if_neg (by omega)]
      · rw [if_neg h3, if_neg h3]

set_option maxHeartbeats 3200000 in
theorem rev_any {w : World} {r cap C n : Nat} {f : Nat → Value} {L : List Int} (hL : L.length = n) (h : w.rowIs r 3 C f) (hf : ∀ x, x < n → f x = .int .i64 (L.getD x 0)) (hC : n ≤ C) (hn : n ≤ 5000) (hn0 : 0 < n) :
    Calls Try.prog 34 #[.slice (some ⟨r, 0, none⟩) n cap] w fun e w' => e = .returned (.tuple #[]) ∧ Li w' r 0 L.reverse ∧ Below r w w' := by
  have HL : Hid _ := hL
  have HR : Hid (w.rowIs r 3 C (rvV L f n 0)) := h.congr fun x hx => by
    unfold rvV rvF
    by_cases h1 : x < n
    · rw [if_pos h1, if_neg (by omega)]; exact hf x h1
    · rw [if_neg h1]
  clear h hf hL
  have e0 : wrap64 ((n : Int) - 1) = (n : Int) - 1 := by unfold wrap64; omega
  go_enter Try.func34, Try.ntmps34
  go_wp2_with fail
  go_loopw [2, 3] (fun i j wr => ∃ k J : Nat, k + J + 1 = n ∧ i = .int .i64 (k : Int) ∧ j = .int .i64 (J : Int) ∧ k ≤ J + 1 ∧ wr.rowIs r 3 C (rvV L f n k) ∧ Below r w wr) (fun i j wr => n - (intOf i).toNat)
  case atStart => exact ⟨0, n - 1, by omega, rfl, by simp; omega, by omega, HR.out, Below.refl _ _⟩
  case round =>
    clear HR
    obtain ⟨k, J, hs, rfl, rfl, hkJ, hr, hbl⟩ := hrel
    by_cases hlt : k < J
    · have c1 : wr.cell? ⟨r, k, none⟩ = some (.int .i64 (L.getD k 0)) := by rw [hr.cell (by omega), rvV_in (by omega) (by omega)]
      have c2 : wr.cell? ⟨r, J, none⟩ = some (.int .i64 (L.getD J 0)) := by rw [hr.cell (by omega), rvV_in (by omega) (by omega)]
      have f1 := hr.frozen k
      have f2 := hr.frozen J
      obtain ⟨x, hx⟩ : ∃ x, x = L.getD k 0 := ⟨_, rfl⟩
      obtain ⟨y, hy⟩ : ∃ y, y = L.getD J 0 := ⟨_, rfl⟩
      rw [← hx] at c1
      rw [← hy] at c2
      have HQ : Hid (∀ wz : World, wz.heap[r]? = ((wr.setCell ⟨r, k, none⟩ (.int .i64 y)).setCell ⟨r, J, none⟩ (.int .i64 x)).heap[r]? → wz.rowIs r 3 C (rvV L f n (k + 1))) := fun wz hz => ((hr.set k (.int .i64 y)).set J (.int .i64 x)).congr (fun j _ => by rw [rvV_step hs hlt, hx, hy]) |>.of_block hz
      clear hr hx hy
      have l1 : (k : Int) < (J : Int) := by omega
      have l2 : (k : Int) < (n : Int) := by omega
      have l3 : (J : Int) < (n : Int) := by omega
      have e1 : wrap64 ((k : Int) + 1) = (k : Int) + 1 := by unfold wrap64; omega
      have e2 : wrap64 ((J : Int) - 1) = (J : Int) - 1 := by unfold wrap64; omega
      have nkJ : k ≠ J := by omega
      go_wp2_with fail
      go_region
      all_goals
        go_wp2_with fail
        refine ⟨⟨k + 1, J - 1, by omega, by go_num, by simp; omega, by omega, HQ.out _ ?_, ?_⟩, by simp [intOf]; omega⟩
        · first | rfl | (trace_state; done)
        · go_grown
    · have l1 : ¬ (k : Int) < (J : Int) := by omega
      have HF : Hid (Li wr r 0 L.reverse) := by
        intro j hj
        rw [List.length_reverse, HL.out] at hj
        rw [Nat.zero_add, hr.cell (by omega)]
        unfold rvV rvF
        have e : (L.reverse).getD j 0 = L.getD (n - 1 - j) 0 := by
          rw [List.getD_eq_getElem?_getD, List.getElem?_reverse (by rw [HL.out]; exact hj), HL.out, ← List.getD_eq_getElem?_getD]
        rw [if_pos hj, e]
        by_cases h1 : j < k ∨ n ≤ j + k
        · rw [if_pos h1]
        · rw [if_neg h1, show n - 1 - j = j by omega]
      clear hr
      go_wp2_with fail
      go_end0
      exact ⟨rfl, HF.out, hbl⟩
end Go.Proofs.Ytjmbicaacplolaa
