/- What is left of clauses (StoreFollow). -/
import Derived.Test.YtcbkgnalfdoemaaST45
namespace Go.Proofs.Ytcbkgnalfdoemaa
open Go.RowKit
set_option linter.unusedSimpArgs false
set_option linter.unusedVariables false

theorem leftF_true {S : List Int} : ∀ {c : List Int} {n : Nat}, (∃ y ∈ c, y ∈ S) → leftF S c n = (true, 0)
  | [], n, h => by obtain ⟨y, hy, -⟩ := h; cases hy
  | x :: c, n, h => by
    rw [leftF]
    by_cases hx : x ∈ S
    · rw [if_pos hx]
    · rw [if_neg hx]
      refine leftF_true ?_
      obtain ⟨y, hy, hS⟩ := h
      rcases List.mem_cons.1 hy with rfl | hy
      · exact absurd hS hx
      · exact ⟨y, hy, hS⟩
theorem leftF_false {S : List Int} : ∀ {c : List Int} {n : Nat}, (∀ y ∈ c, y ∉ S) → leftF S c n = (false, n + c.countP fun y => decide (-y ∉ S))
  | [], n, h => by simp [leftF]
  | x :: c, n, h => by
    rw [leftF, if_neg (h x (List.mem_cons_self ..)), leftF_false (fun y hy => h y (List.mem_cons_of_mem _ hy)), List.countP_cons]
    by_cases hx : -x ∈ S
    · rw [if_pos hx]; simp [hx]
    · rw [if_neg hx]; simp [hx]; omega
theorem count_one {c : List Int} {p : Int → Bool} {x : Int} (hn : c.Nodup) (hx : x ∈ c) (hp : p x = true) (h : ∀ y ∈ c, y ≠ x → p y = false) : c.countP p = 1 := by
  induction c with
  | nil => cases hx
  | cons y c ih =>
    rw [List.nodup_cons] at hn
    rw [List.countP_cons]
    by_cases e : y = x
    · subst e
      have h0 : c.countP p = 0 := List.countP_eq_zero.2 fun z hz => by
        rw [h z (List.mem_cons_of_mem _ hz) (fun e => hn.1 (by rw [← e]; exact hz))]; decide
      rw [h0, if_pos hp]
    · rw [h y (List.mem_cons_self ..) e, ih hn.2 (by rcases List.mem_cons.1 hx with h1 | h1; exact absurd h1.symm e; exact h1) (fun z hz => h z (List.mem_cons_of_mem _ hz))]
      rfl
theorem count_two {c : List Int} {p : Int → Bool} {x y : Int} (hx : x ∈ c) (hy : y ∈ c) (hne : x ≠ y) (hpx : p x = true) (hpy : p y = true) : 2 ≤ c.countP p := by
  induction c with
  | nil => cases hx
  | cons z c ih =>
    rw [List.countP_cons]
    rcases List.mem_cons.1 hx with e | h1
    · subst e
      rcases List.mem_cons.1 hy with e | h2
      · exact absurd e.symm hne
      · rw [if_pos hpx]
        have := List.countP_pos_iff.2 ⟨y, h2, hpy⟩
        omega
    · rcases List.mem_cons.1 hy with e | h2
      · subst e
        rw [if_pos hpy]
        have := List.countP_pos_iff.2 ⟨x, h1, hpx⟩
        omega
      · have := ih h1 h2; omega
/-- The last literal left. -/
theorem left_one {c S : List Int} {x : Int} (hn : c.Nodup) (hx : x ∈ c) (hxS : x ∉ S) (hxn : -x ∉ S) (hS : ∀ y ∈ S, -y ∉ S) (h : ∀ y ∈ c, y ≠ x → -y ∈ S) : leftF S c 0 = (false, 1) := by
  rw [leftF_false fun y hy hyS => ?_, count_one hn hx (by simp [hxn]) (fun y hy hne => by simp [h y hy hne])]
  by_cases e : y = x
  · subst e; exact hxS hyS
  · exact hS y hyS (h y hy e)
theorem left_none {c S : List Int} (hS : ∀ y ∈ S, -y ∉ S) (h : ∀ y ∈ c, -y ∈ S) : leftF S c 0 = (false, 0) := by
  rw [leftF_false fun y hy hyS => hS y hyS (h y hy), List.countP_eq_zero.2 fun y hy => by simp [h y hy]]
theorem left_clo {C : List (List Int)} {c S : List Int} (hclo : Clo C S) (hc : c ∈ C) : (leftF S c 0).1 = true ∨ 2 ≤ (leftF S c 0).2 := by
  by_cases ht : ∃ y ∈ c, y ∈ S
  · left; rw [leftF_true ht]
  · right
    rcases hclo c hc with h | ⟨y, hy, z, hz, hne, hyn, hzn⟩
    · exact absurd h ht
    · rw [leftF_false fun y hy hyS => ht ⟨y, hy, hyS⟩]
      have := count_two (p := fun y => decide (-y ∉ S)) hy hz hne (by simp [hyn]) (by simp [hzn])
      show 2 ≤ 0 + _
      omega
/-- The clause x follows by. -/
def rsn (S : List Int) (x : Int) (c : List Int) : Bool := (!(leftF S c 0).1 && (leftF S c 0).2 == 1) && decide (x ∈ c)
theorem fol_why {C : List (List Int)} {lits T : List Int} {r : Int} (h : FolR C lits T r) (hok : ∀ c ∈ C, c.Nodup) {i : Nat} {x : Int} (hx : T[i]? = some x) : x ∉ T.take i ∧ -x ∉ T.take i ∧ (x ∈ lits ∨ C.any (rsn (T.take i) x) = true) := by
  obtain ⟨k, hk, hd, hL, hn, hcs, hin, hend⟩ := h
  have hxT : x ∈ T := List.mem_of_getElem? hx
  have h1 : x ∉ T.take i := fun hm => by
    obtain ⟨j, hj⟩ := List.getElem?_of_mem hm
    have hji : j < i := by
      have := (List.getElem?_eq_some_iff.1 hj).1
      rw [List.length_take] at this; omega
    rw [List.getElem?_take_of_lt hji] at hj
    have := nodup_at hn hx hj
    omega
  have h2 : -x ∉ T.take i := fun hm => hcs x hxT (take_mem hm)
  refine ⟨h1, h2, ?_⟩
  rcases hd i x hx with h3 | ⟨c, hc, hxc, h3⟩
  · exact Or.inl (take_mem h3)
  · right
    rw [List.any_eq_true]
    refine ⟨c, hc, ?_⟩
    unfold rsn
    rw [left_one (hok c hc) hxc h1 h2 (fun y hy hyn => hcs y (take_mem hy) (take_mem hyn)) h3]
    simp [hxc]
end Go.Proofs.Ytcbkgnalfdoemaa
