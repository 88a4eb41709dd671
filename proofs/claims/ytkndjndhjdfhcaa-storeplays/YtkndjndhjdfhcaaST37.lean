/- What follows, as a set. -/
import Derived.Test.YtkndjndhjdfhcaaST36
namespace Go.Proofs.Ytkndjndhjdfhcaa
open Go.RowKit
set_option linter.unusedSimpArgs false
set_option linter.unusedVariables false

theorem der_sub {C : List (List Int)} {I T S : List Int} (h : Der C I T) (hI : ∀ x ∈ I, x ∈ S) (hS : ∀ x ∈ S, -x ∉ S) (hc : Clo C S) : ∀ x ∈ T, x ∈ S := by
  have key : ∀ (i : Nat) x, T[i]? = some x → x ∈ S := by
    intro i
    induction i using Nat.strongRecOn with
    | _ i ih =>
      intro x hx
      rcases h i x hx with h1 | ⟨c, hcC, hxc, h2⟩
      · exact hI x h1
      · have h3 : ∀ y ∈ c, y ≠ x → -y ∈ S := fun y hy hne => by
          obtain ⟨j, hj⟩ := List.getElem?_of_mem (h2 y hy hne)
          have hji : j < i := by
            have := (List.getElem?_eq_some_iff.1 hj).1
            rw [List.length_take] at this; omega
          rw [List.getElem?_take_of_lt hji] at hj
          exact ih j hji _ hj
        rcases hc c hcC with ⟨y, hy, hyS⟩ | ⟨y, hy, z, hz, hne, hyn, hzn⟩
        · by_cases e : y = x
          · rw [← e]; exact hyS
          · exact absurd (h3 y hy e) (hS y hyS)
        · by_cases e : y = x
          · exact absurd (h3 z hz (fun e2 => hne (e.trans e2.symm))) hzn
          · exact absurd (h3 y hy e) hyn
  intro x hx
  obtain ⟨i, hi⟩ := List.getElem?_of_mem hx
  exact key i x hi
/-- No clause of a closed set is false. -/
theorem clo_not {C : List (List Int)} {S : List Int} (hS : ∀ x ∈ S, -x ∉ S) (hc : Clo C S) {c : List Int} (hcC : c ∈ C) (hf : ∀ y ∈ c, -y ∈ S) : False := by
  rcases hc c hcC with ⟨y, hy, hyS⟩ | ⟨y, hy, z, hz, hne, hyn, hzn⟩
  · exact hS y hyS (hf y hy)
  · exact hyn (hf y hy)
theorem Clo.sub {C C' : List (List Int)} {S : List Int} (hc : Clo C S) (h : ∀ c ∈ C', c ∈ C) : Clo C' S := fun c hcC => hc c (h c hcC)
theorem take_mem {l : List Int} {k : Nat} {x : Int} (h : x ∈ l.take k) : x ∈ l := List.mem_of_mem_take h
theorem take_le {l : List Int} {k j : Nat} (h : k ≤ j) {x : Int} (hx : x ∈ l.take k) : x ∈ l.take j := by
  have : l.take k = (l.take j).take k := by rw [List.take_take, Nat.min_eq_left h]
  rw [this] at hx
  exact List.mem_of_mem_take hx
theorem at_take {l : List Int} {k j : Nat} {x : Int} (h : l[k]? = some x) (hj : k < j) : x ∈ l.take j := by
  have : (l.take j)[k]? = some x := by rw [List.getElem?_take_of_lt hj]; exact h
  exact List.mem_of_getElem? this
/-- Where nothing is met, no other order and no fewer clauses meet anything: and all that they tell follows. -/
theorem fol_one {C C' : List (List Int)} {lits lits' T T' : List Int} {r' : Int} (h : FolR C lits T (-1)) (h' : FolR C' lits' T' r') (hC : ∀ c ∈ C', c ∈ C) (hl : ∀ x ∈ lits', x ∈ lits) : r' = -1 ∧ ∀ x ∈ T', x ∈ T := by
  obtain ⟨k, hk, hd, hL, hn, hcs, hin, hend⟩ := h
  have h1 : k = lits.length ∧ Clo C T := by
    rcases hend with ⟨-, a, b⟩ | ⟨a, -⟩ | ⟨i, c, a, -⟩
    · exact ⟨a, b⟩
    · omega
    · omega
  obtain ⟨rfl, hclo⟩ := h1
  rw [List.take_length] at hin
  obtain ⟨k', hk', hd', hL', hn', hcs', hin', hend'⟩ := h'
  have hsub : ∀ x ∈ T', x ∈ T := der_sub hd' (fun x hx => hin x (hl x (take_mem hx))) hcs (hclo.sub hC)
  refine ⟨?_, hsub⟩
  rcases hend' with ⟨a, -⟩ | ⟨-, -, x, hx, h2⟩ | ⟨i, c, -, hci, hf, -⟩
  · exact a
  · exfalso
    have hxT := hin x (hl x (List.mem_of_getElem? hx))
    rcases h2 with h2 | h2
    · rw [hL x hxT] at h2; cases h2
    · exact hcs x hxT (hsub _ h2)
  · exact absurd (fun y hy => hsub _ (hf y hy)) (clo_not hcs hclo (hC c (List.mem_of_getElem? hci)))
/-- Two that are refused at the same clauses tell the same. -/
theorem fol_two {C : List (List Int)} {lits T T' : List Int} (h : FolR C lits T (-2)) (h' : FolR C lits T' (-2)) : ∀ x, x ∈ T ↔ x ∈ T' := by
  obtain ⟨k, hk, hd, hL, hn, hcs, hin, hend⟩ := h
  obtain ⟨k', hk', hd', hL', hn', hcs', hin', hend'⟩ := h'
  have h1 : Clo C T ∧ ∃ x, lits[k]? = some x ∧ (isL x = false ∨ -x ∈ T) := by
    rcases hend with ⟨a, -⟩ | ⟨-, a, b⟩ | ⟨i, c, a, -⟩
    · omega
    · exact ⟨a, b⟩
    · omega
  have h2 : Clo C T' ∧ ∃ x, lits[k']? = some x ∧ (isL x = false ∨ -x ∈ T') := by
    rcases hend' with ⟨a, -⟩ | ⟨-, a, b⟩ | ⟨i, c, a, -⟩
    · omega
    · exact ⟨a, b⟩
    · omega
  obtain ⟨c1, x, hx, e1⟩ := h1
  obtain ⟨c2, x', hx', e2⟩ := h2
  have e : k = k' := by
    rcases Nat.lt_trichotomy k k' with hlt | he | hlt
    · exfalso
      have hs := der_sub hd (fun y hy => hin' y (take_le (by omega) hy)) hcs' c2
      have hxT := hin' x (at_take hx hlt)
      rcases e1 with e1 | e1
      · rw [hL' x hxT] at e1; cases e1
      · exact hcs' x hxT (hs _ e1)
    · exact he
    · exfalso
      have hs := der_sub hd' (fun y hy => hin y (take_le (by omega) hy)) hcs c1
      have hxT := hin x' (at_take hx' hlt)
      rcases e2 with e2 | e2
      · rw [hL x' hxT] at e2; cases e2
      · exact hcs x' hxT (hs _ e2)
  subst e
  exact fun y => ⟨fun hy => der_sub hd hin' hcs' c2 y hy, fun hy => der_sub hd' hin hcs c1 y hy⟩
/-- A conflict is met always or never. -/
theorem fol_clash {C : List (List Int)} {lits T T' : List Int} {i : Nat} {r' : Int} (h : FolR C lits T (i : Int)) (h' : FolR C lits T' r') : 0 ≤ r' := by
  obtain ⟨k, hk, hd, hL, hn, hcs, hin, hend⟩ := h
  obtain ⟨k', hk', hd', hL', hn', hcs', hin', hend'⟩ := h'
  have h1 : ∃ c, c ∈ C ∧ (∀ y ∈ c, -y ∈ T) ∧ (k = 0 ∨ ∃ T0 x, T0 <+: T ∧ Clo C T0 ∧ lits[k - 1]? = some x ∧ isL x = true ∧ -x ∉ T0 ∧ ∀ y ∈ lits.take (k - 1), y ∈ T0) := by
    rcases hend with ⟨a, -⟩ | ⟨a, -⟩ | ⟨i, c, -, a, b, d⟩
    · omega
    · omega
    · exact ⟨c, List.mem_of_getElem? a, b, d⟩
  obtain ⟨c, hcC, hf, hT0⟩ := h1
  have hno : Clo C T' → (∀ y ∈ lits.take k, y ∈ T') → False := fun hc' hi =>
    clo_not hcs' hc' hcC fun y hy => der_sub hd hi hcs' hc' _ (hf y hy)
  rcases hend' with ⟨a, b, hclo⟩ | ⟨a, hclo, x', hx', e⟩ | ⟨i', c', a, -⟩
  · exact (hno hclo fun y hy => hin' y (by rw [b, List.take_length]; exact take_mem hy)).elim
  · exfalso
    by_cases hkk : k ≤ k'
    · exact hno hclo fun y hy => hin' y (take_le hkk hy)
    · rcases hT0 with h0 | ⟨T0, x, hp, hc0, hx, hLx, hnx, hin0⟩
      · omega
      · have hT0T : ∀ y ∈ T0, y ∈ T := fun y hy => hp.subset hy
        have hcs0 : ∀ y ∈ T0, -y ∉ T0 := fun y hy hn => hcs y (hT0T y hy) (hT0T _ hn)
        have hs : ∀ y ∈ T', y ∈ T0 := der_sub hd' (fun y hy => hin0 y (take_le (by omega) hy)) hcs0 hc0
        by_cases hlt : k' < k - 1
        · have hxT := hin0 x' (at_take hx' hlt)
          rcases e with e | e
          · rw [hL x' (hT0T _ hxT)] at e; cases e
          · exact hcs0 x' hxT (hs _ e)
        · have hkk' : k' = k - 1 := by omega
          rw [hkk', hx] at hx'
          injection hx' with hx'
          subst hx'
          rcases e with e | e
          · rw [hLx] at e; cases e
          · exact hnx (hs _ e)
  · omega
theorem fol_end {C : List (List Int)} {lits T : List Int} {r : Int} (h : FolR C lits T r) : r = -1 ∨ r = -2 ∨ ∃ i : Nat, r = (i : Int) ∧ i < C.length := by
  obtain ⟨k, hk, hd, hL, hn, hcs, hin, hend⟩ := h
  rcases hend with ⟨a, -⟩ | ⟨a, -⟩ | ⟨i, c, a, b, -⟩
  · exact Or.inl a
  · exact Or.inr (Or.inl a)
  · exact Or.inr (Or.inr ⟨i, a, (List.getElem?_eq_some_iff.1 b).1⟩)
/-- Asked twice: the same end, the same literals. -/
theorem fol_stays {C : List (List Int)} {lits T T' : List Int} {m n : Int} (h : FolR C lits T m) (h' : FolR C lits T' n) : (0 ≤ m ↔ 0 ≤ n) ∧ (m < 0 → m = n ∧ ∀ x, x ∈ T ↔ x ∈ T') := by
  rcases fol_end h with e | e | ⟨i, e, -⟩ <;> rcases fol_end h' with e' | e' | ⟨i', e', -⟩ <;> subst e <;> subst e'
  · exact ⟨Iff.rfl, fun _ => ⟨rfl, fun x => ⟨fun hx => (fol_one h' h (fun _ hc => hc) (fun _ hx => hx)).2 x hx, fun hx => (fol_one h h' (fun _ hc => hc) (fun _ hx => hx)).2 x hx⟩⟩⟩
  · exact absurd (fol_one h h' (fun _ hc => hc) (fun _ hx => hx)).1 (by decide)
  · exact absurd (fol_clash h' h) (by decide)
  · exact absurd (fol_one h' h (fun _ hc => hc) (fun _ hx => hx)).1 (by decide)
  · exact ⟨Iff.rfl, fun _ => ⟨rfl, fol_two h h'⟩⟩
  · exact absurd (fol_clash h' h) (by decide)
  · exact absurd (fol_clash h h') (by decide)
  · exact absurd (fol_clash h h') (by decide)
  · exact ⟨⟨fun _ => by omega, fun _ => by omega⟩, fun h0 => by omega⟩
theorem up_ext : ∀ {l m : List Int}, l.Pairwise (· < ·) → m.Pairwise (· < ·) → (∀ x, x ∈ l ↔ x ∈ m) → l = m
  | [], [], _, _, _ => rfl
  | [], y :: m, _, _, h => absurd ((h y).2 (List.mem_cons_self ..)) (by simp)
  | x :: l, [], _, _, h => absurd ((h x).1 (List.mem_cons_self ..)) (by simp)
  | x :: l, y :: m, hl, hm, h => by
    rw [List.pairwise_cons] at hl hm
    have e : x = y := by
      rcases List.mem_cons.1 ((h x).1 (List.mem_cons_self ..)) with h1 | h1
      · exact h1
      · rcases List.mem_cons.1 ((h y).2 (List.mem_cons_self ..)) with h2 | h2
        · exact h2.symm
        · have := hm.1 x h1; have := hl.1 y h2; omega
    subst e
    rw [up_ext hl.2 hm.2 fun z => ?_]
    constructor
    · intro hz
      rcases List.mem_cons.1 ((h z).1 (List.mem_cons_of_mem _ hz)) with h1 | h1
      · have := hl.1 z hz; omega
      · exact h1
    · intro hz
      rcases List.mem_cons.1 ((h z).2 (List.mem_cons_of_mem _ hz)) with h1 | h1
      · have := hm.1 z hz; omega
      · exact h1
/-- What the document's Set gives. -/
def set12 (c : List Int) : List Int := if c.all okZ then setF c else []
theorem setF_same {l m : List Int} (h : ∀ x, x ∈ l ↔ x ∈ m) : setF l = setF m := up_ext (setF_up l) (setF_up m) fun x => by rw [setF_mem, setF_mem]; exact h x
theorem all_same {l m : List Int} (h : ∀ x, x ∈ l ↔ x ∈ m) : l.all okZ = m.all okZ := by
  rw [Bool.eq_iff_iff, List.all_eq_true, List.all_eq_true]
  exact ⟨fun h1 x hx => h1 x ((h x).2 hx), fun h1 x hx => h1 x ((h x).1 hx)⟩
theorem set12_same {l m : List Int} (h : ∀ x, x ∈ l ↔ x ∈ m) : set12 l = set12 m := by
  unfold set12; rw [setF_same h, all_same h]
end Go.Proofs.Ytkndjndhjdfhcaa
