/- Plain: what holds while literals are followed; a clause that is turned to. -/
import Derived.Test.YtkndjndhjdfhcaaST18
namespace Go.Proofs.Ytkndjndhjdfhcaa
open Go.RowKit
set_option linter.unusedSimpArgs false
set_option linter.unusedVariables false

/-- Clause r watches literal x. -/
def Wch (C : List (List Int)) (P : Nat → Nat × Nat) (r x : Int) : Prop := ∃ (i : Nat) (c : List Int), r = (i : Int) ∧ C[i]? = some c ∧ 2 ≤ c.length ∧ (c.getD (P i).1 0 = x ∨ c.getD (P i).2 0 = x)
/-- T: what is true; Pr: those that were followed; Q: the clauses of l's list that are still to be seen to. -/
structure Iv (C : List (List Int)) (M : List (Nat × Nat)) (P : Nat → Nat × Nat) (T Pr : List Int) (l : Int) (Q : List Int) : Prop where
  lit : ∀ x ∈ T, isL x = true
  nd : T.Nodup
  cons : ∀ x ∈ T, -x ∉ T
  sub : ∀ x ∈ Pr, x ∈ T
  pl : ∀ (i : Nat) c, C[i]? = some c → 2 ≤ c.length → (P i).1 < c.length ∧ (P i).2 < c.length ∧ (P i).1 ≠ (P i).2
  fal : ∀ (i : Nat) c, C[i]? = some c → 2 ≤ c.length → ∀ j, j < c.length → (j < (P i).1 ∨ j < (P i).2) → j ≠ (P i).1 → j ≠ (P i).2 → -(c.getD j 0) ∈ T
  i2 : ∀ (i : Nat) c, C[i]? = some c → 2 ≤ c.length → ∀ p q, (P i = (p, q) ∨ P i = (q, p)) → -(c.getD p 0) ∈ Pr → (c.getD p 0 = l ∧ (i : Int) ∈ Q) ∨ c.getD q 0 ∈ T
  wa : ∀ (i : Nat) c, C[i]? = some c → 2 ≤ c.length → (i : Int) ∈ wl C M (cd (c.getD (P i).1 0)) ∧ (i : Int) ∈ wl C M (cd (c.getD (P i).2 0))
  wb : ∀ x, -x ∉ Pr → ∀ r ∈ wl C M (cd x), Wch C P r x
  wn : ∀ x, -x ∉ Pr → (wl C M (cd x)).Nodup
  qb : ∀ r ∈ Q, Wch C P r l
  qn : Q.Nodup
  cur : Q ≠ [] → -l ∈ Pr
theorem getD_ne {c : List Int} (h : c.Nodup) {i j : Nat} (hi : i < c.length) (hj : j < c.length) (hij : i ≠ j) : c.getD i 0 ≠ c.getD j 0 := by
  rw [List.getD_eq_getElem?_getD, List.getD_eq_getElem?_getD, List.getElem?_eq_getElem hi, List.getElem?_eq_getElem hj]
  intro e
  rcases Nat.lt_or_gt_of_ne hij with h1 | h1
  · exact List.pairwise_iff_getElem.1 h i j hi hj h1 e
  · exact List.pairwise_iff_getElem.1 h j i hj hi h1 e.symm
theorem pair_of {x : Nat × Nat} {p q : Nat} (h : x = (p, q) ∨ x = (q, p)) : ((x.1 = p ∧ x.2 = q) ∨ (x.1 = q ∧ x.2 = p)) := by
  rcases h with rfl | rfl
  · exact Or.inl ⟨rfl, rfl⟩
  · exact Or.inr ⟨rfl, rfl⟩
theorem pair_sw {x : Nat × Nat} {p q p' q' : Nat} (h : x = (p, q) ∨ x = (q, p)) (h' : x = (p', q') ∨ x = (q', p')) : (p' = p ∧ q' = q) ∨ (p' = q ∧ q' = p) := by
  rcases h with rfl | rfl <;> rcases h' with e | e <;> injection e with e1 e2 <;> subst e1 <;> subst e2 <;> simp
section
variable {C : List (List Int)} {M : List (Nat × Nat)} {P : Nat → Nat × Nat} {T Pr : List Int} {l : Int} {Q : List Int} {i : Nat} {c : List Int} {p q : Nat}
theorem Iv.start (hok : ∀ c ∈ C, Okc c) : Iv C [] (fun _ => (0, 1)) [] [] 0 [] := by
  refine ⟨(fun x h => nomatch h), List.nodup_nil, (fun x h => nomatch h), (fun x h => nomatch h), fun i c hi h2 => ⟨by show 0 < _; omega, by show 1 < _; omega, by show 0 ≠ 1; omega⟩, fun i c hi h2 j hj h1 h3 h4 => ?_, fun i c hi h2 p q _ h => (nomatch h), fun i c hi h2 => ?_, fun x _ r hr => ?_, fun x _ => ?_, (fun r h => nomatch h), List.nodup_nil, fun h => absurd rfl h⟩
  · exfalso
    have h1' : j < 0 ∨ j < 1 := h1
    have h3' : j ≠ 0 := h3
    omega
  · have h0 : wl C [] = fun k => ixs (wt k) C := by funext k; unfold wl mv; simp
    rw [h0]
    refine ⟨mem_ixs.2 ⟨i, c, hi, ?_, rfl⟩, mem_ixs.2 ⟨i, c, hi, ?_, rfl⟩⟩ <;> unfold wt <;> simp [h2]
  · have h0 : wl C [] (cd x) = ixs (wt (cd x)) C := by unfold wl mv; simp
    rw [h0] at hr
    obtain ⟨i, c, hi, hw, rfl⟩ := mem_ixs.1 hr
    unfold wt at hw
    simp only [Bool.and_eq_true, Bool.or_eq_true, decide_eq_true_eq] at hw
    refine ⟨i, c, rfl, hi, hw.1, ?_⟩
    rcases hw.2 with e | e
    · exact Or.inl (cd_inj e)
    · exact Or.inr (cd_inj e)
  · have h0 : wl C [] (cd x) = ixs (wt (cd x)) C := by unfold wl mv; simp
    rw [h0]; exact ixs_nodup _ _
/-- What a step knows of the clause that it sees to. -/
structure Now (C : List (List Int)) (P : Nat → Nat × Nat) (T Pr : List Int) (l : Int) (i : Nat) (c : List Int) (p q : Nat) : Prop where
  hi : C[i]? = some c
  ok : Okc c
  h2 : 2 ≤ c.length
  pq : P i = (p, q) ∨ P i = (q, p)
  mine : c.getD p 0 = l
  hp : p < c.length
  hq : q < c.length
  ne : p ≠ q
  off : -l ∈ T
theorem Iv.now (h : Iv C M P T Pr l ((i : Int) :: Q)) (hok : ∀ c ∈ C, Okc c) : ∃ c p q, Now C P T Pr l i c p q := by
  obtain ⟨i', c, e, hi, h2, hw⟩ := h.qb _ (List.mem_cons_self ..)
  obtain rfl : i = i' := by omega
  obtain ⟨h3, h4, h5⟩ := h.pl i c hi h2
  have hl : -l ∈ T := h.sub _ (h.cur (by simp))
  rcases hw with hw | hw
  · exact ⟨c, _, _, ⟨hi, hok c (List.mem_of_getElem? hi), h2, Or.inl rfl, hw, h3, h4, h5, hl⟩⟩
  · exact ⟨c, _, _, ⟨hi, hok c (List.mem_of_getElem? hi), h2, Or.inr rfl, hw, h4, h3, fun e => h5 e.symm, hl⟩⟩
theorem Iv.keep (h : Iv C M P T Pr l ((i : Int) :: Q)) (n : Now C P T Pr l i c p q) (ht : c.getD q 0 ∈ T) : Iv C M P T Pr l Q := by
  refine ⟨h.lit, h.nd, h.cons, h.sub, h.pl, h.fal, fun i' c' hi' h2' p' q' hpq hf => ?_, h.wa, h.wb, h.wn, fun r hr => h.qb r (List.mem_cons_of_mem _ hr), (List.nodup_cons.1 h.qn).2, fun _ => h.cur (by simp)⟩
  rcases h.i2 i' c' hi' h2' p' q' hpq hf with ⟨h3, h4⟩ | h3
  · rcases List.mem_cons.1 h4 with h4 | h4
    · obtain rfl : i' = i := by omega
      obtain rfl : c' = c := by rw [n.hi] at hi'; exact (Option.some.inj hi').symm
      right
      rcases pair_sw n.pq hpq with ⟨rfl, rfl⟩ | ⟨rfl, rfl⟩
      · exact ht
      · exfalso
        rw [← n.mine] at h3
        exact getD_ne n.ok.once n.hq n.hp (fun e => n.ne e.symm) h3
    · exact Or.inl ⟨h3, h4⟩
  · exact Or.inr h3
theorem Iv.others (h : Iv C M P T Pr l ((i : Int) :: Q)) (n : Now C P T Pr l i c p q) {z : Nat} (hz : max p q < z) (hall : ∀ j, max p q < j → j < z → j < c.length → -(c.getD j 0) ∈ T) : ∀ j, j < z → j < c.length → j ≠ q → -(c.getD j 0) ∈ T := by
  intro j h1 h2 h3
  by_cases h4 : j = p
  · rw [h4, n.mine]; exact n.off
  · by_cases h5 : max p q < j
    · exact hall j h5 h1 h2
    · have h6 : j < p ∨ j < q := by omega
      refine h.fal i c n.hi n.h2 j h2 ?_ ?_ ?_
      · rcases pair_of n.pq with ⟨e1, e2⟩ | ⟨e1, e2⟩ <;> rw [e1, e2] <;> omega
      · rcases pair_of n.pq with ⟨e1, e2⟩ | ⟨e1, e2⟩ <;> rw [e1] <;> omega
      · rcases pair_of n.pq with ⟨e1, e2⟩ | ⟨e1, e2⟩ <;> rw [e2] <;> omega
/-- It watches another literal from now on. -/
theorem Iv.move (h : Iv C M P T Pr l ((i : Int) :: Q)) (n : Now C P T Pr l i c p q) {z : Nat} (hz : max p q < z) (hzl : z < c.length) (hall : ∀ j, max p q < j → j < z → j < c.length → -(c.getD j 0) ∈ T) (hno : -(c.getD z 0) ∉ T) {x : Nat × Nat} (hx : (P i = (p, q) ∧ x = (z, q)) ∨ (P i = (q, p) ∧ x = (q, z))) :
    Iv C (M ++ [(i, cd (c.getD z 0))]) (upP P i x) T Pr l Q := by
  have hoth := h.others n hz hall
  have hxx : x = (z, q) ∨ x = (q, z) := by
    rcases hx with ⟨-, e⟩ | ⟨-, e⟩
    · exact Or.inl e
    · exact Or.inr e
  have hx1 : upP P i x i = x := by unfold upP; rw [if_pos rfl]
  have hxo : ∀ j, j ≠ i → upP P i x j = P j := fun j hj => by unfold upP; rw [if_neg hj]
  have hcur : -l ∈ Pr := h.cur (by simp)
  have hwl : ∀ k r, r ∈ wl C M k → r ∈ wl C (M ++ [(i, cd (c.getD z 0))]) k := fun k r hr => by
    unfold wl at *
    rw [mv_snoc]
    rcases List.mem_append.1 hr with hr | hr
    · exact List.mem_append_left _ hr
    · exact List.mem_append_right _ (List.mem_append_left _ hr)
  have hwr : ∀ k r, r ∈ wl C (M ++ [(i, cd (c.getD z 0))]) k → r ∈ wl C M k ∨ (k = cd (c.getD z 0) ∧ r = (i : Int)) := fun k r hr => by
    unfold wl at *
    rw [mv_snoc] at hr
    rcases List.mem_append.1 hr with hr | hr
    · exact Or.inl (List.mem_append_left _ hr)
    · rcases List.mem_append.1 hr with hr | hr
      · exact Or.inl (List.mem_append_right _ hr)
      · by_cases e : cd (c.getD z 0) = k
        · rw [if_pos e] at hr
          exact Or.inr ⟨e.symm, List.mem_singleton.1 hr⟩
        · rw [if_neg e] at hr; cases hr
  refine ⟨h.lit, h.nd, h.cons, h.sub, fun i' c' hi' h2' => ?_, fun i' c' hi' h2' j hj h1 h3 h4 => ?_, fun i' c' hi' h2' p' q' hpq hf => ?_, fun i' c' hi' h2' => ?_, fun y hy r hr => ?_, fun y hy => ?_, fun r hr => ?_, (List.nodup_cons.1 h.qn).2, fun _ => hcur⟩
  · by_cases e : i' = i
    · subst e
      obtain rfl : c' = c := by rw [n.hi] at hi'; exact (Option.some.inj hi').symm
      rw [hx1]
      rcases hxx with rfl | rfl
      · exact ⟨hzl, n.hq, by show z ≠ q; omega⟩
      · exact ⟨n.hq, hzl, by show q ≠ z; omega⟩
    · rw [hxo i' e]; exact h.pl i' c' hi' h2'
  · by_cases e : i' = i
    · subst e
      obtain rfl : c' = c := by rw [n.hi] at hi'; exact (Option.some.inj hi').symm
      rw [hx1] at h1 h3 h4
      have hjz : j < z ∧ j ≠ q := by
        rcases hxx with rfl | rfl
        · have h1' : j < z ∨ j < q := h1
          have h4' : j ≠ q := h4
          omega
        · have h1' : j < q ∨ j < z := h1
          have h3' : j ≠ q := h3
          omega
      exact hoth j hjz.1 hj hjz.2
    · rw [hxo i' e] at h1 h3 h4
      exact h.fal i' c' hi' h2' j hj h1 h3 h4
  · by_cases e : i' = i
    · subst e
      obtain rfl : c' = c := by rw [n.hi] at hi'; exact (Option.some.inj hi').symm
      rw [hx1] at hpq
      rcases pair_sw hxx hpq with ⟨e1, e2⟩ | ⟨e1, e2⟩
      · rw [e1] at hf
        exact absurd (h.sub _ hf) hno
      · exfalso
        rw [e1] at hf
        rcases h.i2 i' c' n.hi n.h2 q p (by rcases n.pq with e | e; exact Or.inr e; exact Or.inl e) hf with ⟨h3, -⟩ | h3
        · rw [← n.mine] at h3
          exact getD_ne n.ok.once n.hq n.hp (fun e => n.ne e.symm) h3
        · rw [n.mine] at h3
          exact h.cons l h3 n.off
    · rw [hxo i' e] at hpq
      rcases h.i2 i' c' hi' h2' p' q' hpq hf with ⟨h3, h4⟩ | h3
      · rcases List.mem_cons.1 h4 with h4 | h4
        · exact absurd (by omega : i' = i) e
        · exact Or.inl ⟨h3, h4⟩
      · exact Or.inr h3
  · by_cases e : i' = i
    · subst e
      obtain rfl : c' = c := by rw [n.hi] at hi'; exact (Option.some.inj hi').symm
      rw [hx1]
      have hnew : (i' : Int) ∈ wl C (M ++ [(i', cd (c'.getD z 0))]) (cd (c'.getD z 0)) := by
        unfold wl
        rw [mv_snoc, if_pos rfl]
        exact List.mem_append_right _ (List.mem_append_right _ (List.mem_singleton.2 rfl))
      have hold : (i' : Int) ∈ wl C (M ++ [(i', cd (c'.getD z 0))]) (cd (c'.getD q 0)) := by
        obtain ⟨w1, w2⟩ := h.wa i' c' n.hi n.h2
        rcases pair_of n.pq with ⟨e1, e2⟩ | ⟨e1, e2⟩
        · rw [e2] at w2; exact hwl _ _ w2
        · rw [e1] at w1; exact hwl _ _ w1
      rcases hxx with rfl | rfl
      · exact ⟨hnew, hold⟩
      · exact ⟨hold, hnew⟩
    · rw [hxo i' e]
      obtain ⟨w1, w2⟩ := h.wa i' c' hi' h2'
      exact ⟨hwl _ _ w1, hwl _ _ w2⟩
  · rcases hwr _ _ hr with hr | ⟨e, rfl⟩
    · obtain ⟨i', c', rfl, hi', h2', hw⟩ := h.wb y hy r hr
      refine ⟨i', c', rfl, hi', h2', ?_⟩
      by_cases e : i' = i
      · subst e
        obtain rfl : c' = c := by rw [n.hi] at hi'; exact (Option.some.inj hi').symm
        rw [hx1]
        have hyl : y ≠ l := fun e => hy (by rw [e]; exact hcur)
        have hq : c'.getD q 0 = y := by
          rcases pair_of n.pq with ⟨e1, e2⟩ | ⟨e1, e2⟩
          · rw [e1, e2] at hw
            rcases hw with hw | hw
            · exact absurd (hw.symm.trans n.mine) hyl
            · exact hw
          · rw [e1, e2] at hw
            rcases hw with hw | hw
            · exact hw
            · exact absurd (hw.symm.trans n.mine) hyl
        rcases hxx with rfl | rfl
        · exact Or.inr hq
        · exact Or.inl hq
      · rw [hxo i' e]; exact hw
    · refine ⟨i, c, rfl, n.hi, n.h2, ?_⟩
      rw [hx1]
      have e2 := cd_inj e
      rcases hxx with rfl | rfl
      · exact Or.inl e2.symm
      · exact Or.inr e2.symm
  · have h1 := h.wn y hy
    have h3 : wl C (M ++ [(i, cd (c.getD z 0))]) (cd y) = wl C M (cd y) ++ (if cd (c.getD z 0) = cd y then [(i : Int)] else []) := by
      unfold wl; rw [mv_snoc, List.append_assoc]
    rw [h3]
    by_cases e : cd (c.getD z 0) = cd y
    · rw [if_pos e, List.nodup_append]
      refine ⟨h1, by simp, fun a ha b hb hab => ?_⟩
      rw [List.mem_singleton.1 hb] at hab
      subst hab
      obtain ⟨i', c', ee, hi', h2', hw⟩ := h.wb y hy _ ha
      obtain rfl : i = i' := by omega
      obtain rfl : c' = c := by rw [n.hi] at hi'; exact (Option.some.inj hi').symm
      have ey := cd_inj e
      rw [← ey] at hw
      rcases pair_of n.pq with ⟨e1, e2⟩ | ⟨e1, e2⟩
      · rw [e1, e2] at hw
        rcases hw with hw | hw
        · exact getD_ne n.ok.once n.hp hzl (by omega) hw
        · exact getD_ne n.ok.once n.hq hzl (by omega) hw
      · rw [e1, e2] at hw
        rcases hw with hw | hw
        · exact getD_ne n.ok.once n.hq hzl (by omega) hw
        · exact getD_ne n.ok.once n.hp hzl (by omega) hw
    · rw [if_neg e, List.append_nil]; exact h1
  · obtain ⟨i', c', rfl, hi', h2', hw⟩ := h.qb r (List.mem_cons_of_mem _ hr)
    have e : i' ≠ i := fun e => (List.nodup_cons.1 h.qn).1 (by rw [← e]; exact hr)
    exact ⟨i', c', rfl, hi', h2', by rw [hxo i' e]; exact hw⟩
/-- One more literal is true. -/
theorem Iv.told (h : Iv C M P T Pr l Q) {x : Int} (hx : isL x = true) (h1 : x ∉ T) (h3 : -x ∉ T) : Iv C M P (T ++ [x]) Pr l Q := by
  refine ⟨fun y hy => ?_, ?_, fun y hy hn => ?_, fun y hy => List.mem_append_left _ (h.sub y hy), h.pl, fun i' c' hi' h2' j hj q1 q2 q3 => List.mem_append_left _ (h.fal i' c' hi' h2' j hj q1 q2 q3), fun i' c' hi' h2' p' q' hpq hf => ?_, h.wa, h.wb, h.wn, h.qb, h.qn, h.cur⟩
  · rcases List.mem_append.1 hy with hy | hy
    · exact h.lit y hy
    · rw [List.mem_singleton.1 hy]; exact hx
  · rw [List.nodup_append]
    exact ⟨h.nd, by simp, fun a ha b hb e => by rw [List.mem_singleton.1 hb] at e; rw [e] at ha; exact h1 ha⟩
  · have hx0 := isL_ne hx
    rcases List.mem_append.1 hy with hy | hy
    · rcases List.mem_append.1 hn with hn | hn
      · exact h.cons y hy hn
      · have := List.mem_singleton.1 hn
        exact h3 (by rw [← this, Int.neg_neg]; exact hy)
    · rw [List.mem_singleton.1 hy] at hn
      rcases List.mem_append.1 hn with hn | hn
      · exact h3 hn
      · have := List.mem_singleton.1 hn
        omega
  · rcases h.i2 i' c' hi' h2' p' q' hpq hf with h4 | h4
    · exact Or.inl h4
    · exact Or.inr (List.mem_append_left _ h4)
/-- Its last one left is set. -/
theorem Iv.unit (h : Iv C M P T Pr l ((i : Int) :: Q)) (n : Now C P T Pr l i c p q) (h1 : c.getD q 0 ∉ T) (h3 : -(c.getD q 0) ∉ T) : Iv C M P (T ++ [c.getD q 0]) Pr l Q :=
  Iv.keep (h.told (n.ok.lit _ (getD_mem n.hq)) h1 h3) ⟨n.hi, n.ok, n.h2, n.pq, n.mine, n.hp, n.hq, n.ne, List.mem_append_left _ n.off⟩ (by simp)
/-- A literal of the told ones is followed. -/
theorem Iv.next (h : Iv C M P T Pr l []) {x : Int} (hx : x ∈ T) (hn : x ∉ Pr) : Iv C M P T (Pr ++ [x]) (-x) (wl C M (cd (-x))) := by
  have hx' : - -x ∉ Pr := by rw [Int.neg_neg]; exact hn
  refine ⟨h.lit, h.nd, h.cons, fun y hy => ?_, h.pl, h.fal, fun i' c' hi' h2' p' q' hpq hf => ?_, h.wa, fun y hy => h.wb y (fun e => hy (List.mem_append_left _ e)), fun y hy => h.wn y (fun e => hy (List.mem_append_left _ e)), h.wb _ hx', h.wn _ hx', fun _ => ?_⟩
  · rcases List.mem_append.1 hy with hy | hy
    · exact h.sub y hy
    · rw [List.mem_singleton.1 hy]; exact hx
  · rcases List.mem_append.1 hf with hf | hf
    · rcases h.i2 i' c' hi' h2' p' q' hpq hf with ⟨-, h4⟩ | h4
      · cases h4
      · exact Or.inr h4
    · have e := List.mem_singleton.1 hf
      have e2 : c'.getD p' 0 = -x := by omega
      refine Or.inl ⟨e2, ?_⟩
      obtain ⟨w1, w2⟩ := h.wa i' c' hi' h2'
      rw [← e2]
      rcases hpq with e3 | e3
      · rw [e3] at w1; exact w1
      · rw [e3] at w2; exact w2
  · rw [Int.neg_neg]; simp
theorem Iv.done (h : Iv C M P T Pr l []) (l' : Int) : Iv C M P T Pr l' [] :=
  ⟨h.lit, h.nd, h.cons, h.sub, h.pl, h.fal, fun i' c' hi' h2' p' q' hpq hf => by
    rcases h.i2 i' c' hi' h2' p' q' hpq hf with ⟨-, h4⟩ | h4
    · cases h4
    · exact Or.inr h4, h.wa, h.wb, h.wn, (fun r h => nomatch h), List.nodup_nil, fun h => absurd rfl h⟩
end
end Go.Proofs.Ytkndjndhjdfhcaa
