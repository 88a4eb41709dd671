/- The store's walk: a place in the arena turned; how many moves there are; the state. -/
import Derived.Test.YtkndjndhjdfhcaaST22
namespace Go.Proofs.Ytkndjndhjdfhcaa
open Go.RowKit
set_option linter.unusedSimpArgs false
set_option linter.unusedVariables false

theorem is_set {w : World} {B r n cap : Nat} {l : List Int} (h : Is' w B (.slice (some ⟨r, 0, none⟩) n cap) l) {j : Nat} (x : Int) : Is' (w.setCell ⟨r, j, none⟩ (.int .i64 x)) B (.slice (some ⟨r, 0, none⟩) n cap) (l.set j x) ∨ ¬ j < l.length := by
  by_cases hj : j < l.length
  · left
    rcases h.2 with ⟨e, -⟩ | ⟨g, c, cur, e, hb, hg, hc, hm, hs, ht⟩
    · cases e
    · injection e with e1 e2 e3
      injection e1 with e1
      injection e1 with e1
      subst e1 e2 e3
      refine ⟨by simp, Or.inr ⟨r, cap, cur.setIfInBounds j (.int .i64 x), by simp, hb, by rw [heap_setCell_same _ _ _ _ _ _ hg], by simpa using hc, hm, by simpa using hs, ?_⟩⟩
      rw [Array.toList_setIfInBounds, List.length_set]
      rw [Nat.mul_one] at ht ⊢
      rw [List.take_set, ht, List.map_set]
  · exact Or.inr hj
section
variable {w : World} {F : Nat → Prop} {s mo : Nat} {va vb vs vw : Value} {us : List Value} {A B S : List Int} {W : List (List Int)}
/-- A number of the arena is written over. -/
theorem St.cell (h : St w F s mo va vb vs vw us A B S W) {ra na ca j : Nat} (hva : va = .slice (some ⟨ra, 0, none⟩) na ca) (hj : j < A.length) (x : Int) : St (w.setCell ⟨ra, j, none⟩ (.int .i64 x)) F s mo va vb vs vw us (A.set j x) B S W ∧ Ch w (w.setCell ⟨ra, j, none⟩ (.int .i64 x)) F F := by
  have hob : va.ownBlock = some ra := by rw [hva]; rfl
  have hFr : F ra := h.fam.foot 0 va ra rfl hob
  have hk : ∀ q, q ≠ ra → (w.setCell ⟨ra, j, none⟩ (.int .i64 x)).heap[q]? = w.heap[q]? := fun q hq => heap_setCell_other _ _ _ _ hq
  have hI : Is' (w.setCell ⟨ra, j, none⟩ (.int .i64 x)) 0 va (A.set j x) := by
    have h1 := h.ra
    rw [hva] at h1 ⊢
    rcases is_set h1 (j := j) x with h2 | h2
    · exact h2
    · exact absurd hj h2
  have hf := h.fam.put (w' := w.setCell ⟨ra, j, none⟩ (.int .i64 x)) (i := 0) rfl hI (fun k _ _ hn _ => hk k (fun e => hn (by rw [e]; exact hob))) (Or.inl rfl)
  have hf2 : Fam (w.setCell ⟨ra, j, none⟩ (.int .i64 x)) F (va :: vb :: vs :: us) (A.set j x :: B :: S :: W) :=
    ⟨hf.len, hf.row, fun i u b hu hb => h.fam.foot i u b hu hb, h.fam.sep⟩
  refine ⟨⟨(hk s (fun e => h.nos (i := 0) rfl (by rw [hob, e]))).trans h.hd, row_own h.row (fun b hb => hk b (fun e => h.now (i := 0) rfl (by rw [← e]; exact hb) hob)), hf2, h.fs, h.fw⟩, ⟨rfl, rfl, rfl, by rw [World.size_setCell]; exact Nat.le_refl _, fun q _ hn => hk q (fun e => hn (by rw [e]; exact hFr)), fun q hq => Or.inl hq⟩⟩
end
/-- The furthest places, counted. -/
def pm : Nat → (Nat → Nat × Nat) → Nat
  | 0, _ => 0
  | n + 1, P => pm n P + max (P n).1 (P n).2
theorem pm_congr : ∀ (n : Nat) (P P' : Nat → Nat × Nat), (∀ j, j < n → P j = P' j) → pm n P = pm n P'
  | 0, _, _, _ => rfl
  | n + 1, P, P', h => by rw [pm, pm, pm_congr n P P' (fun j hj => h j (by omega)), h n (by omega)]
theorem pm_up : ∀ (n : Nat) (P : Nat → Nat × Nat) (i : Nat) (x : Nat × Nat), i < n → max (P i).1 (P i).2 < max x.1 x.2 → pm n P + 1 ≤ pm n (upP P i x)
  | 0, _, _, _, h, _ => by omega
  | n + 1, P, i, x, h, h2 => by
    rw [pm, pm]
    by_cases e : i = n
    · subst e
      rw [pm_congr i P (upP P i x) (fun j hj => by unfold upP; rw [if_neg (by omega)])]
      have : upP P i x i = x := by unfold upP; rw [if_pos rfl]
      rw [this]; omega
    · have h3 := pm_up n P i x (by omega) h2
      have : upP P i x n = P n := by unfold upP; rw [if_neg (by omega)]
      rw [this]; omega
theorem pm_one : ∀ (n : Nat), pm n (fun _ => (0, 1)) = n
  | 0 => rfl
  | n + 1 => by rw [pm, pm_one n]; rfl
/-- What holds of the moves. -/
structure Mv (C : List (List Int)) (m : Nat) (M : List (Nat × Nat)) (P : Nat → Nat × Nat) : Prop where
  ref : ∀ x ∈ M, (∃ c, C[x.1]? = some c ∧ 2 ≤ c.length) ∧ x.2 < m
  rest : ∀ i, (∀ x ∈ M, x.1 ≠ i) → P i = (0, 1)
  cnt : M.length + C.length ≤ pm C.length P
  plm : ∀ (i : Nat) c, C[i]? = some c → 2 ≤ c.length → (P i).1 < c.length ∧ (P i).2 < c.length
theorem Mv.start (C : List (List Int)) (m : Nat) : Mv C m [] (fun _ => (0, 1)) := ⟨(fun x h => nomatch h), fun _ _ => rfl, by rw [pm_one]; simp, fun i c _ h2 => ⟨by show 0 < _; omega, by show 1 < _; omega⟩⟩
theorem pm_le {C : List (List Int)} {P : Nat → Nat × Nat} (h1 : ∀ (i : Nat) c, C[i]? = some c → 2 ≤ c.length → (P i).1 < c.length ∧ (P i).2 < c.length) (h2 : ∀ (i : Nat) c, C[i]? = some c → c.length < 2 → P i = (0, 1)) : ∀ n, n ≤ C.length → pm n P ≤ arN C n
  | 0, _ => Nat.zero_le _
  | n + 1, h => by
    have ih := pm_le h1 h2 n (by omega)
    have hn : C[n]? = some C[n] := List.getElem?_eq_getElem (by omega)
    rw [pm, arN_succ hn]
    by_cases q : 2 ≤ (C[n]).length
    · have := h1 n _ hn q
      omega
    · rw [h2 n _ hn (by omega)]
      show pm n P + max 0 1 ≤ _
      omega
theorem Mv.len {C : List (List Int)} {m : Nat} {M : List (Nat × Nat)} {P : Nat → Nat × Nat} (h : Mv C m M P) : M.length ≤ (ar C).length := by
  have h1 := h.plm
  have h3 := pm_le h1 (fun i c hi hc => h.rest i (fun x hx e => by
    obtain ⟨⟨c', hc', h4⟩, -⟩ := h.ref x hx
    rw [e, hi] at hc'
    rw [← Option.some.inj hc'] at h4
    omega)) C.length (Nat.le_refl _)
  have h4 := arN_le C C.length
  have := h.cnt
  omega
theorem Mv.move {C : List (List Int)} {m : Nat} {M : List (Nat × Nat)} {P : Nat → Nat × Nat} (h : Mv C m M P) {i k : Nat} {c : List Int} {x : Nat × Nat} (hi : C[i]? = some c) (h2 : 2 ≤ c.length) (hk : k < m) (hx : max (P i).1 (P i).2 < max x.1 x.2) (hx2 : x.1 < c.length ∧ x.2 < c.length) : Mv C m (M ++ [(i, k)]) (upP P i x) := by
  refine ⟨fun y hy => ?_, fun j hj => ?_, ?_, fun j c' hj h2' => ?_⟩
  · rcases List.mem_append.1 hy with hy | hy
    · exact h.ref y hy
    · rw [List.mem_singleton.1 hy]; exact ⟨⟨c, hi, h2⟩, hk⟩
  · have e : j ≠ i := fun e => hj (i, k) (by simp) e.symm
    unfold upP
    rw [if_neg e]
    exact h.rest j (fun y hy => hj y (List.mem_append_left _ hy))
  · have h3 := pm_up C.length P i x (List.getElem?_eq_some_iff.1 hi).1 hx
    have := h.cnt
    rw [List.length_append]
    simp
    omega
  · unfold upP
    by_cases e : j = i
    · subst e
      rw [if_pos rfl]
      rw [hi] at hj
      rw [← Option.some.inj hj]; exact hx2
    · rw [if_neg e]; exact h.plm j c' hj h2'
theorem nodup_len : ∀ (N : Nat) (L : List Nat), L.Nodup → (∀ x ∈ L, x < N) → L.length ≤ N
  | 0, L, _, h => by
    cases L with
    | nil => simp
    | cons x L => exact absurd (h x (List.mem_cons_self ..)) (by omega)
  | N + 1, L, hn, h => by
    have h1 := nodup_len N (L.erase N) (hn.erase N) (fun x hx => by
      have h2 := h x (List.mem_of_mem_erase hx)
      have h3 : x ≠ N := fun e => by rw [e] at hx; exact (List.Nodup.mem_erase_iff hn).1 hx |>.1 rfl
      omega)
    have h4 := List.length_erase (l := L) (a := N)
    split at h4 <;> omega
theorem told_len {T : List Int} {N : Nat} (h : T.Nodup) (hN : ∀ x ∈ T, sp x ≤ N) : T.length ≤ N := by
  have := nodup_len N (T.map cd) (by
    rw [List.nodup_iff_pairwise_ne, List.pairwise_map]
    exact h.imp fun {a b} hab e => hab (cd_inj e)) (fun x hx => by
    obtain ⟨y, hy, rfl⟩ := List.mem_map.1 hx
    exact Nat.lt_of_lt_of_le (cd_sp y) (hN y hy))
  simpa using this
/-- The state of a walk: memory, lists, places, what is true. -/
structure WS (K : List (Nat × Value)) (w0 : World) (F0 : Nat → Prop) (w : World) (s mo b N rt : Nat) (C : List (List Int)) (m : Nat) (M : List (Nat × Nat)) (P : Nat → Nat × Nat) (T : List Int) (k : Nat) : Prop where
  wk : ∃ F vo vm, Wk K w0 F0 w F s mo b N rt vo vm (arP C P 0) C (wlsU C m M M) M T k
  wc : Wc C m N
  mv : Mv C m M P
  tb : ∀ x ∈ T, sp x ≤ N
theorem WS.al {K : List (Nat × Value)} {w0 w w' : World} {F0 : Nat → Prop} {s mo b N rt : Nat} {C : List (List Int)} {m : Nat} {M : List (Nat × Nat)} {P : Nat → Nat × Nat} {T : List Int} {k : Nat} (h : WS K w0 F0 w s mo b N rt C m M P T k) (ha : Al w w') : WS K w0 F0 w' s mo b N rt C m M P T k := by
  obtain ⟨F, vo, vm, h1⟩ := h.wk
  exact ⟨⟨F, vo, vm, h1.al ha⟩, h.wc, h.mv, h.tb⟩
/-- A clause's piece of the arena while literals are followed. -/
theorem Wk.piece {K : List (Nat × Value)} {w0 w : World} {F0 F : Nat → Prop} {s mo b N rt : Nat} {vo vm : Value} {C W : List (List Int)} {M : List (Nat × Nat)} {P : Nat → Nat × Nat} {T : List Int} {k i : Nat} {c : List Int} (h : Wk K w0 F0 w F s mo b N rt vo vm (arP C P 0) C W M T k) (har : (ar C).length ≤ 262144) (hi : C[i]? = some c) :
    ∃ ra na ca vb vs vw us, St w F s mo (.slice (some ⟨ra, 0, none⟩) na ca) vb vs vw us (arP C P 0) (bds C) (shs C) W ∧ (∀ x ∈ K, us[x.1]? = some x.2) ∧ Pc w s i ra (arN C i) (arN C (i + 1)) ∧ ra < w.heap.size ∧ (∀ o, w.frozen? ⟨ra, o, none⟩ = false) ∧ ∀ j, j < c.length + 2 → w.cell? ⟨ra, arN C i + j, none⟩ = some (.int .i64 ((((P i).1 : Int) :: ((P i).2 : Int) :: c).getD j 0)) := by
  obtain ⟨va, vb, vs, vw, us, hS, hKp⟩ := h.st
  have hkl := (List.getElem?_eq_some_iff.1 hi).1
  have hal := arP_len C P 0
  have h2 := ar_len2 C
  obtain ⟨rb, cb, eb, -, -, hLb⟩ := hS.rb.li (bds_ne C)
  have hne : arP C P 0 ≠ [] := by
    intro e; rw [e] at hal; simp at hal; omega
  obtain ⟨ra, ca, ea, -, hca, hLa⟩ := hS.ra.li hne
  have hs := arN_succ hi
  have h1 := arN_le C (i + 1)
  rw [hal] at hca ea
  subst ea
  obtain ⟨cur, hcur⟩ := row_cur hS.ra (b := ra) rfl
  refine ⟨ra, _, ca, vb, vs, vw, us, hS, hKp, ⟨rb, C.length + 1, cb, (ar C).length, ca, ?_, by omega, by omega, ?_, ?_, ?_, by omega, h1, hca, by omega⟩, (World.ownsRow.lt hS.ra ra rfl).2, fun o => by simp [World.frozen?, hcur], fun j hj => ?_⟩
  · rw [← bds_len C, ← eb]; exact cell_of hS.hd 2 rfl
  · have := hLb i (by rw [bds_len]; omega)
    rwa [Nat.zero_add, bds_at C (by omega)] at this
  · have := hLb (i + 1) (by rw [bds_len]; omega)
    rwa [Nat.zero_add, bds_at C (by omega)] at this
  · exact cell_of hS.hd 1 rfl
  · have := hLa (arN C i + j) (by omega)
    rw [Nat.zero_add, arP_at C P 0 i c hi j hj, Nat.zero_add] at this
    exact this
theorem wlsU_lists {C : List (List Int)} {m : Nat} {M D : List (Nat × Nat)} : ∀ L ∈ wlsU C m M D, L.length ≤ C.length + M.length := by
  intro L hL
  obtain ⟨k, -, rfl⟩ := List.mem_map.1 hL
  rw [List.length_append, List.length_take]
  have h1 := ixs_len (wt k) C
  have h2 : (mv M k).length ≤ M.length := by unfold mv; rw [List.length_map]; exact List.length_filter_le _ _
  omega
end Go.Proofs.Ytkndjndhjdfhcaa
