/- A store at rest, by its clauses; Add. -/
import Derived.Test.YtkndjndhjdfhcaaST10
namespace Go.Proofs.Ytkndjndhjdfhcaa
open Go.RowKit
set_option linter.unusedSimpArgs false
set_option linter.unusedVariables false

def ar (C : List (List Int)) : List Int := C.flatMap fun c => 0 :: 1 :: c
theorem ar_snoc (C : List (List Int)) (c : List Int) : ar (C ++ [c]) = ar C ++ 0 :: 1 :: c := by unfold ar; simp
def arN (C : List (List Int)) (k : Nat) : Nat := (ar (C.take k)).length
def bds (C : List (List Int)) : List Int := (List.range (C.length + 1)).map fun k => (arN C k : Int)
theorem bds_len (C : List (List Int)) : (bds C).length = C.length + 1 := by unfold bds; simp
theorem bds_at (C : List (List Int)) {k : Nat} (h : k ≤ C.length) : (bds C).getD k 0 = (arN C k : Int) := by
  unfold bds
  rw [List.getD_eq_getElem?_getD, List.getElem?_map, List.getElem?_range (by omega)]; rfl
theorem bds_snoc (C : List (List Int)) (c : List Int) : bds (C ++ [c]) = bds C ++ [(((ar C).length + 2 + c.length : Nat) : Int)] := by
  unfold bds
  rw [List.length_append, List.length_singleton, List.range_succ, List.map_append]
  congr 1
  · refine List.map_congr_left fun k hk => ?_
    have := List.mem_range.1 hk
    unfold arN
    rw [List.take_append_of_le_length (by omega)]
  · simp only [List.map_cons, List.map_nil]
    unfold arN
    rw [List.take_of_length_le (by simp), ar_snoc]
    simp; omega
/-- The numbers of the clauses of which p is true. -/
def ixs (p : List Int → Bool) (C : List (List Int)) : List Int := (C.mapIdx fun i c => (c, i)).filterMap fun x => if p x.1 then some (x.2 : Int) else none
theorem ixs_snoc (p : List Int → Bool) (C : List (List Int)) (c : List Int) : ixs p (C ++ [c]) = ixs p C ++ (if p c then [(C.length : Int)] else []) := by
  unfold ixs
  rw [List.mapIdx_append, List.filterMap_append]
  congr 1
  cases h : p c <;> simp [h]
theorem mem_ixs {p : List Int → Bool} {C : List (List Int)} {r : Int} : r ∈ ixs p C ↔ ∃ (i : Nat) (c : List Int), C[i]? = some c ∧ p c = true ∧ r = (i : Int) := by
  unfold ixs
  constructor
  · intro h
    obtain ⟨y, hy, e⟩ := List.mem_filterMap.1 h
    obtain ⟨i, hi, rfl⟩ := List.mem_mapIdx.1 hy
    by_cases h2 : p C[i] = true
    · rw [if_pos h2] at e
      exact ⟨i, C[i], List.getElem?_eq_getElem hi, h2, (Option.some.inj e).symm⟩
    · rw [if_neg h2] at e; cases e
  · rintro ⟨i, c, h, hp, rfl⟩
    obtain ⟨hi, e⟩ := List.getElem?_eq_some_iff.1 h
    exact List.mem_filterMap.2 ⟨(c, i), List.mem_mapIdx.2 ⟨i, hi, by rw [e]⟩, by simp [hp]⟩
theorem ixs_len (p : List Int → Bool) (C : List (List Int)) : (ixs p C).length ≤ C.length := by
  unfold ixs
  refine Nat.le_trans (List.length_filterMap_le _ _) ?_
  simp
theorem ixs_nil {p : List Int → Bool} {C : List (List Int)} (h : ∀ c ∈ C, p c = false) : ixs p C = [] := by
  refine List.eq_nil_iff_forall_not_mem.2 fun r hr => ?_
  obtain ⟨i, c, hi, hp, -⟩ := mem_ixs.1 hr
  rw [h c (List.mem_of_getElem? hi)] at hp; cases hp
theorem ixs_nodup (p : List Int → Bool) : ∀ (C : List (List Int)), (ixs p C).Nodup := by
  intro C
  induction hn : C.length generalizing C with
  | zero =>
    rw [List.eq_nil_of_length_eq_zero hn]; exact List.nodup_nil
  | succ n ih =>
    obtain ⟨D, c, rfl⟩ : ∃ D c, C = D ++ [c] := by
      cases h : C.reverse with
      | nil => simp at h; rw [h] at hn; simp at hn
      | cons c D => exact ⟨D.reverse, c, by have := congrArg List.reverse h; simpa using this⟩
    rw [ixs_snoc]
    have hD : D.length = n := by simp at hn; exact hn
    split
    · rw [List.nodup_append]
      refine ⟨ih D hD, by simp, fun a ha b hb e => ?_⟩
      rw [List.mem_singleton.1 hb] at e
      obtain ⟨i, c', hi, -, rfl⟩ := mem_ixs.1 ha
      have := (List.getElem?_eq_some_iff.1 hi).1
      omega
    · rw [List.append_nil]; exact ih D hD
/-- Does a clause watch the literal of number k? -/
def wt (k : Nat) (c : List Int) : Bool := decide (2 ≤ c.length) && (decide (cd (c.getD 0 0) = k) || decide (cd (c.getD 1 0) = k))
def shs (C : List (List Int)) : List Int := ixs (fun c => decide (c.length < 2)) C
def wls (C : List (List Int)) (m : Nat) : List (List Int) := (List.range m).map fun k => ixs (wt k) C
theorem wls_len (C : List (List Int)) (m : Nat) : (wls C m).length = m := by unfold wls; simp
theorem wls_at (C : List (List Int)) {m k : Nat} (h : k < m) : (wls C m)[k]? = some (ixs (wt k) C) := by
  unfold wls
  rw [List.getElem?_map, List.getElem?_range h]; rfl
theorem wls_lists (C : List (List Int)) (m : Nat) : ∀ L ∈ wls C m, L.length ≤ C.length := by
  intro L hL
  obtain ⟨k, -, rfl⟩ := List.mem_map.1 hL
  exact ixs_len _ _
/-- There is room for all literals. -/
def Rm (C : List (List Int)) (m : Nat) : Prop := ∀ c ∈ C, ∀ l ∈ c, sp l ≤ m
theorem getD_in {c : List Int} {k : Nat} (h : k < c.length) : c.getD k 0 ∈ c := getD_mem h
theorem wls_more {C : List (List Int)} {m : Nat} (h : Rm C m) (d : Nat) : wls C m ++ List.replicate d [] = wls C (m + d) := by
  unfold wls
  rw [List.range_add, List.map_append]
  congr 1
  rw [List.map_map]
  refine (List.eq_replicate_iff.2 ⟨by simp, fun L hL => ?_⟩).symm
  obtain ⟨j, -, rfl⟩ := List.mem_map.1 hL
  refine ixs_nil fun c hc => ?_
  unfold wt
  by_cases h2 : 2 ≤ c.length
  · have h0 := h c hc _ (getD_in (c := c) (k := 0) (by omega))
    have h1 := h c hc _ (getD_in (c := c) (k := 1) (by omega))
    have q0 := cd_sp (c.getD 0 0)
    have q1 := cd_sp (c.getD 1 0)
    rw [decide_eq_false (p := cd (c.getD 0 0) = _) (by show ¬ cd (c.getD 0 0) = m + j; omega), decide_eq_false (p := cd (c.getD 1 0) = _) (by show ¬ cd (c.getD 1 0) = m + j; omega)]
    simp
  · simp [h2]
theorem gw_wls {C : List (List Int)} : ∀ (c : List Int) (m : Nat), Rm C m → ∃ m', gw (wls C m) c = wls C m' ∧ m ≤ m' ∧ (∀ l ∈ c, sp l ≤ m') ∧ ∀ N, m ≤ N → (∀ l ∈ c, sp l ≤ N) → m' ≤ N := by
  intro c
  induction c with
  | nil => exact fun m _ => ⟨m, rfl, Nat.le_refl _, (fun l h => nomatch h), (fun N h _ => h)⟩
  | cons x c ih =>
    intro m hm
    obtain ⟨m', h1, h2, h3, h4⟩ := ih (m + (sp x - m)) (fun c hc l hl => Nat.le_trans (hm c hc l hl) (by omega))
    refine ⟨m', ?_, by omega, fun l hl => ?_, fun N hN hl => h4 N (by have := hl x (List.mem_cons_self ..); omega) (fun l h => hl l (List.mem_cons_of_mem _ h))⟩
    · show gw (wls C m ++ List.replicate (sp x - (wls C m).length) []) c = _
      rw [wls_len, wls_more hm]; exact h1
    · rcases List.mem_cons.1 hl with rfl | hl
      · omega
      · exact h3 l hl
theorem addW_at {W : List (List Int)} {k : Nat} {r : Int} (j : Nat) : (addW W k r)[j]? = if k = j then (W[j]?).map (· ++ [r]) else W[j]? := by
  unfold addW
  by_cases h : k = j
  · subst h
    rw [if_pos rfl]
    by_cases hk : k < W.length
    · rw [List.getElem?_set_self hk, List.getElem?_eq_getElem hk, List.getD_eq_getElem?_getD, List.getElem?_eq_getElem hk]; rfl
    · rw [List.getElem?_eq_none (by simp; omega), List.getElem?_eq_none (by omega)]; rfl
  · rw [if_neg h, List.getElem?_set_ne h]
theorem wls_add {C : List (List Int)} {c : List Int} {m : Nat} (h2 : 2 ≤ c.length) (hn : c.Nodup) : addW (addW (wls C m) (cd (c.getD 0 0)) (C.length : Int)) (cd (c.getD 1 0)) (C.length : Int) = wls (C ++ [c]) m := by
  have hne : cd (c.getD 0 0) ≠ cd (c.getD 1 0) := fun e => by
    have e2 := cd_inj e
    rw [List.getD_eq_getElem?_getD, List.getD_eq_getElem?_getD, List.getElem?_eq_getElem (by omega : 0 < c.length), List.getElem?_eq_getElem (by omega : 1 < c.length)] at e2
    have := List.pairwise_iff_getElem.1 hn 0 1 (by omega) (by omega) (by omega)
    exact this e2
  refine List.ext_getElem? fun j => ?_
  rw [addW_at, addW_at]
  by_cases hj : j < m
  · have hw : wt j c = (decide (cd (c.getD 0 0) = j) || decide (cd (c.getD 1 0) = j)) := by unfold wt; rw [decide_eq_true h2]; rfl
    rw [wls_at _ hj, wls_at _ hj, ixs_snoc, hw]
    generalize cd (c.getD 0 0) = a at hne
    generalize cd (c.getD 1 0) = b at hne
    by_cases e0 : a = j
    · have e1 : ¬ b = j := fun e => hne (e0.trans e.symm)
      simp [e0, e1]
    · by_cases e1 : b = j
      · simp [e0, e1]
      · simp [e0, e1]
  · rw [List.getElem?_eq_none (by rw [wls_len]; omega), List.getElem?_eq_none (by rw [wls_len]; omega)]
    simp
theorem wls_skip {C : List (List Int)} {c : List Int} {m : Nat} (h2 : c.length < 2) : wls (C ++ [c]) m = wls C m := by
  unfold wls
  refine List.map_congr_left fun k _ => ?_
  rw [ixs_snoc]
  unfold wt
  rw [decide_eq_false (by omega : ¬ 2 ≤ c.length)]
  simp
/-- A clause as it is kept. -/
structure Okc (c : List Int) : Prop where
  lit : ∀ l ∈ c, isL l = true
  once : c.Nodup
  opp : ∀ l ∈ c, -l ∉ c
theorem once_ok {c : List Int} (h : (onceF c).2 = 0) : Okc (dd c) ∧ (onceF c).1 = dd c := by
  unfold onceF at h ⊢
  by_cases h1 : c.all isL = true
  · rw [if_pos h1] at h ⊢
    by_cases h2 : opp c = true
    · rw [if_pos h2] at h; simp at h
    · rw [if_neg h2] at h ⊢
      refine ⟨⟨fun l hl => List.all_eq_true.1 h1 l (mem_dd.1 hl), nodup_dd c, fun l hl h3 => h2 ?_⟩, rfl⟩
      unfold opp
      exact List.any_eq_true.2 ⟨l, mem_dd.1 hl, by simp; exact mem_dd.1 h3⟩
  · rw [if_neg h1] at h; simp at h
/-- The store at s, at rest, with these clauses. -/
structure So (w : World) (F : Nat → Prop) (s mo : Nat) (C : List (List Int)) : Prop where
  ex : ∃ m, SX w F s mo (ar C) (bds C) (shs C) (wls C m) ∧ Rm C m ∧ m ≤ 131074
  ok : ∀ c ∈ C, Okc c
  room : (ar C).length ≤ mo
  most : mo ≤ 262144
  lt : ∀ k, F k → k < w.heap.size
theorem ar_len2 (C : List (List Int)) : 2 * C.length ≤ (ar C).length := by
  induction C with
  | nil => simp [ar]
  | cons c C ih =>
    have e : ar (c :: C) = (0 :: 1 :: c) ++ ar C := by unfold ar; simp
    rw [e, List.length_append]
    simp
    omega
theorem So.len {w : World} {F : Nat → Prop} {s mo : Nat} {C : List (List Int)} (h : So w F s mo C) : C.length ≤ 131072 ∧ (ar C).length ≤ 262144 := by
  have := ar_len2 C
  have := h.room
  have := h.most
  omega
theorem So.below {w w' : World} {F : Nat → Prop} {s mo : Nat} {C : List (List Int)} (h : So w F s mo C) (hb : Below w.heap.size w w') : So w' F s mo C := by
  obtain ⟨m, h1, h2, h3⟩ := h.ex
  exact ⟨⟨m, h1.below hb, h2, h3⟩, h.ok, h.room, h.most, fun k hk => Nat.lt_of_lt_of_le (h.lt k hk) hb.size⟩
theorem So.kept {w w' : World} {F : Nat → Prop} {s mo : Nat} {C : List (List Int)} (h : So w F s mo C) (hs : w.heap.size ≤ w'.heap.size) (hk : ∀ k, k < w.heap.size → F k → w'.heap[k]? = w.heap[k]?) : So w' F s mo C := by
  obtain ⟨m, h1, h2, h3⟩ := h.ex
  exact ⟨⟨m, h1.kept hk, h2, h3⟩, h.ok, h.room, h.most, fun k hk => Nat.lt_of_lt_of_le (h.lt k hk) hs⟩
theorem Ch.lts {w w' : World} {F F' : Nat → Prop} (h : Ch w w' F F') (hF : ∀ k, F k → k < w.heap.size) : ∀ k, F' k → k < w'.heap.size := fun k hk => by
  have := h.size
  rcases h.foot k hk with h1 | ⟨_, h1⟩
  · have := hF k h1; omega
  · exact h1
/-- What Add answers: number, error, the clauses then. -/
def addF (mo : Nat) (C : List (List Int)) (c : List Int) : Int × Int × List (List Int) :=
  if (onceF c).2 ≠ 0 then (0, (onceF c).2, C) else if mo < (ar C).length + 2 + (dd c).length then (0, 111, C) else ((C.length : Int), 0, C ++ [dd c])
end Go.Proofs.Ytkndjndhjdfhcaa
