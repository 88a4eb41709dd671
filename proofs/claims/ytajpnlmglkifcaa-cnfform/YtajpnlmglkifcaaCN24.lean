/- Pure facts (clauses): their form. -/
import Derived.Test.YtajpnlmglkifcaaCN22
namespace Go.Proofs.Ytajpnlmglkifcaa
open Go.RowKit
set_option linter.unusedSimpArgs false
set_option linter.unusedVariables false

theorem cls_len1 (ks : List Kd) (V : Int → Option Int) {l : Nat} (h : l % 2 = 1) : (cls ks V l).length ≤ 1 := by
  unfold cls
  split
  · simp
  · split
    · simp
    · split
      · first | (rw [if_pos h]; simp) | simp
      · simp
theorem clsL_par (ks : List Kd) (V : Int → Option Int) : ∀ T : List Nat, (clsL ks V T).length ≤ 2 * (T.filter fun x => x % 2 == 0).length + (T.filter fun x => x % 2 == 1).length
  | [] => by simp [clsL]
  | x :: r => by
    have ih := clsL_par ks V r
    unfold clsL at ih ⊢
    rw [List.flatMap_cons, List.length_append]
    generalize (List.flatMap (cls ks V) r).length = n at ih ⊢
    rcases Nat.mod_two_eq_zero_or_one x with e | e
    · have := cls_len ks V x
      simp only [List.filter_cons, e]
      simp
      omega
    · have := cls_len1 ks V e
      simp only [List.filter_cons, e]
      simp
      omega
/-- At most three clauses a node. -/
theorem Pz.three {first : Int} {f : Nat} {s : Rz} (h : Pz first f s) : s.C.length ≤ 3 * (s.ks.length - 1) + 1 := by
  have hp := h.inv.pos
  rw [h.cc]
  refine Nat.le_trans (clsL_par _ _ _) ?_
  have h1 := nodup_len (s.ks.length - 1) ((s.T.filter fun x => x % 2 == 0).map fun x => x / 2 - 1) (by
    rw [List.Nodup, List.pairwise_map]
    exact (h.nd.filter _).imp_of_mem fun {a b} ha hb hab => by
      obtain ⟨a1, a2⟩ := List.mem_filter.1 ha
      obtain ⟨b1, b2⟩ := List.mem_filter.1 hb
      have := (h.vt a a1).2
      have := (h.vt b b1).2
      have : a % 2 = 0 := by simpa using a2
      have : b % 2 = 0 := by simpa using b2
      omega) (fun x hx => by
    obtain ⟨y, hy, rfl⟩ := List.mem_map.1 hx
    obtain ⟨a1, a2⟩ := List.mem_filter.1 hy
    have := h.vt y a1
    have : y % 2 = 0 := by simpa using a2
    omega)
  have h2 := nodup_len s.ks.length ((s.T.filter fun x => x % 2 == 1).map fun x => x / 2) (by
    rw [List.Nodup, List.pairwise_map]
    exact (h.nd.filter _).imp_of_mem fun {a b} ha hb hab => by
      obtain ⟨a1, a2⟩ := List.mem_filter.1 ha
      obtain ⟨b1, b2⟩ := List.mem_filter.1 hb
      have : a % 2 = 1 := by simpa using a2
      have : b % 2 = 1 := by simpa using b2
      omega) (fun x hx => by
    obtain ⟨y, hy, rfl⟩ := List.mem_map.1 hx
    exact (h.vt y (List.mem_filter.1 hy).1).1)
  rw [List.length_map] at h1 h2
  omega
/-- What a clause of x is. -/
theorem Pz.shape {first : Int} {f : Nat} {s : Rz} (h : Pz first f s) {x : Nat} (hx : x ∈ s.T) {c : List Int} (hc : c ∈ cls s.ks s.V x) :
    (x = 1 ∧ c = [lit s.V 1]) ∨ ∃ k, s.ks[x / 2]? = some k ∧ x / 2 ≠ 0 ∧ k.1 / 2 < x / 2 ∧ k.2 / 2 < x / 2 ∧ k.1 / 2 ≠ k.2 / 2 ∧ (s.V ((k.1 / 2 : Nat) : Int)).isSome = true ∧ (s.V ((k.2 / 2 : Nat) : Int)).isSome = true ∧
      ((x % 2 = 1 ∧ cls s.ks s.V x = [[- lit s.V x, - lit s.V k.1, - lit s.V k.2]]) ∨ (x % 2 = 0 ∧ cls s.ks s.V x = [[- lit s.V x, lit s.V k.1], [- lit s.V x, lit s.V k.2]])) := by
  by_cases h0 : x / 2 = 0
  · left
    have := (h.vt x hx).2
    obtain rfl : x = 1 := by omega
    exact ⟨rfl, List.mem_singleton.1 hc⟩
  · right
    cases hk : s.ks[x / 2]? with
    | none => unfold cls at hc; rw [if_neg h0, hk] at hc; cases hc
    | some k =>
      by_cases hi : k = (0, 0)
      · unfold cls at hc
        rw [if_neg h0, hk] at hc
        simp only at hc
        subst hi
        cases hc
      · have hK : isK k = true := by unfold isK; simp [hi]
        have hkid := h.inv.kid _ _ hk hi
        have hkids : kidsL s.ks x = [xr k.1 (x % 2), xr k.2 (x % 2)] := by
          unfold kidsL
          rw [hk]
          simp only
          rw [if_pos hK]
        have e1 := h.dm _ (h.cl x hx (xr k.1 (x % 2)) (by rw [hkids]; simp))
        have e2 := h.dm _ (h.cl x hx (xr k.2 (x % 2)) (by rw [hkids]; simp))
        rw [xr_half] at e1 e2
        refine ⟨k, rfl, h0, by omega, by omega, by omega, e1, e2, ?_⟩
        unfold cls
        rw [if_neg h0, hk]
        simp only
        rw [if_pos hK]
        by_cases ho : x % 2 = 1
        · left; exact ⟨ho, by rw [if_pos ho]⟩
        · right; exact ⟨by omega, by rw [if_neg ho]⟩
/-- Literals of different nodes are of different variables. -/
theorem Pz.apart {first : Int} {f : Nat} {s : Rz} (h : Pz first f s) (h1 : 1 ≤ first) {a b : Nat} (ha : (s.V ((a / 2 : Nat) : Int)).isSome = true) (hb : (s.V ((b / 2 : Nat) : Int)).isSome = true) (hne : a / 2 ≠ b / 2) : (lit s.V a).natAbs ≠ (lit s.V b).natAbs := by
  obtain ⟨v, hv⟩ := Option.isSome_iff_exists.1 ha
  obtain ⟨u, hu⟩ := Option.isSome_iff_exists.1 hb
  have r1 := h.rg _ _ hv
  have r2 := h.rg _ _ hu
  intro e
  have : v = u := by rcases lit_of hv with q | q <;> rcases lit_of hu with q2 | q2 <;> rw [q, q2] at e <;> omega
  subst this
  have := h.ij _ _ _ hv hu
  omega
/-- In a clause each variable stands once. -/
theorem Pz.once {first : Int} {f : Nat} {s : Rz} (h : Pz first f s) (h1 : 1 ≤ first) : ∀ c ∈ s.C, c.Pairwise fun a b => a.natAbs ≠ b.natAbs := by
  intro c hc
  rw [h.cc] at hc
  obtain ⟨x, hx, hc⟩ := List.mem_flatMap.1 hc
  rcases h.shape hx hc with ⟨-, rfl⟩ | ⟨k, hk, h0, k1, k2, k3, e1, e2, hcl⟩
  · simp
  · have ex := h.dm x hx
    have a1 := h.apart h1 ex e1 (by omega)
    have a2 := h.apart h1 ex e2 (by omega)
    have a3 := h.apart h1 e1 e2 k3
    rcases hcl with ⟨-, q⟩ | ⟨-, q⟩
    · rw [q, List.mem_singleton] at hc
      subst hc
      simp only [List.pairwise_cons, List.mem_cons, List.not_mem_nil, or_false, forall_eq_or_imp, forall_eq, Int.natAbs_neg]
      exact ⟨⟨a1, a2⟩, a3, by simp, by simp⟩
    · rw [q] at hc
      simp only [List.mem_cons, List.not_mem_nil, or_false] at hc
      rcases hc with rfl | rfl
      · simp only [List.pairwise_cons, List.mem_cons, List.not_mem_nil, or_false, forall_eq, Int.natAbs_neg]
        exact ⟨a1, by simp, by simp⟩
      · simp only [List.pairwise_cons, List.mem_cons, List.not_mem_nil, or_false, forall_eq, Int.natAbs_neg]
        exact ⟨a2, by simp, by simp⟩
/-- Every literal of a clause of x is of a node up to x's; of x's own there is one. -/
theorem Pz.top {first : Int} {f : Nat} {s : Rz} (h : Pz first f s) {x : Nat} (hx : x ∈ s.T) {c : List Int} (hc : c ∈ cls s.ks s.V x) :
    ∃ t, t ∈ c ∧ (t = - lit s.V x ∨ (x = 1 ∧ t = lit s.V 1)) ∧ ∀ y ∈ c, y = t ∨ ∃ z : Nat, z / 2 < x / 2 ∧ (s.V ((z / 2 : Nat) : Int)).isSome = true ∧ (y = lit s.V z ∨ y = - lit s.V z) := by
  rcases h.shape hx hc with ⟨rfl, rfl⟩ | ⟨k, hk, h0, k1, k2, k3, e1, e2, hcl⟩
  · exact ⟨_, List.mem_singleton.2 rfl, Or.inr ⟨rfl, rfl⟩, fun y hy => Or.inl (List.mem_singleton.1 hy)⟩
  · refine ⟨- lit s.V x, ?_, Or.inl rfl, ?_⟩
    · rcases hcl with ⟨-, q⟩ | ⟨-, q⟩
      · rw [q, List.mem_singleton] at hc; subst hc; simp
      · rw [q] at hc
        simp only [List.mem_cons, List.not_mem_nil, or_false] at hc
        rcases hc with rfl | rfl <;> simp
    · intro y hy
      rcases hcl with ⟨-, q⟩ | ⟨-, q⟩
      · rw [q, List.mem_singleton] at hc
        subst hc
        simp only [List.mem_cons, List.not_mem_nil, or_false] at hy
        rcases hy with hy | hy | hy
        · exact Or.inl hy
        · exact Or.inr ⟨k.1, k1, e1, Or.inr hy⟩
        · exact Or.inr ⟨k.2, k2, e2, Or.inr hy⟩
      · rw [q] at hc
        simp only [List.mem_cons, List.not_mem_nil, or_false] at hc
        rcases hc with rfl | rfl
        · simp only [List.mem_cons, List.not_mem_nil, or_false] at hy
          rcases hy with hy | hy
          · exact Or.inl hy
          · exact Or.inr ⟨k.1, k1, e1, Or.inl hy⟩
        · simp only [List.mem_cons, List.not_mem_nil, or_false] at hy
          rcases hy with hy | hy
          · exact Or.inl hy
          · exact Or.inr ⟨k.2, k2, e2, Or.inl hy⟩
def sameS (c d : List Int) : Prop := ∀ y, y ∈ c ↔ y ∈ d
theorem Pz.far {first : Int} {f : Nat} {s : Rz} (h : Pz first f s) (h1 : 1 ≤ first) {x x' : Nat} (hx : x ∈ s.T) (hx' : x' ∈ s.T) {c d : List Int} (hc : c ∈ cls s.ks s.V x) (hd : d ∈ cls s.ks s.V x') (hs : sameS c d) : ¬ x' / 2 < x / 2 := by
  intro hlt
  obtain ⟨t, t1, t2, -⟩ := h.top hx hc
  obtain ⟨u, u1, u2, u3⟩ := h.top hx' hd
  have ex := h.dm x hx
  have ex' := h.dm x' hx'
  have ht : t.natAbs = (lit s.V x).natAbs := by
    rcases t2 with e | ⟨e, -⟩
    · rw [e, Int.natAbs_neg]
    · omega
  rcases u3 t ((hs t).1 t1) with e | ⟨z, z1, z2, z3⟩
  · have hu : u.natAbs = (lit s.V x').natAbs := by
      rcases u2 with e | ⟨rfl, e⟩
      · rw [e, Int.natAbs_neg]
      · rw [e]
    exact h.apart h1 ex ex' (by omega) (by rw [← ht, e, hu])
  · refine h.apart h1 ex z2 (by omega) ?_
    rw [← ht]
    rcases z3 with e | e <;> rw [e]
    exact Int.natAbs_neg _
theorem Pz.cross {first : Int} {f : Nat} {s : Rz} (h : Pz first f s) (h1 : 1 ≤ first) {x x' : Nat} (hx : x ∈ s.T) (hx' : x' ∈ s.T) (hne : x ≠ x') {c d : List Int} (hc : c ∈ cls s.ks s.V x) (hd : d ∈ cls s.ks s.V x') : ¬ sameS c d := by
  intro hs
  have n1 := h.far h1 hx hx' hc hd hs
  have n2 := h.far h1 hx' hx hd hc (fun y => (hs y).symm)
  have v1 := (h.vt x hx).2
  have v2 := (h.vt x' hx').2
  obtain ⟨t, t1, t2, -⟩ := h.top hx hc
  obtain ⟨u, u1, u2, u3⟩ := h.top hx' hd
  obtain ⟨v, hv, hv1⟩ := h.vr h1 hx
  have ex := h.dm x hx
  rcases t2 with e | ⟨e, -⟩
  · rcases u2 with e' | ⟨e', -⟩
    · have hv' : s.V ((x' / 2 : Nat) : Int) = some v := by rw [show x' / 2 = x / 2 by omega]; exact hv
      rcases u3 t ((hs t).1 t1) with q | ⟨z, z1, z2, z3⟩
      · rw [e, e'] at q
        unfold lit at q
        rw [hv, hv', Option.getD_some] at q
        split at q <;> split at q <;> omega
      · refine h.apart h1 ex z2 (by omega) ?_
        rcases z3 with q | q <;> rw [e] at q <;> rw [← Int.natAbs_neg (lit s.V x), q]
        exact Int.natAbs_neg _
    · omega
  · omega
/-- No two clauses are of the same literals. -/
theorem Pz.none_twice {first : Int} {f : Nat} {s : Rz} (h : Pz first f s) (h1 : 1 ≤ first) : s.C.Pairwise fun c d => ¬ sameS c d := by
  rw [h.cc]
  unfold clsL
  rw [List.pairwise_flatMap]
  refine ⟨fun x hx => ?_, ?_⟩
  · cases hcl : cls s.ks s.V x with
    | nil => exact List.Pairwise.nil
    | cons c r =>
      rcases h.shape hx (c := c) (by rw [hcl]; simp) with ⟨rfl, -⟩ | ⟨k, hk, h0, k1, k2, k3, e1, e2, q⟩
      · have : cls s.ks s.V 1 = [[lit s.V 1]] := rfl
        rw [← hcl, this]; simp
      · rw [← hcl]
        rcases q with ⟨-, q⟩ | ⟨-, q⟩
        · rw [q]; simp
        · rw [q]
          simp only [List.pairwise_cons, List.mem_cons, List.not_mem_nil, or_false, forall_eq]
          refine ⟨fun hs => ?_, by simp, by simp⟩
          have := (hs (lit s.V k.1)).1 (by simp)
          simp only [List.mem_cons, List.not_mem_nil, or_false] at this
          rcases this with e | e
          · exact h.apart h1 (h.dm x hx) e1 (by omega) (by rw [e, Int.natAbs_neg])
          · exact h.apart h1 e1 e2 k3 (by rw [e])
  · exact h.nd.imp_of_mem fun {a b} ha hb hab c hc d hd => h.cross h1 ha hb hab hc hd
/-- A number put in its place. -/
def insZ (x : Int) : List Int → List Int
  | [] => [x]
  | y :: r => if y < x then y :: insZ x r else if y = x then y :: r else x :: y :: r
def setF (c : List Int) : List Int := c.foldl (fun a x => insZ x a) []
theorem insZ_mem {x y : Int} : ∀ {l : List Int}, y ∈ insZ x l ↔ y = x ∨ y ∈ l
  | [] => by simp [insZ]
  | z :: r => by
    unfold insZ
    split
    · rw [List.mem_cons, insZ_mem, List.mem_cons]
      constructor
      · rintro (e | e | e)
        · exact Or.inr (Or.inl e)
        · exact Or.inl e
        · exact Or.inr (Or.inr e)
      · rintro (e | e | e)
        · exact Or.inr (Or.inl e)
        · exact Or.inl e
        · exact Or.inr (Or.inr e)
    · split
      · next e =>
        subst e
        simp
      · simp
theorem insZ_up {x : Int} : ∀ {l : List Int}, l.Pairwise (· < ·) → (insZ x l).Pairwise (· < ·)
  | [], _ => by simp [insZ]
  | z :: r, h => by
    obtain ⟨h1, h2⟩ := List.pairwise_cons.1 h
    unfold insZ
    split
    · next hlt =>
      refine List.pairwise_cons.2 ⟨fun y hy => ?_, insZ_up h2⟩
      rcases insZ_mem.1 hy with e | e
      · omega
      · exact h1 y e
    · split
      · exact h
      · refine List.pairwise_cons.2 ⟨fun y hy => ?_, h⟩
        rcases List.mem_cons.1 hy with e | e
        · omega
        · have := h1 y e; omega
theorem insZ_len {x : Int} : ∀ {l : List Int}, x ∉ l → (insZ x l).length = l.length + 1
  | [], _ => rfl
  | z :: r, h => by
    unfold insZ
    split
    · rw [List.length_cons, insZ_len (fun e => h (List.mem_cons_of_mem _ e))]; rfl
    · split
      · next e => exact absurd (by rw [e]; exact List.mem_cons_self) h
      · rfl
theorem insZ_at {x : Int} : ∀ {k : Nat} {l : List Int}, (∀ j y, j < k → l[j]? = some y → y < x) → k ≤ l.length → (∀ y, l[k]? = some y → ¬ y < x) → insZ x l = if l[k]? = some x then l else l.take k ++ x :: l.drop k
  | 0, [], _, _, _ => by simp [insZ]
  | 0, z :: r, _, _, h3 => by
    have := h3 z rfl
    unfold insZ
    rw [if_neg this]
    by_cases e : z = x
    · rw [if_pos e, if_pos (by simp [e])]
    · rw [if_neg e, if_neg (by simp [e])]; rfl
  | k + 1, [], _, h2, _ => by simp at h2
  | k + 1, z :: r, h1, h2, h3 => by
    have hz := h1 0 z (by omega) rfl
    have ih := insZ_at (x := x) (k := k) (l := r) (fun j y hj hy => h1 (j + 1) y (by omega) (by simpa using hy)) (by simpa using h2) (fun y hy => h3 y (by simpa using hy))
    unfold insZ
    rw [if_pos hz, ih]
    by_cases e : r[k]? = some x
    · rw [if_pos e, if_pos (by simpa using e)]
    · rw [if_neg e, if_neg (by simpa using e)]; rfl
theorem setF_snoc {c : List Int} {k : Nat} {x : Int} (h : c[k]? = some x) : setF (c.take (k + 1)) = insZ x (setF (c.take k)) := by
  unfold setF
  rw [List.take_add_one, h, List.foldl_append]
  rfl
theorem fold_mem {y : Int} : ∀ {c a : List Int}, y ∈ c.foldl (fun a x => insZ x a) a ↔ y ∈ c ∨ y ∈ a
  | [], a => by simp
  | x :: r, a => by
    rw [List.foldl_cons, fold_mem, insZ_mem, List.mem_cons]
    constructor
    · rintro (e | e | e)
      · exact Or.inl (Or.inr e)
      · exact Or.inl (Or.inl e)
      · exact Or.inr e
    · rintro ((e | e) | e)
      · exact Or.inr (Or.inl e)
      · exact Or.inl e
      · exact Or.inr (Or.inr e)
theorem setF_mem {c : List Int} {y : Int} : y ∈ setF c ↔ y ∈ c := by
  unfold setF
  rw [fold_mem]
  simp
theorem fold_up : ∀ {c a : List Int}, a.Pairwise (· < ·) → (c.foldl (fun a x => insZ x a) a).Pairwise (· < ·)
  | [], _, h => h
  | x :: r, a, h => by
    rw [List.foldl_cons]
    exact fold_up (insZ_up h)
theorem setF_up (c : List Int) : (setF c).Pairwise (· < ·) := fold_up List.Pairwise.nil
theorem fold_len : ∀ {c a : List Int}, c.Nodup → (∀ y ∈ c, y ∉ a) → (c.foldl (fun a x => insZ x a) a).length = c.length + a.length
  | [], a, _, _ => by simp
  | x :: r, a, h, hd => by
    obtain ⟨h1, h2⟩ := List.nodup_cons.1 h
    rw [List.foldl_cons, fold_len h2 (fun y hy e => by
      rcases insZ_mem.1 e with e | e
      · exact h1 (by rw [← e]; exact hy)
      · exact hd y (List.mem_cons_of_mem _ hy) e), insZ_len (hd x List.mem_cons_self), List.length_cons]
    omega
theorem setF_len {c : List Int} (h : c.Nodup) : (setF c).length = c.length := by
  unfold setF
  rw [fold_len h (fun y _ e => by cases e)]
  rfl
theorem insZ_le {x : Int} : ∀ {l : List Int}, (insZ x l).length ≤ l.length + 1
  | [] => Nat.le_refl _
  | z :: r => by
    unfold insZ
    split
    · have := insZ_le (x := x) (l := r); simp; omega
    · split <;> simp
theorem once_nodup {c : List Int} (h : c.Pairwise fun a b => a.natAbs ≠ b.natAbs) : c.Nodup := h.imp fun {a b} q e => q (by rw [e])
theorem once_opp {x : Int} : ∀ {c : List Int}, c.Pairwise (fun a b => a.natAbs ≠ b.natAbs) → x ∈ c → x ≠ 0 → -x ∉ c
  | [], _, h, _ => by cases h
  | y :: r, hp, h, h0 => by
    obtain ⟨h1, h2⟩ := List.pairwise_cons.1 hp
    intro e
    rcases List.mem_cons.1 h with q | q
    · rcases List.mem_cons.1 e with q2 | q2
      · omega
      · exact h1 _ q2 (by rw [← q, Int.natAbs_neg])
    · rcases List.mem_cons.1 e with q2 | q2
      · exact h1 _ q (by rw [← q2, Int.natAbs_neg])
      · exact once_opp h2 q h0 q2
theorem set_ne {c d : List Int} (h : ¬ sameS c d) : setF c ≠ setF d := fun e => h fun y => by rw [← setF_mem, e, setF_mem]
end Go.Proofs.Ytajpnlmglkifcaa
