/- Facts of a run (clauses). -/
import Derived.Test.YtajpnlmglkifcaaCN19
import Derived.Test.YtajpnlmglkifcaaCN20
import Derived.Test.YtajpnlmglkifcaaCN21
namespace Go.Proofs.Ytajpnlmglkifcaa
open Go.RowKit
set_option linter.unusedSimpArgs false
set_option linter.unusedVariables false

theorem lit_of {V : Int → Option Int} {x : Nat} {v : Int} (hv : V ((x / 2 : Nat) : Int) = some v) : lit V x = v ∨ lit V x = -v := by
  unfold lit
  rw [hv, Option.getD_some]
  split
  · exact Or.inr rfl
  · exact Or.inl rfl
/-- The literals of clauses are of variables that nodes have. -/
theorem Pz.cl_lit {first : Int} {f : Nat} {s : Rz} (h : Pz first f s) : ∀ c ∈ s.C, ∀ y ∈ c, ∃ n v, s.V n = some v ∧ (y = v ∨ y = -v) := by
  intro c hc y hy
  rw [h.cc] at hc
  obtain ⟨x, hx, hc⟩ := List.mem_flatMap.1 hc
  have key : ∀ z : Nat, (s.V ((z / 2 : Nat) : Int)).isSome = true → (y = lit s.V z ∨ y = - lit s.V z) → ∃ n v, s.V n = some v ∧ (y = v ∨ y = -v) := fun z hz e => by
    obtain ⟨v, hv⟩ := Option.isSome_iff_exists.1 hz
    refine ⟨_, v, hv, ?_⟩
    rcases lit_of hv with q | q <;> rw [q] at e <;> omega
  have hx0 := h.dm x hx
  unfold cls at hc
  by_cases h0 : x / 2 = 0
  · rw [if_pos h0, List.mem_singleton] at hc
    subst hc
    rw [List.mem_singleton] at hy
    exact key x hx0 (Or.inl hy)
  rw [if_neg h0] at hc
  cases hk : s.ks[x / 2]? with
  | none => rw [hk] at hc; cases hc
  | some k =>
    rw [hk] at hc
    simp only at hc
    by_cases hi : k = (0, 0)
    · subst hi; cases hc
    · have hK : isK k = true := by unfold isK; simp [hi]
      rw [if_pos hK] at hc
      have hkids : kidsL s.ks x = [xr k.1 (x % 2), xr k.2 (x % 2)] := by
        unfold kidsL
        rw [hk]
        simp only
        rw [if_pos hK]
      have e1 := h.dm _ (h.cl x hx (xr k.1 (x % 2)) (by rw [hkids]; simp))
      have e2 := h.dm _ (h.cl x hx (xr k.2 (x % 2)) (by rw [hkids]; simp))
      rw [xr_half] at e1 e2
      by_cases ho : x % 2 = 1
      · rw [if_pos ho, List.mem_singleton] at hc
        subst hc
        simp only [List.mem_cons, List.not_mem_nil, or_false] at hy
        rcases hy with hy | hy | hy
        · exact key x hx0 (Or.inr hy)
        · exact key k.1 e1 (Or.inr hy)
        · exact key k.2 e2 (Or.inr hy)
      · rw [if_neg ho] at hc
        simp only [List.mem_cons, List.not_mem_nil, or_false] at hc
        rcases hc with hc | hc
        · subst hc
          simp only [List.mem_cons, List.not_mem_nil, or_false] at hy
          rcases hy with hy | hy
          · exact key x hx0 (Or.inr hy)
          · exact key k.1 e1 (Or.inl hy)
        · subst hc
          simp only [List.mem_cons, List.not_mem_nil, or_false] at hy
          rcases hy with hy | hy
          · exact key x hx0 (Or.inr hy)
          · exact key k.2 e2 (Or.inl hy)
theorem Pz.ok {first : Int} {f : Nat} {s : Rz} (h : Pz first f s) (h1 : 1 ≤ first) (hv : s.vars ≤ 100000) : ∀ c ∈ s.C, okC c ∧ c.length ≤ 1000 := by
  intro c hc
  refine ⟨fun y hy => ?_, ?_⟩
  · obtain ⟨n, v, e, q⟩ := h.cl_lit c hc y hy
    have := h.rg n v e
    omega
  · rw [h.cc] at hc
    have := (cls_ne _ _ _ c hc).2
    omega
theorem Pz.ne {first : Int} {f : Nat} {s : Rz} (h : Pz first f s) : ∀ c ∈ s.C, c ≠ [] ∧ c.length ≤ 1000 := by
  intro c hc
  rw [h.cc] at hc
  have := cls_ne _ _ _ c hc
  exact ⟨this.1, by omega⟩
theorem Pz.root_lt {first : Int} {f : Nat} {s : Rz} (h : Pz first f s) {l : Nat} (hl : l ∈ s.Lt) : l < 2 * s.ks.length := by
  have := (h.vt _ (h.lt l hl)).1
  omega
theorem Pz.root_ok {first : Int} {f : Nat} {s : Rz} (h : Pz first f s) (h1 : 1 ≤ first) (hv : s.vars ≤ 100000) {l : Nat} (hl : l ∈ s.Lt) : okC [lit s.V l] := by
  intro y hy
  rw [List.mem_singleton] at hy
  obtain ⟨v, e, e1⟩ := h.root_v h1 hl
  have := h.rg _ v e
  rcases lit_of e with q | q <;> rw [q] at hy <;> omega
theorem row_bz {w : World} {b m : Nat} {f : Nat → Bool} (h : w.rowIs b 4 m (fun j => .bool (f j))) : Bz w (.slice (some ⟨b, 0, none⟩) m m) ((List.range m).map f) := by
  refine ⟨some ⟨b, 0, none⟩, m, by simp, ?_⟩
  by_cases h0 : m = 0
  · left; rw [h0]; rfl
  · refine Or.inr ⟨b, 0, rfl, fun j hj => ?_⟩
    have hj' : j < m := by simpa using hj
    rw [Nat.zero_add, h.cell hj', List.getD_eq_getElem?_getD, List.getElem?_map, List.getElem?_range hj']
    rfl
theorem insL_even {ks : List Kd} (hl : ks.length ≤ 100000) : ∀ y ∈ insL ks, ∃ p : Nat, y = 2 * (p : Int) ∧ p ≤ 100000 := by
  intro y hy
  obtain ⟨i, h1, -, rfl⟩ := mem_insL.1 hy
  exact ⟨i, rfl, by have := (List.getElem?_eq_some_iff.1 h1).1; omega⟩
theorem nats_get {L : List Nat} {j x : Nat} (h : L[j]? = some x) : (nats L).getD j 0 = (x : Int) := by
  unfold nats
  rw [List.getD_eq_getElem?_getD, List.getElem?_map, h]
  rfl
/-- A number in a list of its own. -/
theorem rl_one {w : World} {b r : Nat} {x : Int} (hb : b ≤ r) (h : w.cell? ⟨r, 0, none⟩ = some (.int .i64 x)) : Rl w b (.slice (some ⟨r, 0, none⟩) 1 1) [x] :=
  ⟨_, 1, rfl, Nat.le_refl _, by simp, Or.inr ⟨r, rfl, hb, fun j hj => by
    have : j = 0 := by simpa using hj
    subst this
    exact h⟩⟩
end Go.Proofs.Ytajpnlmglkifcaa
