/- Contracts (clauses): Root. -/
import Derived.Test.YtajpnlmglkifcaaCN8
namespace Go.Proofs.Ytajpnlmglkifcaa
open Go.RowKit
set_option linter.unusedSimpArgs false
set_option linter.unusedVariables false

/-- Nodes get variables, one behind the other. -/
def asg (V : Int → Option Int) (vars : Int) : List Int → (Int → Option Int)
  | [] => V
  | n :: r => asg (upf V n (vars + 1)) (vars + 1) r
theorem asg_snoc (V : Int → Option Int) : ∀ (l : List Int) (vars n : Int), asg V vars (l ++ [n]) = upf (asg V vars l) n (vars + l.length + 1)
  | [], vars, n => by show upf V n (vars + 1) = upf V n (vars + ((0 : Nat) : Int) + 1); simp
  | m :: r, vars, n => by
    show asg (upf V m (vars + 1)) (vars + 1) (r ++ [n]) = upf (asg (upf V m (vars + 1)) (vars + 1) r) n (vars + ((r.length + 1 : Nat) : Int) + 1)
    rw [asg_snoc (upf V m (vars + 1)) r (vars + 1) n]
    congr 1
    omega
theorem asg_rng {V : Int → Option Int} {b : Int} : ∀ (l : List Int) (vars : Int), 0 ≤ vars → vars + l.length ≤ b → (∀ n, 0 ≤ (V n).getD 0 ∧ (V n).getD 0 ≤ b) → ∀ n, 0 ≤ (asg V vars l n).getD 0 ∧ (asg V vars l n).getD 0 ≤ b := by
  intro l
  induction l generalizing V with
  | nil => intro vars _ _ h; exact h
  | cons m r ih =>
    intro vars h0 hb h
    have hb' : vars + ((r.length + 1 : Nat) : Int) ≤ b := hb
    refine ih (vars + 1) (by omega) (by omega) (fun n => ?_)
    unfold upf
    split
    · simp only [Option.getD_some]; omega
    · exact h n
def clsL (ks : List Kd) (V : Int → Option Int) (L : List Nat) : List (List Int) := L.flatMap (cls ks V)
theorem cls_len (ks : List Kd) (V : Int → Option Int) (l : Nat) : (cls ks V l).length ≤ 2 := by
  unfold cls
  split
  · simp
  · split
    · simp
    · split
      · split <;> simp
      · simp
theorem clsL_len (ks : List Kd) (V : Int → Option Int) : ∀ L : List Nat, (clsL ks V L).length ≤ 2 * L.length
  | [] => by simp [clsL]
  | x :: r => by
    have h1 := clsL_len ks V r
    have h2 := cls_len ks V x
    unfold clsL at h1 ⊢
    rw [List.flatMap_cons, List.length_append, List.length_cons]
    omega
theorem clsL_snoc {ks : List Kd} {V : Int → Option Int} {L : List Nat} {k x : Nat} (h : L[k]? = some x) : clsL ks V (L.take (k + 1)) = clsL ks V (L.take k) ++ cls ks V x := by
  unfold clsL
  rw [List.take_add_one, h, List.flatMap_append]
  simp
theorem up_len {L : List Int} (hs : L.Pairwise (· < ·)) {N : Nat} (h : ∀ x ∈ L, 0 ≤ x ∧ x < (N : Int)) : L.length ≤ N := by
  have h1 := nodup_len N (L.map Int.toNat) (by
    rw [List.Nodup, List.pairwise_map]
    exact (hs.imp_of_mem fun {a b} ha hb hab => by
      have := h a ha
      have := h b hb
      omega)) (fun x hx => by
    obtain ⟨y, hy, rfl⟩ := List.mem_map.1 hx
    have := h y hy
    omega)
  rwa [List.length_map] at h1
end Go.Proofs.Ytajpnlmglkifcaa
