/- Numbers that the kernel reckons: the chain's counts. -/
import Derived.Test.YtkmkmgnfolpphaaDoorDW7
namespace Go.Proofs.YtkmkmgnfolpphaaDoor

def cC (V : Nat) : Nat → List Nat
  | 0 => powL (V / 59 + 1) V
  | j + 1 => meanF (zerL V) (cC V j)
def cN (V : Nat) : Nat → List Nat
  | 0 => zerL V
  | j + 1 => meanF (powL (V / 59 + 1) V) (cN V j)
def dbls : Nat → List Nat
  | 0 => [1]
  | k + 1 => dblN (dbls k)
def lastN (b : List Nat) : Nat := b.getLastD 0
def chk (V : Nat) : Bool :=
  decide (textN (cC V V) = [1]) && decide (textN (powL (V / 59 + 1) V) = dbls V) && decide (dblN (hlfN (dbls V)) = dbls V)
    && decide (1 ≤ lastN (dbls V)) && decide (lastN (dbls V) ≤ 9) && decide ((dbls V).dropLast ++ [lastN (dbls V)] = dbls V) && decide (textN (cN V V) = (dbls V).dropLast ++ [lastN (dbls V) - 1])
    && decide (dbls V ≠ [1]) && decide ((dbls V).length ≤ 100) && (dbls V).all (fun d => decide (d < 10)) && decide ((hlfN (dbls V)).length ≤ 100) && (hlfN (dbls V)).all (fun d => decide (d < 10))
set_option maxRecDepth 100000 in
theorem chk_all : (List.range 120).all (fun v => chk (v + 1)) = true := by decide +kernel
theorem chk_at {V : Nat} (h1 : 1 ≤ V) (h2 : V ≤ 120) : chk V = true := by
  obtain ⟨v, rfl⟩ : ∃ v, V = v + 1 := ⟨V - 1, by omega⟩
  exact List.all_eq_true.1 chk_all v (List.mem_range.2 (by omega))
/-- What holds of the chain's counts. -/
theorem wide {V : Nat} (h1 : 1 ≤ V) (h2 : V ≤ 120) : textN (cC V V) = [1] ∧ textN (powL (V / 59 + 1) V) = dbls V ∧ dblN (hlfN (dbls V)) = dbls V ∧ D10 (hlfN (dbls V)) ∧ (hlfN (dbls V)).length ≤ 100 ∧ ∃ (bs : List Nat) (x : Nat), dbls V = bs ++ [x] ∧ textN (cN V V) = bs ++ [x - 1] ∧ 1 ≤ x ∧ x ≤ 9 ∧ bs ++ [x] ≠ [1] ∧ D10 bs ∧ bs.length ≤ 100 := by
  have h := chk_at h1 h2
  unfold chk at h
  simp only [Bool.and_eq_true, decide_eq_true_eq, List.all_eq_true] at h
  obtain ⟨⟨⟨⟨⟨⟨⟨⟨⟨⟨⟨q1, q2⟩, q3⟩, q4⟩, q5⟩, q6⟩, q7⟩, q8⟩, q9⟩, q10⟩, q11⟩, q12⟩ := h
  refine ⟨q1, q2, q3, q12, q11, _, _, q6.symm, q7, q4, q5, by rw [q6]; exact q8, fun d hd => q10 d (by rw [← q6]; exact List.mem_append_left _ hd), ?_⟩
  rw [List.length_dropLast]; omega
theorem dbls_ok : ∀ k, D10 (dbls k) ∧ (dbls k).length ≤ k + 1
  | 0 => ⟨fun d hd => by rw [List.mem_singleton.1 hd]; decide, Nat.le_refl _⟩
  | k + 1 => by
    obtain ⟨h1, h2⟩ := dbls_ok k
    obtain ⟨q1, q2, q3⟩ := dbl_ok (dbls k) h1
    show D10 (dblN (dbls k)) ∧ (dblN (dbls k)).length ≤ _
    unfold dblN
    split
    · refine ⟨fun d hd => ?_, by rw [List.length_cons, q3]; omega⟩
      rcases List.mem_cons.1 hd with rfl | hd
      · decide
      · exact q1 d hd
    · exact ⟨q1, by rw [q3]; omega⟩
end Go.Proofs.YtkmkmgnfolpphaaDoor
