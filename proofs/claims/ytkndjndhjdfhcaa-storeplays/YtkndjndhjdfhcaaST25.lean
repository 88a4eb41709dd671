/- Contracts (store's walk): settle. -/
import Derived.Test.YtkndjndhjdfhcaaST24
namespace Go.Proofs.Ytkndjndhjdfhcaa
open Go.RowKit
set_option linter.unusedSimpArgs false
set_option linter.unusedVariables false

/-- Each is one of I, or the last one left of a clause. -/
def Der (C : List (List Int)) (I T : List Int) : Prop := ∀ (i : Nat) x, T[i]? = some x → x ∈ I ∨ ∃ c ∈ C, x ∈ c ∧ ∀ y ∈ c, y ≠ x → -y ∈ T.take i
theorem Der.nil (C : List (List Int)) (I : List Int) : Der C I [] := fun i x h => by simp at h
theorem Der.mono {C : List (List Int)} {I J T : List Int} (h : Der C I T) (hI : ∀ x ∈ I, x ∈ J) : Der C J T := fun i x hx => by
  rcases h i x hx with h1 | h1
  · exact Or.inl (hI x h1)
  · exact Or.inr h1
theorem Der.snoc {C : List (List Int)} {I T : List Int} (h : Der C I T) {x : Int} (hx : x ∈ I ∨ ∃ c ∈ C, x ∈ c ∧ ∀ y ∈ c, y ≠ x → -y ∈ T) : Der C I (T ++ [x]) := fun i y hy => by
  by_cases hi : i < T.length
  · rw [List.getElem?_append_left hi] at hy
    rw [List.take_append_of_le_length (by omega)]
    exact h i y hy
  · rw [List.getElem?_append_right (by omega)] at hy
    have h0 : i - T.length = 0 := by
      cases e : i - T.length with
      | zero => rfl
      | succ n => rw [e] at hy; simp at hy
    rw [h0] at hy
    obtain rfl : x = y := by simpa using hy
    rw [show i = T.length by omega, List.take_left]
    exact hx
theorem turn_any {K : List (Nat × Value)} {w0 w : World} {F0 : Nat → Prop} {s mo b N rt : Nat} {C : List (List Int)} {m : Nat} {M : List (Nat × Nat)} {P : Nat → Nat × Nat} {T : List Int} {k : Nat} {Pr : List Int} {l : Int} {Q : List Int} {i : Nat} (h : WS K w0 F0 w s mo b N rt C m M P T k) (hI : Iv C M P T Pr l ((i : Int) :: Q)) (hKl : ∀ x ∈ K, x.1 = cd l) :
    Calls Try.prog 67 #[.pointer (some ⟨b, 0, none⟩), .int .i64 (i : Int), .int .i64 l] w fun e w' => ∃ (r : Bool) (c : List Int), C[i]? = some c ∧ e = .returned (.bool r) ∧ TurnR K w0 F0 w' s mo b N rt C m M P T k Pr l Q c r := by
  obtain ⟨c, p, q, hn⟩ := hI.now h.wc.ok
  rcases hn.pq with e | e
  · refine (turn_a h hI hn hKl e).mono ?_
    rintro e w' ⟨r, h1, h2⟩
    exact ⟨r, c, hn.hi, h1, h2⟩
  · refine (turn_b h hI hn hKl e).mono ?_
    rintro e w' ⟨r, h1, h2⟩
    exact ⟨r, c, hn.hi, h1, h2⟩
/-- How far a walk's told literals were followed. -/
def seenOf (b : Nat) (w : World) : Nat := match w.cell? ⟨b, 3, none⟩ with | some (.int _ v) => v.toNat | _ => 0
theorem WS.seen {K : List (Nat × Value)} {w0 w : World} {F0 : Nat → Prop} {s mo b N rt : Nat} {C : List (List Int)} {m : Nat} {M : List (Nat × Nat)} {P : Nat → Nat × Nat} {T : List Int} {k : Nat} (h : WS K w0 F0 w s mo b N rt C m M P T k) : seenOf b w = k := by
  obtain ⟨F, vo, vm, h1⟩ := h.wk
  unfold seenOf
  rw [cell_of h1.hd 3 rfl]
  simp
/-- One more literal is to be followed. -/
theorem Wk.step {K : List (Nat × Value)} {w0 w : World} {F0 F : Nat → Prop} {s mo b N rt : Nat} {vo vm : Value} {A : List Int} {C W : List (List Int)} {M : List (Nat × Nat)} {T : List Int} {k : Nat} (h : Wk K w0 F0 w F s mo b N rt vo vm A C W M T k) : Wk K w0 F0 (w.setCell ⟨b, 3, none⟩ (.int .i64 ((k : Int) + 1))) F s mo b N rt vo vm A C W M T (k + 1) := by
  obtain ⟨s1, s2, s3, s4, s5, s6⟩ := h.sep
  have hk : ∀ q, q ≠ b → (w.setCell ⟨b, 3, none⟩ (.int .i64 ((k : Int) + 1))).heap[q]? = w.heap[q]? := fun q hq => heap_setCell_other _ _ _ _ hq
  obtain ⟨q1, q2, q3⟩ := h.stx (w' := w.setCell ⟨b, 3, none⟩ (.int .i64 ((k : Int) + 1))) (by rw [World.size_setCell]; exact Nat.le_refl _) rfl rfl rfl (fun q hq hf => hk q (by
    rintro rfl
    rcases hf with hf | hf
    · exact h.nb hf
    · have := h.b0; omega))
  exact ⟨by rw [heap_setCell_same _ _ _ _ _ _ h.hd]; rfl, h.tr.of_block (hk rt (fun e => s1 e.symm)), row_own h.to (fun q e => hk q (fun e2 => s2 (e2 ▸ e))), row_own h.mr (fun q e => hk q (fun e2 => s4 (e2 ▸ e))), h.b0, h.t0, q1, h.nb, h.nt, h.no, h.nm, q2, q3⟩
/-- What settle leaves. -/
def SetR (w0 : World) (F0 : Nat → Prop) (w' : World) (s mo b N rt : Nat) (C : List (List Int)) (m : Nat) (I T : List Int) (r : Int) : Prop :=
  ∃ M' P' T' k', WS [] w0 F0 w' s mo b N rt C m M' P' T' k' ∧ T <+: T' ∧ Der C I T' ∧
    ((r = -1 ∧ k' = T'.length ∧ Iv C M' P' T' T' 0 []) ∨ ∃ (i : Nat) (c : List Int), r = (i : Int) ∧ C[i]? = some c ∧ (∀ y ∈ c, -y ∈ T') ∧ (∀ x ∈ T', isL x = true) ∧ T'.Nodup ∧ ∀ x ∈ T', -x ∉ T')
end Go.Proofs.Ytkndjndhjdfhcaa
