/- LiftValues: the document's right values; lists of truths copied. -/
import Derived.Test.YtedldoobmmhloaaLF3
import Derived.Test.YtedldoobmmhloaaU3
import Derived.Test.YtedldoobmmhloaaX1
namespace Go.Proofs.Ytedldoobmmhloaa
open Go.RowKit
set_option linter.unusedSimpArgs false
set_option linter.unusedVariables false

theorem refright_rgt {A lo hi : Int} (l0 : 0 ≤ lo) (l1 : lo < 18446744073709551616) (h0 : 0 ≤ hi) (h1 : hi < 18446744073709551616) (w : World) :
    Calls Try.prog 12 #[.agg #[.int .i64 A, .int .u64 lo, .int .u64 hi]] w fun e w' => e = .returned (.bool (rgt A lo hi)) ∧ Below w.heap.size w w' := by
  obtain ⟨N, hN⟩ : ∃ N : Nat, N = (lo + 18446744073709551616 * hi).toNat := ⟨_, rfl⟩
  have hN2 : N < 2 ^ 128 := by omega
  have el : lo = LO N := by unfold LO; omega
  have eh : hi = HI N := by unfold HI; omega
  by_cases ho : A < 0 ∨ 128 < A
  · have e : rgt A lo hi = false := by unfold rgt; rcases ho with h | h <;> simp [show ¬ 0 ≤ A ∨ ¬ A ≤ 128 from by omega] <;> omega
    rw [e, el, eh]
    exact refright_out ho w
  · by_cases hz : A = 0
    · subst hz
      have e : rgt 0 lo hi = (decide (LO N ≤ 1) && (HI N == 0)) := by
        rw [← el, ← eh]
        unfold rgt
        by_cases a : hi = 0
        · by_cases b : lo ≤ 1
          · by_cases c : lo = 0
            · simp [a, c]
            · have : lo = 1 := by omega
              simp [a, this]
          · have c : ¬ lo = 0 := by omega
            have d : ¬ lo = 1 := by omega
            simp [a, b, c, d]
        · simp [a]
      rw [e, el, eh]
      exact refright_0 w
    · obtain ⟨W, rfl⟩ : ∃ W : Nat, A = W := ⟨A.toNat, by omega⟩
      have e : rgt (W : Int) lo hi = decide (N < 2 ^ W) := by
        unfold rgt
        rw [if_neg hz, show decide (0 ≤ (W : Int)) = true by simp, show decide ((W : Int) ≤ 128) = true by simp; omega, Int.toNat_natCast]
        simp only [Bool.true_and, decide_eq_decide]
        have e2 : ((2 : Int) ^ W) = ((2 ^ W : Nat) : Int) := by simp
        rw [e2]
        omega
      rw [e, el, eh]
      refine refright_w (by omega) (by omega) hN2 rfl ?_ w
      by_cases hlt : N < 2 ^ W
      · rw [show decide (N < 2 ^ W) = true by simp [hlt]]; exact eqB_yes (Nat.mod_eq_of_lt hlt)
      · rw [show decide (N < 2 ^ W) = false by simp [hlt]]; exact eqB_no fun e => hlt (by rw [← e]; exact mod_lt_W _ _)
/-- What a right value is. -/
theorem rgt_out {A lo hi : Int} (l0 : 0 ≤ lo) (l1 : lo < 18446744073709551616) (h0 : 0 ≤ hi) (h1 : hi < 18446744073709551616) (h : rgt A lo hi = true) :
    ∃ s N : Nat, A = s ∧ s ≤ 128 ∧ lo = LO N ∧ hi = HI N ∧ N < 2 ^ 128 ∧ N < 2 ^ max s 1 := by
  obtain ⟨N, hN⟩ : ∃ N : Nat, N = (lo + 18446744073709551616 * hi).toNat := ⟨_, rfl⟩
  have hN2 : N < 2 ^ 128 := by omega
  unfold rgt at h
  simp only [Bool.and_eq_true, decide_eq_true_eq] at h
  obtain ⟨⟨a0, a1⟩, h⟩ := h
  refine ⟨A.toNat, N, by omega, by omega, by unfold LO; omega, by unfold HI; omega, hN2, ?_⟩
  by_cases hz : A = 0
  · subst hz
    rw [if_pos rfl] at h
    have h2 : (lo = 0 ∧ hi = 0) ∨ (lo = 1 ∧ hi = 0) := by simpa using h
    show N < 2 ^ 1
    omega
  · rw [if_neg hz] at h
    have h2 : lo + 18446744073709551616 * hi < 2 ^ A.toNat := by simpa using h
    have e2 : ((2 : Int) ^ A.toNat) = ((2 ^ A.toNat : Nat) : Int) := by simp
    rw [e2] at h2
    rw [show max A.toNat 1 = A.toNat by omega]
    omega

theorem run_append_noneB (w : World) (ty : TypeId) {c : Nat} :
    (Builtin.append_ #[22, 22] ty #[.slice none 0 0, .slice none 0 c]).run Try.prog w = .ok (.slice none 0 0) w := by
  obtain ⟨i, hi, hz, hs, hb⟩ := info4
  simp [Builtin.append_, run_underlying Try.underlying22, sizeOf, typeInfo, hi, Builtin.lenOf, Builtin.firstCells]
/-- A list of truths is copied. -/
theorem app_br (w : World) (ty : TypeId) {c : Nat} {ad : Option Addr} {l : List Bool} (hle : Br w ad l) (hn : l.length ≤ 100000) :
    ∃ a d w', (Builtin.append_ #[22, 22] ty #[.slice none 0 0, .slice ad l.length c]).run Try.prog w = .ok (.slice a l.length d) w' ∧ Br w' a l ∧ Below w.heap.size w w' := by
  obtain ⟨i, hi, hz, hs, hb⟩ := info4
  have go : ∀ (a : Addr), (∀ j u, (bv l)[j]? = some u → w.cell? (a.add j) = some u) → ∃ b d w', (Builtin.append_ #[22, 22] ty #[.slice none 0 0, .slice (some a) l.length c]).run Try.prog w = .ok (.slice b l.length d) w' ∧ Br w' b l ∧ Below w.heap.size w w' := by
    intro a ha
    obtain ⟨v', w', h1, h2, h3, -⟩ := run_append_own (P := Try.prog) w w.heap.size 22 ty 4 i _ 1 1 Try.underlying22 hi hz hs hb rfl (by decide) (.slice none 0 0) 0 [] (World.ownsRow_nil _ _ _ _) a l.length c (bv l) (by simp [bv]) ha (bv_one l) (by unfold maxLen; omega) (by omega) (Nat.le_refl _)
    have hB : Bs w' w.heap.size v' l := by unfold Bs; simpa using h2
    have hb' : Below w.heap.size w w' := (Below.refl w.heap.size w).grown h3 (Nat.le_refl _) (fun q hq => by cases hq)
    rcases hB.2 with ⟨rfl, h0⟩ | ⟨r, cap, cur, rfl, -⟩
    · exact ⟨none, 0, w', by rw [h0] at h1 ⊢; exact h1, Or.inl (List.eq_nil_of_length_eq_zero h0), hb'⟩
    · exact ⟨_, _, w', h1, Bs.br hB rfl, hb'⟩
  rcases hle with rfl | ⟨g, o, rfl, hg, hc⟩
  · cases ad with
    | none => exact ⟨none, 0, w, run_append_noneB w ty, Or.inl rfl, Below.refl _ _⟩
    | some a => exact go a (fun j u h => by simp [bv] at h)
  · refine go ⟨g, o, none⟩ (fun j u h => ?_)
    have hj : j < l.length := by have := (List.getElem?_eq_some_iff.1 h).1; simpa [bv] using this
    have e : (⟨g, o, none⟩ : Addr).add j = ⟨g, o + j, none⟩ := by simp [Addr.add]
    rw [e, hc j hj, ← h, bv_get, List.getD_eq_getElem?_getD, List.getElem?_eq_getElem hj]; rfl
theorem wpList_app_br {w : World} {ops : Array Oper} {rest : List Oper} {o : Oper} {a : Act} {Q : Exit → Act → World → Prop} (hgd : o.guard = none) (s x : Operand)
    (ho : o.op = .call { callee := .builtin .append, args := #[s, x], argTypes := #[22, 22] }) (hs : a.eval s = .slice none 0 0)
    (ad : Option Addr) (l : List Bool) (c m : Nat) (hx : a.eval x = .slice ad m c) (hm : m = l.length) (hle : Br w ad l) (hn : l.length ≤ 100000)
    (h : ∀ b d w', Br w' b l → Below w.heap.size w w' → wpList Try.prog ops Q rest (a.put o.dst (.slice b m d)) w') :
    wpList Try.prog ops Q (o :: rest) a w := by
  subst hm
  refine wpList_plain hgd fun K hK => ?_
  obtain ⟨b, d, w', hr, h2, h3⟩ := app_br w o.type (c := c) hle hn
  unfold Oper.wp execOp
  simp only [ho, resolve, invoke, builtin, Sem.run_bind, Sem.run_pure, Result.andThen_ok, List.map_toArray, List.map_cons, List.map_nil, hs, hx, hr]
  exact hK _ _ (h b d w' h2 h3)
end Go.Proofs.Ytedldoobmmhloaa
