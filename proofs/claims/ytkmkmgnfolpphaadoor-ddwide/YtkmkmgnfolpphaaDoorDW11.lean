/- The chain's counts and its size. -/
import Derived.Test.YtkmkmgnfolpphaaDoorDW10
import Derived.Test.YtkmkmgnfolpphaaDoorDE14
namespace Go.Proofs.YtkmkmgnfolpphaaDoor

theorem fC_pos {j : Nat} (h : 1 ≤ j) : fC j = 2 * (j : Int) := by unfold fC; rw [if_neg (by omega)]
theorem nsC_two (V : Nat) : ∀ k, 2 ≤ (nsC V k).length
  | 0 => Nat.le_refl _
  | k + 1 => by rw [nsC_len]; omega
theorem at3_app {ns ms : List T3} {i : Nat} {n : T3} (h : ns[i]? = some n) {j : Int} (hj : j = (i : Int)) : at3 (ns ++ ms) j = n := by
  refine at3_nth (i := i) ?_ hj
  rw [List.getElem?_append_left (List.getElem?_eq_some_iff.1 h).1]; exact h
theorem fC_at {V K j : Nat} (h1 : 1 ≤ j) (h2 : j ≤ K) (ms : List T3) : at3 (nsC V K ++ ms) (fC j) = ((V : Int) - (j : Int), 0, fC (j - 1)) := by
  obtain ⟨n, q1, q2⟩ := (nsC_at V K).2.2 j h1 h2
  rw [← q2]
  exact at3_app q1 (by rw [fC_pos h1]; omega)
theorem fC_alive {V K : Nat} : ∀ {j : Nat} (_ : j ≤ K) (ms : List T3), alive (nsC V K ++ ms) (fC j)
  | 0, _, ms => ⟨by decide, by have := nsC_two V K; rw [List.length_append]; show 1 < _; omega, Or.inl (by decide)⟩
  | j + 1, h2, ms => by
    obtain ⟨n, q1, q2⟩ := (nsC_at V K).2.2 (j + 1) (by omega) h2
    have hl := (List.getElem?_eq_some_iff.1 q1).1
    refine ⟨by rw [fC_pos (by omega)]; omega, by rw [List.length_append]; omega, Or.inr ?_⟩
    rw [fC_at (by omega) h2 ms]
    intro e
    have : fC j = 0 := by
      have := congrArg (fun t : T3 => t.2.2) e
      exact this
    unfold fC at this
    split at this <;> omega
theorem cvl_chain {V : Nat} {sp : List Int} (g : Good V (nsC V V) sp) : ∀ j, j ≤ V → cvl V (nsC V V) (fC j) = cC V j
  | 0, _ => by rw [cvl_le (by decide)]; rfl
  | j + 1, h => by
    have ha := fC_alive (V := V) h []
    have he := fC_at (V := V) (j := j + 1) (by omega) h []
    rw [List.append_nil] at ha he
    rw [cvl_step g ha (by rw [fC_pos (by omega)]; omega), he]
    show meanF (cvl V (nsC V V) 0) (cvl V (nsC V V) (fC j)) = meanF (zerL V) (cC V j)
    rw [cvl_chain g j (by omega), cvl_le (by decide)]; rfl
theorem nN_at (V L : Nat) : ∀ k j, j < k → (nN V L k)[j]? = some ((V : Int) - (j : Int) - 1, 1, gN L j)
  | k + 1, j, h => by
    show (nN V L k ++ _)[j]? = _
    have hl := nN_len V L k
    by_cases e : j = k
    · subst e
      rw [List.getElem?_append_right (by omega), hl]; simp
    · rw [List.getElem?_append_left (by omega)]; exact nN_at V L k j (by omega)
theorem gN_at {V L j : Nat} (hL : L = (nsC V V).length) (h : j < V) : at3 (nsC V V ++ nN V L V) (gN L (j + 1)) = ((V : Int) - (j : Int) - 1, 1, gN L j) := by
  refine at3_nth (i := L + j) ?_ (by unfold gN; rw [if_neg (by omega)]; omega)
  rw [List.getElem?_append_right (by omega), hL, Nat.add_sub_cancel_left, ← hL]; exact nN_at V L V j h
theorem gN_alive {V L : Nat} (hL : L = (nsC V V).length) : ∀ {j : Nat}, j ≤ V → alive (nsC V V ++ nN V L V) (gN L j)
  | 0, _ => ⟨Int.le_refl 0, by have := nsC_two V V; rw [List.length_append]; show 0 < _; omega, Or.inl (by show (0 : Int) ≤ 1; decide)⟩
  | j + 1, h => by
    refine ⟨by unfold gN; rw [if_neg (by omega)]; omega, ?_, Or.inr ?_⟩
    · rw [List.length_append, nN_len, ← hL]; unfold gN; rw [if_neg (by omega)]; omega
    · rw [gN_at hL (by omega)]
      intro e
      have h1 : (1 : Int) = 0 := congrArg (fun t : T3 => t.2.1) e
      omega
theorem cvl_not {V L : Nat} {sp : List Int} (hL : L = (nsC V V).length) (g : Good V (nsC V V ++ nN V L V) sp) : ∀ j, j ≤ V → cvl V (nsC V V ++ nN V L V) (gN L j) = cN V j
  | 0, _ => by rw [cvl_le (by show (0 : Int) ≤ 1; decide)]; rfl
  | j + 1, h => by
    have h2 := nsC_two V V
    rw [cvl_step g (gN_alive hL h) (by unfold gN; rw [if_neg (by omega)]; omega), gN_at hL (by omega)]
    show meanF (cvl V _ 1) (cvl V _ (gN L j)) = meanF (powL (V / 59 + 1) V) (cN V j)
    rw [cvl_not hL g j (by omega), cvl_le (by decide)]; rfl
theorem chain_vis {V : Nat} : ∀ (j n : Nat) (s : Vs), j ≤ V → j ≤ n → (∀ i, 1 ≤ i → i ≤ j → s.me.getD (2 * i) false = false) → (visF (nsC V V) n s (fC j)).od.length = s.od.length + j
  | 0, 0, s, _, _, _ => rfl
  | 0, n + 1, s, _, _, _ => by rw [visF, if_pos (Or.inl (by decide))]; rfl
  | j + 1, 0, s, _, h, _ => by omega
  | j + 1, n + 1, s, hV, hn, hs => by
    have he := fC_at (V := V) (j := j + 1) (by omega) hV []
    rw [List.append_nil] at he
    have hf : (fC (j + 1)).toNat = 2 * (j + 1) := by rw [fC_pos (by omega)]; omega
    have h0 : ∀ t, visF (nsC V V) n t 0 = t := fun t => by
      cases n with
      | zero => rfl
      | succ n => rw [visF, if_pos (Or.inl (by decide))]
    rw [visF, if_neg (by
      rw [hf, hs (j + 1) (by omega) (Nat.le_refl _), fC_pos (by omega)]
      intro h; rcases h with h | h
      · omega
      · cases h)]
    simp only [he, h0, List.length_append, List.length_cons, List.length_nil]
    show (visF (nsC V V) n ⟨s.me.set (fC (j + 1)).toNat true, s.od⟩ (fC j)).od.length + 1 = _
    rw [chain_vis j n _ (by omega) (by omega) (fun i i1 i2 => by
      show (s.me.set (fC (j + 1)).toNat true).getD (2 * i) false = false
      rw [List.getD_eq_getElem?_getD, List.getElem?_set, if_neg (by omega), ← List.getD_eq_getElem?_getD]
      exact hs i i1 (by omega))]
    show s.od.length + j + 1 = _
    omega
theorem chain_size (V : Nat) : (odF V (nsC V V) (fC V)).length = V := by
  unfold odF
  rw [chain_vis V (V + 1) _ (Nat.le_refl _) (by omega) (fun i _ _ => by
    unfold v0F
    rw [List.getD_eq_getElem?_getD]
    by_cases h : 2 * i < (nsC V V).length
    · rw [List.getElem?_replicate, if_pos h]; rfl
    · rw [List.getElem?_eq_none (by rw [List.length_replicate]; omega)]; rfl)]
  show 0 + V = V
  omega
end Go.Proofs.YtkmkmgnfolpphaaDoor
