/- Plain: what is written is read again (dec_enc); the numbers of bytes. -/
import Derived.Test.YthdgmkjjpmigeaaTR9
namespace Go.Proofs.Ythdgmkjjpmigeaa
open Go.RowKit
set_option linter.unusedSimpArgs false
set_option linter.unusedVariables false

theorem prt_skip {p r : List Int} (hp : p.length = 4) (j : Nat) : ∀ t, prt (p ++ r) (j + 1) t = prt r j t
  | 0 => rfl
  | t + 1 => by
    unfold prt
    rw [prt_skip hp j t, List.getD_eq_getElem?_getD, List.getElem?_append_right (by omega), hp, List.getD_eq_getElem?_getD, show 4 * (j + 1) + t - 4 = 4 * j + t by omega]
theorem prt_head {n : Nat} (hn : n < 4294967296) (r : List Int) : prt (be4 n ++ r) 0 4 = (n : Int) := by
  simp only [prt, be4, List.getD_eq_getElem?_getD, List.cons_append, List.nil_append]
  simp
  omega
theorem be4_len (n : Nat) : (be4 n).length = 4 := rfl
theorem numsF_cons {n : Nat} (hn : n < 4294967296) (r : List Int) : numsF (be4 n ++ r) = (n : Int) :: numsF r := by
  unfold numsF
  rw [List.length_append, be4_len, show (4 + r.length) / 4 = r.length / 4 + 1 by omega, List.range_succ_eq_map, List.map_cons, prt_head hn, List.map_map]
  refine congrArg (List.cons _) (List.map_congr_left fun j _ => ?_)
  exact prt_skip (be4_len n) j 4
theorem numsF_flat : ∀ {l : List Int}, (∀ x ∈ l, 0 ≤ x ∧ x < 4294967296) → numsF (l.flatMap fun x => be4 x.toNat) = l
  | [], _ => rfl
  | x :: l, h => by
    have hx := h x (by simp)
    rw [List.flatMap_cons, numsF_cons (by omega), numsF_flat (fun y hy => h y (by simp [hy]))]
    congr 1
    omega
def flatN (C : List (List Int)) : List Int := C.flatMap fun s => (s.length : Int) :: s
theorem flatN_bytes (C : List (List Int)) : C.flatMap ebody = (flatN C).flatMap fun x => be4 x.toNat := by
  unfold flatN
  rw [List.flatMap_assoc]
  congr 1
theorem cutF_flat : ∀ (C A : List (List Int)), cutF C.length A (flatN C) = (A ++ C, true)
  | [], A => by simp [cutF, flatN]
  | s :: C, A => by
    have e : flatN (s :: C) = (s.length : Int) :: (s ++ flatN C) := rfl
    rw [e, List.length_cons, cutF, if_neg (by rw [List.length_append]; omega), show ((s.length : Int)).toNat = s.length by omega, List.take_left', List.drop_left', cutF_flat C]
    · simp
    · rfl
    · rfl
theorem flatN_in {C : List (List Int)} {P : Int → Prop} (h1 : ∀ s ∈ C, P (s.length : Int)) (h2 : ∀ s ∈ C, ∀ x ∈ s, P x) : ∀ x ∈ flatN C, P x := fun x hx => by
  obtain ⟨s, hs, hx⟩ := List.mem_flatMap.1 hx
  rcases List.mem_cons.1 hx with e | e
  · rw [e]; exact h1 s hs
  · exact h2 s hs x e
theorem noN_iff (x : Int) : noN x = false ↔ 0 ≤ x ∧ x ≤ 2147483647 := by
  unfold noN
  simp
theorem flatN_len (C : List (List Int)) : (flatN C).length = C.length + (C.map List.length).sum := by
  unfold flatN
  induction C with
  | nil => rfl
  | cons s C ih => simp only [List.flatMap_cons, List.length_append, List.length_cons, List.map_cons, List.sum_cons, ih]; omega
theorem len_sum' {L : List (List Int)} {x : List Int} (h : x ∈ L) : x.length ≤ (L.map List.length).sum := by
  induction L with
  | nil => simp at h
  | cons y L ih =>
    rw [List.map_cons, List.sum_cons]
    rcases List.mem_cons.1 h with e | e
    · subst e; omega
    · have := ih e; omega
/-- What is written is read as it was. -/
theorem dec_enc {C : List (List Int)} (hs : C.length + (C.map List.length).sum ≤ 3000) (h : (encF C).2 = 0) : decF (encF C).1 = (C, 0) := by
  have h0 : C.any (fun s => s.any noN) = false := by
    unfold encF at h
    split at h
    · cases h
    · next e => simpa using e
  have hin : ∀ s ∈ C, ∀ x ∈ s, 0 ≤ x ∧ x ≤ 2147483647 := fun s hs x hx => by
    have h1 := List.any_eq_false.1 h0 s hs
    rw [Bool.not_eq_true] at h1
    have h2 := List.any_eq_false.1 h1 x hx
    rw [Bool.not_eq_true] at h2
    exact (noN_iff x).1 h2
  have e1 : (encF C).1 = hd ++ (be4 C.length ++ C.flatMap ebody) := by
    unfold encF; rw [if_neg (by simp [h0])]; simp
  have e2 : be4 C.length ++ C.flatMap ebody = ((C.length : Int) :: flatN C).flatMap fun x => be4 x.toNat := by
    rw [List.flatMap_cons, flatN_bytes]
    rfl
  have hall : ∀ x ∈ (C.length : Int) :: flatN C, 0 ≤ x ∧ x ≤ 2147483647 := fun x hx => by
    rcases List.mem_cons.1 hx with e | e
    · rw [e]; omega
    · exact flatN_in (P := fun x => 0 ≤ x ∧ x ≤ 2147483647) (fun s hs' => by have := len_sum' hs'; omega) hin x e
  have e3 : numsF (be4 C.length ++ C.flatMap ebody) = (C.length : Int) :: flatN C := by
    rw [e2, numsF_flat (fun x hx => by have := hall x hx; omega)]
  have hl : (be4 C.length ++ C.flatMap ebody).length = 4 * (1 + (flatN C).length) := by
    rw [e2, flat_len, List.length_cons]; omega
  rw [e1]
  unfold decF
  have hp : pfx (hd ++ (be4 C.length ++ C.flatMap ebody)) hd = true := by
    unfold pfx; rw [List.take_left']
    · simp
    · rfl
  have hll : (hd ++ (be4 C.length ++ C.flatMap ebody)).length = 4 + 4 * (1 + (flatN C).length) := by rw [List.length_append, hl]; rfl
  rw [if_neg (by rw [hp, hll]; simp only [Bool.true_eq_false, false_or, not_or]; omega), List.drop_left' (show hd.length = 4 from rfl), e3]
  unfold decN
  have ha : ((C.length : Int) :: flatN C).any noN = false := by
    rw [List.any_eq_false]
    intro x hx
    rw [Bool.not_eq_true, noN_iff]
    exact hall x hx
  rw [if_neg (by simp [ha])]
  show (if (cutF ((C.length : Int)).toNat [] (flatN C)).2 then ((cutF ((C.length : Int)).toNat [] (flatN C)).1, (0 : Int)) else ([], 120)) = _
  rw [show ((C.length : Int)).toNat = C.length by omega, cutF_flat]
  simp
end Go.Proofs.Ythdgmkjjpmigeaa
