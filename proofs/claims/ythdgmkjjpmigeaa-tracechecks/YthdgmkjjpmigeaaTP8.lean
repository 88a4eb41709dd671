/- Plain: the document's Decode is the program's. -/
import Derived.Test.YthdgmkjjpmigeaaTE3
namespace Go.Proofs.Ythdgmkjjpmigeaa
open Go.RowKit
set_option linter.unusedSimpArgs false
set_option linter.unusedVariables false

theorem numsF_step {d : List Int} (h : ¬ d.length < 4) : numsF d = nm d :: numsF (d.drop 4) := by
  have hs : d.take 4 ++ d.drop 4 = d := List.take_append_drop 4 d
  have hl : (d.take 4).length = 4 := by rw [List.length_take]; omega
  unfold numsF nm
  rw [List.length_drop, show d.length / 4 = (d.length - 4) / 4 + 1 by omega, List.range_succ_eq_map, List.map_cons, List.map_map]
  refine congrArg (List.cons _) (List.map_congr_left fun j _ => ?_)
  have := prt_skip (p := d.take 4) (r := d.drop 4) hl j 4
  rw [hs] at this
  exact this
theorem numsF_nil {d : List Int} (h : d.length < 4) : numsF d = [] := by
  unfold numsF; rw [show d.length / 4 = 0 by omega]; rfl
theorem numsF_drop : ∀ (K : Nat) {d : List Int}, 4 * K ≤ d.length → numsF (d.drop (4 * K)) = (numsF d).drop K
  | 0, d, _ => by simp
  | K + 1, d, h => by
    rw [numsF_step (d := d) (by omega), List.drop_succ_cons, ← numsF_drop K (by rw [List.length_drop]; omega), List.drop_drop, show 4 + 4 * K = 4 * (K + 1) by omega]
theorem noN_nm {d : List Int} (h : byts d) : noN (nm d) = decide (2147483647 < nm d) := by
  have := nm_b h
  unfold noN
  rw [decide_eq_false (by omega)]; rfl
theorem inR_eq : ∀ (K : Nat) (l : List Int) {d : List Int}, byts d → 4 * K ≤ d.length → inR K l d = if ((numsF d).take K).any noN = true then none else some (l ++ (numsF d).take K, d.drop (4 * K))
  | 0, l, d, _, _ => by simp [inR]
  | K + 1, l, d, hb, h => by
    rw [inR, inR_eq K _ (byts_drop hb 4) (by rw [List.length_drop]; omega), numsF_step (d := d) (by omega), List.take_succ_cons, List.any_cons, noN_nm hb, List.drop_drop, show 4 + 4 * K = 4 * (K + 1) by omega]
    by_cases hx : 2147483647 < nm d
    · rw [if_pos hx, decide_eq_true hx]; simp
    · rw [if_neg hx, decide_eq_false hx]
      simp
theorem numsF_le {d : List Int} : (numsF d).length = d.length / 4 := numsF_len d
theorem decR_mod : ∀ (m : Nat) (C : List (List Int)) {d : List Int}, byts d → d.length % 4 ≠ 0 → decR m C d = none
  | 0, C, d, _, h => by rw [decR, if_neg (by omega)]
  | m + 1, C, d, hb, h => by
    rw [decR]
    split
    · rfl
    · split
      · rfl
      · next h4 hk =>
        have hn := nm_b hb
        have hK : 4 * (nm d).toNat ≤ (d.drop 4).length := by omega
        rw [inR_eq _ _ (byts_drop hb 4) hK]
        split
        · rfl
        · exact decR_mod m _ (byts_drop (byts_drop hb 4) _) (by rw [List.length_drop, List.length_drop]; rw [List.length_drop] at hK; omega)
theorem decR_bad : ∀ (m : Nat) (C : List (List Int)) {d : List Int}, byts d → d.length ≤ 10000 → (numsF d).any noN = true → decR m C d = none
  | 0, C, d, _, _, h => by
    rw [decR, if_neg]
    intro e
    rw [numsF_nil (by omega)] at h
    cases h
  | m + 1, C, d, hb, hl, h => by
    rw [decR]
    split
    · rfl
    · split
      · rfl
      · next h4 hk =>
        have hn := nm_b hb
        have hK : 4 * (nm d).toNat ≤ (d.drop 4).length := by omega
        rw [inR_eq _ _ (byts_drop hb 4) hK]
        split
        · rfl
        · next hno =>
          refine decR_bad m _ (byts_drop (byts_drop hb 4) _) (by rw [List.length_drop, List.length_drop]; omega) ?_
          rw [numsF_drop _ hK]
          rw [numsF_step h4, List.any_cons, noN_nm hb, decide_eq_false (by rw [List.length_drop] at hk; omega), Bool.false_or] at h
          have e := List.take_append_drop (nm d).toNat (numsF (d.drop 4))
          rw [← e, List.any_append] at h
          rw [Bool.not_eq_true] at hno
          rw [hno, Bool.false_or] at h
          exact h
theorem decR_far : ∀ (m : Nat) (C : List (List Int)) {d : List Int}, byts d → d.length < m → decR m C d = none
  | 0, C, d, _, h => by omega
  | m + 1, C, d, hb, h => by
    rw [decR]
    split
    · rfl
    · split
      · rfl
      · next h4 hk =>
        have hn := nm_b hb
        have hK : 4 * (nm d).toNat ≤ (d.drop 4).length := by omega
        rw [inR_eq _ _ (byts_drop hb 4) hK]
        split
        · rfl
        · exact decR_far m _ (byts_drop (byts_drop hb 4) _) (by rw [List.length_drop, List.length_drop]; omega)
theorem decR_cut : ∀ (m : Nat) (C : List (List Int)) {d : List Int}, byts d → d.length % 4 = 0 → (numsF d).any noN = false → decR m C d = if (cutF m C (numsF d)).2 = true then some (cutF m C (numsF d)).1 else none
  | 0, C, d, _, h, _ => by
    rw [decR, cutF]
    by_cases e : d.length = 0
    · rw [if_pos e, numsF_nil (by omega)]; rfl
    · rw [if_neg e, numsF_step (by omega)]; rfl
  | m + 1, C, d, hb, h, hno => by
    rw [decR]
    by_cases h4 : d.length < 4
    · rw [if_pos h4, numsF_nil h4, cutF]; rfl
    · rw [if_neg h4]
      rw [numsF_step h4] at hno ⊢
      rw [List.any_cons, Bool.or_eq_false_iff] at hno
      have hn := nm_b hb
      rw [cutF, numsF_le]
      by_cases hk : (((d.drop 4).length / 4 : Nat) : Int) < nm d
      · rw [if_pos hk, if_pos hk]; rfl
      · rw [if_neg hk, if_neg hk]
        have hK : 4 * (nm d).toNat ≤ (d.drop 4).length := by omega
        have hno2 : ((numsF (d.drop 4)).take (nm d).toNat).any noN = false := by
          rw [List.any_eq_false]
          intro x hx
          exact List.any_eq_false.1 hno.2 x (List.mem_of_mem_take hx)
        rw [inR_eq _ _ (byts_drop hb 4) hK, hno2, if_neg (by simp)]
        show decR m _ _ = _
        rw [List.nil_append, decR_cut m _ (byts_drop (byts_drop hb 4) _) (by rw [List.length_drop, List.length_drop]; rw [List.length_drop] at hK; omega) (by
          rw [numsF_drop _ hK, List.any_eq_false]
          intro x hx
          exact List.any_eq_false.1 hno.2 x (List.mem_of_mem_drop hx)), numsF_drop _ hK]
/-- The document's Decode reads as the program's does. -/
theorem dec_same {b : List Int} (hb : byts b) (hl : b.length ≤ 10000) : decD (decO b) = decF b := by
  unfold decO decF
  by_cases h8 : b.length < 8
  · rw [if_pos (Or.inl h8), if_pos (Or.inr (Or.inl h8))]; rfl
  by_cases hh : b.take 4 = hd
  rotate_left
  · rw [if_pos (Or.inr hh), if_pos (Or.inl (by unfold pfx; exact decide_eq_false hh))]; rfl
  rw [if_neg (by rintro (e | e); exact h8 e; exact e hh)]
  have hp : pfx b hd = true := by unfold pfx; exact decide_eq_true hh
  have hb4 := byts_drop hb 4
  have hb8 := byts_drop hb 8
  have hn := nm_b hb4
  have hd8 : (b.drop 4).drop 4 = b.drop 8 := by rw [List.drop_drop]
  have hl8 : (b.drop 8).length = b.length - 8 := List.length_drop
  by_cases hm : (b.length - 4) % 4 = 0
  rotate_left
  · rw [if_pos (Or.inr (Or.inr hm)), decR_mod _ _ hb8 (by omega)]; rfl
  rw [if_neg (by rw [hp]; rintro (e | e | e); cases e; exact h8 e; exact e hm)]
  rw [numsF_step (d := b.drop 4) (by rw [List.length_drop]; omega), hd8]
  unfold decN
  rw [List.any_cons]
  by_cases hN : noN (nm (b.drop 4)) = true
  · rw [hN]
    have hN2 : 2147483647 < nm (b.drop 4) := by rw [noN_nm hb4] at hN; exact of_decide_eq_true hN
    rw [decR_far _ _ hb8 (by omega)]
    rfl
  · rw [Bool.not_eq_true] at hN
    rw [hN, Bool.false_or]
    by_cases ha : (numsF (b.drop 8)).any noN = true
    · rw [decR_bad _ _ hb8 (by omega) ha, if_pos ha]; rfl
    · rw [Bool.not_eq_true] at ha
      rw [decR_cut _ _ hb8 (by omega) ha, if_neg (show ¬ (numsF (b.drop 8)).any noN = true by rw [ha]; simp)]
      show decD (if (cutF (nm (b.drop 4)).toNat [] (numsF (b.drop 8))).2 = true then some _ else none) = if (cutF (nm (b.drop 4)).toNat [] (numsF (b.drop 8))).2 = true then _ else _
      split <;> rfl
/-- What was read is written as it was. -/
theorem cut_flat : ∀ (m : Nat) (C : List (List Int)) {l : List Int}, (∀ x ∈ l, 0 ≤ x) → (cutF m C l).2 = true → ∃ E, (cutF m C l).1 = C ++ E ∧ E.length = m ∧ flatN E = l
  | 0, C, l, _, h => by
    rw [cutF] at h ⊢
    refine ⟨[], by simp, rfl, ?_⟩
    cases l with
    | nil => rfl
    | cons x r => cases h
  | m + 1, C, [], _, h => by rw [cutF] at h; cases h
  | m + 1, C, x :: r, hp, h => by
    rw [cutF] at h ⊢
    by_cases hx : (r.length : Int) < x
    · rw [if_pos hx] at h; cases h
    · rw [if_neg hx] at h ⊢
      have hx0 := hp x (by simp)
      obtain ⟨E, h1, h2, h3⟩ := cut_flat m _ (fun y hy => hp y (by simp [List.mem_of_mem_drop hy])) h
      refine ⟨r.take x.toNat :: E, by rw [h1]; simp, by simp [h2], ?_⟩
      show (((r.take x.toNat).length : Int) :: r.take x.toNat) ++ flatN E = _
      rw [h3, List.length_take, Nat.min_eq_left (by omega), List.cons_append, List.take_append_drop]
      congr 1
      omega
theorem nums_flat : ∀ (n : Nat) {d : List Int}, d.length = 4 * n → byts d → (numsF d).flatMap (fun x => be4 x.toNat) = d
  | 0, d, h, _ => by
    have : d = [] := List.eq_nil_of_length_eq_zero (by omega)
    subst this; rfl
  | n + 1, d, h, hb => by
    rw [numsF_step (by omega), List.flatMap_cons, nums_flat n (by rw [List.length_drop]; omega) (byts_drop hb 4)]
    have e : be4 (nm d).toNat = d.take 4 := by
      match d, h, hb with
      | a :: b :: c :: e :: r, _, hb =>
        have ha := hb a (by simp)
        have hbb := hb b (by simp)
        have hc := hb c (by simp)
        have he := hb e (by simp)
        rw [nm_eq]
        simp only [be4, List.take_succ_cons, List.take_zero, List.getD_eq_getElem?_getD, List.getElem?_cons_zero, List.getElem?_cons_succ, Option.getD_some, List.cons.injEq, and_true]
        omega
      | [], h, _ => simp at h
      | [_], h, _ => simp at h; omega
      | [_, _], h, _ => simp at h; omega
      | [_, _, _], h, _ => simp at h; omega
    rw [e, List.take_append_drop]
theorem decF_ok {b : List Int} (h : (decF b).2 = 0) : b.take 4 = hd ∧ ¬ b.length < 8 ∧ (b.length - 4) % 4 = 0 ∧ (∀ x ∈ numsF (b.drop 8), noN x = false) ∧ (cutF (nm (b.drop 4)).toNat [] (numsF (b.drop 8))).2 = true ∧ (decF b).1 = (cutF (nm (b.drop 4)).toNat [] (numsF (b.drop 8))).1 := by
  by_cases hc : pfx b hd = false ∨ b.length < 8 ∨ (b.length - 4) % 4 ≠ 0
  · have : decF b = ([], 120) := by unfold decF; rw [if_pos hc]
    rw [this] at h; cases h
  · have e1 : decF b = decN (numsF (b.drop 4)) := by unfold decF; rw [if_neg hc]
    simp only [not_or] at hc
    obtain ⟨hp, h8, hm⟩ := hc
    have hh : b.take 4 = hd := by
      unfold pfx at hp
      rw [Bool.not_eq_false] at hp
      exact of_decide_eq_true hp
    have hd8 : (b.drop 4).drop 4 = b.drop 8 := by rw [List.drop_drop]
    rw [numsF_step (d := b.drop 4) (by rw [List.length_drop]; omega), hd8] at e1
    by_cases hno : (nm (b.drop 4) :: numsF (b.drop 8)).any noN = true
    · have : decF b = ([], 120) := by rw [e1]; unfold decN; rw [if_pos hno]
      rw [this] at h; cases h
    · have e2 : decF b = if (cutF (nm (b.drop 4)).toNat [] (numsF (b.drop 8))).2 = true then ((cutF (nm (b.drop 4)).toNat [] (numsF (b.drop 8))).1, 0) else ([], 120) := by
        rw [e1]; unfold decN; rw [if_neg hno]
      by_cases hcut : (cutF (nm (b.drop 4)).toNat [] (numsF (b.drop 8))).2 = true
      · rw [if_pos hcut] at e2
        refine ⟨hh, h8, by omega, fun x hx => ?_, hcut, by rw [e2]⟩
        rw [Bool.not_eq_true, List.any_eq_false] at hno
        have := hno x (by simp [hx])
        simpa using this
      · rw [if_neg hcut] at e2
        rw [e2] at h; cases h
theorem enc_dec {b : List Int} (hb : byts b) (h : (decF b).2 = 0) : encF (decF b).1 = (b, 0) := by
  obtain ⟨hh, h8, hm, hno, hcut, he⟩ := decF_ok h
  obtain ⟨E, h1, h2, h3⟩ := cut_flat _ [] (fun x hx => ((noN_iff x).1 (hno x hx)).1) hcut
  rw [List.nil_append] at h1
  rw [he, h1]
  have hd8 : (b.drop 4).drop 4 = b.drop 8 := by rw [List.drop_drop]
  have hE : E.any (fun s => s.any noN) = false := by
    rw [List.any_eq_false]
    intro s hs
    rw [Bool.not_eq_true, List.any_eq_false]
    intro x hx
    rw [Bool.not_eq_true]
    refine hno x ?_
    rw [← h3]
    exact List.mem_flatMap.2 ⟨s, hs, by simp [hx]⟩
  unfold encF
  rw [if_neg (by rw [hE]; simp)]
  refine Prod.ext ?_ rfl
  show hd ++ be4 E.length ++ E.flatMap ebody = b
  have hbf := nums_flat ((b.length - 4) / 4) (d := b.drop 4) (by rw [List.length_drop]; omega) (byts_drop hb 4)
  rw [numsF_step (d := b.drop 4) (by rw [List.length_drop]; omega), hd8, List.flatMap_cons] at hbf
  rw [flatN_bytes, h3, h2, List.append_assoc, hbf, ← hh, List.take_append_drop]
end Go.Proofs.Ythdgmkjjpmigeaa
