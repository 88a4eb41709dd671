/- What is read is clean, and is not written much longer. -/
import Derived.Test.YtlpojfpfindpkaaDoorSX33
namespace Go.Proofs.YtlpojfpfindpkaaDoor
open Go.RowKit
set_option linter.unusedSimpArgs false
set_option linter.unusedVariables false

/-- How long things are written, a blank ahead of each. -/
def wts : List Sx → Nat
  | [] => 0
  | x :: r => x.prt.length + 1 + wts r
theorem wts_snoc (x : Sx) (l : List Sx) : wts (l ++ [x]) = wts l + (x.prt.length + 1) := by
  induction l with
  | nil => simp [wts]
  | cons y r ih => simp only [List.cons_append, wts, ih]; omega
theorem cls_snoc (x : Sx) (d : Nat) (l : List Sx) : cls d (l ++ [x]) = (cls d l && x.cl d) := by
  induction l with
  | nil => simp [cls]
  | cons y r ih => simp only [List.cons_append, cls, ih, Bool.and_assoc]
theorem pks_wts : ∀ (l : List Sx) (b : Bool), (pks b l).length ≤ wts l
  | [], b => by simp [pks]
  | x :: r, b => by
    have := pks_wts r false
    simp only [pks, wts, List.length_append]
    cases b <;> simp <;> omega
/-- The open lists hold clean things. -/
def Oks : Stk → Prop
  | [] => True
  | (_, K) :: r => cls (200 - r.length) K = true ∧ Oks r
def wtS : Stk → Nat
  | [] => 0
  | (_, K) :: r => wts K + 2 + wtS r
def Okm : Md → Nat → Prop
  | .wd _ a, n => isW a = true ∧ wpl a = a.length ∧ a.length + 1 ≤ n
  | .bar _ a, n => (∃ r, a = 124 :: r ∧ ∀ m, 0 < m → barz (r ++ [124]) m = m + r.length + 1) ∧ a.length + 1 ≤ n
  | _, _ => True
theorem isW_plain {a : List UInt8} (h : wpl a = a.length) (hn : a ≠ []) : isW a = true := by
  cases a with
  | nil => exact absurd rfl hn
  | cons c l =>
    have hp : pln c = true := by
      cases e : pln c
      · simp [wpl, e] at h
      · rfl
    have h5 := (not_special hp).2.2.2.2
    have hw : wsz (c :: l) = wpl (c :: l) := by
      show (if _ then _ else _) = _
      rw [if_neg h5]
    exact isW_t (hw.trans h) rfl (by simp)
theorem wpl_snoc {c : UInt8} (hc : pln c = true) : ∀ {a : List UInt8}, wpl a = a.length → wpl (a ++ [c]) = (a ++ [c]).length
  | [], _ => by simp [wpl, hc]
  | b :: l, h => by
    simp only [wpl, List.length_cons] at h
    split at h
    · rename_i hb
      have := wpl_snoc hc (a := l) (by omega)
      simp only [List.cons_append, wpl, if_pos hb, List.length_cons]
      omega
    · omega
theorem barz_snoc {c : UInt8} (h4 : ¬ c = 124) (h10 : ¬ c = 10) : ∀ (r : List UInt8) (m : Nat), 0 < m → barz (r ++ [124]) m = m + r.length + 1 → barz ((r ++ [c]) ++ [124]) m = m + (r ++ [c]).length + 1
  | [], m, _, _ => by simp [barz, h4, h10]
  | b :: l, m, h0, hb => by
    simp only [List.cons_append, barz, List.length_cons] at hb ⊢
    by_cases e4 : b = 124
    · rw [if_pos e4] at hb; omega
    · rw [if_neg e4] at hb ⊢
      by_cases e10 : b = 10
      · rw [if_pos e10] at hb; omega
      · rw [if_neg e10] at hb ⊢
        have := barz_snoc h4 h10 l (m + 1) (by omega) (by omega)
        simp at this ⊢; omega
structure Ivc (s : Ps) : Prop where
  len : s.st.length ≤ 201
  ne : s.st ≠ []
  oks : Oks s.st
  md : ∃ n, Okm s.md n ∧ wtS s.st + n ≤ 2 * s.pos + 2
theorem oks_add {x : Sx} : ∀ {st : Stk}, Oks st → (x.cl (201 - st.length) = true) → Oks (addS x st)
  | [], _, _ => trivial
  | (p, K) :: r, h, hx => by
    refine ⟨?_, h.2⟩
    rw [cls_snoc, h.1]
    simp only [List.length_cons] at hx
    rw [show 200 - r.length = 201 - (r.length + 1) by omega, hx]; rfl
theorem wtS_add {x : Sx} {st : Stk} (h : st ≠ []) : wtS (addS x st) = wtS st + (x.prt.length + 1) := by
  cases st with
  | nil => exact absurd rfl h
  | cons f r => obtain ⟨p, K⟩ := f; simp only [addS, wtS, wts_snoc]; omega
theorem cl_word {a : List UInt8} (h : isW a = true) (d : Nat) : (wordS a).cl d = true := by
  unfold wordS
  simp only [Sx.cl, Bool.false_eq_true, if_false, List.length_nil, decide_true, Bool.true_and]
  exact h
theorem prt_word (a : List UInt8) : (wordS a).prt = a := by simp [wordS, Sx.prt]
theorem ivc_N {p : Nat} {st : Stk} {c : UInt8} (hl : st.length ≤ 201) (hne : st ≠ []) (ho : Oks st) (hw : wtS st ≤ 2 * p + 2) : Ivc (stN p st c) := by
  unfold stN
  split
  · exact ⟨hl, hne, ho, 0, trivial, by simp only; omega⟩
  · split
    · exact ⟨hl, hne, ho, 0, trivial, by simp only; omega⟩
    · split
      · split
        · exact ⟨hl, hne, ho, 0, trivial, by simp only; omega⟩
        · refine ⟨by simp only [List.length_cons]; omega, by simp, ⟨by simp [cls], ho⟩, 0, trivial, ?_⟩
          simp only [wtS, wts]; omega
      · split
        · split
          · rename_i f ks q r
            have h2 : Oks (q :: r) := ho.2
            have hlen : (q :: r).length + 1 ≤ 201 := by simpa using hl
            have hx : (Sx.mk ⟨#[]⟩ true ks).cl (201 - (q :: r).length) = true := by
              have h1 := ho.1
              have hd1 : 1 ≤ 201 - (q :: r).length := by omega
              simp only [Sx.cl, if_true]
              rw [show 201 - (q :: r).length - 1 = 200 - (q :: r).length by omega, h1, decide_eq_true hd1]
              rfl
            have hp := pks_wts ks true
            have hpr : (Sx.mk ⟨#[]⟩ true ks).prt.length = (pks true ks).length + 2 := by simp [Sx.prt]
            refine ⟨?_, ?_, oks_add h2 hx, 0, trivial, ?_⟩
            · rw [(addS_ne2 (S := q :: r) (by simp)).2]; omega
            · exact (addS_ne2 (S := q :: r) (by simp)).1
            · simp only
              rw [wtS_add (by simp), hpr]
              have hw' : wts ks + 2 + wtS (q :: r) ≤ 2 * p + 2 := hw
              omega
          · exact ⟨hl, hne, ho, 0, trivial, by simp only; omega⟩
        · split
          · rename_i hc
            refine ⟨hl, hne, ho, 2, ⟨⟨[], by rw [hc], fun m _ => by simp [barz]⟩, by simp⟩, by simp only; omega⟩
          · split
            · rename_i hc
              refine ⟨hl, hne, ho, 2, ⟨isW_plain (by simp [wpl, hc]) (by simp), by simp [wpl, hc], by simp⟩, by simp only; omega⟩
            · exact ⟨hl, hne, ho, 0, trivial, by simp only; omega⟩
theorem ivc_step {s : Ps} {c : UInt8} (h : Ivc s) : Ivc (stA s c) := by
  obtain ⟨hl, hne, ho, n, hm, hw⟩ := h
  obtain ⟨pos, st, md⟩ := s
  simp only at hl hne ho hm hw
  unfold stA
  cases md with
  | no =>
    show Ivc (stN pos st c)
    exact ivc_N hl hne ho (by omega)
  | rem => exact ⟨hl, hne, ho, 0, by simp only; split <;> trivial, by simp only; omega⟩
  | wd f a =>
    obtain ⟨h1, h2, h3⟩ := hm
    simp only
    split
    · rename_i hc
      refine ⟨hl, hne, ho, n + 1, ⟨isW_plain (wpl_snoc hc h2) (by simp), wpl_snoc hc h2, by simp; omega⟩, by simp only; omega⟩
    · obtain ⟨a1, a2⟩ := addS_ne2 (x := wordS a) hne
      refine ivc_N (by rw [a2]; exact hl) a1 (oks_add ho (cl_word h1 _)) ?_
      rw [wtS_add hne, prt_word]; omega
  | bar f a =>
    obtain ⟨⟨r, rfl, hr⟩, h3⟩ := hm
    simp only
    split
    · rename_i hc
      obtain ⟨a1, a2⟩ := addS_ne2 (x := wordS (124 :: r ++ [c])) hne
      have hW : isW (124 :: r ++ [c]) = true := by
        have hz : wsz (124 :: r ++ [c]) = 1 + r.length + 1 := by
          rw [List.cons_append]
          show (if (124 : UInt8) = 124 then barz (r ++ [c]) 1 else wpl (124 :: (r ++ [c]))) = _
          rw [if_pos rfl, hc]; exact hr 1 (by decide)
        exact isW_t hz (by simp; omega) (by omega)
      refine ⟨by simp only; rw [a2]; exact hl, a1, oks_add ho (cl_word hW _), 0, trivial, ?_⟩
      simp only
      rw [wtS_add hne, prt_word]
      simp at h3 ⊢; omega
    · rename_i h4
      split
      · exact ⟨hl, hne, ho, 0, trivial, by simp only; omega⟩
      · rename_i h10
        refine ⟨hl, hne, ho, n + 1, ⟨⟨r ++ [c], rfl, fun m hm => barz_snoc h4 h10 r m hm (hr m hm)⟩, by simp at h3 ⊢; omega⟩, by simp only; omega⟩
  | err p e => exact ⟨hl, hne, ho, 0, trivial, by simp only; omega⟩
theorem ivc_rd : ∀ (l : List UInt8) {s : Ps}, Ivc s → Ivc (rd s l)
  | [], _, h => h
  | _ :: l, _, h => ivc_rd l (ivc_step h)
/-- What is read is clean, and written in no more than twice the text. -/
theorem pars_clean {t : ByteArray} {ks : List Sx} (h : pars t = (ks, 0, 0)) : cls 200 ks = true ∧ wts ks ≤ 2 * t.size := by
  unfold pars at h
  split at h
  · cases h
  · have hi := ivc_rd t.data.toList (s := s0) ⟨by decide, by simp [s0], ⟨rfl, trivial⟩, 0, trivial, by simp [s0, wtS, wts]⟩
    have hpos := rd_pos t.data.toList s0
    rw [len_t] at hpos
    obtain ⟨hl, hne, ho, n, hm, hw⟩ := hi
    revert h hl hne ho hm hw
    rw [hpos]
    obtain ⟨pos, st, md⟩ := rd s0 t.data.toList
    intro h hl hne ho hm hw
    simp only at hl hne ho hm hw
    have key : ∀ st' : Stk, Oks st' → wtS st' ≤ 2 * t.size + 2 → finS st' = (ks, 0, 0) → st' ≠ [] → cls 200 ks = true ∧ wts ks ≤ 2 * t.size := by
      intro st' ho' hw' hf hn'
      match st', ho', hw', hf with
      | [], _, _, _ => exact absurd rfl hn'
      | [(p, K)], ho', hw', hf =>
        have : K = ks := congrArg Prod.fst hf
        subst this
        refine ⟨ho'.1, ?_⟩
        simp only [wtS] at hw'; omega
      | (p, K) :: q :: r, _, _, hf => exact absurd (congrArg (fun x => x.2.2) hf) (by simp [finS])
    have hs0 : s0.pos = 0 := rfl
    rw [hs0, Nat.zero_add] at hw
    cases md with
    | no => exact key st ho (by omega) h hne
    | rem => exact key st ho (by omega) h hne
    | wd f a =>
      obtain ⟨h1, h2, h3⟩ := hm
      exact key _ (oks_add ho (cl_word h1 _)) (by rw [wtS_add hne, prt_word]; omega) h (addS_ne2 hne).1
    | bar f a => exact absurd (congrArg (fun x => x.2.2) h) (by simp [fin])
    | err p e =>
      have h1 : ([], p, e) = (ks, 0, 0) := h
      cases h1
      exact ⟨rfl, Nat.zero_le _⟩
end Go.Proofs.YtlpojfpfindpkaaDoor
