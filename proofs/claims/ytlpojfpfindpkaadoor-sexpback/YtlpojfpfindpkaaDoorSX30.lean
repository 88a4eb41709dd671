/- What is written is read again: clean things, the state behind one. -/
import Derived.Test.YtlpojfpfindpkaaDoorSX28
import Derived.Test.YtlpojfpfindpkaaDoorSX19
namespace Go.Proofs.YtlpojfpfindpkaaDoor
open Go.RowKit
set_option linter.unusedSimpArgs false
set_option linter.unusedVariables false

mutual
/-- Lists without words, words without kids; no deeper than d. -/
def Sx.cl : Nat → Sx → Bool
  | d, .mk w l ks => if l then decide (w.size = 0) && (decide (1 ≤ d) && cls (d - 1) ks) else decide (ks.length = 0) && isW w.data.toList
def cls : Nat → List Sx → Bool
  | _, [] => true
  | d, x :: r => x.cl d && cls d r
end
/-- The state settles to these open lists at the next byte that is in no word. -/
def Sd (s : Ps) (S : Stk) : Prop := (s.md = .no ∧ s.st = S) ∨ ∃ f a, s.md = .wd f a ∧ addS (wordS a) s.st = S
theorem Sd.next {s : Ps} {S : Stk} {c : UInt8} (h : Sd s S) (hc : pln c = false) : stA s c = stN s.pos S c := by
  rcases h with ⟨h1, rfl⟩ | ⟨f, a, h1, rfl⟩
  · unfold stA; rw [h1]
  · unfold stA; rw [h1]; simp only; rw [if_neg (by rw [hc]; decide)]
theorem Sd.fin {s : Ps} {S : Stk} (h : Sd s S) : Go.Proofs.YtlpojfpfindpkaaDoor.fin s = finS S := by
  rcases h with ⟨h1, rfl⟩ | ⟨f, a, h1, rfl⟩
  · unfold Go.Proofs.YtlpojfpfindpkaaDoor.fin; rw [h1]
  · unfold Go.Proofs.YtlpojfpfindpkaaDoor.fin; rw [h1]
theorem Sd.blank {s : Ps} {S : Stk} {c : UInt8} (h : Sd s S) (hc : blk c = true) : stA s c = ⟨s.pos + 1, S, .no⟩ := by
  have hp : pln c = false := by
    cases e : pln c
    · rfl
    · have := (not_special e).1; rw [hc] at this; cases this
  rw [h.next hp]; unfold stN; rw [if_pos hc]
theorem rd_cons (s : Ps) (c : UInt8) (l : List UInt8) : rd s (c :: l) = rd (stA s c) l := rfl
theorem rd_plain : ∀ (l : List UInt8) {p f : Nat} {st : Stk} {a : List UInt8}, wpl l = l.length → rd ⟨p, st, .wd f a⟩ l = ⟨p + l.length, st, .wd f (a ++ l)⟩
  | [], p, f, st, a, _ => by simp [rd]
  | c :: l, p, f, st, a, h => by
    simp only [wpl, List.length_cons] at h
    split at h
    · rename_i hc
      rw [rd_cons]
      have e : stA ⟨p, st, .wd f a⟩ c = ⟨p + 1, st, .wd f (a ++ [c])⟩ := by unfold stA; simp only; rw [if_pos hc]
      rw [e, rd_plain l (by omega)]
      simp [Nat.add_comm, Nat.add_left_comm]
    · omega
theorem rd_bar : ∀ (l : List UInt8) {n p f : Nat} {st : Stk} {a : List UInt8}, 0 < n → barz l n = n + l.length → rd ⟨p, st, .bar f a⟩ l = ⟨p + l.length, addS (wordS (a ++ l)) st, .no⟩
  | [], n, p, f, st, a, h0, h => by simp [barz] at h; omega
  | c :: l, n, p, f, st, a, h0, h => by
    simp only [barz, List.length_cons] at h
    rw [rd_cons]
    split at h
    · rename_i hc
      have hl : l = [] := List.length_eq_zero_iff.1 (by omega)
      subst hl
      have e : stA ⟨p, st, .bar f a⟩ c = ⟨p + 1, addS (wordS (a ++ [c])) st, .no⟩ := by unfold stA; simp only; rw [if_pos hc]
      rw [e]; rfl
    · rename_i hc
      split at h
      · omega
      · rename_i h10
        have e : stA ⟨p, st, .bar f a⟩ c = ⟨p + 1, st, .bar f (a ++ [c])⟩ := by unfold stA; simp only; rw [if_neg hc, if_neg h10]
        rw [e, rd_bar l (n := n + 1) (by omega) (by omega)]
        simp [Nat.add_comm, Nat.add_left_comm]
theorem rd_word {l : List UInt8} (h : isW l = true) {p : Nat} {st : Stk} : Sd (rd ⟨p, st, .no⟩ l) (addS (wordS l) st) ∧ (rd ⟨p, st, .no⟩ l).pos = p + l.length := by
  unfold isW at h
  simp only [Bool.and_eq_true, decide_eq_true_eq] at h
  obtain ⟨h0, h1⟩ := h
  cases l with
  | nil => simp [wsz] at h0
  | cons c l =>
    rw [rd_cons]
    have hw : wsz (c :: l) = if c = 124 then barz l 1 else wpl (c :: l) := rfl
    rw [hw] at h1
    split at h1
    · rename_i hc
      have e : stA ⟨p, st, .no⟩ c = ⟨p + 1, st, .bar p [c]⟩ := by rw [hc]; rfl
      rw [e, rd_bar l (n := 1) (by decide) (by rw [h1, List.length_cons]; omega)]
      exact ⟨Or.inl ⟨rfl, rfl⟩, by simp only [List.length_cons]; omega⟩
    · rename_i hc
      have hp : pln c = true := by
        cases e : pln c
        · simp [wpl, e] at h1
        · rfl
      have hl : wpl l = l.length := by
        simp only [wpl, List.length_cons] at h1
        rw [if_pos hp] at h1; omega
      obtain ⟨n1, n2, n3, n4, n5⟩ := not_special hp
      have e : stA ⟨p, st, .no⟩ c = ⟨p + 1, st, .wd p [c]⟩ := by
        unfold stA stN; simp only
        rw [if_neg (by rw [n1]; decide), if_neg n2, if_neg n3, if_neg n4, if_neg n5, if_pos hp]
      rw [e, rd_plain l hl]
      exact ⟨Or.inr ⟨p, [c] ++ l, rfl, rfl⟩, by simp only [List.length_cons]; omega⟩
def addAll (ks : List Sx) (S : Stk) : Stk := ks.foldl (fun S x => addS x S) S
theorem addAll_top (ks : List Sx) : ∀ (f : Nat) (K : List Sx) (st : Stk), addAll ks ((f, K) :: st) = (f, K ++ ks) :: st := by
  induction ks with
  | nil => intro f K st; simp [addAll]
  | cons x r ih =>
    intro f K st
    show addAll r (addS x ((f, K) :: st)) = _
    show addAll r ((f, K ++ [x]) :: st) = _
    rw [ih]; simp
theorem addS_ne2 {x : Sx} {S : Stk} (h : S ≠ []) : addS x S ≠ [] ∧ (addS x S).length = S.length := by
  cases S with
  | nil => exact absurd rfl h
  | cons a r => obtain ⟨p, k⟩ := a; exact ⟨by simp [addS], by simp [addS]⟩
theorem rd_pos (l : List UInt8) : ∀ s : Ps, (rd s l).pos = s.pos + l.length := by
  induction l with
  | nil => intro s; rfl
  | cons c l ih => intro s; rw [rd_cons, ih, stA_pos, List.length_cons]; omega
/-- A clean thing that is written is read as it was. -/
theorem rd_prt (x : Sx) : ∀ {d p : Nat} {st : Stk}, x.cl d = true → st ≠ [] → st.length + d ≤ 201 → Sd (rd ⟨p, st, .no⟩ x.prt) (addS x st) := by
  match x with
  | .mk w l ks =>
  intro d p st hcl hne hd
  have IH : ∀ y ∈ ks, ∀ {d p : Nat} {st : Stk}, y.cl d = true → st ≠ [] → st.length + d ≤ 201 → Sd (rd ⟨p, st, .no⟩ y.prt) (addS y st) := fun y hy => rd_prt y
  have key : ∀ (r : List Sx) (d : Nat), (∀ y ∈ r, ∀ {d p : Nat} {st : Stk}, y.cl d = true → st ≠ [] → st.length + d ≤ 201 → Sd (rd ⟨p, st, .no⟩ y.prt) (addS y st)) → cls d r = true → ∀ (s : Ps) (S : Stk), Sd s S → S ≠ [] → S.length + d ≤ 201 → Sd (rd s (pks false r)) (addAll r S) := by
    intro r d
    induction r with
    | nil => intro _ _ s S hS _ _; exact hS
    | cons y r ih =>
      intro hI hc s S hS hn hl
      simp only [cls, Bool.and_eq_true] at hc
      have e : pks false (y :: r) = 32 :: (y.prt ++ pks false r) := by simp [pks]
      rw [e, rd_cons, rd_app, hS.blank (c := 32) rfl]
      obtain ⟨a1, a2⟩ := addS_ne2 (x := y) hn
      have h1 := hI y (List.mem_cons_self ..) (p := s.pos + 1) hc.1 hn hl
      exact ih (fun z hz => hI z (List.mem_cons_of_mem _ hz)) hc.2 _ _ h1 a1 (by show (addS y S).length + _ ≤ 201; omega)
  cases l
  · simp only [Sx.cl, Bool.false_eq_true, if_false, Bool.and_eq_true, decide_eq_true_eq] at hcl
    have hk : ks = [] := List.length_eq_zero_iff.1 hcl.1
    have hp : (Sx.mk w false ks).prt = w.data.toList := by simp [Sx.prt]
    have hx : Sx.mk w false ks = wordS w.data.toList := by rw [hk]; rfl
    rw [hp, hx]
    exact (rd_word hcl.2).1
  · simp only [Sx.cl, if_true, Bool.and_eq_true, decide_eq_true_eq] at hcl
    obtain ⟨hw, hd1, hc⟩ := hcl
    have hwe : w = ⟨#[]⟩ := by
      apply ByteArray.ext
      exact Array.eq_empty_of_size_eq_zero hw
    have hp : (Sx.mk w true ks).prt = 40 :: (pks true ks ++ [41]) := by simp [Sx.prt]
    rw [hp, rd_cons, rd_app]
    have e40 : stA ⟨p, st, .no⟩ 40 = ⟨p + 1, (p, []) :: st, .no⟩ := by
      show stN p st 40 = _
      unfold stN
      rw [if_neg (by decide), if_neg (by decide), if_pos rfl, if_neg (by omega)]
    rw [e40]
    have hin : Sd (rd ⟨p + 1, (p, []) :: st, .no⟩ (pks true ks)) ((p, ks) :: st) := by
      cases ks with
      | nil => exact Or.inl ⟨rfl, rfl⟩
      | cons y r =>
        simp only [cls, Bool.and_eq_true] at hc
        have e : pks true (y :: r) = y.prt ++ pks false r := by simp [pks]
        rw [e, rd_app]
        have h1 := IH y (List.mem_cons_self ..) (d := d - 1) (p := p + 1) (st := (p, []) :: st) hc.1 (by simp) (by simp only [List.length_cons]; omega)
        have h2 := key r (d - 1) (fun z hz => IH z (List.mem_cons_of_mem _ hz)) hc.2 _ _ h1 (by simp [addS]) (by simp only [addS, List.length_cons]; omega)
        have e2 : addAll r (addS y ((p, []) :: st)) = (p, y :: r) :: st := by
          show addAll r ((p, [] ++ [y]) :: st) = _
          rw [addAll_top]; rfl
        rw [e2] at h2; exact h2
    obtain ⟨q, ts, rfl⟩ : ∃ q ts, st = q :: ts := by
      cases st with
      | nil => exact absurd rfl hne
      | cons q ts => exact ⟨q, ts, rfl⟩
    show Sd (stA (rd ⟨p + 1, (p, []) :: q :: ts, .no⟩ (pks true ks)) 41) _
    rw [hin.next (c := 41) (by decide), hwe]
    exact Or.inl ⟨rfl, rfl⟩
termination_by SizeOf.sizeOf x
decreasing_by
  simp_wf
  have := List.sizeOf_lt_of_mem hy
  omega
/-- One clean thing. -/
theorem pars_prt {x : Sx} (h : x.cl 200 = true) (hl : x.prt.length ≤ 65536) : pars (tx x.prt) = ([x], 0, 0) := by
  unfold pars
  rw [if_neg (by rw [tx_size]; omega)]
  have e : (tx x.prt).data.toList = x.prt := by show x.prt.toArray.toList = _; simp
  rw [e]
  have := rd_prt x (p := 0) (st := [(0, [])]) h (by simp) (by decide)
  exact this.fin
end Go.Proofs.YtlpojfpfindpkaaDoor
