/- Bracketed texts: what a text is read as, a byte behind the other. -/
import Derived.Test.YtikdjloedeinhaaDoorProg
import Derived.WalkKit
import Derived.Handy
namespace Go.Proofs.YtikdjloedeinhaaDoor
open Go.RowKit
set_option linter.unusedSimpArgs false
set_option linter.unusedVariables false

/-- A bracketed thing: its word, whether it is a list, its kids. -/
inductive Sx where
  | mk (w : ByteArray) (l : Bool) (ks : List Sx)
def Sx.w : Sx → ByteArray | .mk w _ _ => w
def Sx.l : Sx → Bool | .mk _ l _ => l
def Sx.ks : Sx → List Sx | .mk _ _ ks => ks
def blk (c : UInt8) : Bool := c == 32 || c == 9 || c == 10 || c == 13
def marks : List UInt8 := [126, 33, 64, 36, 37, 94, 38, 42, 95, 45, 43, 61, 60, 62, 46, 63, 47, 35, 58, 39, 44]
def pln (c : UInt8) : Bool := (decide (97 ≤ c.toNat) && decide (c.toNat ≤ 122)) || (decide (65 ≤ c.toNat) && decide (c.toNat ≤ 90)) || (decide (48 ≤ c.toNat) && decide (c.toNat ≤ 57)) || marks.contains c
/-- The lists that are open, the innermost first: their places, their kids so far. -/
abbrev Stk := List (Nat × List Sx)
inductive Md where
  | no
  | rem
  | wd (f : Nat) (a : List UInt8)
  | bar (f : Nat) (a : List UInt8)
  | err (p e : Nat)
structure Ps where
  pos : Nat
  st : Stk
  md : Md
def addS (x : Sx) : Stk → Stk
  | (p, ks) :: r => (p, ks ++ [x]) :: r
  | [] => []
def wordS (a : List UInt8) : Sx := .mk ⟨a.toArray⟩ false []
/-- A byte where no word and no remark is. -/
def stN (p : Nat) (st : Stk) (c : UInt8) : Ps :=
  if blk c then ⟨p + 1, st, .no⟩
  else if c = 59 then ⟨p + 1, st, .rem⟩
  else if c = 40 then (if st.length = 201 then ⟨p + 1, st, .err p 23⟩ else ⟨p + 1, (p, []) :: st, .no⟩)
  else if c = 41 then (match st with
    | (_, ks) :: q :: r => ⟨p + 1, addS (.mk ⟨#[]⟩ true ks) (q :: r), .no⟩
    | _ => ⟨p + 1, st, .err p 21⟩)
  else if c = 124 then ⟨p + 1, st, .bar p [c]⟩
  else if pln c then ⟨p + 1, st, .wd p [c]⟩
  else ⟨p + 1, st, .err p 22⟩
def stA (s : Ps) (c : UInt8) : Ps :=
  match s.md with
  | .no => stN s.pos s.st c
  | .rem => ⟨s.pos + 1, s.st, if c = 10 then .no else .rem⟩
  | .wd f a => if pln c then ⟨s.pos + 1, s.st, .wd f (a ++ [c])⟩ else stN s.pos (addS (wordS a) s.st) c
  | .bar f a => if c = 124 then ⟨s.pos + 1, addS (wordS (a ++ [c])) s.st, .no⟩ else if c = 10 then ⟨s.pos + 1, s.st, .err f 22⟩ else ⟨s.pos + 1, s.st, .bar f (a ++ [c])⟩
  | .err p e => ⟨s.pos + 1, s.st, .err p e⟩
def finS : Stk → List Sx × Nat × Nat
  | [] => ([], 0, 0)
  | [(_, ks)] => (ks, 0, 0)
  | (p, _) :: _ :: _ => ([], p, 20)
/-- What the text's end makes of it: the kids, the place, the error. -/
def fin (s : Ps) : List Sx × Nat × Nat :=
  match s.md with
  | .no => finS s.st
  | .rem => finS s.st
  | .wd _ a => finS (addS (wordS a) s.st)
  | .bar f _ => ([], f, 22)
  | .err p e => ([], p, e)
def rd (s : Ps) (l : List UInt8) : Ps := l.foldl stA s
def s0 : Ps := ⟨0, [(0, [])], .no⟩
/-- What a text is read as. -/
def pars (t : ByteArray) : List Sx × Nat × Nat := if 65536 < t.size then ([], 0, 24) else fin (rd s0 t.data.toList)
/-- What is left of the text makes this of a state. -/
def Vt (t : ByteArray) (s : Ps) : List Sx × Nat × Nat := fin (rd s (t.data.toList.drop s.pos))
theorem stN_pos (p : Nat) (st : Stk) (c : UInt8) : (stN p st c).pos = p + 1 := by
  unfold stN
  repeat' split
  all_goals rfl
theorem stA_pos (s : Ps) (c : UInt8) : (stA s c).pos = s.pos + 1 := by
  unfold stA
  cases s.md with
  | no => exact stN_pos _ _ _
  | rem => rfl
  | wd f a =>
    simp only
    split
    · rfl
    · exact stN_pos _ _ _
  | bar f a =>
    simp only
    split
    · rfl
    · split <;> rfl
  | err p e => rfl
theorem byte_at {t : ByteArray} {k : Nat} (h : k < t.size) : t.data.toList[k]? = some (t[k]'h) := by
  have h' : k < t.data.size := h
  rw [Array.getElem?_toList, Array.getElem?_eq_getElem h']; rfl
theorem len_t (t : ByteArray) : t.data.toList.length = t.size := by rw [Array.length_toList]; rfl
theorem Vt_step {t : ByteArray} {s : Ps} (h : s.pos < t.size) : Vt t s = Vt t (stA s (t[s.pos]'h)) := by
  unfold Vt
  have hl : s.pos < t.data.toList.length := by rw [len_t]; exact h
  have he : t.data.toList[s.pos] = t[s.pos]'h := by
    have := byte_at h
    rw [List.getElem?_eq_getElem hl] at this
    exact Option.some.inj this
  rw [List.drop_eq_getElem_cons hl, he, stA_pos]
  rfl
theorem Vt_end {t : ByteArray} {s : Ps} (h : t.size ≤ s.pos) : Vt t s = fin s := by
  unfold Vt
  rw [List.drop_of_length_le (by rw [len_t]; exact h)]
  rfl
theorem Vt_err {t : ByteArray} {p e : Nat} : ∀ (n : Nat) (s : Ps), t.size - s.pos = n → s.md = .err p e → Vt t s = ([], p, e)
  | 0, s, hn, hm => by rw [Vt_end (by omega)]; unfold fin; rw [hm]
  | n + 1, s, hn, hm => by
    have h : s.pos < t.size := by omega
    rw [Vt_step h]
    have e1 : stA s (t[s.pos]'h) = ⟨s.pos + 1, s.st, .err p e⟩ := by unfold stA; rw [hm]
    rw [e1]
    exact Vt_err n _ (by simp only; omega) rfl
theorem pars_Vt {t : ByteArray} (h : ¬ 65536 < t.size) : pars t = Vt t s0 := by unfold pars Vt; rw [if_neg h]; rfl
theorem Vt_blank {t : ByteArray} {k : Nat} {st : Stk} (h : k < t.size) (hb : blk (t[k]'h) = true) : Vt t ⟨k, st, .no⟩ = Vt t ⟨k + 1, st, .no⟩ := by
  rw [Vt_step (s := ⟨k, st, .no⟩) h]; simp only [stA, stN]; rw [if_pos hb]
theorem Vt_semi {t : ByteArray} {k : Nat} {st : Stk} (h : k < t.size) (hc : t[k]'h = 59) : Vt t ⟨k, st, .no⟩ = Vt t ⟨k + 1, st, .rem⟩ := by
  rw [Vt_step (s := ⟨k, st, .no⟩) h]; simp only [stA, stN]; rw [hc]; rfl
theorem Vt_rem {t : ByteArray} {k : Nat} {st : Stk} (h : k < t.size) (hc : ¬ t[k]'h = 10) : Vt t ⟨k, st, .rem⟩ = Vt t ⟨k + 1, st, .rem⟩ := by
  rw [Vt_step (s := ⟨k, st, .rem⟩) h]; simp only [stA]; rw [if_neg hc]
theorem Vt_line {t : ByteArray} {k : Nat} {st : Stk} (h : k < t.size) (hc : t[k]'h = 10) : Vt t ⟨k, st, .rem⟩ = Vt t ⟨k, st, .no⟩ := by
  rw [Vt_step (s := ⟨k, st, .rem⟩) h, Vt_blank h (by rw [hc]; rfl)]; simp only [stA]; rw [if_pos hc]
theorem Vt_rend {t : ByteArray} {k : Nat} {st : Stk} (h : t.size ≤ k) : Vt t ⟨k, st, .rem⟩ = Vt t ⟨k, st, .no⟩ := by
  rw [Vt_end h, Vt_end h]; rfl
theorem Vt_wd {t : ByteArray} {k f : Nat} {st : Stk} {a : List UInt8} (h : k < t.size) (hc : pln (t[k]'h) = true) : Vt t ⟨k, st, .wd f a⟩ = Vt t ⟨k + 1, st, .wd f (a ++ [t[k]'h])⟩ := by
  rw [Vt_step (s := ⟨k, st, .wd f a⟩) h]; simp only [stA]; rw [if_pos hc]
theorem Vt_wout {t : ByteArray} {k f : Nat} {st : Stk} {a : List UInt8} (h : k < t.size) (hc : pln (t[k]'h) = false) : Vt t ⟨k, st, .wd f a⟩ = Vt t ⟨k, addS (wordS a) st, .no⟩ := by
  rw [Vt_step (s := ⟨k, st, .wd f a⟩) h, Vt_step (s := ⟨k, addS (wordS a) st, .no⟩) h]; simp only [stA]; rw [if_neg (by rw [hc]; decide)]
theorem Vt_wend {t : ByteArray} {k f : Nat} {st : Stk} {a : List UInt8} (h : t.size ≤ k) : Vt t ⟨k, st, .wd f a⟩ = Vt t ⟨k, addS (wordS a) st, .no⟩ := by
  rw [Vt_end h, Vt_end h]; rfl
/-- The bytes from i to j. -/
def cutL (t : ByteArray) (i j : Nat) : List UInt8 := (t.data.toList.take j).drop i
theorem cut_snoc {t : ByteArray} {i j : Nat} (h : j < t.size) (hij : i ≤ j) : cutL t i (j + 1) = cutL t i j ++ [t[j]'h] := by
  unfold cutL
  rw [List.take_add_one, byte_at h, List.drop_append_of_le_length (by rw [List.length_take, len_t]; omega)]
  rfl
theorem cut_nil (t : ByteArray) (i : Nat) : cutL t i i = [] := by unfold cutL; rw [List.drop_of_length_le]; rw [List.length_take]; omega
theorem cut_len {t : ByteArray} {i j : Nat} (h : j ≤ t.size) : (cutL t i j).length = j - i := by unfold cutL; rw [List.length_drop, List.length_take, len_t]; omega
/-- All bytes from i to j stand in a word. -/
def plain (t : ByteArray) (i j : Nat) : Prop := ∀ k, i ≤ k → k < j → ∃ h : k < t.size, pln (t[k]'h) = true
theorem not_special {c : UInt8} (h : pln c = true) : blk c = false ∧ ¬ c = 59 ∧ ¬ c = 40 ∧ ¬ c = 41 ∧ ¬ c = 124 := by
  refine ⟨?_, ?_, ?_, ?_, ?_⟩
  · cases e : blk c
    · rfl
    · unfold blk at e
      simp only [Bool.or_eq_true, beq_iff_eq] at e
      rcases e with ((rfl | rfl) | rfl) | rfl <;> (revert h; decide)
  all_goals (rintro rfl; revert h; decide)
theorem Vt_word {t : ByteArray} {i j : Nat} {st : Stk} (hi : i < j) (hj : j ≤ t.size) (hp : plain t i j) : Vt t ⟨i, st, .no⟩ = Vt t ⟨j, st, .wd i (cutL t i j)⟩ := by
  have key : ∀ n, i + 1 + n ≤ j → Vt t ⟨i, st, .no⟩ = Vt t ⟨i + 1 + n, st, .wd i (cutL t i (i + 1 + n))⟩ := by
    intro n
    induction n with
    | zero =>
      intro h
      obtain ⟨hk, hc⟩ := hp i (Nat.le_refl _) hi
      obtain ⟨h1, h2, h3, h4, h5⟩ := not_special hc
      rw [Vt_step (s := ⟨i, st, .no⟩) hk]
      simp only [stA, stN]
      rw [if_neg (by rw [h1]; decide), if_neg h2, if_neg h3, if_neg h4, if_neg h5, if_pos hc, Nat.add_zero, cut_snoc hk (Nat.le_refl _), cut_nil]
      rfl
    | succ n ih =>
      intro h
      obtain ⟨hk, hc⟩ := hp (i + 1 + n) (by omega) (by omega)
      rw [ih (by omega), Vt_wd hk hc, show i + 1 + (n + 1) = i + 1 + n + 1 by omega, cut_snoc hk (by omega)]
  have := key (j - i - 1) (by omega)
  rw [show i + 1 + (j - i - 1) = j by omega] at this
  exact this
end Go.Proofs.YtikdjloedeinhaaDoor
