/- Contracts (the law's run): play. -/
import Derived.Test.YtajpnlmglkifcaaCN14
namespace Go.Proofs.Ytajpnlmglkifcaa
open Go.RowKit
set_option linter.unusedSimpArgs false
set_option linter.unusedVariables false

/-- A step. -/
structure Tp where
  what : Int
  a : Int
  b : Int
def Tp.cs (s : Tp) : List Value := [.int .i64 s.what, .int .i64 s.a, .int .i64 s.b]
instance : Inhabited Tp := ⟨⟨0, 0, 0⟩⟩
/-- The cells behind g, o hold the steps l. -/
def Ln (w : World) (g o : Nat) (l : List Tp) : Prop := ∀ (j : Nat) (s : Tp), l[j]? = some s → ∀ t u, s.cs[t]? = some u → w.cell? ⟨g, o + j * 3 + t, none⟩ = some u
/-- A slice of steps at that address. -/
def La (w : World) (a : Option Addr) (l : List Tp) : Prop := l = [] ∨ ∃ g o, a = some ⟨g, o, none⟩ ∧ g < w.heap.size ∧ Ln w g o l
theorem La.below {w wx : World} {a : Option Addr} {l : List Tp} (h : La w a l) (hb : Below w.heap.size w wx) : La wx a l := by
  rcases h with h | ⟨g, o, ha, hg, h⟩
  · exact Or.inl h
  · exact Or.inr ⟨g, o, ha, Nat.lt_of_lt_of_le hg hb.size, fun j s hs t u hu => keep_cell hb (h j s hs t u hu)⟩
def pa (s : Tp) (z : Rz) : Int := s.a % (2 * (z.ks.length : Int))
def pb (s : Tp) (z : Rz) : Int := s.b % (2 * (z.ks.length : Int))
/-- What a step makes of a run. -/
def stepR (st : Tp) (s s' : Rz) : Prop :=
  if st.what = 0 then s' = (if (insL s.ks).length < 5 then { s with ks := (inpF 60 s.ks).2.2 } else s)
  else if st.what = 1 ∨ st.what = 2 ∨ st.what = 3 then s' = { s with ks := (andF 60 s.ks (pa st s) (pb st s)).2.2 }
  else if st.what = 4 then s' = { s with ks := (xorF 60 s.ks (pa st s) (pb st s)).2.2 }
  else if st.what = 5 ∨ st.what = 6 ∨ st.what = 7 then ∃ L, UO s.ks s.T (max (pa st s).toNat 1) L ∧ s' = rtS s L (pa st s).toNat
  else if st.what = 8 then s' = { s with vars := s.vars + 1 } else s' = s
def playR : List Tp → Rz → Rz → Prop
  | [], s, s' => s' = s
  | st :: r, s, s' => ∃ s1, stepR st s s1 ∧ playR r s1 s'
theorem playR_snoc {st : Tp} : ∀ {l : List Tp} {s s1 s2 : Rz}, playR l s s1 → stepR st s1 s2 → playR (l ++ [st]) s s2
  | [], s, s1, s2, h, h2 => ⟨s2, by rw [← (show s1 = s from h)]; exact h2, rfl⟩
  | x :: r, s, s1, s2, ⟨s3, h3, h4⟩, h2 => ⟨s3, h3, playR_snoc h4 h2⟩
/-- A graph that has grown. -/
theorem RnX.grow {w w' : World} {B X g e mo mv mp : Nat} {F F' : Nat → Prop} {col : Nat → Nat} {va vl vr : Value} {us : List Value} {s : Rz} {ks2 : List Kd} (h : RnX w B X g e mo mv mp F col va vl vr us s) (hB : B ≤ w.heap.size) (hG : Gr w' F' g mo ks2) (hc : Ch w w' F F') : Rn w' B X g e mo mv mp { s with ks := ks2 } ∧ Below B w w' := by
  have hkeep : ∀ q, q < w.heap.size → 1 ≤ col q → w'.heap[q]? = w.heap[q]? := fun q hq hcq => hc.block q hq (fun hf => by have := (h.cF q hf).2.1; omega)
  have q1 := h.ce.1
  have q2 := h.cv.1
  have q3 := h.cp.1
  have q4 := h.cX.1
  have hcol : ∀ q, q < w.heap.size → (if q < w.heap.size then col q else 0) = col q := fun q hq => by simp only [hq, if_true]
  refine ⟨⟨F', fun k => if k < w.heap.size then col k else 0, va, vl, vr, us, (hkeep X h.lt (by omega)).trans h.hd, hG, h.en.kept (fun b hb => ?_), h.al.own (fun k hk hh => hkeep k hk ?_), row_own h.li (fun k hk => hkeep k (h.li.lt k hk).2 (by have := h.cl k hk; omega)), row_own h.ro (fun k hk => hkeep k (h.ro.lt k hk).2 (by have := h.cr k hk; omega)), fun k hk => ?_, ?_, ?_, ?_, ?_, fun k hk => ?_, fun u hu k hk => ?_, fun k hk => ?_, fun k hk => ?_⟩, ⟨hc.os, hc.tape, hc.output, hc.size, fun q hq => hc.block q (by omega) (fun hf => by have := (h.cF q hf).2.2; omega)⟩⟩
  · rcases hb with rfl | rfl | rfl
    · exact hkeep _ h.en.lt (by omega)
    · exact hkeep _ h.en.vs.lt (by omega)
    · exact hkeep _ h.en.ps.lt (by omega)
  · rcases hh with hh | ⟨u, hu, hh⟩
    · have := h.ca k hh; omega
    · have := h.cu u hu k hh; omega
  · rcases hc.foot k hk with hf | ⟨hf, hf2⟩
    · obtain ⟨r1, r2, r3⟩ := h.cF k hf
      rw [hcol k r1]
      exact ⟨by have := hc.size; omega, r2, r3⟩
    · exact ⟨hf2, by simp only [if_neg (show ¬ k < w.heap.size by omega)], by omega⟩
  · rw [hcol e h.en.lt]; exact h.ce
  · rw [hcol mv h.en.vs.lt]; exact h.cv
  · rw [hcol mp h.en.ps.lt]; exact h.cp
  · rw [hcol X h.lt]; exact h.cX
  · rw [hcol k (h.al.row.lt k hk).2]; exact h.ca k hk
  · rw [hcol k (h.ult u hu k hk)]; exact h.cu u hu k hk
  · rw [hcol k (h.li.lt k hk).2]; exact h.cl k hk
  · rw [hcol k (h.ro.lt k hk).2]; exact h.cr k hk
/-- A variable more. -/
theorem RnX.more {w w' : World} {B X g e mo mv mp : Nat} {F : Nat → Prop} {col : Nat → Nat} {va vl vr : Value} {us : List Value} {s : Rz} (h : RnX w B X g e mo mv mp F col va vl vr us s) (hB : B ≤ w.heap.size) (hE : En w' e g (s.vars + 1) mv mp s.V (polF s.T)) (ht : Tn w w' (fun b => b = e)) : Rn w' B X g e mo mv mp { s with vars := s.vars + 1 } ∧ Below B w w' := by
  have q1 := h.ce
  have hkeep : ∀ q, q < w.heap.size → col q ≠ 1 → w'.heap[q]? = w.heap[q]? := fun q hq hcq => ht.block q hq (fun hf => by rw [hf] at hcq; omega)
  refine ⟨⟨F, col, va, vl, vr, us, (hkeep X h.lt (by have := h.cX.1; omega)).trans h.hd, h.gr.kept (fun k hk hf => hkeep k hk (by have := (h.cF k hf).2.1; omega)), hE, h.al.own (fun k hk hh => hkeep k hk ?_), row_own h.li (fun k hk => hkeep k (h.li.lt k hk).2 (by have := h.cl k hk; omega)), row_own h.ro (fun k hk => hkeep k (h.ro.lt k hk).2 (by have := h.cr k hk; omega)), fun k hf => ⟨Nat.lt_of_lt_of_le (h.cF k hf).1 ht.size, (h.cF k hf).2⟩, h.ce, h.cv, h.cp, h.cX, h.ca, h.cu, h.cl, h.cr⟩, ⟨ht.os, ht.tape, ht.output, ht.size, fun q hq => ht.block q (by omega) (fun hf => by omega)⟩⟩
  rcases hh with hh | ⟨u, hu, hh⟩
  · have := h.ca k hh; omega
  · have := h.cu u hu k hh; omega
/-- 'fine' is stored anew. -/
theorem Rn.fine {w : World} {B X g e mo mv mp : Nat} {s : Rz} (h : Rn w B X g e mo mv mp s) : Rn (w.setCell ⟨X, 5, none⟩ (.bool true)) B X g e mo mv mp s ∧ Below B w (w.setCell ⟨X, 5, none⟩ (.bool true)) := by
  obtain ⟨F, col, va, vl, vr, us, h⟩ := h
  have hh := heap_setCell_same w X 5 _ _ (.bool true) h.hd
  have he : ∀ q, (w.setCell ⟨X, 5, none⟩ (.bool true)).heap[q]? = w.heap[q]? := fun q => by
    by_cases hq : q = X
    · rw [hq, hh, h.hd]; rfl
    · exact heap_setCell_other _ _ _ _ hq
  exact ⟨⟨F, col, va, vl, vr, us, h.keep (by simp) (fun q _ _ => he q)⟩, ⟨rfl, rfl, rfl, by simp, fun q _ => he q⟩⟩
/-- The start. -/
theorem Rn.start {w w1 w3 w4 : World} {first : Int} (hG : Gr w1 (fun k => w.heap.size ≤ k ∧ k < w1.heap.size) (w.heap.size + 2) 60 [(0, 0)]) (hb1 : Below w.heap.size w w1) (hs1 : w1.heap.size = w.heap.size + 3)
    (hX : w3.heap[w1.heap.size]? = some (.cells #[.pointer (some ⟨w.heap.size + 2, 0, none⟩), .pointer none, .slice none 0 0, .slice none 0 0, .slice none 0 0, .bool true] 33 (0, 0))) (hb3 : Below w1.heap.size w1 w3)
    (hE : En w3 (w1.heap.size + 3) (w.heap.size + 2) (first - 1) (w1.heap.size + 1) (w1.heap.size + 2) (fun _ => none) (fun _ => none)) (h4 : w4 = w3.setCell ⟨w1.heap.size, 1, none⟩ (.pointer (some ⟨w1.heap.size + 3, 0, none⟩))) :
    Rn w4 w.heap.size w1.heap.size (w.heap.size + 2) (w1.heap.size + 3) 60 (w1.heap.size + 1) (w1.heap.size + 2) (stS first) ∧ Below w.heap.size w w4 := by
  have ho : ∀ q, q ≠ w1.heap.size → w4.heap[q]? = w3.heap[q]? := fun q hq => by rw [h4]; exact heap_setCell_other _ _ _ _ hq
  have hs4 : w4.heap.size = w3.heap.size := by rw [h4]; simp
  have hs3 := hb3.size
  have hol : ∀ q, q < w1.heap.size → w4.heap[q]? = w1.heap[q]? := fun q hq => (ho q (by omega)).trans (hb3.block q hq)
  refine ⟨⟨fun k => w.heap.size ≤ k ∧ k < w1.heap.size, fun k => if k < w1.heap.size then 0 else if k = w1.heap.size then 4 else if k = w1.heap.size + 1 then 2 else if k = w1.heap.size + 2 then 3 else 1, .slice none 0 0, .slice none 0 0, .slice none 0 0, [], ?_, hG.kept (fun k hk _ => hol k hk), (by show En w4 (w1.heap.size + 3) (w.heap.size + 2) (first - 1) (w1.heap.size + 1) (w1.heap.size + 2) (fun _ => none) (polF []); rw [polF_nil]; exact hE.kept (fun b hb => ho b (by omega))), ⟨World.ownsRow_nil _ _ _ _, rfl, fun i u c hu _ => by simp at hu⟩, World.ownsRow_nil _ _ _ _, World.ownsRow_nil _ _ _ _, fun k hk => ⟨by omega, by simp only [hk.2, if_true], hk.1⟩, ⟨?_, by omega⟩, ⟨?_, by omega⟩, ⟨?_, by omega⟩, ⟨?_, by omega⟩, (fun k hk => by cases hk), (fun u hu => by cases hu), (fun k hk => by cases hk), (fun k hk => by cases hk)⟩, ⟨?_, ?_, ?_, by omega, fun q hq => (hol q (by omega)).trans (hb1.block q hq)⟩⟩
  · rw [h4]; exact heap_setCell_same w3 _ 1 _ _ _ hX
  · simp only [if_neg (show ¬ w1.heap.size + 3 < w1.heap.size by omega), if_neg (show ¬ w1.heap.size + 3 = w1.heap.size by omega), if_neg (show ¬ w1.heap.size + 3 = w1.heap.size + 1 by omega), if_neg (show ¬ w1.heap.size + 3 = w1.heap.size + 2 by omega)]
  · simp only [if_neg (show ¬ w1.heap.size + 1 < w1.heap.size by omega), if_neg (show ¬ w1.heap.size + 1 = w1.heap.size by omega), if_true]
  · simp only [if_neg (show ¬ w1.heap.size + 2 < w1.heap.size by omega), if_neg (show ¬ w1.heap.size + 2 = w1.heap.size by omega), if_neg (show ¬ w1.heap.size + 2 = w1.heap.size + 1 by omega), if_true]
  · simp only [if_neg (show ¬ w1.heap.size < w1.heap.size by omega), if_true]
  · rw [h4]; exact hb3.os.trans hb1.os
  · rw [h4]; exact hb3.tape.trans hb1.tape
  · rw [h4]; exact hb3.output.trans hb1.output
theorem Pz.clen {first : Int} {f : Nat} {s : Rz} (h : Pz first f s) : s.C.length ≤ 4 * s.ks.length := by
  rw [h.cc]
  have h1 := clsL_len s.ks s.V s.T
  have h2 := nodup_len (2 * s.ks.length) s.T h.nd (fun x hx => by have := (h.vt x hx).1; omega)
  omega
theorem r60 : roomOf 60 = 60 := by decide
theorem inp_pre {mo : Nat} {ks : List Kd} : ks <+: (inpF mo ks).2.2 := by
  unfold inpF
  split
  · exact List.prefix_refl _
  · exact List.prefix_append _ _
end Go.Proofs.Ytajpnlmglkifcaa
