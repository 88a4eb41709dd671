/- Contracts (the law's run): a number is appended to each of two lists, both are stored: how far it has come. (Made by a script.) -/
import Derived.Test.YtajpnlmglkifcaaCN12
namespace Go.Proofs.Ytajpnlmglkifcaa
open Go.RowKit
set_option linter.unusedSimpArgs false
set_option linter.unusedVariables false

/-- One of the two lists: ib builds, ia appends. -/
structure Sd (x0 : World) (B : Nat) (v : Value) (l : List Int) (n : Int) (ib ia : Nat) (g : Nat → Nat) (L : Nat → Bool) (x : World) : Prop where
  sb : L ib = true → L ia = false → x.heap[g ib]? = some (.cells #[.int .i64 n] 3 (0, 0)) ∧ x0.heap.size ≤ g ib
  ra : L ia = true → Is' x B (sl (l.length + 1) (g ia)) (l ++ [n]) ∧ ((sl (l.length + 1) (g ia)).ownBlock = v.ownBlock ∨ ∃ b, (sl (l.length + 1) (g ia)).ownBlock = some b ∧ x0.heap.size ≤ b)
theorem Sd.keep {x0 : World} {B : Nat} {v : Value} {l : List Int} {n : Int} {ib ia : Nat} {g g' : Nat → Nat} {L L' : Nat → Bool} {x x' : World} (h : Sd x0 B v l n ib ia g L x) (hk : ∀ b, b < x.heap.size → (x0.heap.size ≤ b ∨ v.ownBlock = some b) → x'.heap[b]? = x.heap[b]?) (h1 : L' ib = L ib) (h2 : L' ia = L ia) (h3 : g' ib = g ib) (h4 : g' ia = g ia) : Sd x0 B v l n ib ia g' L' x' := by
  refine ⟨?_, ?_⟩
  · rw [h1, h2, h3]
    intro e1 e2
    obtain ⟨f1, f2⟩ := h.sb e1 e2
    exact ⟨(hk _ (Array.getElem?_eq_some_iff.1 f1).1 (Or.inl f2)).trans f1, f2⟩
  · rw [h2, h4]
    intro e1
    obtain ⟨f1, f2⟩ := h.ra e1
    refine ⟨row_own f1 (fun k hkk => hk k (f1.lt k hkk).2 ?_), f2⟩
    rcases f2 with f2 | ⟨b, f2, f3⟩
    · exact Or.inr (f2.symm.trans hkk)
    · rw [f2] at hkk; injection hkk with e; exact Or.inl (by omega)
structure DSt (x0 : World) (B R : Nat) (TR : TypeId) (p0 p1 p2 p5 v1 v2 : Value) (l1 l2 : List Int) (n1 n2 : Int) (g : Nat → Nat) (L : Nat → Bool) (x : World) : Prop where
  siz : x0.heap.size ≤ x.heap.size
  os : x.os = x0.os
  tape : x.tape = x0.tape
  output : x.output = x0.output
  kp : ∀ b, b < x0.heap.size → (L 8 = true → some b ≠ v1.ownBlock) → (L 15 = true → some b ≠ v2.ownBlock) → b ≠ R → x.heap[b]? = x0.heap[b]?
  rs : x.heap[R]? = some (.cells #[p0, p1, p2, if L 18 then sl (l1.length + 1) (g 8) else v1, if L 21 then sl (l2.length + 1) (g 15) else v2, p5] TR (0, 0))
  d1 : L 18 = true → L 8 = true
  d2 : L 21 = true → L 15 = true
  e1 : L 8 = true → L 5 = true
  e2 : L 15 = true → L 12 = true
  b1 : L 8 = true → L 7 = true
  b2 : L 15 = true → L 14 = true
  s1 : Sd x0 B v1 l1 n1 7 8 g L x
  s2 : Sd x0 B v2 l2 n2 14 15 g L x
  ap : L 8 = true → L 15 = true → (sl (l1.length + 1) (g 8)).ownBlock ≠ (sl (l2.length + 1) (g 15)).ownBlock
section
variable {x0 : World} {B R : Nat} {TR : TypeId} {p0 p1 p2 p5 v1 v2 : Value} {l1 l2 : List Int} {n1 n2 : Int} {g : Nat → Nat} {L : Nat → Bool} {x y : World} {i : Nat}
theorem off_of {a b : Bool} (h : a = true → b = true) (e : b = false) : a = false := by
  cases a
  · rfl
  · rw [h rfl] at e; cases e
theorem DSt.start (hx : x.heap = x0.heap) (h1 : x.os = x0.os) (h2 : x.tape = x0.tape) (h3 : x.output = x0.output) (hR : x0.heap[R]? = some (.cells #[p0, p1, p2, v1, v2, p5] TR (0, 0))) : DSt x0 B R TR p0 p1 p2 p5 v1 v2 l1 l2 n1 n2 g (fun _ => false) x :=
  ⟨by rw [hx]; exact Nat.le_refl _, h1, h2, h3, (fun b _ _ _ _ => by rw [hx]), by rw [hx]; exact hR, (fun e => by cases e), (fun e => by cases e), (fun e => by cases e), (fun e => by cases e), (fun e => by cases e), (fun e => by cases e), ⟨(fun e => by cases e), (fun e => by cases e)⟩, ⟨(fun e => by cases e), (fun e => by cases e)⟩, (fun e => by cases e)⟩
theorem upB_on {k : Nat} (h : L k = true) : updB L i k = true := by unfold updB; split; rfl; exact h
theorem DSt.go (h : DSt x0 B R TR p0 p1 p2 p5 v1 v2 l1 l2 n1 n2 g L x) (hi : (i != 7 && i != 8 && i != 14 && i != 15 && i != 18 && i != 21) = true) : DSt x0 B R TR p0 p1 p2 p5 v1 v2 l1 l2 n1 n2 g (updB L i) x := by
  simp only [Bool.and_eq_true, bne_iff_ne, ne_eq] at hi
  have u7 := updB_ne (L := L) (i := i) (k := 7) (by omega)
  have u8 := updB_ne (L := L) (i := i) (k := 8) (by omega)
  have u14 := updB_ne (L := L) (i := i) (k := 14) (by omega)
  have u15 := updB_ne (L := L) (i := i) (k := 15) (by omega)
  have u18 := updB_ne (L := L) (i := i) (k := 18) (by omega)
  have u21 := updB_ne (L := L) (i := i) (k := 21) (by omega)
  exact ⟨h.siz, h.os, h.tape, h.output, by rw [u8, u15]; exact h.kp, by rw [u18, u21]; exact h.rs, by rw [u18, u8]; exact h.d1, by rw [u21, u15]; exact h.d2, by rw [u8]; exact fun e => upB_on (h.e1 e), by rw [u15]; exact fun e => upB_on (h.e2 e), by rw [u8, u7]; exact h.b1, by rw [u15, u14]; exact h.b2, h.s1.keep (fun _ _ _ => rfl) u7 u8 rfl rfl, h.s2.keep (fun _ _ _ => rfl) u14 u15 rfl rfl, by rw [u8, u15]; exact h.ap⟩
theorem DSt.built1 (h : DSt x0 B R TR p0 p1 p2 p5 v1 v2 l1 l2 n1 n2 g L x) (hLi : L 7 = false) : DSt x0 B R TR p0 p1 p2 p5 v1 v2 l1 l2 n1 n2 (updG g 7 x.heap.size) (updB L 7) (x.alloc (.cells #[.int .i64 n1] 3 (0, 0))) := by
  have hia : L 8 = false := off_of h.b1 hLi
  have his : L 18 = false := off_of h.d1 hia
  have hs := h.siz
  have ho : ∀ b, b < x.heap.size → (x.alloc (.cells #[.int .i64 n1] 3 (0, 0))).heap[b]? = x.heap[b]? := fun b hb => heap_alloc_old x _ hb
  have hRl : R < x.heap.size := (Array.getElem?_eq_some_iff.1 h.rs).1
  refine ⟨by simp; omega, h.os, h.tape, h.output, fun b hb q1 q2 q3 => (ho b (by omega)).trans (h.kp b hb q1 q2 q3), (ho R hRl).trans h.rs, h.d1, h.d2, h.e1, h.e2, (fun e => by rw [show updB L 7 8 = L 8 from rfl, hia] at e; cases e), h.b2, ⟨(fun _ _ => by rw [updG_eq]; exact ⟨heap_alloc_new x _, hs⟩), (fun e => by rw [show updB L 7 8 = L 8 from rfl, hia] at e; cases e)⟩, h.s2.keep (fun b hb _ => ho b hb) rfl rfl rfl rfl, h.ap⟩
theorem DSt.app1 {p : Nat} (h : DSt x0 B R TR p0 p1 p2 p5 v1 v2 l1 l2 n1 n2 g L x) (hLi : L 8 = false) (hl5 : L 5 = true) (hl7 : L 7 = true) (hv12 : ∀ b, v1.ownBlock = some b → v2.ownBlock ≠ some b) (hv1 : ∀ b, v1.ownBlock = some b → b < x0.heap.size ∧ b ≠ R) (hv2 : ∀ b, v2.ownBlock = some b → b < x0.heap.size ∧ b ≠ R) (hR : R < x0.heap.size) (hg : x.grownBy y v1.ownBlock) (ho : Is' y B (sl (l1.length + 1) p) (l1 ++ [n1])) (hat : (sl (l1.length + 1) p).ownBlock = v1.ownBlock ∨ (sl (l1.length + 1) p).ownBlock = some x.heap.size) :
    DSt x0 B R TR p0 p1 p2 p5 v1 v2 l1 l2 n1 n2 (updG g 8 p) (updB L 8) y := by
  have his : L 18 = false := off_of h.d1 hLi
  have hs := h.siz
  have hgs := hg.size
  have hold : ∀ b, b < x.heap.size → v1.ownBlock ≠ some b → y.heap[b]? = x.heap[b]? := fun b hb hn => hg.block b hb (fun e => hn e.symm)
  refine ⟨by omega, hg.os.trans h.os, hg.tape.trans h.tape, hg.output.trans h.output, fun b hb q1 q2 q3 => ?_, ?_, (fun e => by rw [show updB L 8 18 = L 18 from rfl, his] at e; cases e), h.d2, (fun _ => hl5), h.e2, (fun _ => hl7), h.b2, ⟨(fun _ e => by rw [updB_eq] at e; cases e), (fun _ => by rw [updG_eq]; refine ⟨ho, ?_⟩; rcases hat with e | e; exact Or.inl e; exact Or.inr ⟨_, e, hs⟩)⟩, h.s2.keep (fun b hb q => hold b hb (fun e => by rcases q with q | q; (have := (hv1 b e).1; omega); exact hv12 b e q)) rfl rfl rfl rfl, ?_⟩
  · exact (hold b (by omega) (fun e => q1 rfl e.symm)).trans (h.kp b hb (fun e => by rw [hLi] at e; cases e) q2 q3)
  · rw [hold R (by omega) (fun e => (hv1 R e).2 rfl)]
    have h2 := h.rs
    rw [his] at h2
    show _ = some (Obj.cells #[p0, p1, p2, if L 18 then sl (l1.length + 1) (updG g 8 p 8) else v1, if L 21 then sl (l2.length + 1) (g 15) else v2, p5] TR (0, 0))
    rw [his]
    exact h2
  · intro f1 f2
    have hLo : L 15 = true := f2
    obtain ⟨k1, k2⟩ := h.s2.ra hLo
    intro e
    have e' : (sl (l1.length + 1) p).ownBlock = (sl (l2.length + 1) (g 15)).ownBlock := by rw [updG_eq] at e; exact e
    rcases hat with q | q
    · rcases k2 with k2 | ⟨b, k2, k3⟩
      · rw [q, k2] at e'
        cases f : v1.ownBlock with
        | none => rw [← e', f] at k2; unfold sl at k2; cases k2
        | some b => exact hv12 b f (e'.symm.trans f)
      · rw [q, k2] at e'
        have := (hv1 b e').1
        omega
    · rw [q] at e'
      have := (k1.lt _ e'.symm).2
      omega
theorem DSt.store1 (h : DSt x0 B R TR p0 p1 p2 p5 v1 v2 l1 l2 n1 n2 g L x) (hLa : L 8 = true) (hv1 : ∀ b, v1.ownBlock = some b → b < x0.heap.size ∧ b ≠ R) (hv2 : ∀ b, v2.ownBlock = some b → b < x0.heap.size ∧ b ≠ R) (hR : R < x0.heap.size) :
    DSt x0 B R TR p0 p1 p2 p5 v1 v2 l1 l2 n1 n2 g (updB L 18) (x.setCell ⟨R, 3, none⟩ (sl (l1.length + 1) (g 8))) := by
  have hh := heap_setCell_same x R 3 _ _ (sl (l1.length + 1) (g 8)) h.rs
  have hoth : ∀ q, q ≠ R → (x.setCell ⟨R, 3, none⟩ (sl (l1.length + 1) (g 8))).heap[q]? = x.heap[q]? := fun q hq => heap_setCell_other _ _ _ _ hq
  refine ⟨by simp; exact h.siz, h.os, h.tape, h.output, fun b hb q1 q2 q3 => (hoth b q3).trans (h.kp b hb q1 q2 q3), ?_, (fun _ => hLa), h.d2, h.e1, h.e2, h.b1, h.b2, ?_, ?_, h.ap⟩
  · rw [hh]
    show some (Obj.cells #[p0, p1, p2, sl (l1.length + 1) (g 8), if L 21 then sl (l2.length + 1) (g 15) else v2, p5] TR (0, 0)) = _
    rfl
  · exact h.s1.keep (fun b hb q => hoth b (fun e => by rcases q with q | q; omega; exact (hv1 b q).2 e)) rfl rfl rfl rfl
  · exact h.s2.keep (fun b hb q => hoth b (fun e => by rcases q with q | q; omega; exact (hv2 b q).2 e)) rfl rfl rfl rfl
theorem DSt.built2 (h : DSt x0 B R TR p0 p1 p2 p5 v1 v2 l1 l2 n1 n2 g L x) (hLi : L 14 = false) : DSt x0 B R TR p0 p1 p2 p5 v1 v2 l1 l2 n1 n2 (updG g 14 x.heap.size) (updB L 14) (x.alloc (.cells #[.int .i64 n2] 3 (0, 0))) := by
  have hia : L 15 = false := off_of h.b2 hLi
  have his : L 21 = false := off_of h.d2 hia
  have hs := h.siz
  have ho : ∀ b, b < x.heap.size → (x.alloc (.cells #[.int .i64 n2] 3 (0, 0))).heap[b]? = x.heap[b]? := fun b hb => heap_alloc_old x _ hb
  have hRl : R < x.heap.size := (Array.getElem?_eq_some_iff.1 h.rs).1
  refine ⟨by simp; omega, h.os, h.tape, h.output, fun b hb q1 q2 q3 => (ho b (by omega)).trans (h.kp b hb q1 q2 q3), (ho R hRl).trans h.rs, h.d1, h.d2, h.e1, h.e2, h.b1, (fun e => by rw [show updB L 14 15 = L 15 from rfl, hia] at e; cases e), h.s1.keep (fun b hb _ => ho b hb) rfl rfl rfl rfl, ⟨(fun _ _ => by rw [updG_eq]; exact ⟨heap_alloc_new x _, hs⟩), (fun e => by rw [show updB L 14 15 = L 15 from rfl, hia] at e; cases e)⟩, h.ap⟩
theorem DSt.app2 {p : Nat} (h : DSt x0 B R TR p0 p1 p2 p5 v1 v2 l1 l2 n1 n2 g L x) (hLi : L 15 = false) (hl5 : L 12 = true) (hl7 : L 14 = true) (hv12 : ∀ b, v1.ownBlock = some b → v2.ownBlock ≠ some b) (hv1 : ∀ b, v1.ownBlock = some b → b < x0.heap.size ∧ b ≠ R) (hv2 : ∀ b, v2.ownBlock = some b → b < x0.heap.size ∧ b ≠ R) (hR : R < x0.heap.size) (hg : x.grownBy y v2.ownBlock) (ho : Is' y B (sl (l2.length + 1) p) (l2 ++ [n2])) (hat : (sl (l2.length + 1) p).ownBlock = v2.ownBlock ∨ (sl (l2.length + 1) p).ownBlock = some x.heap.size) :
    DSt x0 B R TR p0 p1 p2 p5 v1 v2 l1 l2 n1 n2 (updG g 15 p) (updB L 15) y := by
  have his : L 21 = false := off_of h.d2 hLi
  have hs := h.siz
  have hgs := hg.size
  have hold : ∀ b, b < x.heap.size → v2.ownBlock ≠ some b → y.heap[b]? = x.heap[b]? := fun b hb hn => hg.block b hb (fun e => hn e.symm)
  refine ⟨by omega, hg.os.trans h.os, hg.tape.trans h.tape, hg.output.trans h.output, fun b hb q1 q2 q3 => ?_, ?_, h.d1, (fun e => by rw [show updB L 15 21 = L 21 from rfl, his] at e; cases e), h.e1, (fun _ => hl5), h.b1, (fun _ => hl7), h.s1.keep (fun b hb q => hold b hb (fun e => by rcases q with q | q; (have := (hv2 b e).1; omega); exact hv12 b q e)) rfl rfl rfl rfl, ⟨(fun _ e => by rw [updB_eq] at e; cases e), (fun _ => by rw [updG_eq]; refine ⟨ho, ?_⟩; rcases hat with e | e; exact Or.inl e; exact Or.inr ⟨_, e, hs⟩)⟩, ?_⟩
  · exact (hold b (by omega) (fun e => q2 rfl e.symm)).trans (h.kp b hb q1 (fun e => by rw [hLi] at e; cases e) q3)
  · rw [hold R (by omega) (fun e => (hv2 R e).2 rfl)]
    have h2 := h.rs
    rw [his] at h2
    show _ = some (Obj.cells #[p0, p1, p2, if L 18 then sl (l1.length + 1) (g 8) else v1, if L 21 then sl (l2.length + 1) (updG g 15 p 15) else v2, p5] TR (0, 0))
    rw [his]
    exact h2
  · intro f1 f2
    have hLo : L 8 = true := f1
    obtain ⟨k1, k2⟩ := h.s1.ra hLo
    intro e
    have e' : (sl (l2.length + 1) p).ownBlock = (sl (l1.length + 1) (g 8)).ownBlock := by rw [updG_eq] at e; exact e.symm
    rcases hat with q | q
    · rcases k2 with k2 | ⟨b, k2, k3⟩
      · rw [q, k2] at e'
        cases f : v2.ownBlock with
        | none => rw [← e', f] at k2; unfold sl at k2; cases k2
        | some b => exact hv12 b (e'.symm.trans f) f
      · rw [q, k2] at e'
        have := (hv2 b e').1
        omega
    · rw [q] at e'
      have := (k1.lt _ e'.symm).2
      omega
theorem DSt.store2 (h : DSt x0 B R TR p0 p1 p2 p5 v1 v2 l1 l2 n1 n2 g L x) (hLa : L 15 = true) (hv1 : ∀ b, v1.ownBlock = some b → b < x0.heap.size ∧ b ≠ R) (hv2 : ∀ b, v2.ownBlock = some b → b < x0.heap.size ∧ b ≠ R) (hR : R < x0.heap.size) :
    DSt x0 B R TR p0 p1 p2 p5 v1 v2 l1 l2 n1 n2 g (updB L 21) (x.setCell ⟨R, 4, none⟩ (sl (l2.length + 1) (g 15))) := by
  have hh := heap_setCell_same x R 4 _ _ (sl (l2.length + 1) (g 15)) h.rs
  have hoth : ∀ q, q ≠ R → (x.setCell ⟨R, 4, none⟩ (sl (l2.length + 1) (g 15))).heap[q]? = x.heap[q]? := fun q hq => heap_setCell_other _ _ _ _ hq
  refine ⟨by simp; exact h.siz, h.os, h.tape, h.output, fun b hb q1 q2 q3 => (hoth b q3).trans (h.kp b hb q1 q2 q3), ?_, h.d1, (fun _ => hLa), h.e1, h.e2, h.b1, h.b2, ?_, ?_, h.ap⟩
  · rw [hh]
    show some (Obj.cells #[p0, p1, p2, if L 18 then sl (l1.length + 1) (g 8) else v1, sl (l2.length + 1) (g 15), p5] TR (0, 0)) = _
    rfl
  · exact h.s1.keep (fun b hb q => hoth b (fun e => by rcases q with q | q; omega; exact (hv1 b q).2 e)) rfl rfl rfl rfl
  · exact h.s2.keep (fun b hb q => hoth b (fun e => by rcases q with q | q; omega; exact (hv2 b q).2 e)) rfl rfl rfl rfl
end
end Go.Proofs.Ytajpnlmglkifcaa
