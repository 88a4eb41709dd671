/- Contracts (the law's helps): known: the chapter's examples. -/
import Derived.Test.YthdgmkjjpmigeaaTK1
namespace Go.Proofs.Ythdgmkjjpmigeaa
open Go.RowKit
set_option linter.unusedSimpArgs false
set_option linter.unusedVariables false

abbrev lob (l : List Int) : Obj := .cells (l.map (Value.int .i64)).toArray 3
theorem sr_new (w : World) (l : List Int) : Sr (w.alloc (lob l)) (.slice (some ⟨w.heap.size, 0, none⟩) l.length l.length) l :=
  ⟨_, _, rfl, Or.inr ⟨w.heap.size, 0, rfl, by rw [size_alloc']; omega, fun j hj => by
    rw [Nat.zero_add]
    refine cell_of (heap_alloc_new w _) j ?_
    rw [List.getElem?_toArray, List.getElem?_map, List.getElem?_eq_getElem hj, List.getD_eq_getElem?_getD, List.getElem?_eq_getElem hj]; rfl⟩⟩
theorem below_alloc (w : World) (o : Obj) : Below w.heap.size w (w.alloc o) := ⟨rfl, rfl, rfl, by rw [size_alloc']; omega, fun k hk => heap_alloc_old _ _ hk⟩
theorem lr_new {w : World} {us : List Value} {C : List (List Int)} {n : Nat} (hn : n = C.length) (h : ∀ (i : Nat) x, C[i]? = some x → ∃ u, us[i]? = some u ∧ Sr w u x) : Lr (w.alloc (.cells us.toArray 51)) (.slice (some ⟨w.heap.size, 0, none⟩) n n) C := by
  refine ⟨_, _, by rw [hn], Or.inr ⟨w.heap.size, 0, rfl, by rw [size_alloc']; omega, fun i x hx => ?_⟩⟩
  obtain ⟨u, h1, h2⟩ := h i x hx
  refine ⟨u, ?_, h2.below (below_alloc _ _)⟩
  rw [Nat.zero_add]
  exact cell_of (heap_alloc_new w _) i (by simpa using h1)
theorem lr1 (w : World) (l : List Int) : Lr ((w.alloc (lob l)).alloc (.cells #[.slice (some ⟨w.heap.size, 0, none⟩) l.length l.length] 51)) (.slice (some ⟨w.heap.size + 1, 0, none⟩) 1 1) [l] := by
  have := lr_new (w := w.alloc (lob l)) (us := [.slice (some ⟨w.heap.size, 0, none⟩) l.length l.length]) (C := [l]) (n := 1) rfl fun i x hx => by
    cases i with
    | zero => simp at hx; subst hx; exact ⟨_, rfl, sr_new w l⟩
    | succ i => simp at hx
  rw [size_alloc'] at this
  exact this
theorem lr2 (w : World) (l m : List Int) : Lr (((w.alloc (lob l)).alloc (lob m)).alloc (.cells #[.slice (some ⟨w.heap.size, 0, none⟩) l.length l.length, .slice (some ⟨w.heap.size + 1, 0, none⟩) m.length m.length] 51)) (.slice (some ⟨w.heap.size + 1 + 1, 0, none⟩) 2 2) [l, m] := by
  have := lr_new (w := (w.alloc (lob l)).alloc (lob m)) (us := [.slice (some ⟨w.heap.size, 0, none⟩) l.length l.length, .slice (some ⟨w.heap.size + 1, 0, none⟩) m.length m.length]) (C := [l, m]) (n := 2) rfl fun i x hx => by
    have h2 := sr_new (w.alloc (lob l)) m
    rw [size_alloc'] at h2
    match i, hx with
    | 0, hx => simp at hx; subst hx; exact ⟨_, rfl, (sr_new w l).below (below_alloc _ _)⟩
    | 1, hx => simp at hx; subst hx; exact ⟨_, rfl, h2⟩
    | i + 2, hx => simp at hx
  rw [size_alloc', size_alloc'] at this
  exact this
theorem lr3 (w : World) (l m k : List Int) : Lr ((((w.alloc (lob l)).alloc (lob m)).alloc (lob k)).alloc (.cells #[.slice (some ⟨w.heap.size, 0, none⟩) l.length l.length, .slice (some ⟨w.heap.size + 1, 0, none⟩) m.length m.length, .slice (some ⟨w.heap.size + 1 + 1, 0, none⟩) k.length k.length] 51)) (.slice (some ⟨w.heap.size + 1 + 1 + 1, 0, none⟩) 3 3) [l, m, k] := by
  have := lr_new (w := ((w.alloc (lob l)).alloc (lob m)).alloc (lob k)) (us := [.slice (some ⟨w.heap.size, 0, none⟩) l.length l.length, .slice (some ⟨w.heap.size + 1, 0, none⟩) m.length m.length, .slice (some ⟨w.heap.size + 1 + 1, 0, none⟩) k.length k.length]) (C := [l, m, k]) (n := 3) rfl fun i x hx => by
    have h2 := sr_new (w.alloc (lob l)) m
    have h3 := sr_new ((w.alloc (lob l)).alloc (lob m)) k
    rw [size_alloc'] at h2
    rw [size_alloc', size_alloc'] at h3
    match i, hx with
    | 0, hx => simp at hx; subst hx; exact ⟨_, rfl, ((sr_new w l).below (below_alloc _ _)).below (below_alloc _ _)⟩
    | 1, hx => simp at hx; subst hx; exact ⟨_, rfl, h2.below (below_alloc _ _)⟩
    | 2, hx => simp at hx; subst hx; exact ⟨_, rfl, h3⟩
    | i + 3, hx => simp at hx
  rw [size_alloc', size_alloc', size_alloc'] at this
  exact this
def KC : List (List Int) := [[1], [-1, 2], [-2]]
def KB : List Int := [80, 76, 84, 49, 0, 0, 0, 1, 0, 0, 0, 3, 0, 0, 0, 0, 0, 0, 0, 1, 0, 0, 0, 2]
def KD : List Int := [80, 76, 84, 49, 0, 0, 0, 2, 0, 0, 0, 2, 0, 0, 0, 1, 0, 0, 0, 2, 0, 0, 0, 2, 0, 0, 0, 3, 0, 0, 0, 0]
theorem k1 : encF [[0, 1, 2]] = (KB, 0) := by decide
theorem k2 : encF [[1, 2], [3, 0]] = (KD, 0) := by decide
theorem k3 : decF KB = ([[0, 1, 2]], 0) := by decide
theorem k3d : decF KD = ([[1, 2], [3, 0]], 0) := by decide
theorem k4 : derF KC [[0, 1]] = ([[2]], 0) := by decide
theorem k5 : (derF [[1, 2], [-1, -2]] [[0, 1]]).2 = 121 := by decide
theorem k6 : (decF (KB.take 23)).2 = 120 := by decide
theorem k7 : chkF KC KB = 0 := by decide
theorem k8 : chkF KC KD = 0 := by decide
theorem k9 : chkF (KC.take 2) KB ≠ 0 := by decide
theorem k10 : trmF KC KD = (KD, 0) := by decide
end Go.Proofs.Ythdgmkjjpmigeaa
