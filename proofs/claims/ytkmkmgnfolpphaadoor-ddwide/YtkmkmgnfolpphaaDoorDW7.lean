/- Digits plainly: a number's text by pieces; the law's double, half and less. -/
import Derived.Test.YtkmkmgnfolpphaaDoorDW1
import Derived.Test.YtkmkmgnfolpphaaDoorDW3
import Derived.Test.YtkmkmgnfolpphaaDoorDW5
namespace Go.Proofs.YtkmkmgnfolpphaaDoor
open Go.RowKit
set_option linter.unusedSimpArgs false
set_option linter.unusedVariables false

def toB (d : Nat) : UInt8 := UInt8.ofNat (48 + d)
/-- A number's digits. -/
def dg : Nat → Nat → List Nat
  | 0, u => [u]
  | n + 1, u => if u < 10 then [u] else dg n (u / 10) ++ [u % 10]
theorem dec_dg : ∀ (n u : Nat), u < 10 ^ (n + 1) → Lib.decDigits u = (dg n u).map toB
  | 0, u, h => by rw [Lib.decDigits, dif_pos (by simpa using h)]; rfl
  | n + 1, u, h => by
    rw [Lib.decDigits, dg]
    split
    · rfl
    · rw [dec_dg n (u / 10) (by rw [Nat.pow_succ] at h; exact Nat.div_lt_of_lt_mul (by rw [Nat.mul_comm]; exact h)), List.map_append]; rfl
theorem dg_lt : ∀ (n u : Nat), u < 10 ^ (n + 1) → ∀ d ∈ dg n u, d < 10
  | 0, u, h, d, hd => by rw [List.mem_singleton.1 hd]; simpa using h
  | n + 1, u, h, d, hd => by
    rw [dg] at hd
    split at hd
    · rw [List.mem_singleton.1 hd]; assumption
    · rcases List.mem_append.1 hd with q | q
      · exact dg_lt n (u / 10) (by rw [Nat.pow_succ] at h; exact Nat.div_lt_of_lt_mul (by rw [Nat.mul_comm]; exact h)) d q
      · rw [List.mem_singleton.1 q]; exact Nat.mod_lt _ (by decide)
def padN (x : Nat) : List Nat := List.replicate (18 - (dg 17 x).length) 0 ++ dg 17 x
def textN (l : List Nat) : List Nat := dg 17 (l.getD (topP l (l.length - 1)) 0) ++ ((l.take (topP l (l.length - 1))).reverse.flatMap padN)
theorem rep_map : ∀ n : Nat, Lib.repeatL [48] n = (List.replicate n 0).map toB
  | 0 => rfl
  | n + 1 => by rw [Lib.repeatL, rep_map n]; rfl
theorem pad_map {x : Nat} (h : x < E18) : padF x = (padN x).map toB := by
  have h2 : x < 10 ^ (17 + 1) := by unfold E18 at h; exact h
  unfold padF padN
  rw [dec_dg 17 x h2, rep_map, List.map_append, List.length_map]
theorem pads_map : ∀ (l : List Nat), Sm l → l.flatMap padF = (l.flatMap padN).map toB
  | [], _ => rfl
  | x :: xs, h => by
    rw [List.flatMap_cons, List.flatMap_cons, List.map_append, pad_map (h x (by simp)), pads_map xs (fun y hy => h y (List.mem_cons_of_mem _ hy))]
theorem text_map {l : List Nat} (h : Sm l) (hl : 0 < l.length) : textF l = (textN l).map toB := by
  have h1 : l.getD (topP l (l.length - 1)) 0 < E18 := by
    have := topP_le l (l.length - 1)
    rw [List.getD_eq_getElem?_getD, List.getElem?_eq_getElem (by omega)]; exact h _ (List.getElem_mem _)
  unfold textF textN
  rw [dec_dg 17 _ (by unfold E18 at h1; exact h1), pads_map _ (fun y hy => h y (List.mem_of_mem_take (List.mem_reverse.1 hy))), List.map_append]
/-- The text of digits. -/
def gS (ds : List Nat) : ByteArray := ⟨(ds.map toB).toArray⟩
theorem gS_size (ds : List Nat) : (gS ds).size = ds.length := by show (ds.map toB).toArray.size = _; simp
theorem gS_app (a b : List Nat) : gS a ++ gS b = gS (a ++ b) := by
  apply ByteArray.ext
  rw [ByteArray.data_append]
  show (a.map toB).toArray ++ (b.map toB).toArray = ((a ++ b).map toB).toArray
  simp
theorem gS_get {ds : List Nat} {k : Nat} (h : k < ds.length) : (gS ds).data[k]? = some (toB (ds.getD k 0)) := by
  show (ds.map toB).toArray[k]? = _
  rw [List.getElem?_toArray, List.getElem?_map, List.getElem?_eq_getElem h, List.getD_eq_getElem?_getD, List.getElem?_eq_getElem h]; rfl
def dStep (d : Nat) (s : List Nat × Nat) : List Nat × Nat := ((2 * d + s.2) % 10 :: s.1, (2 * d + s.2) / 10)
def dblS (ds : List Nat) : List Nat × Nat := ds.foldr dStep ([], 0)
def dblN (ds : List Nat) : List Nat := if 0 < (dblS ds).2 then 1 :: (dblS ds).1 else (dblS ds).1
def hStep (s : List Nat × Nat) (d : Nat) : List Nat × Nat := (if s.1 ≠ [] ∨ 1 < 10 * s.2 + d then s.1 ++ [(10 * s.2 + d) / 2] else s.1, (10 * s.2 + d) % 2)
def hlfN (ds : List Nat) : List Nat := (ds.foldl hStep ([], 0)).1
def D10 (ds : List Nat) : Prop := ∀ d ∈ ds, d < 10
theorem dbl_ok : ∀ (ds : List Nat), D10 ds → D10 (dblS ds).1 ∧ (dblS ds).2 ≤ 1 ∧ (dblS ds).1.length = ds.length
  | [], _ => ⟨(fun d h => nomatch h), Nat.zero_le _, rfl⟩
  | x :: xs, h => by
    obtain ⟨h1, h2, h3⟩ := dbl_ok xs (fun d hd => h d (List.mem_cons_of_mem _ hd))
    have hx := h x (by simp)
    have e : dblS (x :: xs) = dStep x (dblS xs) := rfl
    rw [e]
    unfold dStep
    refine ⟨fun d hd => ?_, by simp only; omega, by simp only [List.length_cons]; rw [h3]⟩
    rcases List.mem_cons.1 hd with rfl | hd
    · exact Nat.mod_lt _ (by decide)
    · exact h1 d hd
end Go.Proofs.YtkmkmgnfolpphaaDoor
