import Derived.Test.YtcahhahbcijkiaaGreatMg13
import Derived.WalkSmall
namespace Go.Proofs.YtcahhahbcijkiaaGreat.Ag
set_option maxHeartbeats 12800000
set_option maxRecDepth 100000
open Go.RowKit
set_option linter.unusedSimpArgs false
set_option linter.unusedVariables false
abbrev Kd := Nat × Nat
def kcs (k : Kd) : List Value := [.int .i64 (k.1 : Int), .int .i64 (k.2 : Int)]
def kval (k : Kd) : Value := .agg #[.int .i64 (k.1 : Int), .int .i64 (k.2 : Int)]
theorem kval_inj {k l : Kd} (h : kval k = kval l) : k = l := by
 obtain ⟨a, b⟩ := k
 obtain ⟨c, d⟩ := l
 simp only [kval, Value.agg.injEq, Array.mk.injEq, List.cons.injEq, Value.int.injEq, true_and, and_true] at h
 simp only [Prod.mk.injEq]
 omega
theorem kcs_len (k : Kd) : (kcs k).length = 2 := rfl
theorem kss_at {ks : List Kd} {i : Nat} {k : Kd} (h : ks[i]? = some k) (j : Nat) (hj : j < 2) : (ks.flatMap kcs)[i * 2 + j]? = (kcs k)[j]? := by
 induction ks generalizing i with
 | nil => simp at h
 | cons m l ih =>
  rw [List.flatMap_cons]
  cases i with
  | zero =>
   obtain rfl : m = k := by simpa using h
   rw [List.getElem?_append_left (by rw [kcs_len]; omega), Nat.zero_mul, Nat.zero_add]
  | succ i =>
   rw [List.getElem?_append_right (by rw [kcs_len]; omega), kcs_len, show (i + 1) * 2 + j - 2 = i * 2 + j by omega]
   exact ih (by simpa using h)
theorem one_kcs (k : Kd) : ∀ u ∈ kcs k, u.oneCell' = true := by
 intro u hu
 simp only [kcs, List.mem_cons, List.not_mem_nil, or_false] at hu
 rcases hu with rfl | rfl <;> rfl
def litB (N : Nat) (l : Int) : Bool := decide (0 ≤ l) && decide (l < 2 * (N : Int))
def tu (a : Int) : Int := a + 1 - 2 * (a % 2)
def isK (k : Kd) : Bool := !decide (k = (0, 0))
def andL (ks : List Kd) : List (Value × Value) := (ks.mapIdx fun i k => (k, i)).filterMap fun x => if x.1 = (0, 0) then none else some (kval x.1, .int .i64 (2 * (x.2 : Int)))
def insL (ks : List Kd) : List Int := (ks.mapIdx fun i k => (k, i)).filterMap fun x => if x.1 = (0, 0) ∧ x.2 ≠ 0 then some (2 * (x.2 : Int)) else none
theorem andL_snoc (ks : List Kd) (k : Kd) : andL (ks ++ [k]) = andL ks ++ (if k = (0, 0) then [] else [(kval k, .int .i64 (2 * (ks.length : Int)))]) := by
 unfold andL
 rw [List.mapIdx_append, List.filterMap_append]
 congr 1
 by_cases h : k = (0, 0)
 ·subst h; simp
 ·simp [h]
theorem insL_snoc (ks : List Kd) (k : Kd) : insL (ks ++ [k]) = insL ks ++ (if k = (0, 0) ∧ ks.length ≠ 0 then [2 * (ks.length : Int)] else []) := by
 unfold insL
 rw [List.mapIdx_append, List.filterMap_append]
 congr 1
 by_cases h : k = (0, 0) ∧ ks.length ≠ 0
 ·rw [if_pos h]; simp [h.1, h.2]
 ·rw [if_neg h]
  simp only [List.mapIdx_cons, List.mapIdx_nil, Nat.zero_add, List.filterMap_cons, List.filterMap_nil]
  rw [if_neg h]
theorem mem_andL {ks : List Kd} {x : Value × Value} (h : x ∈ andL ks) : ∃ (i : Nat) (k : Kd), ks[i]? = some k ∧ k ≠ (0, 0) ∧ x = (kval k, .int .i64 (2 * (i : Int))) := by
 unfold andL at h
 obtain ⟨y, hy, e⟩ := List.mem_filterMap.1 h
 obtain ⟨i, hi, rfl⟩ := List.mem_mapIdx.1 hy
 by_cases h2 : ks[i] = (0, 0)
 ·rw [if_pos h2] at e
  cases e
 ·rw [if_neg h2] at e
  exact ⟨i, ks[i], List.getElem?_eq_getElem hi, h2, (Option.some.inj e).symm⟩
theorem in_andL {ks : List Kd} {i : Nat} {k : Kd} (h : ks[i]? = some k) (h2 : k ≠ (0, 0)) : (kval k, Value.int .i64 (2 * (i : Int))) ∈ andL ks := by
 obtain ⟨hi, e⟩ := List.getElem?_eq_some_iff.1 h
 unfold andL
 exact List.mem_filterMap.2 ⟨(k, i), List.mem_mapIdx.2 ⟨i, hi, by rw [e]⟩, by simp [h2]⟩
theorem mem_insL {ks : List Kd} {l : Int} : l ∈ insL ks ↔ ∃ i : Nat, ks[i]? = some (0, 0) ∧ i ≠ 0 ∧ l = 2 * (i : Int) := by
 unfold insL
 constructor
 ·intro h
  obtain ⟨y, hy, e⟩ := List.mem_filterMap.1 h
  obtain ⟨i, hi, rfl⟩ := List.mem_mapIdx.1 hy
  by_cases h2 : ks[i] = (0, 0) ∧ i ≠ 0
  ·rw [if_pos h2] at e
   exact ⟨i, by rw [List.getElem?_eq_getElem hi, h2.1], h2.2, (Option.some.inj e).symm⟩
  ·rw [if_neg h2] at e
   cases e
 ·rintro ⟨i, h, h0, rfl⟩
  obtain ⟨hi, e⟩ := List.getElem?_eq_some_iff.1 h
  exact List.mem_filterMap.2 ⟨((0, 0), i), List.mem_mapIdx.2 ⟨i, hi, by rw [e]⟩, by simp [h0]⟩
theorem insL_len (ks : List Kd) : (insL ks).length ≤ ks.length := by
 unfold insL
 refine Nat.le_trans (List.length_filterMap_le _ _) ?_
 simp
structure Inv (ks : List Kd) : Prop where
 z : ks[0]? = some (0, 0)
 kid : ∀ (i : Nat) (k : Kd), ks[i]? = some k → k ≠ (0, 0) → 2 ≤ k.1 ∧ k.1 < k.2 ∧ k.2 < 2 * i ∧ ¬ (k.2 = k.1 + 1 ∧ k.1 % 2 = 0)
 once : ∀ (i j : Nat) (k : Kd), ks[i]? = some k → ks[j]? = some k → k ≠ (0, 0) → i = j
theorem Inv.one : Inv [(0, 0)] := by
 refine ⟨rfl, fun i k h h0 => ?_, fun i j k h _ h0 => ?_⟩
 all_goals
  cases i with
  | zero => exact absurd (by simpa using h.symm) h0
  | succ i => simp at h
theorem Inv.pos {ks : List Kd} (h : Inv ks) : 0 < ks.length := by
 have := h.z
 exact (List.getElem?_eq_some_iff.1 this).1
theorem Inv.snoc {ks : List Kd} (h : Inv ks) {k : Kd} (hk : k ≠ (0, 0) → (2 ≤ k.1 ∧ k.1 < k.2 ∧ k.2 < 2 * ks.length ∧ ¬ (k.2 = k.1 + 1 ∧ k.1 % 2 = 0)) ∧ k ∉ ks) : Inv (ks ++ [k]) := by
 have hp := h.pos
 have key : ∀ (i : Nat) (l : Kd), (ks ++ [k])[i]? = some l → ks[i]? = some l ∨ (i = ks.length ∧ l = k) := fun i l hi => by
  rw [List.getElem?_append] at hi
  split at hi
  ·exact Or.inl hi
  ·next hn =>
   right
   have : i - ks.length = 0 := by
    cases hx : i - ks.length with
    | zero => rfl
    | succ n => rw [hx] at hi; simp at hi
   rw [this] at hi
   exact ⟨by omega, by simpa using hi.symm⟩
 refine ⟨by rw [List.getElem?_append_left hp]; exact h.z, fun i l hi h0 => ?_, fun i j l hi hj h0 => ?_⟩
 ·rcases key i l hi with hi | ⟨rfl, rfl⟩
  ·exact h.kid i l hi h0
  ·exact (hk h0).1
 ·rcases key i l hi with h1 | ⟨h1, h1'⟩
  ·rcases key j l hj with h2 | ⟨h2, h2'⟩
   ·exact h.once i j l h1 h2 h0
   ·rw [h2'] at h1 h0
    exact absurd (List.mem_of_getElem? h1) (hk h0).2
  ·rcases key j l hj with h2 | ⟨h2, _⟩
   ·rw [h1'] at h2 h0
    exact absurd (List.mem_of_getElem? h2) (hk h0).2
   ·omega
abbrev Ans := Int × Int × List Kd
def inpF (mo : Nat) (ks : List Kd) : Ans := if ks.length = mo + 1 then (0, 81, ks) else (2 * (ks.length : Int), 0, ks ++ [(0, 0)])
def bothF (mo : Nat) (ks : List Kd) (k : Kd) : Ans :=
 match ks.findIdx? (fun l => decide (l = k)) with
 | some i => (2 * (i : Int), 0, ks)
 | none => if ks.length = mo + 1 then (0, 81, ks) else (2 * (ks.length : Int), 0, ks ++ [k])
def andF (mo : Nat) (ks : List Kd) (a b : Int) : Ans :=
 if litB ks.length a && litB ks.length b then
  if min a b = 0 ∨ max a b = tu (min a b) then (0, 0, ks)
  else if min a b = 1 ∨ min a b = max a b then (max a b, 0, ks)
  else bothF mo ks ((min a b).toNat, (max a b).toNat)
 else (0, 80, ks)
def orF (mo : Nat) (ks : List Kd) (a b : Int) : Ans :=
 if (andF mo ks (tu a) (tu b)).2.1 = 0 then (tu (andF mo ks (tu a) (tu b)).1, 0, (andF mo ks (tu a) (tu b)).2.2)
 else (0, (andF mo ks (tu a) (tu b)).2.1, (andF mo ks (tu a) (tu b)).2.2)
def muxF (mo : Nat) (ks : List Kd) (c a b : Int) : Ans :=
 if litB ks.length c && litB ks.length a && litB ks.length b then
  if (andF mo ks c a).2.1 = 0 then
   if (andF mo (andF mo ks c a).2.2 (tu c) b).2.1 = 0 then
    orF mo (andF mo (andF mo ks c a).2.2 (tu c) b).2.2 (andF mo ks c a).1 (andF mo (andF mo ks c a).2.2 (tu c) b).1
   else (0, (andF mo (andF mo ks c a).2.2 (tu c) b).2.1, (andF mo (andF mo ks c a).2.2 (tu c) b).2.2)
  else (0, (andF mo ks c a).2.1, (andF mo ks c a).2.2)
 else (0, 80, ks)
def xorF (mo : Nat) (ks : List Kd) (a b : Int) : Ans := muxF mo ks a (tu b) b
structure Gx (w : World) (g m : Nat) (v u : Value) (mo : Nat) (ks : List Kd) : Prop where
 hd : w.heap[g]? = some (.cells #[.int .i64 (mo : Int), v, .map (some m), u] 75)
 row : w.ownsRow 0 100 2 v ks.length (ks.flatMap kcs)
 ands : Mp w 100 m (andL ks)
 ins : Is' w 0 u (insL ks)
 most : mo ≤ 32768
 room : ks.length ≤ mo + 1
 inv : Inv ks
def Gr (w : World) (F : Nat → Prop) (g mo : Nat) (ks : List Kd) : Prop := ∃ m v u, Gx w g m v u mo ks ∧ F g ∧ F m ∧ (∀ b, v.ownBlock = some b → F b) ∧ ∀ b, u.ownBlock = some b → F b
structure Ch (w w' : World) (F F' : Nat → Prop) : Prop where
 os : w'.os = w.os
 tape : w'.tape = w.tape
 output : w'.output = w.output
 size : w.heap.size ≤ w'.heap.size
 block : ∀ k, k < w.heap.size → ¬ F k → w'.heap[k]? = w.heap[k]?
 foot : ∀ k, F' k → F k ∨ (w.heap.size ≤ k ∧ k < w'.heap.size)
theorem Ch.refl (w : World) (F : Nat → Prop) : Ch w w F F := ⟨rfl, rfl, rfl, Nat.le_refl _, fun _ _ _ => rfl, fun _ h => Or.inl h⟩
theorem Ch.trans {a b c : World} {F G H : Nat → Prop} (h : Ch a b F G) (k : Ch b c G H) : Ch a c F H := by
 refine ⟨k.os.trans h.os, k.tape.trans h.tape, k.output.trans h.output, Nat.le_trans h.size k.size, fun q hq hf => (k.block q (Nat.lt_of_lt_of_le hq h.size) fun hg => ?_).trans (h.block q hq hf), fun q hq => ?_⟩
 ·rcases h.foot q hg with h1 | ⟨h1, _⟩
  ·exact hf h1
  ·omega
 ·have := h.size
  have := k.size
  rcases k.foot q hq with h1 | ⟨h1, h2⟩
  ·rcases h.foot q h1 with h3 | ⟨h3, h4⟩
   ·exact Or.inl h3
   ·exact Or.inr ⟨h3, by omega⟩
  ·exact Or.inr ⟨by omega, h2⟩
theorem Ch.of_below {w w' : World} (F : Nat → Prop) (h : Below w.heap.size w w') : Ch w w' F F := ⟨h.os, h.tape, h.output, h.size, fun k hk _ => h.block k hk, fun _ h => Or.inl h⟩
theorem Gx.lt {w : World} {g m mo : Nat} {v u : Value} {ks : List Kd} (h : Gx w g m v u mo ks) : g < w.heap.size := (Array.getElem?_eq_some_iff.1 h.hd).1
theorem Gx.c0 {w : World} {g m mo : Nat} {v u : Value} {ks : List Kd} (h : Gx w g m v u mo ks) : w.cell? ⟨g, 0, none⟩ = some (.int .i64 (mo : Int)) := cell_of h.hd 0 rfl
theorem Gx.c1 {w : World} {g m mo : Nat} {v u : Value} {ks : List Kd} (h : Gx w g m v u mo ks) : w.cell? ⟨g, 1, none⟩ = some v := cell_of h.hd 1 rfl
theorem Gx.c2 {w : World} {g m mo : Nat} {v u : Value} {ks : List Kd} (h : Gx w g m v u mo ks) : w.cell? ⟨g, 2, none⟩ = some (.map (some m)) := cell_of h.hd 2 rfl
theorem Gx.c3 {w : World} {g m mo : Nat} {v u : Value} {ks : List Kd} (h : Gx w g m v u mo ks) : w.cell? ⟨g, 3, none⟩ = some u := cell_of h.hd 3 rfl
theorem Gx.kept {w w' : World} {g m mo : Nat} {v u : Value} {ks : List Kd} (h : Gx w g m v u mo ks) (hk : ∀ k, k < w.heap.size → w'.heap[k]? = w.heap[k]?) : Gx w' g m v u mo ks :=
 ⟨(hk g h.lt).trans h.hd, row_kept h.row hk, h.ands.kept (hk m h.ands.lt), row_kept h.ins hk, h.most, h.room, h.inv⟩
theorem Gx.below {w w' : World} {g m mo : Nat} {v u : Value} {ks : List Kd} (h : Gx w g m v u mo ks) (hb : Below w.heap.size w w') : Gx w' g m v u mo ks := h.kept hb.block
theorem Gr.kept {w w' : World} {F : Nat → Prop} {g mo : Nat} {ks : List Kd} (h : Gr w F g mo ks) (hk : ∀ k, k < w.heap.size → F k → w'.heap[k]? = w.heap[k]?) : Gr w' F g mo ks := by
 obtain ⟨m, v, u, hx, f1, f2, f3, f4⟩ := h
 exact ⟨m, v, u, ⟨(hk g hx.lt f1).trans hx.hd, row_own hx.row (fun k e => hk k (hx.row.lt k e).2 (f3 k e)), hx.ands.kept (hk m hx.ands.lt f2), row_own hx.ins (fun k e => hk k (World.ownsRow.lt hx.ins k e).2 (f4 k e)), hx.most, hx.room, hx.inv⟩, f1, f2, f3, f4⟩
theorem Gr.below {w w' : World} {F : Nat → Prop} {g mo : Nat} {ks : List Kd} (h : Gr w F g mo ks) (hb : Below w.heap.size w w') : Gr w' F g mo ks := h.kept (fun k hk _ => hb.block k hk)
theorem Gr.mono {w : World} {F F' : Nat → Prop} {g mo : Nat} {ks : List Kd} (h : Gr w F g mo ks) (hF : ∀ k, F k → F' k) : Gr w F' g mo ks := by
 obtain ⟨m, v, u, hx, f1, f2, f3, f4⟩ := h
 exact ⟨m, v, u, hx, hF _ f1, hF _ f2, fun b e => hF b (f3 b e), fun b e => hF b (f4 b e)⟩
theorem Gr.inv {w : World} {F : Nat → Prop} {g mo : Nat} {ks : List Kd} (h : Gr w F g mo ks) : Inv ks := by
 obtain ⟨m, v, u, hx, _⟩ := h
 exact hx.inv
theorem Gr.len {w : World} {F : Nat → Prop} {g mo : Nat} {ks : List Kd} (h : Gr w F g mo ks) : ks.length ≤ mo + 1 ∧ mo ≤ 32768 := by
 obtain ⟨m, v, u, hx, _⟩ := h
 exact ⟨hx.room, hx.most⟩
theorem Gx.sl {w : World} {g m mo : Nat} {v u : Value} {ks : List Kd} (h : Gx w g m v u mo ks) : ∃ r cap, v = .slice (some ⟨r, 0, none⟩) ks.length cap ∧ r < w.heap.size ∧ r ≠ g ∧ ∀ (i : Nat) (k : Kd), ks[i]? = some k → w.cell? ⟨r, i * 2, none⟩ = some (.int .i64 (k.1 : Int)) ∧ w.cell? ⟨r, i * 2 + 1, none⟩ = some (.int .i64 (k.2 : Int)) := by
 have hp := h.inv.pos
 rcases h.row.2 with ⟨hv, hn⟩ | ⟨r, cap, cur, hv, hb, hg, _, _, hs, ht⟩
 ·omega
 ·refine ⟨r, cap, hv, (Array.getElem?_eq_some_iff.1 hg).1, ?_, fun i k hi => ?_⟩
  ·rintro rfl
   rw [h.hd] at hg
   cases hg
  ·have hlt : i < ks.length := (List.getElem?_eq_some_iff.1 hi).1
   have key : ∀ j u, j < 2 → (kcs k)[j]? = some u → w.cell? ⟨r, i * 2 + j, none⟩ = some u := fun j u hj hu => by
    have e : (ks.flatMap kcs)[i * 2 + j]? = some u := by rw [kss_at hi j hj]; exact hu
    rw [← ht, List.getElem?_take_of_lt (by omega)] at e
    exact cell_of hg _ (by simpa using e)
   exact ⟨key 0 _ (by omega) rfl, key 1 _ (by omega) rfl⟩
theorem Gx.sep {w : World} {g m mo : Nat} {v u : Value} {ks : List Kd} (h : Gx w g m v u mo ks) : v.ownBlock ≠ some g ∧ u.ownBlock ≠ some g ∧ g ≠ m ∧ v.ownBlock ≠ some m ∧ u.ownBlock ≠ some m ∧ ∀ b, v.ownBlock = some b → u.ownBlock ≠ some b := by
 have hv : ∀ b, v.ownBlock = some b → ∃ cur, w.heap[b]? = some (.cells cur 100) := fun b e => by
  rcases h.row.2 with ⟨rfl, _⟩ | ⟨r, cap, cur, rfl, _, hr, _⟩
  ·cases e
  ·cases e; exact ⟨cur, hr⟩
 have hu : ∀ b, u.ownBlock = some b → ∃ cur, w.heap[b]? = some (.cells cur 3) := fun b e => by
  rcases h.ins.2 with ⟨rfl, _⟩ | ⟨r, cap, cur, rfl, _, hr, _⟩
  ·cases e
  ·cases e; exact ⟨cur, hr⟩
 obtain ⟨es, cl, hm, _⟩ := h.ands
 have hd := h.hd
 refine ⟨fun e => ?_, fun e => ?_, fun e => ?_, fun e => ?_, fun e => ?_, fun b e e' => ?_⟩
 ·obtain ⟨cur, q⟩ := hv g e
  rw [hd] at q; cases q
 ·obtain ⟨cur, q⟩ := hu g e
  rw [hd] at q; cases q
 ·subst e; rw [hd] at hm; cases hm
 ·obtain ⟨cur, q⟩ := hv m e
  rw [hm] at q; cases q
 ·obtain ⟨cur, q⟩ := hu m e
  rw [hm] at q; cases q
 ·obtain ⟨cur, q⟩ := hv b e
  obtain ⟨cur', q'⟩ := hu b e'
  rw [q'] at q; cases q
def Did (w : World) (F : Nat → Prop) (g mo : Nat) (r : Ans) (e : Ending) (w' : World) : Prop :=
 e = .returned (.tuple #[.int .i64 r.1, .int .i64 r.2.1]) ∧ ∃ F', Gr w' F' g mo r.2.2 ∧ Ch w w' F F'
theorem below_step {w W w1 : World} (h : Below w.heap.size w W) (hb : Below W.heap.size W w1) : Below w.heap.size w w1 := h.trans (hb.mono h.size)
theorem keep_cell {W w1 : World} (hb : Below W.heap.size W w1) {a : Addr} {v : Value} (h : W.cell? a = some v) : w1.cell? a = some v := by
 rw [hb.cell (World.block_lt_of_cell? _ _ h)]; exact h
theorem xor_one (n : Nat) : n ^^^ 1 = n + 1 - 2 * (n % 2) := by
 have h1 : (n ^^^ 1) / 2 = n / 2 := by rw [Nat.xor_div_two]; simp
 have h2 : (n ^^^ 1) % 2 = (n % 2 + 1) % 2 := by
  have := Nat.mod_two_eq_zero_or_one n
  have h3 : (n ^^^ 1) % 2 = (n % 2 ^^^ 1 % 2) := by
   have := @Nat.xor_mod_two_pow n 1 1
   simpa using this
  rw [h3]
  rcases this with e | e <;> rw [e] <;> rfl
 omega
theorem xor_int {a : Int} (h1 : -9223372036854775808 ≤ a) (h2 : a ≤ 9223372036854775807) : wrap64 (((BitVec.ofInt 64 a ^^^ BitVec.ofInt 64 1).toNat : Nat) : Int) = tu a := by
 rw [BitVec.toNat_xor, show (BitVec.ofInt 64 1).toNat = 1 from rfl, xor_one, BitVec.toNat_ofInt]
 unfold tu wrap64
 have e64 : ((2 ^ 64 : Nat) : Int) = 18446744073709551616 := rfl
 rw [e64]
 omega
theorem bits_xor (a b : Int) : bits .xor .i64 a b = wrap64 (((BitVec.ofInt 64 a ^^^ BitVec.ofInt 64 b).toNat : Nat) : Int) := by
 have h : bits .xor .i64 a b = IntKind.i64.wrap (((BitVec.ofInt 64 a ^^^ BitVec.ofInt 64 b).toNat : Nat) : Int) := rfl
 rw [h, IntKind.wrap_i64]
 unfold wrap64
 rfl
theorem underArr : Tryz.prog.underlying 100 = some (.array 2 3) := by kernel_rfl
theorem underInt : Tryz.prog.underlying 3 = some (.int .i64) := by kernel_rfl
theorem int_eq (d : Nat) (x y : Int) (w : World) : (Op.equalIn (d + 1) 3 (.int .i64 x) (.int .i64 y)).run Tryz.prog w = .ok (x == y) w := by
 simp only [Op.equalIn, Sem.run_bind, run_underlying underInt, Result.andThen_ok]
 rfl
theorem arr_eqd (d : Nat) (a b c e : Int) (w : World) : (Op.equalIn (d + 2) 100 (.agg #[.int .i64 a, .int .i64 b]) (.agg #[.int .i64 c, .int .i64 e])).run Tryz.prog w = .ok (a == c && b == e) w := by
 obtain ⟨i, hi, -⟩ := info_any infoInt
 rw [run_equalIn_array (P := Tryz.prog) w (d + 1) _ _ underArr hi, show Tryz.prog.cellsOf 3 = 1 by kernel_rfl]
 simp only [List.range_succ, List.range_zero, List.nil_append, List.cons_append, Op.eqItems]
 have p0 : ∀ (x y : Int) w, (part 3 #[.int .i64 x, .int .i64 y] (0 * 1)).run Tryz.prog w = .ok (.int .i64 x) w := fun x y w => by kernel_rfl
 have p1 : ∀ (x y : Int) w, (part 3 #[.int .i64 x, .int .i64 y] (1 * 1)).run Tryz.prog w = .ok (.int .i64 y) w := fun x y w => by kernel_rfl
 have p2 := int_eq d
 simp only [Sem.run_bind, p0, p1, p2, Result.andThen_ok]
 cases a == c <;> simp [p0, p1, p2, Result.andThen]
 by_cases q : b = e <;> simp [q]
theorem arr_eq (a b c e : Int) (w : World) : (Op.equalIn 10000 100 (.agg #[.int .i64 a, .int .i64 b]) (.agg #[.int .i64 c, .int .i64 e])).run Tryz.prog w = .ok (a == c && b == e) w := arr_eqd 9998 a b c e w
theorem node_any (l : Nat) (w : World) :
  Calls Tryz.prog 43 #[.int .i64 (l : Int)] w fun e w' => e = .returned (.int .i64 ((l / 2 : Nat) : Int)) ∧ w' = w := by
 go_enter Tryz.func43, Tryz.ntmps43
 go_wp2_with fail
 go_ret
 exact ⟨rfl, rfl⟩
theorem turn_any {a : Int} (h1 : -9223372036854775808 ≤ a) (h2 : a ≤ 9223372036854775807) (w : World) :
  Calls Tryz.prog 184 #[.int .i64 a] w fun e w' => e = .returned (.int .i64 (tu a)) ∧ w' = w := by
 have H : Hid _ := xor_int h1 h2
 go_enter Tryz.func184, Tryz.ntmps184
 go_wp2_with fail
 go_ret
 exact ⟨congrArg (fun x => Ending.returned (.int .i64 x)) (H.out.symm ▸ (bits_xor a 1)), rfl⟩
theorem isAnd_any (k : Kd) (w : World) :
  Rt 44 #[kval k] w (.bool (isK k)) := by
 obtain ⟨a, b⟩ := k
 unfold kval
 dsimp only
 have HE := arr_eq (a : Int) (b : Int) 0 0
 go_enter Tryz.func44, Tryz.ntmps44
 go_wp2_with fail
 go_ret
 refine ⟨?_, by go_grown⟩
 have e : isK (a, b) = (!(a : Int) == 0 || !(b : Int) == 0) := by
  unfold isK
  by_cases h1 : a = 0 <;> by_cases h2 : b = 0 <;> simp [h1, h2]
 rw [e]
 rfl
theorem nodes_any {w : World} {F : Nat → Prop} {g mo : Nat} {ks : List Kd} (h : Gr w F g mo ks) :
  Calls Tryz.prog 12 #[.pointer (some ⟨g, 0, none⟩)] w fun e w' => e = .returned (.int .i64 ((ks.length : Int) - 1)) ∧ w' = w := by
 obtain ⟨m, v, u, hx, -⟩ := h
 have c1 := hx.c1
 have hr := hx.room
 have hm := hx.most
 have hp := hx.inv.pos
 obtain ⟨r, cap, rfl, -⟩ := hx.sl
 clear hx
 go_enter Tryz.func12, Tryz.ntmps12
 go_wp2_with fail
 go_ret
 exact ⟨rfl, rfl⟩
theorem has_any {w : World} {F : Nat → Prop} {g mo : Nat} {ks : List Kd} (h : Gr w F g mo ks) {q c : Nat} {l : List Int} (hl : Li w q 0 l) (hn : l.length ≤ 1000) :
  Rt 42 #[.pointer (some ⟨g, 0, none⟩), .slice (some ⟨q, 0, none⟩) l.length c] w (.bool (l.all (litB ks.length))) := by
 obtain ⟨m, v, u, hx, -⟩ := h
 have c1 := hx.c1
 have hr := hx.room
 have hm := hx.most
 have hg := hx.lt
 obtain ⟨r, cap, rfl, -⟩ := hx.sl
 obtain ⟨n, en⟩ : ∃ n, n = l.length := ⟨_, rfl⟩
 obtain ⟨N, eN⟩ : ∃ N, N = ks.length := ⟨_, rfl⟩
 obtain ⟨R, eR⟩ : ∃ R, R = l.all (litB ks.length) := ⟨_, rfl⟩
 rw [← eR, ← en]
 rw [← eN] at hr c1 eR
 rw [← en] at hn
 have HR : Hid _ := eR
 have HN : Hid _ := en
 have HL : Hid _ := hl
 have HC : Hid _ := c1
 clear hx hl eR en eN c1
 have hq : ∀ j, j < n → q < w.heap.size := fun j hj => World.block_lt_of_cell? _ _ (HL.out j (by rw [← HN.out]; exact hj))
 go_enter Tryz.func42, Tryz.ntmps42
 go_wp2_with fail
 go_loopw [9] (fun i wr => ∃ k : Nat, k ≤ n ∧ i = .int .i64 (k : Int) ∧ (∀ j, j < k → litB N (l.getD j 0) = true) ∧ Below w.heap.size w wr) (fun i wr => n - (intOf i).toNat)
 case atStart => exact ⟨0, Nat.zero_le _, rfl, (fun j hj => by omega), Below.refl _ _⟩
 case round =>
  obtain ⟨k, hk, rfl, hz, hbl⟩ := hrel
  have HZ : Hid _ := hz
  clear hz
  by_cases hlt : k < n
  ·have cc : wr.cell? ⟨g, 1, none⟩ = some (.slice (some ⟨r, 0, none⟩) N cap) := bel_cell hbl hg HC.out
   obtain ⟨s, hs⟩ : ∃ s, s = l.getD k 0 := ⟨_, rfl⟩
   have q1 := HL.out k (by rw [← HN.out]; exact hlt)
   rw [Nat.zero_add] at q1
   have hck : wr.cell? ⟨q, k, none⟩ = some (.int .i64 s) := by
    rw [hs, hbl.cell (p := ⟨q, k, none⟩) (World.block_lt_of_cell? _ _ q1)]; exact q1
   have HS : Hid _ := hs
   have b0 : (k : Int) < (n : Int) := by omega
   clear q1 hs
   by_cases h0 : s < 0
   ·have HF : Hid (R = false) := by
     unfold Hid
     rw [HR.out, List.all_eq_false]
     refine ⟨s, ?_, by simp [litB]; omega⟩
     rw [HS.out, List.getD_eq_getElem?_getD, List.getElem?_eq_getElem (by rw [← HN.out]; exact hlt)]
     exact List.getElem_mem _
    go_wp2_with fail
    go_quiet (fail)
    go_wp2_with fail
    go_ret
    exact ⟨by rw [HF.out]; rfl, below_drewN hbl _⟩
   ·obtain ⟨S, rfl⟩ : ∃ S : Nat, s = (S : Int) := ⟨s.toNat, by omega⟩
    have hd : decide ((S : Int) < 0) = false := by simp
    have HNO : Hid (∀ wx, Calls Tryz.prog 43 #[.int .i64 (S : Int)] wx fun e w' => e = .returned (.int .i64 ((S / 2 : Nat) : Int)) ∧ w' = wx) := fun wx => node_any S wx
    obtain ⟨T, hT⟩ : ∃ T, T = S / 2 := ⟨_, rfl⟩
    rw [← hT] at HNO
    by_cases h1 : (N : Int) ≤ (T : Int)
    ·have HF : Hid (R = false) := by
      unfold Hid
      rw [HR.out, List.all_eq_false]
      refine ⟨S, ?_, by simp [litB]; omega⟩
      rw [HS.out, List.getD_eq_getElem?_getD, List.getElem?_eq_getElem (by rw [← HN.out]; exact hlt)]
      exact List.getElem_mem _
     clear hT
     go_wp2_with fail
     go_quiet ((go_at_call 43; refine Calls.quiet_of_same (HNO.out _)))
     go_wp2_with fail
     go_ret
     exact ⟨by rw [HF.out]; rfl, below_drewN hbl _⟩
    ·have HF : Hid (litB N (l.getD k 0) = true) := by
      unfold Hid
      rw [← HS.out]; simp [litB]; omega
     have hd1 : decide ((N : Int) ≤ (T : Int)) = false := decide_eq_false h1
     clear hT
     go_wp2_with fail
     go_quiet ((go_at_call 43; refine Calls.quiet_of_same (HNO.out _)))
     go_wp2_with fail
     refine ⟨⟨k + 1, by omega, by go_num, fun j hj => ?_, below_drewN hbl _⟩, by simp [intOf]; omega⟩
     by_cases e : j = k
     ·subst e; exact HF.out
     ·exact HZ.out j (by omega)
  ·obtain rfl : k = n := by omega
   have HF : Hid (R = true) := by
    unfold Hid
    rw [HR.out, List.all_eq_true]
    intro x hx
    obtain ⟨j, hj, rfl⟩ := List.getElem_of_mem hx
    have := HZ.out j (by rw [HN.out]; exact hj)
    rwa [List.getD_eq_getElem?_getD, List.getElem?_eq_getElem hj] at this
   go_wp2_with fail
   go_ret
   exact ⟨by rw [HF.out]; rfl, hbl⟩
def kidF (ks : List Kd) (n : Int) : Int × Int × Bool := if 0 ≤ n then match ks[n.toNat]? with | some k => ((k.1 : Int), (k.2 : Int), isK k) | none => (0, 0, false) else (0, 0, false)
end Go.Proofs.YtcahhahbcijkiaaGreat.Ag
