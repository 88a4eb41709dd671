/- Decision diagrams in memory: the manager. -/
import Derived.Test.YtkmkmgnfolpphaaDoorDE0
namespace Go.Proofs.YtkmkmgnfolpphaaDoor
open Go.RowKit
set_option linter.unusedSimpArgs false
set_option linter.unusedVariables false

def t3c (n : T3) : List Value := [.int .i64 n.1, .int .i64 n.2.1, .int .i64 n.2.2]
def t3v (n : T3) : Value := .agg #[.int .i64 n.1, .int .i64 n.2.1, .int .i64 n.2.2]
theorem t3v_inj {m n : T3} (h : t3v m = t3v n) : m = n := by
  obtain ⟨a, b, c⟩ := m
  obtain ⟨d, e, f⟩ := n
  simp only [t3v, Value.agg.injEq, Array.mk.injEq, List.cons.injEq, Value.int.injEq, true_and, and_true] at h
  obtain ⟨rfl, rfl, rfl⟩ := h
  rfl
theorem t3c_len (n : T3) : (t3c n).length = 3 := rfl
theorem t3s_len (l : List T3) : (l.flatMap t3c).length = l.length * 3 := by
  induction l with
  | nil => rfl
  | cons n l ih => rw [List.flatMap_cons, List.length_append, ih, List.length_cons, t3c_len]; omega
theorem t3s_at {l : List T3} {i : Nat} {n : T3} (h : l[i]? = some n) (j : Nat) (hj : j < 3) : (l.flatMap t3c)[i * 3 + j]? = (t3c n)[j]? := by
  induction l generalizing i with
  | nil => simp at h
  | cons m l ih =>
    rw [List.flatMap_cons]
    cases i with
    | zero =>
      obtain rfl : m = n := by simpa using h
      rw [List.getElem?_append_left (by rw [t3c_len]; omega), Nat.zero_mul, Nat.zero_add]
    | succ i =>
      rw [List.getElem?_append_right (by rw [t3c_len]; omega), t3c_len, show (i + 1) * 3 + j - 3 = i * 3 + j by omega]
      exact ih (by simpa using h)
theorem one_t3c (n : T3) : ∀ u ∈ t3c n, u.oneCell' = true := by
  intro u hu
  simp only [t3c, List.mem_cons, List.not_mem_nil, or_false] at hu
  rcases hu with rfl | rfl | rfl <;> rfl

/-- What the table's map holds. -/
def tabL (ns : List T3) : List (Value × Value) := (ns.mapIdx fun i n => (n, i)).filterMap fun x => if x.2 ≤ 1 ∨ x.1 = nd0 then none else some (t3v x.1, .int .i64 (x.2 : Int))
theorem mem_tabL {ns : List T3} {x : Value × Value} (h : x ∈ tabL ns) : ∃ i : Nat, i < ns.length ∧ 2 ≤ i ∧ at3 ns (i : Int) ≠ nd0 ∧ x = (t3v (at3 ns (i : Int)), .int .i64 (i : Int)) := by
  unfold tabL at h
  obtain ⟨y, hy, e⟩ := List.mem_filterMap.1 h
  obtain ⟨i, hi, rfl⟩ := List.mem_mapIdx.1 hy
  have ea : at3 ns (i : Int) = ns[i] := at3_of (List.getElem?_eq_getElem hi)
  dsimp only at e
  by_cases h2 : i ≤ 1 ∨ ns[i] = nd0
  · rw [if_pos h2] at e; cases e
  · rw [if_neg h2] at e
    exact ⟨i, hi, by omega, by rw [ea]; exact fun q => h2 (Or.inr q), by rw [ea]; exact (Option.some.inj e).symm⟩
theorem in_tabL {ns : List T3} {i : Int} (h2 : 2 ≤ i) (ha : alive ns i) : (t3v (at3 ns i), Value.int .i64 i) ∈ tabL ns := by
  obtain ⟨j, rfl, hj⟩ := ha.nat
  have ea : at3 ns (j : Int) = ns[j] := at3_of (List.getElem?_eq_getElem hj)
  unfold tabL
  refine List.mem_filterMap.2 ⟨(ns[j], j), List.mem_mapIdx.2 ⟨j, hj, rfl⟩, ?_⟩
  dsimp only
  rw [if_neg, ea]
  rintro (h | h)
  · omega
  · rcases ha.2.2 with q | q
    · omega
    · exact q (by rw [ea]; exact h)
/-- The map's entries, in whatever order. -/
structure Nm (w : World) (m : Nat) (ns : List T3) : Prop where
  ex : ∃ L, Mp w 80 m L ∧ List.Perm L (tabL ns)
theorem Nm.kept {w w' : World} {m : Nat} {ns : List T3} (h : Nm w m ns) (hb : w'.heap[m]? = w.heap[m]?) : Nm w' m ns := by
  obtain ⟨L, h1, h2⟩ := h.ex
  exact ⟨L, h1.kept hb, h2⟩
theorem Nm.lt {w : World} {m : Nat} {ns : List T3} (h : Nm w m ns) : m < w.heap.size := by
  obtain ⟨L, h1, h2⟩ := h.ex
  exact h1.lt
/-- How often each is pinned: a map. -/
structure Pm (w : World) (p : Nat) (pn : Int → Int) : Prop where
  ex : ∃ n D, w.ownsMap (H := Unit) Tryd.prog 3 (plainElem Tryd.prog 3) p n D ∧ ∀ k : Int, -9223372036854775808 ≤ k → k ≤ 9223372036854775807 → Maps.has D (.int .i64 k) = decide (1 ≤ pn k) ∧ (1 ≤ pn k → ∀ z, D.atKey (.int .i64 k) z = .lit (.int .i64 (pn k)))
  rg : ∀ f, pn f = 0 ∨ (1 ≤ pn f ∧ 2 ≤ f ∧ f < 20000)
theorem Pm.kept {w w' : World} {p : Nat} {pn : Int → Int} (h : Pm w p pn) (hb : w'.heap[p]? = w.heap[p]?) : Pm w' p pn := by
  obtain ⟨n, D, ⟨es, cl, h1, h2⟩, h3⟩ := h.ex
  exact ⟨⟨n, D, ⟨es, cl, hb.trans h1, h2⟩, h3⟩, h.rg⟩
theorem Pm.obj {w : World} {p : Nat} {pn : Int → Int} (h : Pm w p pn) : ∃ es cl, w.heap[p]? = some (.map es cl) := by
  obtain ⟨n, D, ⟨es, cl, h1, h2⟩, h3⟩ := h.ex
  exact ⟨es, cl, h1⟩
theorem Pm.lt {w : World} {p : Nat} {pn : Int → Int} (h : Pm w p pn) : p < w.heap.size := by
  obtain ⟨es, cl, h1⟩ := h.obj
  exact (Array.getElem?_eq_some_iff.1 h1).1
theorem Pm.made {w : World} {p : Nat} (h : w.heap[p]? = some (.map #[] 0)) : Pm w p (fun _ => 0) := by
  obtain ⟨es, cl, h1, h2⟩ := World.ownsMap_made (H := Unit) w Tryd.prog 3 (plainElem Tryd.prog 3)
  rw [heap_alloc_new] at h1
  cases h1
  exact ⟨⟨0, .map [], ⟨#[], 0, h, h2⟩, fun k _ _ => ⟨rfl, fun h => by omega⟩⟩, fun f => Or.inl rfl⟩

/-- What holds of a manager beside its nodes. -/
structure Mg (vars most : Nat) (S : St) : Prop where
  good : Good vars S.ns S.sp
  vr : vars ≤ 4096
  mo : 2 ≤ most ∧ most ≤ 16384
  sum : cntF S.ns + S.sp.length + 2 = S.ns.length
  len : S.ns.length ≤ most + 2
  hol : ∀ i : Int, 2 ≤ i → i.toNat < S.ns.length → at3 S.ns i = nd0 → i ∈ S.sp
/-- The manager at block g (its nodes' slice: v; its map: m; the spare ones' slice: u; the pins: p). -/
structure Mx (w : World) (g m p : Nat) (v u : Value) (vars most : Nat) (S : St) (pn : Int → Int) : Prop where
  hd : w.heap[g]? = some (.cells #[.int .i64 (vars : Int), .int .i64 (most : Int), v, .map (some m), u, .map (some p)] 78)
  row : w.ownsRow 0 80 3 v S.ns.length (S.ns.flatMap t3c)
  nums : Nm w m S.ns
  spr : Is' w 0 u S.sp
  pins : Pm w p pn
  mg : Mg vars most S
/-- All its blocks are of F. -/
def Gr (w : World) (F : Nat → Prop) (g vars most : Nat) (S : St) (pn : Int → Int) : Prop := ∃ m p v u, Mx w g m p v u vars most S pn ∧ m ≠ p ∧ F g ∧ F m ∧ F p ∧ (∀ b, v.ownBlock = some b → F b) ∧ ∀ b, u.ownBlock = some b → F b
/-- Only blocks of F have turned; what is of F' is of F or new. -/
structure Ch (w w' : World) (F F' : Nat → Prop) : Prop where
  os : w'.os = w.os
  tape : w'.tape = w.tape
  output : w'.output = w.output
  size : w.heap.size ≤ w'.heap.size
  block : ∀ k, k < w.heap.size → ¬ F k → w'.heap[k]? = w.heap[k]?
  foot : ∀ k, F' k → F k ∨ (w.heap.size ≤ k ∧ k < w'.heap.size)
theorem Ch.refl (w : World) (F : Nat → Prop) : Ch w w F F := ⟨rfl, rfl, rfl, Nat.le_refl _, fun _ _ _ => rfl, fun _ h => Or.inl h⟩
theorem Ch.trans {a b c : World} {F G H : Nat → Prop} (h : Ch a b F G) (k : Ch b c G H) : Ch a c F H := by
  refine ⟨k.os.trans h.os, k.tape.trans h.tape, k.output.trans h.output, Nat.le_trans h.size k.size, fun q hq hf => (k.block q (Nat.lt_of_lt_of_le hq h.size) fun hg => ?_).trans (h.block q hq hf), fun q hq => ?_⟩
  · rcases h.foot q hg with h1 | ⟨h1, _⟩
    · exact hf h1
    · omega
  · have := h.size
    have := k.size
    rcases k.foot q hq with h1 | ⟨h1, h2⟩
    · rcases h.foot q h1 with h3 | ⟨h3, h4⟩
      · exact Or.inl h3
      · exact Or.inr ⟨h3, by omega⟩
    · exact Or.inr ⟨by omega, h2⟩
theorem Ch.of_below {w w' : World} (F : Nat → Prop) (h : Below w.heap.size w w') : Ch w w' F F := ⟨h.os, h.tape, h.output, h.size, fun k hk _ => h.block k hk, fun _ h => Or.inl h⟩
theorem Ch.below {w w' : World} {F F' : Nat → Prop} {B : Nat} (h : Ch w w' F F') (hF : ∀ k, F k → B ≤ k) (hB : B ≤ w.heap.size) : Below B w w' := ⟨h.os, h.tape, h.output, h.size, fun k hk => h.block k (by omega) (fun hf => by have := hF k hf; omega)⟩
section
variable {w w' : World} {F F' : Nat → Prop} {g m p vars most : Nat} {v u : Value} {S : St} {pn : Int → Int}
theorem Mx.lt (h : Mx w g m p v u vars most S pn) : g < w.heap.size := (Array.getElem?_eq_some_iff.1 h.hd).1
theorem Mx.c0 (h : Mx w g m p v u vars most S pn) : w.cell? ⟨g, 0, none⟩ = some (.int .i64 (vars : Int)) := cell_of h.hd 0 rfl
theorem Mx.c1 (h : Mx w g m p v u vars most S pn) : w.cell? ⟨g, 1, none⟩ = some (.int .i64 (most : Int)) := cell_of h.hd 1 rfl
theorem Mx.c2 (h : Mx w g m p v u vars most S pn) : w.cell? ⟨g, 2, none⟩ = some v := cell_of h.hd 2 rfl
theorem Mx.c3 (h : Mx w g m p v u vars most S pn) : w.cell? ⟨g, 3, none⟩ = some (.map (some m)) := cell_of h.hd 3 rfl
theorem Mx.c4 (h : Mx w g m p v u vars most S pn) : w.cell? ⟨g, 4, none⟩ = some u := cell_of h.hd 4 rfl
theorem Mx.c5 (h : Mx w g m p v u vars most S pn) : w.cell? ⟨g, 5, none⟩ = some (.map (some p)) := cell_of h.hd 5 rfl
theorem Gr.kept (h : Gr w F g vars most S pn) (hk : ∀ k, k < w.heap.size → F k → w'.heap[k]? = w.heap[k]?) : Gr w' F g vars most S pn := by
  obtain ⟨m, p, v, u, hx, hne, f1, f2, f3, f4, f5⟩ := h
  exact ⟨m, p, v, u, ⟨(hk g hx.lt f1).trans hx.hd, row_own hx.row (fun k e => hk k (hx.row.lt k e).2 (f4 k e)), hx.nums.kept (hk m hx.nums.lt f2), row_own hx.spr (fun k e => hk k (World.ownsRow.lt hx.spr k e).2 (f5 k e)), hx.pins.kept (hk p hx.pins.lt f3), hx.mg⟩, hne, f1, f2, f3, f4, f5⟩
theorem Gr.below (h : Gr w F g vars most S pn) (hb : Below w.heap.size w w') : Gr w' F g vars most S pn := h.kept (fun k hk _ => hb.block k hk)
theorem Gr.mono (h : Gr w F g vars most S pn) (hF : ∀ k, F k → F' k) : Gr w F' g vars most S pn := by
  obtain ⟨m, p, v, u, hx, hne, f1, f2, f3, f4, f5⟩ := h
  exact ⟨m, p, v, u, hx, hne, hF _ f1, hF _ f2, hF _ f3, fun b e => hF b (f4 b e), fun b e => hF b (f5 b e)⟩
theorem Gr.mg (h : Gr w F g vars most S pn) : Mg vars most S := by
  obtain ⟨m, p, v, u, hx, _⟩ := h
  exact hx.mg
theorem Gr.lt (h : Gr w F g vars most S pn) : g < w.heap.size := by
  obtain ⟨m, p, v, u, hx, _⟩ := h
  exact hx.lt
/-- Where a node lies. -/
theorem Mx.sl (h : Mx w g m p v u vars most S pn) : ∃ r cap, v = .slice (some ⟨r, 0, none⟩) S.ns.length cap ∧ r < w.heap.size ∧ r ≠ g ∧ S.ns.length ≤ cap ∧ ∀ (i : Nat), i < S.ns.length → w.cell? ⟨r, i * 3, none⟩ = some (.int .i64 (at3 S.ns (i : Int)).1) ∧ w.cell? ⟨r, i * 3 + 1, none⟩ = some (.int .i64 (at3 S.ns (i : Int)).2.1) ∧ w.cell? ⟨r, i * 3 + 2, none⟩ = some (.int .i64 (at3 S.ns (i : Int)).2.2) := by
  have hl := h.mg.good.len
  rcases h.row.2 with ⟨-, hn⟩ | ⟨r, cap, cur, rfl, _, hg, hc, _, hs, ht⟩
  · omega
  · refine ⟨r, cap, rfl, (Array.getElem?_eq_some_iff.1 hg).1, ?_, hc, fun i hi => ?_⟩
    · rintro rfl
      rw [h.hd] at hg
      cases hg
    · have key : ∀ j u, j < 3 → (t3c (at3 S.ns (i : Int)))[j]? = some u → w.cell? ⟨r, i * 3 + j, none⟩ = some u := fun j u hj hu => by
        have e : (S.ns.flatMap t3c)[i * 3 + j]? = some u := by rw [t3s_at (at3_some hi) j hj]; exact hu
        rw [← ht, List.getElem?_take_of_lt (by omega)] at e
        exact cell_of hg _ (by simpa using e)
      exact ⟨key 0 _ (by omega) rfl, key 1 _ (by omega) rfl, key 2 _ (by omega) rfl⟩
end
end Go.Proofs.YtkmkmgnfolpphaaDoor
