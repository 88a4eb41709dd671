/- A region in which something is appended to a row and the new slice is stored: how far it has come; 'append(s, make([][]int, k)...)'. -/
import Derived.Test.YtkndjndhjdfhcaaST5
import Derived.Lib.AppendZerosOnto
namespace Go.Proofs.Ytkndjndhjdfhcaa
open Go.RowKit
set_option linter.unusedSimpArgs false
set_option linter.unusedVariables false

theorem underInt : Try.prog.underlying 3 = some (.int .i64) := by kernel_rfl
theorem zero_cells (k : Nat) : Builtin.zeroCells (Value.slice none 0 0).cells k = (List.replicate k (Value.slice none 0 0)).toArray := by
  have e : (Value.slice none 0 0).cells = #[Value.slice none 0 0] := rfl
  rw [e]
  refine Array.ext (by simp [size_zeroCells]) fun i h1 h2 => ?_
  simp [Builtin.zeroCells, Nat.mod_one]
theorem ones_nil (k : Nat) : ∀ u ∈ List.replicate k (Value.slice none 0 0), u.oneCell' = true := by
  intro u hu
  rw [List.eq_of_mem_replicate hu]; rfl
theorem run_append_zeros (w : World) (ty : TypeId) {base n : Nat} {v : Value} {xs : List Value} (hown : w.ownsRow base 27 1 v n xs) (k : Nat) (hk63 : k ≤ 1000000) (h63 : n + k ≤ 2000000) (hbase : base ≤ w.heap.size) :
    ∃ v' w', (Builtin.append_ #[22, 3] ty #[v, .int .i64 (k : Int)]).run Try.prog w = .ok v' w' ∧ w'.ownsRow base 27 1 v' (n + k) (xs ++ List.replicate k (.slice none 0 0)) ∧ w.grownBy w' v.ownBlock ∧ (v'.ownBlock = v.ownBlock ∨ v'.ownBlock = some w.heap.size) := by
  obtain ⟨i, hi, hz, hs, hb⟩ := info_any infoList
  have hmx : n + k ≤ maxLen := by unfold maxLen; omega
  have hlen : (xs ++ List.replicate k (Value.slice none 0 0)).length = (n + k) * 1 := by rw [List.length_append, hown.1, List.length_replicate]; omega
  have grown : ∀ (old : Nat) (o : Array Value), o = xs.toArray → ∀ (row : Option Nat),
      (w.drew.alloc (.cells (o ++ Builtin.zeroCells (Value.slice none 0 0).cells k ++ Builtin.zeroCells (Value.slice none 0 0).cells (grownCap w (n + k) old 27 - (n + k))) 27)).ownsRow base 27 1
        (.slice (some ⟨w.heap.size, 0, none⟩) (n + k) (grownCap w (n + k) old 27)) (n + k) (xs ++ List.replicate k (.slice none 0 0)) ∧
      w.grownBy (w.drew.alloc (.cells (o ++ Builtin.zeroCells (Value.slice none 0 0).cells k ++ Builtin.zeroCells (Value.slice none 0 0).cells (grownCap w (n + k) old 27 - (n + k))) 27)) row := by
    intro old o ho row
    have hge := grownCap_ge w (n + k) old 27
    have hcm : grownCap w (n + k) old 27 ≤ maxLen := grownCap_le_maxLen w (n + k) old 27 hmx
    refine ⟨⟨hlen, .inr ⟨w.heap.size, _, _, rfl, hbase, heap_alloc_new w.drew _, hge, hcm, ?_, ?_⟩⟩, ⟨rfl, rfl, rfl, by simp, fun q hq _ => heap_alloc_old w.drew _ hq⟩⟩
    · have hx := hown.1
      rw [ho]
      simp only [Array.size_append, List.size_toArray, size_zeroCells, hx, show (Value.slice none 0 0).cells.size = 1 from rfl]
      omega
    · rw [ho, zero_cells k, zero_cells (grownCap w (n + k) old 27 - (n + k))]
      simp only [Array.toList_append, List.append_assoc]
      rw [← List.append_assoc, ← hlen]
      exact List.take_left
  rcases hown.2 with ⟨rfl, rfl⟩ | ⟨g, cap, cur, rfl, hbg, hg, hnc, hcm, hcs, htake⟩
  · have hx : xs = [] := List.eq_nil_of_length_eq_zero (by simpa using hown.1)
    subst hx
    by_cases hk : k = 0
    · subst hk
      refine ⟨.slice none 0 0, w, ?_, World.ownsRow_nil w base _ 1, ⟨rfl, rfl, rfl, Nat.le_refl _, fun _ _ _ => rfl⟩, Or.inl rfl⟩
      simp [Builtin.append_, run_underlying underLists, run_underlying underInt, sizeOf, typeInfo, hi, asInt, asIntOf, IntKind.wrap_i64]
    · have hr := Lib.run_append_nil_zeros (P := Try.prog) w 22 3 ty 27 i (.slice none 0 0) .i64 .i64 underLists underInt hi hz k (by omega) (by omega) (by omega) (by rw [hb]; omega)
      have hgr := grown 0 #[] rfl none
      simp only [Nat.zero_add, List.nil_append, Array.empty_append] at hgr ⊢
      exact ⟨_, _, hr, hgr.1, hgr.2, Or.inr rfl⟩
  · have holds : ∀ j u, xs[j]? = some u → w.cell? ((⟨g, 0, none⟩ : Addr).add j) = some u := World.ownsRow.cells hown (g := g) rfl
    by_cases hroom : n + k ≤ cap
    · have hst := run_storeCells_at Try.prog g n 27 (List.replicate k (Value.slice none 0 0)) 0 cur w hg (by simp; omega) (ones_nil k)
      simp only [Nat.add_zero] at hst
      have hw : IntKind.i64.wrap (k : Int) = k := by rw [IntKind.wrap_i64]; omega
      have hneg : ¬ ((k : Int) < 0) := by omega
      have h48 : ¬ (281474976710656 < (k : Int)) := by omega
      have h49 : ¬ (281474976710656 < (k : Int) * 24) := by omega
      rw [List.length_replicate] at hst
      refine ⟨.slice (some ⟨g, 0, none⟩) (n + k) cap, w.setRow g (cur.toList.take n ++ List.replicate k (Value.slice none 0 0) ++ cur.toList.drop (n + k)).toArray, ?_, ⟨hlen, .inr ⟨g, cap, _, rfl, hbg, setRow_heap w g cur _ 27 _ hg, hroom, hcm, ?_, ?_⟩⟩, ⟨rfl, rfl, rfl, by simp, fun q _ hq => setRow_other w g q _ (fun e => hq (by simp [Value.ownBlock, e]))⟩, Or.inl rfl⟩
      · by_cases hk : k = 0
        · subst hk
          have hw0 : IntKind.i64.wrap 0 = 0 := by rw [IntKind.wrap_i64]; rfl
          have hst0 : (storeCells ⟨g, n, none⟩ []).run Try.prog w = .ok () (w.setRow g cur) := by simpa using hst
          have hnc0 : n ≤ cap := by omega
          simp [Builtin.append_, run_underlying underLists, run_underlying underInt, sizeOf, typeInfo, zeroValue, hi, hz, hs, hb, asInt, asIntOf, hw0, hnc0, Addr.add_lit, hst0]
        · have hzc := zero_cells k
          simp [Builtin.append_, run_underlying underLists, run_underlying underInt, sizeOf, typeInfo, zeroValue, hi, hz, hs, hb, asInt, asIntOf, hw, hneg, h48, h49, hk, hroom, Addr.add_lit, hzc, hst]
      · simp only [List.size_toArray, List.length_append, List.length_take, List.length_drop, Array.length_toList, List.length_replicate]
        omega
      · have hx := hown.1
        rw [Nat.mul_one] at htake hx
        rw [htake, ← hlen]
        exact List.take_left
    · have hold : (Builtin.firstCells i.size n (.slice (some ⟨g, 0, none⟩) n cap)).run Try.prog w.drew = .ok xs.toArray w.drew := run_firstCells_some w.drew i.size n ⟨g, 0, none⟩ n cap xs (by rw [hs]; exact hown.1) (by simpa using holds)
      have hr := Lib.run_append_grow_zeros (P := Try.prog) w 22 3 ty 27 i (.slice none 0 0) .i64 .i64 underLists underInt hi hz (some ⟨g, 0, none⟩) n cap xs hold k (by omega) (by omega) (by omega) (by omega) (by rw [hb]; omega) (growslice_fits (by omega) (by rw [hb]; omega))
      have hgr := grown cap xs.toArray rfl (Value.ownBlock (.slice (some ⟨g, 0, none⟩) n cap))
      exact ⟨_, _, hr, hgr.1, hgr.2, Or.inr rfl⟩
/-- The same memory. -/
structure Al (w w' : World) : Prop where
  os : w'.os = w.os
  tape : w'.tape = w.tape
  output : w'.output = w.output
  heap : w'.heap = w.heap
/-- How far it has come: il loads the slice, ib builds the new one, ia appends, ie stores the element, is the slice. -/
structure BSt (x0 : World) (B : Nat) (S : TypeId) (sz : Nat) (v : Value) (m : Nat) (old zs fs : List Value) (R o : Nat) (cr : Array Value) (TR : TypeId) (il ib ia ie is : Nat) (g : Nat → Nat) (L : Nat → Bool) (x : World) : Prop where
  d1 : L ia = true → L il = true ∧ L ib = true
  d2 : L ie = true → L ia = true
  d3 : L is = true → L ia = true
  siz : x0.heap.size ≤ x.heap.size
  os : x.os = x0.os
  tape : x.tape = x0.tape
  output : x.output = x0.output
  kp : ∀ b, b < x0.heap.size → (L ia = true → some b ≠ v.ownBlock) → (L is = true → b ≠ R) → x.heap[b]? = x0.heap[b]?
  sb : L ib = true → L ia = false → x.heap[g ib]? = some (.cells zs.toArray S (0, 0)) ∧ x0.heap.size ≤ g ib
  ra : L ia = true → x.ownsRow B S sz (sl (m + 1) (g ia)) (m + 1) (old ++ (if L ie then fs else zs)) ∧ ((sl (m + 1) (g ia)).ownBlock = v.ownBlock ∨ ∃ b, (sl (m + 1) (g ia)).ownBlock = some b ∧ x0.heap.size ≤ b)
  rs : L is = true → x.heap[R]? = some (.cells (cr.setIfInBounds o (sl (m + 1) (g ia))) TR (0, 0))
section
variable {x0 : World} {B : Nat} {S : TypeId} {sz : Nat} {v : Value} {m : Nat} {old zs fs : List Value} {R o : Nat} {cr : Array Value} {TR : TypeId} {il ib ia ie is : Nat} {g : Nat → Nat} {L : Nat → Bool} {x y : World} {i : Nat}
theorem BSt.start (hx : Al x0 x) : BSt x0 B S sz v m old zs fs R o cr TR il ib ia ie is g (fun _ => false) x :=
  ⟨(fun e => by cases e), (fun e => by cases e), (fun e => by cases e), by rw [hx.heap]; omega, hx.os, hx.tape, hx.output, (fun b _ _ _ => by rw [hx.heap]), (fun e => by cases e), (fun e => by cases e), (fun e => by cases e)⟩
theorem BSt.go (h : BSt x0 B S sz v m old zs fs R o cr TR il ib ia ie is g L x) (hi : (i != ib && i != ia && i != ie && i != is) = true) : BSt x0 B S sz v m old zs fs R o cr TR il ib ia ie is g (updB L i) x := by
  simp only [Bool.and_eq_true, bne_iff_ne, ne_eq] at hi
  have u1 := updB_ne (L := L) (i := i) (k := ib) (by omega)
  have u2 := updB_ne (L := L) (i := i) (k := ia) (by omega)
  have u3 := updB_ne (L := L) (i := i) (k := ie) (by omega)
  have u4 := updB_ne (L := L) (i := i) (k := is) (by omega)
  refine ⟨?_, by rw [u2, u3]; exact h.d2, by rw [u2, u4]; exact h.d3, h.siz, h.os, h.tape, h.output, by rw [u2, u4]; exact h.kp, by rw [u1, u2]; exact h.sb, by rw [u2, u3]; exact h.ra, by rw [u4]; exact h.rs⟩
  rw [u1, u2]
  intro e
  refine ⟨?_, (h.d1 e).2⟩
  by_cases hl : i = il
  · rw [hl]; exact updB_eq
  · rw [updB_ne (by omega)]; exact (h.d1 e).1
theorem BSt.built (h : BSt x0 B S sz v m old zs fs R o cr TR il ib ia ie is g L x) (hLi : L ib = false) (hn : ([il, ib, ia, ie, is].Nodup : Prop)) : BSt x0 B S sz v m old zs fs R o cr TR il ib ia ie is (updG g ib x.heap.size) (updB L ib) (x.alloc (.cells zs.toArray S (0, 0))) := by
  simp at hn
  have u2 := updB_ne (L := L) (i := ib) (k := ia) (by omega)
  have u3 := updB_ne (L := L) (i := ib) (k := ie) (by omega)
  have u4 := updB_ne (L := L) (i := ib) (k := is) (by omega)
  have hia : L ia = false := by
    cases e : L ia
    · rfl
    · rw [(h.d1 e).2] at hLi; cases hLi
  have his : L is = false := by
    cases e : L is
    · rfl
    · rw [h.d3 e] at hia; cases hia
  have hie : L ie = false := by
    cases e : L ie
    · rfl
    · rw [h.d2 e] at hia; cases hia
  have hs := h.siz
  refine ⟨?_, ?_, ?_, by simp; omega, h.os, h.tape, h.output, ?_, ?_, ?_, ?_⟩
  · rw [u2, hia]; intro e; cases e
  · rw [u3, hie]; intro e; cases e
  · rw [u4, his]; intro e; cases e
  · rw [u2, u4]; intro b hb h1 h2
    exact (heap_alloc_old x _ (by omega)).trans (h.kp b hb h1 h2)
  · intro _ _; rw [updG_eq]; exact ⟨heap_alloc_new x _, hs⟩
  · rw [u2, hia]; intro e; cases e
  · rw [u4, his]; intro e; cases e
theorem BSt.noa (h : BSt x0 B S sz v m old zs fs R o cr TR il ib ia ie is g L x) (hLi : L il = false) : L ia = false ∧ L is = false := by
  have hia : L ia = false := by
    cases e : L ia
    · rfl
    · rw [(h.d1 e).1] at hLi; cases hLi
  refine ⟨hia, ?_⟩
  cases e : L is
  · rfl
  · rw [h.d3 e] at hia; cases hia
theorem BSt.app (h : BSt x0 B S sz v m old zs fs R o cr TR il ib ia ie is g L x) (hil : L il = true) (hib : L ib = true) (hLi : L ia = false) (hn : ([il, ib, ia, ie, is].Nodup : Prop)) (hbv : ∀ k, v.ownBlock = some k → k < x0.heap.size) {p : Nat} (hg : x.grownBy y v.ownBlock) (ho : y.ownsRow B S sz (sl (m + 1) p) (m + 1) (old ++ zs)) (hat : (sl (m + 1) p).ownBlock = v.ownBlock ∨ (sl (m + 1) p).ownBlock = some x.heap.size) :
    BSt x0 B S sz v m old zs fs R o cr TR il ib ia ie is (updG g ia p) (updB L ia) y := by
  simp at hn
  have u0 := updB_ne (L := L) (i := ia) (k := il) (by omega)
  have u1 := updB_ne (L := L) (i := ia) (k := ib) (by omega)
  have u3 := updB_ne (L := L) (i := ia) (k := ie) (by omega)
  have u4 := updB_ne (L := L) (i := ia) (k := is) (by omega)
  have his : L is = false := by
    cases e : L is
    · rfl
    · rw [h.d3 e] at hLi; cases hLi
  have hie : L ie = false := by
    cases e : L ie
    · rfl
    · rw [h.d2 e] at hLi; cases hLi
  have hs := h.siz
  refine ⟨?_, ?_, ?_, by have := hg.size; omega, hg.os.trans h.os, hg.tape.trans h.tape, hg.output.trans h.output, ?_, ?_, ?_, ?_⟩
  · intro _; rw [u0, u1]; exact ⟨hil, hib⟩
  · rw [u3, hie]; intro e; cases e
  · rw [u4, his]; intro e; cases e
  · rw [u4]; intro b hb h1 h2
    exact (hg.block b (by omega) (h1 updB_eq)).trans (h.kp b hb (fun e => by rw [hLi] at e; cases e) h2)
  · intro _ e; rw [updB_eq] at e; cases e
  · intro _; rw [updG_eq, u3, hie]
    refine ⟨ho, ?_⟩
    rcases hat with e | e
    · exact Or.inl e
    · exact Or.inr ⟨_, e, hs⟩
  · rw [u4, his]; intro e; cases e
/-- The slice is stored. -/
theorem BSt.store (h : BSt x0 B S sz v m old zs fs R o cr TR il ib ia ie is g L x) (hLa : L ia = true) (hLi : L is = false) (hn : ([il, ib, ia, ie, is].Nodup : Prop)) (hvR : v.ownBlock ≠ some R) (hR : R < x0.heap.size) (hhd : x0.heap[R]? = some (.cells cr TR (0, 0))) :
    BSt x0 B S sz v m old zs fs R o cr TR il ib ia ie is g (updB L is) (x.setCell ⟨R, o, none⟩ (sl (m + 1) (g ia))) := by
  simp at hn
  have u0 := updB_ne (L := L) (i := is) (k := il) (by omega)
  have u1 := updB_ne (L := L) (i := is) (k := ib) (by omega)
  have u2 := updB_ne (L := L) (i := is) (k := ia) (by omega)
  have u3 := updB_ne (L := L) (i := is) (k := ie) (by omega)
  obtain ⟨hr, hat⟩ := h.ra hLa
  have hne2 : (sl (m + 1) (g ia)).ownBlock ≠ some R := by
    rcases hat with e | ⟨b', e, hb'⟩
    · rw [e]; exact hvR
    · rw [e]; intro e2; cases e2; omega
  have hxR : x.heap[R]? = some (.cells cr TR (0, 0)) := (h.kp R hR (fun _ e => hvR e.symm) (fun e => by rw [hLi] at e; cases e)).trans hhd
  refine ⟨by rw [u0, u1, u2]; exact h.d1, by rw [u2, u3]; exact h.d2, fun _ => by rw [u2]; exact hLa, by rw [World.size_setCell]; exact h.siz, h.os, h.tape, h.output, ?_, ?_, ?_, ?_⟩
  · rw [u2]; intro b hb h1 h2
    exact (heap_setCell_other _ _ _ _ (by show b ≠ R; exact h2 updB_eq)).trans (h.kp b hb h1 (fun e => by rw [hLi] at e; cases e))
  · rw [u1, u2, hLa]; intro _ e; cases e
  · intro _; rw [u3]; exact ⟨row_far hr hne2, hat⟩
  · intro _; exact heap_setCell_same _ _ _ _ _ _ hxR
end
end Go.Proofs.Ytkndjndhjdfhcaa
