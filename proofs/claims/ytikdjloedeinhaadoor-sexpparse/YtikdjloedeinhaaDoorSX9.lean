/- A region in which something is appended to a row and the new slice is stored: how far it has come. -/
import Derived.Test.YtikdjloedeinhaaDoorSX8
import Derived.Test.YtikdjloedeinhaaDoorLin2
namespace Go.Proofs.YtikdjloedeinhaaDoor
open Go.RowKit
set_option linter.unusedSimpArgs false
set_option linter.unusedVariables false

theorem Row.sl {w : World} {D : Nat → Prop} {ks : List Sx} {v : Value} (h : Row w D ks v) : ∃ a n c, v = .slice a n c := by
  cases h with
  | nil a cap => exact ⟨_, _, _, rfl⟩
  | some g o cap _ U => exact ⟨_, _, _, rfl⟩
def sl (N p : Nat) : Value := .slice (some ⟨p / 2 ^ 64, 0, none⟩) N (p % 2 ^ 64)
theorem sl_own {w : World} {base : Nat} {e : TypeId} {sz : Nat} {v : Value} {N : Nat} {xs : List Value} (h : w.ownsRow base e sz v N xs) (hl : 0 < N) : ∃ p, v = sl N p := by
  rcases h.2 with ⟨-, h0⟩ | ⟨g, c, cur, rfl, -, -, -, hc, -⟩
  · omega
  · refine ⟨g * 2 ^ 64 + c, ?_⟩
    have hc' : c < 2 ^ 64 := by unfold maxLen at hc; omega
    unfold sl
    rw [show (g * 2 ^ 64 + c) / 2 ^ 64 = g by omega, show (g * 2 ^ 64 + c) % 2 ^ 64 = c by omega]
theorem wp_append_at {P : Program} (w : World) {o : Oper} {a : Act} {K : Act → World → Prop} {Q : Exit → Act → World → Prop} (s x : Operand) (t : TypeId)
    (ho : o.op = .call { callee := .builtin .append, args := #[s, x], argTypes := #[t, t] })
    (base : Nat) (e : TypeId) (i : TypeInfo) (z : Value) (size bytes : Nat) (ht : P.underlying t = some (.slice e)) (hi : P.info? e = some i) (hz : i.zero = some z)
    (hsize : i.size = size) (hby : i.bytes = bytes) (hzs : z.cells.size = size) (hsz : 0 < size)
    (v : Value) (n : Nat) (xs : List Value) (hs : a.eval s = v) (hown : w.ownsRow base e size v n xs)
    (ad : Addr) (m c : Nat) (news : List Value) (hx : a.eval x = .slice (some ad) m c) (hl : news.length = m * size) (hnews : ∀ j u, news[j]? = some u → w.cell? (ad.add j) = some u) (h1 : ∀ u ∈ news, u.oneCell' = true)
    (h63 : n + m ≤ maxLen) (hbytes : (n + m) * bytes ≤ 140737488355328) (hbase : base ≤ w.heap.size)
    (h : ∀ v' w', w'.ownsRow base e size v' (n + m) (xs ++ news) → w.grownBy w' v.ownBlock → (v'.ownBlock = v.ownBlock ∨ v'.ownBlock = some w.heap.size) → K (a.put o.dst v') w') : o.wp P a w K Q := by
  obtain ⟨v', w', hr, h2, h3, h4, h5⟩ := run_append_own_at (P := P) w base t o.type e i z size bytes ht hi hz hsize hby hzs hsz v n xs hown ad m c news hl hnews h1 h63 hbytes hbase
  unfold Oper.wp execOp
  simp only [ho, resolve, invoke, builtin, Sem.run_bind, Sem.run_pure, Result.andThen_ok, List.map_toArray, List.map_cons, List.map_nil, hs, hx, hr]
  exact h v' w' h2 h3 h5
/-- How far it has come: il loads the slice, ib builds the new one, ia appends, ie stores the element, is the slice. -/
structure BSt (x0 : World) (B : Nat) (S : TypeId) (sz : Nat) (v : Value) (m : Nat) (old zs fs : List Value) (R o : Nat) (cr : Array Value) (TR : TypeId) (il ib ia ie is : Nat) (g : Nat → Nat) (L : Nat → Bool) (x : World) : Prop where
  d1 : L ia = true → L il = true ∧ L ib = true
  d2 : L ie = true → L ia = true
  d3 : L is = true → L ia = true
  siz : x0.heap.size ≤ x.heap.size
  os : x.os = x0.os
  tape : x.tape = x0.tape
  output : x.output = x0.output
  kp : ∀ b, b < x0.heap.size → (L ia = true → some b ≠ v.ownBlock) → (L is = true → b ≠ R) → x.heap[b]? = x0.heap[b]?
  sb : L ib = true → L ia = false → x.heap[g ib]? = some (.cells zs.toArray S (0, 0)) ∧ x0.heap.size ≤ g ib
  ra : L ia = true → x.ownsRow B S sz (sl (m + 1) (g ia)) (m + 1) (old ++ (if L ie then fs else zs)) ∧ ((sl (m + 1) (g ia)).ownBlock = v.ownBlock ∨ ∃ b, (sl (m + 1) (g ia)).ownBlock = some b ∧ x0.heap.size ≤ b)
  rs : L is = true → x.heap[R]? = some (.cells (cr.setIfInBounds o (sl (m + 1) (g ia))) TR (0, 0))
section
variable {x0 : World} {B : Nat} {S : TypeId} {sz : Nat} {v : Value} {m : Nat} {old zs fs : List Value} {R o : Nat} {cr : Array Value} {TR : TypeId} {il ib ia ie is : Nat} {g : Nat → Nat} {L : Nat → Bool} {x y : World} {i : Nat}
theorem BSt.start (hx : Al x0 x) : BSt x0 B S sz v m old zs fs R o cr TR il ib ia ie is g (fun _ => false) x :=
  ⟨(fun e => by cases e), (fun e => by cases e), (fun e => by cases e), by rw [hx.heap]; omega, hx.os, hx.tape, hx.output, (fun b _ _ _ => by rw [hx.heap]), (fun e => by cases e), (fun e => by cases e), (fun e => by cases e)⟩
theorem BSt.go (h : BSt x0 B S sz v m old zs fs R o cr TR il ib ia ie is g L x) (hi : (i != ib && i != ia && i != ie && i != is) = true) : BSt x0 B S sz v m old zs fs R o cr TR il ib ia ie is g (updB L i) x := by
  simp only [Bool.and_eq_true, bne_iff_ne, ne_eq] at hi
  have u1 := updB_ne (L := L) (i := i) (k := ib) (by omega)
  have u2 := updB_ne (L := L) (i := i) (k := ia) (by omega)
  have u3 := updB_ne (L := L) (i := i) (k := ie) (by omega)
  have u4 := updB_ne (L := L) (i := i) (k := is) (by omega)
  refine ⟨?_, by rw [u2, u3]; exact h.d2, by rw [u2, u4]; exact h.d3, h.siz, h.os, h.tape, h.output, by rw [u2, u4]; exact h.kp, by rw [u1, u2]; exact h.sb, by rw [u2, u3]; exact h.ra, by rw [u4]; exact h.rs⟩
  rw [u1, u2]
  intro e
  refine ⟨?_, (h.d1 e).2⟩
  by_cases hl : i = il
  · rw [hl]; exact updB_eq
  · rw [updB_ne (by omega)]; exact (h.d1 e).1
theorem BSt.built (h : BSt x0 B S sz v m old zs fs R o cr TR il ib ia ie is g L x) (hLi : L ib = false) (hn : ([il, ib, ia, ie, is].Nodup : Prop)) : BSt x0 B S sz v m old zs fs R o cr TR il ib ia ie is (updG g ib x.heap.size) (updB L ib) (x.alloc (.cells zs.toArray S (0, 0))) := by
  simp at hn
  have u2 := updB_ne (L := L) (i := ib) (k := ia) (by omega)
  have u3 := updB_ne (L := L) (i := ib) (k := ie) (by omega)
  have u4 := updB_ne (L := L) (i := ib) (k := is) (by omega)
  have hia : L ia = false := by
    cases e : L ia
    · rfl
    · rw [(h.d1 e).2] at hLi; cases hLi
  have his : L is = false := by
    cases e : L is
    · rfl
    · rw [h.d3 e] at hia; cases hia
  have hie : L ie = false := by
    cases e : L ie
    · rfl
    · rw [h.d2 e] at hia; cases hia
  have hs := h.siz
  refine ⟨?_, ?_, ?_, by simp; omega, h.os, h.tape, h.output, ?_, ?_, ?_, ?_⟩
  · rw [u2, hia]; intro e; cases e
  · rw [u3, hie]; intro e; cases e
  · rw [u4, his]; intro e; cases e
  · rw [u2, u4]; intro b hb h1 h2
    exact (heap_alloc_old x _ (by omega)).trans (h.kp b hb h1 h2)
  · intro _ _; rw [updG_eq]; exact ⟨heap_alloc_new x _, hs⟩
  · rw [u2, hia]; intro e; cases e
  · rw [u4, his]; intro e; cases e
theorem BSt.noa (h : BSt x0 B S sz v m old zs fs R o cr TR il ib ia ie is g L x) (hLi : L il = false) : L ia = false ∧ L is = false := by
  have hia : L ia = false := by
    cases e : L ia
    · rfl
    · rw [(h.d1 e).1] at hLi; cases hLi
  refine ⟨hia, ?_⟩
  cases e : L is
  · rfl
  · rw [h.d3 e] at hia; cases hia
theorem BSt.app (h : BSt x0 B S sz v m old zs fs R o cr TR il ib ia ie is g L x) (hil : L il = true) (hib : L ib = true) (hLi : L ia = false) (hn : ([il, ib, ia, ie, is].Nodup : Prop)) (hbv : ∀ k, v.ownBlock = some k → k < x0.heap.size) {p : Nat} (hg : x.grownBy y v.ownBlock) (ho : y.ownsRow B S sz (sl (m + 1) p) (m + 1) (old ++ zs)) (hat : (sl (m + 1) p).ownBlock = v.ownBlock ∨ (sl (m + 1) p).ownBlock = some x.heap.size) :
    BSt x0 B S sz v m old zs fs R o cr TR il ib ia ie is (updG g ia p) (updB L ia) y := by
  simp at hn
  have u0 := updB_ne (L := L) (i := ia) (k := il) (by omega)
  have u1 := updB_ne (L := L) (i := ia) (k := ib) (by omega)
  have u3 := updB_ne (L := L) (i := ia) (k := ie) (by omega)
  have u4 := updB_ne (L := L) (i := ia) (k := is) (by omega)
  have his : L is = false := by
    cases e : L is
    · rfl
    · rw [h.d3 e] at hLi; cases hLi
  have hie : L ie = false := by
    cases e : L ie
    · rfl
    · rw [h.d2 e] at hLi; cases hLi
  have hs := h.siz
  refine ⟨?_, ?_, ?_, by have := hg.size; omega, hg.os.trans h.os, hg.tape.trans h.tape, hg.output.trans h.output, ?_, ?_, ?_, ?_⟩
  · intro _; rw [u0, u1]; exact ⟨hil, hib⟩
  · rw [u3, hie]; intro e; cases e
  · rw [u4, his]; intro e; cases e
  · rw [u4]; intro b hb h1 h2
    exact (hg.block b (by omega) (h1 updB_eq)).trans (h.kp b hb (fun e => by rw [hLi] at e; cases e) h2)
  · intro _ e; rw [updB_eq] at e; cases e
  · intro _; rw [updG_eq, u3, hie]
    refine ⟨ho, ?_⟩
    rcases hat with e | e
    · exact Or.inl e
    · exact Or.inr ⟨_, e, hs⟩
  · rw [u4, his]; intro e; cases e
theorem row_far {x : World} {b : Nat} {e : TypeId} {sz : Nat} {v : Value} {n : Nat} {xs : List Value} {g j : Nat} {u : Value} (h : x.ownsRow b e sz v n xs) (hne : v.ownBlock ≠ some g) : (x.setCell ⟨g, j, none⟩ u).ownsRow b e sz v n xs :=
  row_own h (fun k hk => heap_setCell_other _ _ _ _ (by show k ≠ g; intro e; rw [e] at hk; exact hne hk))
/-- The element is stored: three cells. -/
theorem BSt.elem {z0 z1 z2 a b c : Value} (h : BSt x0 B S 3 v m old [z0, z1, z2] [a, b, c] R o cr TR il ib ia ie is g L x) (hLa : L ia = true) (hLi : L ie = false) (hn : ([il, ib, ia, ie, is].Nodup : Prop)) (hold : old.length = m * 3) (hvR : v.ownBlock ≠ some R) (hR : R < x0.heap.size) :
    BSt x0 B S 3 v m old [z0, z1, z2] [a, b, c] R o cr TR il ib ia ie is g (updB L ie) (((x.setCell ⟨g ia / 2 ^ 64, m * 3, none⟩ a).setCell ⟨g ia / 2 ^ 64, m * 3 + 1, none⟩ b).setCell ⟨g ia / 2 ^ 64, m * 3 + 2, none⟩ c) := by
  simp at hn
  have u0 := updB_ne (L := L) (i := ie) (k := il) (by omega)
  have u1 := updB_ne (L := L) (i := ie) (k := ib) (by omega)
  have u2 := updB_ne (L := L) (i := ie) (k := ia) (by omega)
  have u4 := updB_ne (L := L) (i := ie) (k := is) (by omega)
  obtain ⟨hr, hat⟩ := h.ra hLa
  rw [hLi] at hr
  obtain ⟨q, hq⟩ : ∃ q, q = g ia / 2 ^ 64 := ⟨_, rfl⟩
  have hob : (sl (m + 1) (g ia)).ownBlock = some q := by rw [hq]; rfl
  rw [← hq]
  rcases hr.2 with ⟨e, -⟩ | ⟨q', cap, cur, hv', hb, hqq, hc, hm, hs, htk⟩
  · unfold sl at e; cases e
  · obtain rfl : q = q' := by
      have : (sl (m + 1) (g ia)).ownBlock = some q' := by rw [hv']; rfl
      rw [hob] at this; exact Option.some.inj this
    obtain ⟨s1, s2⟩ := set3 (a := a) (b := b) (c := c) (o := m * 3) hqq
    have hqR : q ≠ R := by
      rcases hat with e | ⟨b', e, hb'⟩
      · intro e2; rw [← e, hob, e2] at hvR; exact hvR rfl
      · rw [hob] at e; cases e; omega
    refine ⟨by rw [u0, u1, u2]; exact h.d1, fun _ => by rw [u2]; exact hLa, by rw [u2, u4]; exact h.d3, by rw [s2.size]; exact h.siz, s2.os.trans h.os, s2.tape.trans h.tape, s2.output.trans h.output, ?_, ?_, ?_, ?_⟩
    · rw [u2, u4]; intro b' hb' h1 h2
      have hne : b' ≠ q := by
        rcases hat with e | ⟨b2, e, hb2⟩
        · intro e2; exact h1 hLa (by rw [e2, ← hob, e])
        · rw [hob] at e; cases e; omega
      exact (s2.block b' hne).trans (h.kp b' hb' h1 h2)
    · rw [u1, u2, hLa]; intro _ e; cases e
    · intro _; rw [updB_eq]
      refine ⟨⟨by simp [hold]; omega, Or.inr ⟨q, cap, _, hv', hb, s1, hc, hm, by simp [hs], ?_⟩⟩, hat⟩
      have htk' : cur.toList.take (m * 3 + 3) = old ++ [z0, z1, z2] := by rw [← show (m + 1) * 3 = m * 3 + 3 by omega]; simpa using htk
      have := take_set3 (a := a) (b := b) (c := c) htk' hold
      rw [show (m + 1) * 3 = m * 3 + 3 by omega]
      simpa using this
    · rw [u4]; intro e
      exact (s2.block R (fun e => hqR e.symm)).trans (h.rs e)
/-- The slice is stored. -/
theorem BSt.store (h : BSt x0 B S sz v m old zs fs R o cr TR il ib ia ie is g L x) (hLa : L ia = true) (hLi : L is = false) (hn : ([il, ib, ia, ie, is].Nodup : Prop)) (hvR : v.ownBlock ≠ some R) (hR : R < x0.heap.size) (hhd : x0.heap[R]? = some (.cells cr TR (0, 0))) :
    BSt x0 B S sz v m old zs fs R o cr TR il ib ia ie is g (updB L is) (x.setCell ⟨R, o, none⟩ (sl (m + 1) (g ia))) := by
  simp at hn
  have u0 := updB_ne (L := L) (i := is) (k := il) (by omega)
  have u1 := updB_ne (L := L) (i := is) (k := ib) (by omega)
  have u2 := updB_ne (L := L) (i := is) (k := ia) (by omega)
  have u3 := updB_ne (L := L) (i := is) (k := ie) (by omega)
  obtain ⟨hr, hat⟩ := h.ra hLa
  have hne2 : (sl (m + 1) (g ia)).ownBlock ≠ some R := by
    rcases hat with e | ⟨b', e, hb'⟩
    · rw [e]; exact hvR
    · rw [e]; intro e2; cases e2; omega
  have hxR : x.heap[R]? = some (.cells cr TR (0, 0)) := (h.kp R hR (fun _ e => hvR e.symm) (fun e => by rw [hLi] at e; cases e)).trans hhd
  refine ⟨by rw [u0, u1, u2]; exact h.d1, by rw [u2, u3]; exact h.d2, fun _ => by rw [u2]; exact hLa, by rw [World.size_setCell]; exact h.siz, h.os, h.tape, h.output, ?_, ?_, ?_, ?_⟩
  · rw [u2]; intro b hb h1 h2
    exact (heap_setCell_other _ _ _ _ (by show b ≠ R; exact h2 updB_eq)).trans (h.kp b hb h1 (fun e => by rw [hLi] at e; cases e))
  · rw [u1, u2, hLa]; intro _ e; cases e
  · intro _; rw [u3]; exact ⟨row_far hr hne2, hat⟩
  · intro _; exact heap_setCell_same _ _ _ _ _ _ hxR
end
end Go.Proofs.YtikdjloedeinhaaDoor
