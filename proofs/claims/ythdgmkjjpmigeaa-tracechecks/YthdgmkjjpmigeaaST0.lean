/- Rows and numbers: what the walks of stores share. -/
import Derived.Test.YthdgmkjjpmigeaaProg
import Derived.WalkKit
import Derived.Handy
import Derived.WalkLawsBesides
import Derived.Maps.Keyed
import Derived.Maps.OwnOps
import Derived.Maps.AppendAt
import Derived.DeepKeys3
import Derived.Deep.OwnRows
import Derived.Deep.QuietTactic
import Derived.BigQuiet
import Derived.BigRegion
import Derived.Test.YthdgmkjjpmigeaaLin2
namespace Go.Proofs.Ythdgmkjjpmigeaa
open Go.RowKit
set_option linter.unusedSimpArgs false
set_option linter.unusedVariables false

theorem bel_cell {w x : World} {g j : Nat} {v : Value} (hb : Below w.heap.size w x) (hg : g < w.heap.size) (h : w.cell? ⟨g, j, none⟩ = some v) : x.cell? ⟨g, j, none⟩ = some v := by
  rw [hb.cell (p := ⟨g, j, none⟩) hg]; exact h
theorem cell_of {w : World} {g : Nat} {cs : Array Value} {t : TypeId} {f : Nat × Nat} (h : w.heap[g]? = some (.cells cs t f)) (j : Nat) {v : Value} (hv : cs[j]? = some v) : w.cell? ⟨g, j, none⟩ = some v := by
  simp [World.cell?, h, hv]
theorem row_kept {w w' : World} {B : Nat} {e : TypeId} {sz : Nat} {v : Value} {n : Nat} {xs : List Value} (h : w.ownsRow B e sz v n xs) (hk : ∀ k, k < w.heap.size → w'.heap[k]? = w.heap[k]?) : w'.ownsRow B e sz v n xs := by
  refine ⟨h.1, ?_⟩
  rcases h.2 with hn | ⟨g, cap, cur, rfl, hb, hgg, rest⟩
  · exact .inl hn
  · exact .inr ⟨g, cap, cur, rfl, hb, by rw [hk g (Array.getElem?_eq_some_iff.1 hgg).1]; exact hgg, rest⟩
/-- A row stays where its own block does. -/
theorem row_own {w w' : World} {B : Nat} {e : TypeId} {sz : Nat} {v : Value} {n : Nat} {xs : List Value} (h : w.ownsRow B e sz v n xs) (hk : ∀ k, v.ownBlock = some k → w'.heap[k]? = w.heap[k]?) : w'.ownsRow B e sz v n xs := by
  refine ⟨h.1, ?_⟩
  rcases h.2 with hn | ⟨g, cap, cur, rfl, hb, hgg, rest⟩
  · exact .inl hn
  · exact .inr ⟨g, cap, cur, rfl, hb, by rw [hk g rfl]; exact hgg, rest⟩
theorem row_sets {x y : World} {b : Nat} {e : TypeId} {sz : Nat} {v : Value} {n : Nat} {xs : List Value} (h : x.ownsRow b e sz v n xs) (hk : ∀ q, b ≤ q → q < x.heap.size → y.heap[q]? = x.heap[q]?) : y.ownsRow b e sz v n xs := by
  refine ⟨h.1, ?_⟩
  rcases h.2 with hn | ⟨g, cap, cur, rfl, hb, hgg, rest⟩
  · exact .inl hn
  · exact .inr ⟨g, cap, cur, rfl, hb, by rw [hk g hb (Array.getElem?_eq_some_iff.1 hgg).1]; exact hgg, rest⟩
theorem own_mono {w : World} {b b' : Nat} {e : TypeId} {sz : Nat} {v : Value} {n : Nat} {xs : List Value} (h : w.ownsRow b e sz v n xs) (hb : b' ≤ b) : w.ownsRow b' e sz v n xs := by
  refine ⟨h.1, ?_⟩
  rcases h.2 with hn | ⟨g, cap, cur, rfl, h1, rest⟩
  · exact .inl hn
  · exact .inr ⟨g, cap, cur, rfl, Nat.le_trans hb h1, rest⟩
/-- The cells behind g, o hold these numbers. -/
def Li (w : World) (g o : Nat) (l : List Int) : Prop := ∀ j, j < l.length → w.cell? ⟨g, o + j, none⟩ = some (.int .i64 (l.getD j 0))
/-- v is a list of these numbers, in blocks from base on. -/
def Is' (w : World) (base : Nat) (v : Value) (l : List Int) : Prop := w.ownsRow base 3 1 v l.length (l.map (Value.int .i64))
theorem Is'.li {w : World} {base : Nat} {v : Value} {l : List Int} (h : Is' w base v l) (hl : l ≠ []) : ∃ r cap, v = .slice (some ⟨r, 0, none⟩) l.length cap ∧ base ≤ r ∧ l.length ≤ cap ∧ Li w r 0 l := by
  rcases h.2 with ⟨rfl, hn⟩ | ⟨r, cap, cur, rfl, hb, hg, hc, _, hs, ht⟩
  · exact absurd (List.eq_nil_of_length_eq_zero hn) hl
  · refine ⟨r, cap, rfl, hb, hc, fun j hj => ?_⟩
    have e : (l.map (Value.int .i64))[j]? = some (.int .i64 (l.getD j 0)) := by
      rw [List.getElem?_map, List.getElem?_eq_getElem hj, List.getD_eq_getElem?_getD, List.getElem?_eq_getElem hj]; rfl
    rw [← ht, List.getElem?_take_of_lt (by omega)] at e
    rw [Nat.zero_add]
    exact cell_of hg _ (by simpa using e)
theorem ones (l : List Int) : ∀ u ∈ l.map (Value.int .i64), u.oneCell' = true := by
  intro u hu
  obtain ⟨x, _, rfl⟩ := List.mem_map.1 hu
  rfl
theorem low_grown {B : Nat} {w wr w1 : World} {o : Obj} {row : Option Nat} (h : Below B w wr) (hB : B ≤ wr.heap.size) (hg : (wr.alloc o).grownBy w1 row) (hr : ∀ q, row = some q → B ≤ q) : Below B w w1 :=
  ⟨hg.os.trans h.os, hg.tape.trans h.tape, hg.output.trans h.output, Nat.le_trans h.size (Nat.le_trans (by simp) hg.size), fun q hq => (hg.block q (by simp; omega) (fun e => by have := hr q e.symm; omega)).trans ((heap_alloc_old wr o (by omega)).trans (h.block q hq))⟩
theorem cell_grown {B : Nat} {wr w1 : World} {o : Obj} {row : Option Nat} {a : Addr} {v : Value} (hg : (wr.alloc o).grownBy w1 row) (hr : ∀ q, row = some q → B ≤ q) (ha : a.block < B) (h : wr.cell? a = some v) : w1.cell? a = some v :=
  hg.cell ((World.cell?_of_block (heap_alloc_old wr o (World.block_lt_of_cell? wr a h))).trans h) (fun e => by have := hr _ e.symm; omega)
theorem size_alloc' (w : World) (o : Obj) : (w.alloc o).heap.size = w.heap.size + 1 := by simp
theorem info_any {t : TypeId} {z : Value} {s b : Nat} (h : (Try.prog.info? t).map (fun i => (i.zero, i.size, i.bytes)) = some (some z, s, b)) : ∃ i, Try.prog.info? t = some i ∧ i.zero = some z ∧ i.size = s ∧ i.bytes = b := by
  obtain ⟨i, hi, e⟩ := Option.map_eq_some_iff.1 h
  simp at e
  exact ⟨i, hi, e.1, e.2.1, e.2.2⟩
theorem infoInt : (Try.prog.info? 3).map (fun i => (i.zero, i.size, i.bytes)) = some (some (.int .i64 0), 1, 8) := by kernel_rfl
theorem infoBool : (Try.prog.info? 4).map (fun i => (i.zero, i.size, i.bytes)) = some (some (.bool false), 1, 1) := by kernel_rfl
theorem underInts : Try.prog.underlying 51 = some (.slice 3) := by kernel_rfl
theorem underBools : Try.prog.underlying 55 = some (.slice 4) := by kernel_rfl
theorem zeroInt (w : World) : (zeroValue 3).run Try.prog w = .ok (.int .i64 0) w := by kernel_rfl
def sl (N p : Nat) : Value := .slice (some ⟨p / 2 ^ 64, 0, none⟩) N (p % 2 ^ 64)
theorem sl_own {w : World} {base : Nat} {e : TypeId} {sz : Nat} {v : Value} {N : Nat} {xs : List Value} (h : w.ownsRow base e sz v N xs) (hl : 0 < N) : ∃ p, v = sl N p := by
  rcases h.2 with ⟨-, h0⟩ | ⟨g, c, cur, rfl, -, -, -, hc, -⟩
  · omega
  · refine ⟨g * 2 ^ 64 + c, ?_⟩
    have hc' : c < 2 ^ 64 := by unfold maxLen at hc; omega
    unfold sl
    rw [show (g * 2 ^ 64 + c) / 2 ^ 64 = g by omega, show (g * 2 ^ 64 + c) % 2 ^ 64 = c by omega]
theorem wp_append_at {P : Program} (w : World) {o : Oper} {a : Act} {K : Act → World → Prop} {Q : Exit → Act → World → Prop} (s x : Operand) (t : TypeId)
    (ho : o.op = .call { callee := .builtin .append, args := #[s, x], argTypes := #[t, t] })
    (base : Nat) (e : TypeId) (i : TypeInfo) (z : Value) (size bytes : Nat) (ht : P.underlying t = some (.slice e)) (hi : P.info? e = some i) (hz : i.zero = some z)
    (hsize : i.size = size) (hby : i.bytes = bytes) (hzs : z.cells.size = size) (hsz : 0 < size)
    (v : Value) (n : Nat) (xs : List Value) (hs : a.eval s = v) (hown : w.ownsRow base e size v n xs)
    (ad : Addr) (m c : Nat) (news : List Value) (hx : a.eval x = .slice (some ad) m c) (hl : news.length = m * size) (hnews : ∀ j u, news[j]? = some u → w.cell? (ad.add j) = some u) (h1 : ∀ u ∈ news, u.oneCell' = true)
    (h63 : n + m ≤ maxLen) (hbytes : (n + m) * bytes ≤ 140737488355328) (hbase : base ≤ w.heap.size)
    (h : ∀ v' w', w'.ownsRow base e size v' (n + m) (xs ++ news) → w.grownBy w' v.ownBlock → (v'.ownBlock = v.ownBlock ∨ v'.ownBlock = some w.heap.size) → K (a.put o.dst v') w') : o.wp P a w K Q := by
  obtain ⟨v', w', hr, h2, h3, h4, h5⟩ := run_append_own_at (P := P) w base t o.type e i z size bytes ht hi hz hsize hby hzs hsz v n xs hown ad m c news hl hnews h1 h63 hbytes hbase
  unfold Oper.wp execOp
  simp only [ho, resolve, invoke, builtin, Sem.run_bind, Sem.run_pure, Result.andThen_ok, List.map_toArray, List.map_cons, List.map_nil, hs, hx, hr]
  exact h v' w' h2 h3 h5
theorem wpList_app_eq {P : Program} (w : World) {ops : Array Oper} {rest : List Oper} {o : Oper} {a : Act} {Q : Exit → Act → World → Prop} (hgd : o.guard = none) (s x : Operand) (t t2 : TypeId)
    (ho : o.op = .call { callee := .builtin .append, args := #[s, x], argTypes := #[t, t2] }) (v u : Value) (hs : a.eval s = v) (hx : a.eval x = u) {v' : Value} {w' : World}
    (hr : (Builtin.append_ #[t, t2] o.type #[v, u]).run P w = .ok v' w') (h : wpList P ops Q rest (a.put o.dst v') w') : wpList P ops Q (o :: rest) a w := by
  refine wpList_plain hgd fun _ hK => ?_
  unfold Oper.wp execOp
  simp only [ho, resolve, invoke, builtin, Sem.run_bind, Sem.run_pure, Result.andThen_ok, List.map_toArray, List.map_cons, List.map_nil, hs, hx, hr]
  exact hK _ _ h
theorem row_far {x : World} {B b j sz : Nat} {u v : Value} {N : Nat} {xs : List Value} {t : TypeId} (h : x.ownsRow B t sz v N xs) (hb : v.ownBlock ≠ some b) : (x.setCell ⟨b, j, none⟩ u).ownsRow B t sz v N xs := by
  refine ⟨h.1, ?_⟩
  rcases h.2 with hn | ⟨g, cap, cur, rfl, h1, hgg, rest⟩
  · exact .inl hn
  · refine .inr ⟨g, cap, cur, rfl, h1, ?_, rest⟩
    rw [heap_setCell_other _ _ _ _ (fun e => hb (by rw [e]; rfl))]
    exact hgg
theorem wrap_small {i : Nat} (h : i < 100000) : wrap64 (i : Int) = i := by unfold wrap64; omega
theorem below_step {w W w1 : World} (h : Below w.heap.size w W) (hb : Below W.heap.size W w1) : Below w.heap.size w w1 := h.trans (hb.mono h.size)
theorem keep_cell {W w1 : World} (hb : Below W.heap.size W w1) {a : Addr} {v : Value} (h : W.cell? a = some v) : w1.cell? a = some v := by
  rw [hb.cell (World.block_lt_of_cell? _ _ h)]; exact h
theorem drew_low (B : Nat) (w : World) : Below B w w.drew := ⟨rfl, rfl, rfl, Nat.le_refl _, fun _ _ => rfl⟩
def w64 (x : Int) : Prop := -9223372036854775808 ≤ x ∧ x ≤ 9223372036854775807
theorem wf64 {x : Int} (h : w64 x) : (Lit.int .i64 x).wf = true := by
  unfold w64 at h
  simp only [Lit.wf, IntKind.min, IntKind.max, IntKind.signed, IntKind.bits, Bool.and_eq_true, decide_eq_true_eq, if_true]
  omega
theorem underLists : Try.prog.underlying 22 = some (.slice 51) := by kernel_rfl
theorem infoList : (Try.prog.info? 51).map (fun i => (i.zero, i.size, i.bytes)) = some (some (.slice none 0 0), 1, 24) := by kernel_rfl
theorem own_slice {w : World} {B : Nat} {e : TypeId} {sz : Nat} {v : Value} {n : Nat} {xs : List Value} (h : w.ownsRow B e sz v n xs) : ∃ a k, v = .slice a n k := by
  rcases h.2 with ⟨e, h0⟩ | ⟨_, _, _, e, -⟩
  · exact ⟨_, _, by rw [e, h0]⟩
  · exact ⟨_, _, e⟩
theorem row_cur {w : World} {B : Nat} {e : TypeId} {sz : Nat} {v : Value} {n : Nat} {xs : List Value} (h : w.ownsRow B e sz v n xs) {b : Nat} (hb : v.ownBlock = some b) : ∃ cur, w.heap[b]? = some (.cells cur e) := by
  rcases h.2 with ⟨rfl, _⟩ | ⟨r, cap, cur, rfl, _, hr, _⟩
  · cases hb
  · cases hb; exact ⟨cur, hr⟩
/-- Rows of other elements lie in other blocks. -/
theorem row_ne {w : World} {B B' : Nat} {e e' : TypeId} {sz sz' : Nat} {v v' : Value} {n n' : Nat} {xs xs' : List Value} (h : w.ownsRow B e sz v n xs) (h' : w.ownsRow B' e' sz' v' n' xs') (he : e ≠ e') {b : Nat} (hb : v.ownBlock = some b) : v'.ownBlock ≠ some b := by
  intro hb'
  obtain ⟨cur, q⟩ := row_cur h hb
  obtain ⟨cur', q'⟩ := row_cur h' hb'
  rw [q] at q'
  cases q'
  exact he rfl
/-- v is a slice of these numbers, wherever they lie. -/
structure Sr (w : World) (v : Value) (l : List Int) : Prop where
  ex : ∃ a c, v = .slice a l.length c ∧ (l = [] ∨ ∃ r o, a = some ⟨r, o, none⟩ ∧ r < w.heap.size ∧ Li w r o l)
theorem Li.below {w w' : World} {r o : Nat} {l : List Int} (h : Li w r o l) (hb : w'.heap[r]? = w.heap[r]?) : Li w' r o l := fun j hj => (World.cell?_of_block (a := ⟨r, o + j, none⟩) hb).trans (h j hj)
theorem Sr.kept {w w' : World} {v : Value} {l : List Int} (h : Sr w v l) (hs : w.heap.size ≤ w'.heap.size) (hb : ∀ a n c r, v = .slice a n c → a.map (·.block) = some r → w'.heap[r]? = w.heap[r]?) : Sr w' v l := by
  obtain ⟨a, c, rfl, h2⟩ := h.ex
  refine ⟨⟨a, c, rfl, ?_⟩⟩
  rcases h2 with h2 | ⟨r, o, ha, hr, h2⟩
  · exact Or.inl h2
  · exact Or.inr ⟨r, o, ha, Nat.lt_of_lt_of_le hr hs, h2.below (hb a _ _ r rfl (by rw [ha]; rfl))⟩
theorem Sr.below {w w' : World} {v : Value} {l : List Int} (h : Sr w v l) (hb : Below w.heap.size w w') : Sr w' v l := by
  obtain ⟨a, c, rfl, h2⟩ := h.ex
  refine ⟨⟨a, c, rfl, ?_⟩⟩
  rcases h2 with h2 | ⟨r, o, ha, hr, h2⟩
  · exact Or.inl h2
  · exact Or.inr ⟨r, o, ha, Nat.lt_of_lt_of_le hr hb.size, h2.below (hb.block r hr)⟩
theorem Is'.sr {w : World} {B : Nat} {v : Value} {l : List Int} (h : Is' w B v l) : Sr w v l := by
  obtain ⟨a, k, hv⟩ := own_slice h
  refine ⟨⟨a, k, hv, ?_⟩⟩
  by_cases hl : l = []
  · exact Or.inl hl
  · obtain ⟨r, cap, e, hb, -, hL⟩ := h.li hl
    refine Or.inr ⟨r, 0, ?_, ?_, hL⟩
    · rw [hv] at e; injection e
    · exact (World.ownsRow.lt h r (by rw [e]; rfl)).2
/-- The k-th number of a slice. -/
theorem Sr.at' {w wr : World} {a : Option Addr} {n c : Nat} {l : List Int} (h : Sr w (.slice a n c) l) (hb : Below w.heap.size w wr) {k : Nat} (hk : k < l.length) : ∃ r o, a = some ⟨r, o, none⟩ ∧ wr.cell? ⟨r, o + k, none⟩ = some (.int .i64 (l.getD k 0)) := by
  obtain ⟨a', c', e, h2⟩ := h.ex
  injection e with e1 e2 e3
  subst e1
  rcases h2 with h2 | ⟨r, o, ha, hr, h2⟩
  · subst h2; simp at hk
  · exact ⟨r, o, ha, bel_cell hb hr (h2 k hk)⟩
theorem Sr.len {w : World} {a : Option Addr} {n c : Nat} {l : List Int} (h : Sr w (.slice a n c) l) : n = l.length := by
  obtain ⟨a', c', e, -⟩ := h.ex
  injection e
theorem Sr.out {w : World} {v : Value} {l : List Int} (h : Sr w v l) : ∃ a c, v = .slice a l.length c := by
  obtain ⟨a', c', e, -⟩ := h.ex
  exact ⟨a', c', e⟩
end Go.Proofs.Ythdgmkjjpmigeaa
