/- Rows, maps and numbers: what the walks of decision diagrams share. -/
import Derived.Test.YtkmkmgnfolpphaaDoorProg
import Derived.WalkKit
import Derived.Handy
import Derived.WalkLawsBesides
import Derived.Maps.Keyed
import Derived.Maps.OwnOps
import Derived.Maps.OwnSet
import Derived.Maps.RangeWalk
import Derived.Maps.AppendAt
import Derived.DeepKeys3
import Derived.Deep.OwnRows
import Derived.Deep.QuietTactic
import Derived.BigQuiet
import Derived.BigRegion
import Derived.Test.YtkmkmgnfolpphaaDoorLin2
import Derived.Test.YtkmkmgnfolpphaaDoorDDA
namespace Go.Proofs.YtkmkmgnfolpphaaDoor
open Go.RowKit
set_option linter.unusedSimpArgs false
set_option linter.unusedVariables false

/-- Block b is a map of just these entries, in the order in which they came; each key is one. -/
def Mp (w : World) (k : TypeId) (b : Nat) (L : List (Value × Value)) : Prop :=
  ∃ es cl, w.heap[b]? = some (.map es cl) ∧ es.toList.map (fun e => (e.key, e.val)) = L ∧ ∀ p ∈ L, ∃ l, keyOf Tryd.prog k p.1 = some l
theorem Mp.keys {w : World} {k : TypeId} {b : Nat} {L : List (Value × Value)} (h : Mp w k b L) : ∀ p ∈ L, ∃ l, keyOf Tryd.prog k p.1 = some l := by
  obtain ⟨_, _, _, _, h⟩ := h
  exact h
theorem Mp.kept {w w' : World} {k : TypeId} {b : Nat} {L : List (Value × Value)} (h : Mp w k b L) (hb : w'.heap[b]? = w.heap[b]?) : Mp w' k b L := by
  obtain ⟨es, cl, h1, h2⟩ := h
  exact ⟨es, cl, hb.trans h1, h2⟩
theorem Mp.lt {w : World} {k : TypeId} {b : Nat} {L : List (Value × Value)} (h : Mp w k b L) : b < w.heap.size := by
  obtain ⟨es, cl, h1, h2⟩ := h
  exact (Array.getElem?_eq_some_iff.1 h1).1
theorem Mp.made (w : World) (k : TypeId) : Mp (w.alloc (.map #[] 0)) k w.heap.size [] := ⟨#[], 0, heap_alloc_new w _, rfl, fun p hp => nomatch hp⟩

theorem Mp.look {w : World} {k e t : TypeId} {b : Nat} {L : List (Value × Value)} (h : Mp w k b L) (K : WideMaps.KeyLaw Tryd.prog k) (ht : Tryd.prog.underlying t = some (.map k e)) {z : Value} (hz : (zeroValue e).run Tryd.prog w = .ok z w)
    {key : Value} {kl : Lit} (hkey : keyOf Tryd.prog k key = some kl) :
    ((Instr.lookup t (.map (some b)) key true).run Tryd.prog w = .ok (.tuple #[z, .bool false]) w ∧ ∀ p ∈ L, p.1 ≠ key) ∨
    ∃ p, p ∈ L ∧ p.1 = key ∧ (Instr.lookup t (.map (some b)) key true).run Tryd.prog w = .ok (.tuple #[p.2, .bool true]) w := by
  obtain ⟨es, cl, hb, rfl, hk⟩ := h
  have hes : ∀ x ∈ es.toList, ∃ l, keyOf Tryd.prog k x.key = some l := fun x hx => hk (x.key, x.val) (List.mem_map.2 ⟨x, hx, rfl⟩)
  rcases K.find w hkey es.toList hes with ⟨h1, h2⟩ | ⟨j, e0, h1, h2, h3⟩
  · refine Or.inl ⟨by simp [Instr.lookup, run_underlying ht, MapKept.run_getObj_map hb, K.check w _ hkey, h1, hz, Result.andThen], fun p hp => ?_⟩
    obtain ⟨x, hx, rfl⟩ := List.mem_map.1 hp
    exact h2 x hx
  · exact Or.inr ⟨(e0.key, e0.val), List.mem_map.2 ⟨e0, List.mem_of_getElem? h2, rfl⟩, h3, by simp [Instr.lookup, run_underlying ht, MapKept.run_getObj_map hb, K.check w _ hkey, h1, Result.andThen]⟩

theorem Mp.store {w : World} {k e t : TypeId} {b : Nat} {L : List (Value × Value)} (h : Mp w k b L) (K : WideMaps.KeyLaw Tryd.prog k) (ht : Tryd.prog.underlying t = some (.map k e))
    {key val : Value} {kl : Lit} (hkey : keyOf Tryd.prog k key = some kl) (hno : ∀ p ∈ L, p.1 ≠ key) :
    ∃ w', (Instr.mapUpdate t (.map (some b)) key val).run Tryd.prog w = .ok () w' ∧ Mp w' k b (L ++ [(key, val)]) ∧ w.grownBy w' (some b) ∧ w'.heap.size = w.heap.size := by
  obtain ⟨es, cl, hb, rfl, hk⟩ := h
  have hes : ∀ x ∈ es.toList, ∃ l, keyOf Tryd.prog k x.key = some l := fun x hx => hk (x.key, x.val) (List.mem_map.2 ⟨x, hx, rfl⟩)
  have hlt : b < w.heap.size := (Array.getElem?_eq_some_iff.1 hb).1
  rcases K.find w hkey es.toList hes with ⟨h1, h2⟩ | ⟨j, e0, h1, h2, h3⟩
  · refine ⟨ChangeMaps.setBlock w b (.map (es.push ⟨key, val, cl⟩) (cl + 1)), by simp [Instr.mapUpdate, run_underlying ht, MapKept.run_getObj_map hb, K.check w false hkey, h1, MapKept.run_setObj_map _ hb, Result.andThen, ChangeMaps.setBlock], ⟨es.push ⟨key, val, cl⟩, cl + 1, by simp [ChangeMaps.setBlock, hlt], by simp, ?_⟩, ⟨rfl, rfl, rfl, by simp [ChangeMaps.setBlock], fun i _ hi => ?_⟩, by simp [ChangeMaps.setBlock]⟩
    · intro p hp
      rcases List.mem_append.1 hp with hp | hp
      · exact hk p hp
      · obtain rfl := List.mem_singleton.1 hp
        exact ⟨_, hkey⟩
    · have : b ≠ i := fun e => hi (by rw [e])
      simp [ChangeMaps.setBlock, this]
  · exact absurd h3 (hno (e0.key, e0.val) (List.mem_map.2 ⟨e0, List.mem_of_getElem? h2, rfl⟩))

/-- 'v, ok := m[k]' at the operation. -/
theorem wpList_look {w : World} {ops : Array Oper} {rest : List Oper} {o : Oper} {a : Act} {Q : Exit → Act → World → Prop}
    (hg : o.guard = none) (m x : Operand) (t : TypeId) (hop : o.op = Op.lookup t m x true)
    {k e : TypeId} {b : Nat} {L : List (Value × Value)} (K : WideMaps.KeyLaw Tryd.prog k) (ht : Tryd.prog.underlying t = some (.map k e)) {z : Value} (hz : (zeroValue e).run Tryd.prog w = .ok z w)
    (hm : a.eval m = .map (some b)) (h : Mp w k b L) (key : Value) {kl : Lit} (hx : a.eval x = key) (hkey : keyOf Tryd.prog k key = some kl)
    (h0 : (∀ p ∈ L, p.1 ≠ key) → wpList Tryd.prog ops Q rest (a.put o.dst (.tuple #[z, .bool false])) w)
    (h1 : ∀ p ∈ L, p.1 = key → wpList Tryd.prog ops Q rest (a.put o.dst (.tuple #[p.2, .bool true])) w) :
    wpList Tryd.prog ops Q (o :: rest) a w := by
  refine wpList_plain hg fun K' hK' => ?_
  rcases h.look K ht hz hkey with ⟨hr, hn⟩ | ⟨p, hp, he, hr⟩
  · unfold Oper.wp
    simp [execOp, hop, hm, hx, hr, Result.andThen]
    exact hK' _ _ (h0 hn)
  · unfold Oper.wp
    simp [execOp, hop, hm, hx, hr, Result.andThen]
    exact hK' _ _ (h1 p hp he)

/-- 'm[k] = v' at the operation, k being new. -/
theorem wpList_mput {w : World} {ops : Array Oper} {rest : List Oper} {o : Oper} {a : Act} {Q : Exit → Act → World → Prop}
    (hg : o.guard = none) (m x u : Operand) (t : TypeId) (hop : o.op = Op.mapUpdate t m x u)
    {k e : TypeId} {b : Nat} {L : List (Value × Value)} (K : WideMaps.KeyLaw Tryd.prog k) (ht : Tryd.prog.underlying t = some (.map k e))
    (hm : a.eval m = .map (some b)) (h : Mp w k b L) (key val : Value) {kl : Lit} (hx : a.eval x = key) (hu : a.eval u = val) (hkey : keyOf Tryd.prog k key = some kl) (hno : ∀ p ∈ L, p.1 ≠ key)
    (h1 : ∀ w', Mp w' k b (L ++ [(key, val)]) → w.grownBy w' (some b) → w'.heap.size = w.heap.size → wpList Tryd.prog ops Q rest (a.put o.dst undef) w') :
    wpList Tryd.prog ops Q (o :: rest) a w := by
  refine wpList_plain hg fun K' hK' => ?_
  obtain ⟨w', hr, r1, r2, r3⟩ := h.store (val := val) K ht hkey hno
  unfold Oper.wp
  simp [execOp, hop, hm, hx, hu, hr, Result.andThen]
  exact hK' _ _ (h1 w' r1 r2 r3)

theorem Mp.no {w : World} {k e t : TypeId} {b : Nat} {L : List (Value × Value)} (h : Mp w k b L) (K : WideMaps.KeyLaw Tryd.prog k) (ht : Tryd.prog.underlying t = some (.map k e)) {z : Value} (hz : (zeroValue e).run Tryd.prog w = .ok z w)
    {key : Value} {kl : Lit} (hkey : keyOf Tryd.prog k key = some kl) (hn : ∀ p ∈ L, p.1 ≠ key) : (Instr.lookup t (.map (some b)) key true).run Tryd.prog w = .ok (.tuple #[z, .bool false]) w := by
  rcases h.look K ht hz hkey with ⟨hr, _⟩ | ⟨p, hp, he, _⟩
  · exact hr
  · exact absurd he (hn p hp)
theorem Mp.yes {w : World} {k e t : TypeId} {b : Nat} {L : List (Value × Value)} (h : Mp w k b L) (K : WideMaps.KeyLaw Tryd.prog k) (ht : Tryd.prog.underlying t = some (.map k e)) {z : Value} (hz : (zeroValue e).run Tryd.prog w = .ok z w)
    {key x : Value} {kl : Lit} (hkey : keyOf Tryd.prog k key = some kl) (hin : (key, x) ∈ L) (hu : ∀ p ∈ L, p.1 = key → p.2 = x) : (Instr.lookup t (.map (some b)) key true).run Tryd.prog w = .ok (.tuple #[x, .bool true]) w := by
  rcases h.look K ht hz hkey with ⟨_, hn⟩ | ⟨p, hp, he, hr⟩
  · exact absurd rfl (hn _ hin)
  · rw [hr, hu p hp he]

theorem bel_cell {w x : World} {g j : Nat} {v : Value} (hb : Below w.heap.size w x) (hg : g < w.heap.size) (h : w.cell? ⟨g, j, none⟩ = some v) : x.cell? ⟨g, j, none⟩ = some v := by
  rw [hb.cell (p := ⟨g, j, none⟩) hg]; exact h
theorem cell_of {w : World} {g : Nat} {cs : Array Value} {t : TypeId} {f : Nat × Nat} (h : w.heap[g]? = some (.cells cs t f)) (j : Nat) {v : Value} (hv : cs[j]? = some v) : w.cell? ⟨g, j, none⟩ = some v := by
  simp [World.cell?, h, hv]
theorem row_kept {w w' : World} {B : Nat} {e : TypeId} {sz : Nat} {v : Value} {n : Nat} {xs : List Value} (h : w.ownsRow B e sz v n xs) (hk : ∀ k, k < w.heap.size → w'.heap[k]? = w.heap[k]?) : w'.ownsRow B e sz v n xs := by
  refine ⟨h.1, ?_⟩
  rcases h.2 with hn | ⟨g, cap, cur, rfl, hb, hgg, rest⟩
  · exact .inl hn
  · exact .inr ⟨g, cap, cur, rfl, hb, by rw [hk g (Array.getElem?_eq_some_iff.1 hgg).1]; exact hgg, rest⟩
/-- A row stays where its own block does. -/
theorem row_own {w w' : World} {B : Nat} {e : TypeId} {sz : Nat} {v : Value} {n : Nat} {xs : List Value} (h : w.ownsRow B e sz v n xs) (hk : ∀ k, v.ownBlock = some k → w'.heap[k]? = w.heap[k]?) : w'.ownsRow B e sz v n xs := by
  refine ⟨h.1, ?_⟩
  rcases h.2 with hn | ⟨g, cap, cur, rfl, hb, hgg, rest⟩
  · exact .inl hn
  · exact .inr ⟨g, cap, cur, rfl, hb, by rw [hk g rfl]; exact hgg, rest⟩
theorem row_sets {x y : World} {b : Nat} {e : TypeId} {sz : Nat} {v : Value} {n : Nat} {xs : List Value} (h : x.ownsRow b e sz v n xs) (hk : ∀ q, b ≤ q → q < x.heap.size → y.heap[q]? = x.heap[q]?) : y.ownsRow b e sz v n xs := by
  refine ⟨h.1, ?_⟩
  rcases h.2 with hn | ⟨g, cap, cur, rfl, hb, hgg, rest⟩
  · exact .inl hn
  · exact .inr ⟨g, cap, cur, rfl, hb, by rw [hk g hb (Array.getElem?_eq_some_iff.1 hgg).1]; exact hgg, rest⟩
theorem own_mono {w : World} {b b' : Nat} {e : TypeId} {sz : Nat} {v : Value} {n : Nat} {xs : List Value} (h : w.ownsRow b e sz v n xs) (hb : b' ≤ b) : w.ownsRow b' e sz v n xs := by
  refine ⟨h.1, ?_⟩
  rcases h.2 with hn | ⟨g, cap, cur, rfl, h1, rest⟩
  · exact .inl hn
  · exact .inr ⟨g, cap, cur, rfl, Nat.le_trans hb h1, rest⟩
/-- The cells behind g, o hold these numbers. -/
def Li (w : World) (g o : Nat) (l : List Int) : Prop := ∀ j, j < l.length → w.cell? ⟨g, o + j, none⟩ = some (.int .i64 (l.getD j 0))
/-- v is a list of these numbers, in blocks from base on. -/
def Is' (w : World) (base : Nat) (v : Value) (l : List Int) : Prop := w.ownsRow base 3 1 v l.length (l.map (Value.int .i64))
theorem Is'.li {w : World} {base : Nat} {v : Value} {l : List Int} (h : Is' w base v l) (hl : l ≠ []) : ∃ r cap, v = .slice (some ⟨r, 0, none⟩) l.length cap ∧ base ≤ r ∧ l.length ≤ cap ∧ Li w r 0 l := by
  rcases h.2 with ⟨rfl, hn⟩ | ⟨r, cap, cur, rfl, hb, hg, hc, _, hs, ht⟩
  · exact absurd (List.eq_nil_of_length_eq_zero hn) hl
  · refine ⟨r, cap, rfl, hb, hc, fun j hj => ?_⟩
    have e : (l.map (Value.int .i64))[j]? = some (.int .i64 (l.getD j 0)) := by
      rw [List.getElem?_map, List.getElem?_eq_getElem hj, List.getD_eq_getElem?_getD, List.getElem?_eq_getElem hj]; rfl
    rw [← ht, List.getElem?_take_of_lt (by omega)] at e
    rw [Nat.zero_add]
    exact cell_of hg _ (by simpa using e)
theorem ones (l : List Int) : ∀ u ∈ l.map (Value.int .i64), u.oneCell' = true := by
  intro u hu
  obtain ⟨x, _, rfl⟩ := List.mem_map.1 hu
  rfl
theorem low_grown {B : Nat} {w wr w1 : World} {o : Obj} {row : Option Nat} (h : Below B w wr) (hB : B ≤ wr.heap.size) (hg : (wr.alloc o).grownBy w1 row) (hr : ∀ q, row = some q → B ≤ q) : Below B w w1 :=
  ⟨hg.os.trans h.os, hg.tape.trans h.tape, hg.output.trans h.output, Nat.le_trans h.size (Nat.le_trans (by simp) hg.size), fun q hq => (hg.block q (by simp; omega) (fun e => by have := hr q e.symm; omega)).trans ((heap_alloc_old wr o (by omega)).trans (h.block q hq))⟩
theorem cell_grown {B : Nat} {wr w1 : World} {o : Obj} {row : Option Nat} {a : Addr} {v : Value} (hg : (wr.alloc o).grownBy w1 row) (hr : ∀ q, row = some q → B ≤ q) (ha : a.block < B) (h : wr.cell? a = some v) : w1.cell? a = some v :=
  hg.cell ((World.cell?_of_block (heap_alloc_old wr o (World.block_lt_of_cell? wr a h))).trans h) (fun e => by have := hr _ e.symm; omega)
theorem size_alloc' (w : World) (o : Obj) : (w.alloc o).heap.size = w.heap.size + 1 := by simp
theorem info_any {t : TypeId} {z : Value} {s b : Nat} (h : (Tryd.prog.info? t).map (fun i => (i.zero, i.size, i.bytes)) = some (some z, s, b)) : ∃ i, Tryd.prog.info? t = some i ∧ i.zero = some z ∧ i.size = s ∧ i.bytes = b := by
  obtain ⟨i, hi, e⟩ := Option.map_eq_some_iff.1 h
  simp at e
  exact ⟨i, hi, e.1, e.2.1, e.2.2⟩
theorem infoInt : (Tryd.prog.info? 3).map (fun i => (i.zero, i.size, i.bytes)) = some (some (.int .i64 0), 1, 8) := by kernel_rfl
theorem infoBool : (Tryd.prog.info? 4).map (fun i => (i.zero, i.size, i.bytes)) = some (some (.bool false), 1, 1) := by kernel_rfl
theorem infoArr : (Tryd.prog.info? 80).map (fun i => (i.zero, i.size, i.bytes)) = some (some (.agg #[.int .i64 0, .int .i64 0, .int .i64 0]), 3, 24) := by kernel_rfl
theorem underInts : Tryd.prog.underlying 45 = some (.slice 3) := by kernel_rfl
theorem underBools : Tryd.prog.underlying 33 = some (.slice 4) := by kernel_rfl
theorem underArrs : Tryd.prog.underlying 72 = some (.slice 80) := by kernel_rfl
theorem underMap : Tryd.prog.underlying 73 = some (.map 80 3) := by kernel_rfl
theorem underQMap : Tryd.prog.underlying 94 = some (.map 98 3) := by kernel_rfl
theorem zeroInt (w : World) : (zeroValue 3).run Tryd.prog w = .ok (.int .i64 0) w := by kernel_rfl
theorem arrLaw : WideMaps.KeyLaw Tryd.prog 80 := deep_law (m := 20) (by decide) (by kernel_rfl) (by kernel_rfl) (by kernel_rfl)
theorem qLaw : WideMaps.KeyLaw Tryd.prog 98 := deep_law (m := 20) (by decide) (by kernel_rfl) (by kernel_rfl) (by kernel_rfl)
def sl (N p : Nat) : Value := .slice (some ⟨p / 2 ^ 64, 0, none⟩) N (p % 2 ^ 64)
theorem sl_own {w : World} {base : Nat} {e : TypeId} {sz : Nat} {v : Value} {N : Nat} {xs : List Value} (h : w.ownsRow base e sz v N xs) (hl : 0 < N) : ∃ p, v = sl N p := by
  rcases h.2 with ⟨-, h0⟩ | ⟨g, c, cur, rfl, -, -, -, hc, -⟩
  · omega
  · refine ⟨g * 2 ^ 64 + c, ?_⟩
    have hc' : c < 2 ^ 64 := by unfold maxLen at hc; omega
    unfold sl
    rw [show (g * 2 ^ 64 + c) / 2 ^ 64 = g by omega, show (g * 2 ^ 64 + c) % 2 ^ 64 = c by omega]
theorem wp_append_at {P : Program} (w : World) {o : Oper} {a : Act} {K : Act → World → Prop} {Q : Exit → Act → World → Prop} (s x : Operand) (t : TypeId)
    (ho : o.op = .call { callee := .builtin .append, args := #[s, x], argTypes := #[t, t] })
    (base : Nat) (e : TypeId) (i : TypeInfo) (z : Value) (size bytes : Nat) (ht : P.underlying t = some (.slice e)) (hi : P.info? e = some i) (hz : i.zero = some z)
    (hsize : i.size = size) (hby : i.bytes = bytes) (hzs : z.cells.size = size) (hsz : 0 < size)
    (v : Value) (n : Nat) (xs : List Value) (hs : a.eval s = v) (hown : w.ownsRow base e size v n xs)
    (ad : Addr) (m c : Nat) (news : List Value) (hx : a.eval x = .slice (some ad) m c) (hl : news.length = m * size) (hnews : ∀ j u, news[j]? = some u → w.cell? (ad.add j) = some u) (h1 : ∀ u ∈ news, u.oneCell' = true)
    (h63 : n + m ≤ maxLen) (hbytes : (n + m) * bytes ≤ 140737488355328) (hbase : base ≤ w.heap.size)
    (h : ∀ v' w', w'.ownsRow base e size v' (n + m) (xs ++ news) → w.grownBy w' v.ownBlock → (v'.ownBlock = v.ownBlock ∨ v'.ownBlock = some w.heap.size) → K (a.put o.dst v') w') : o.wp P a w K Q := by
  obtain ⟨v', w', hr, h2, h3, h4, h5⟩ := run_append_own_at (P := P) w base t o.type e i z size bytes ht hi hz hsize hby hzs hsz v n xs hown ad m c news hl hnews h1 h63 hbytes hbase
  unfold Oper.wp execOp
  simp only [ho, resolve, invoke, builtin, Sem.run_bind, Sem.run_pure, Result.andThen_ok, List.map_toArray, List.map_cons, List.map_nil, hs, hx, hr]
  exact h v' w' h2 h3 h5
theorem row_far {x : World} {B b j sz : Nat} {u v : Value} {N : Nat} {xs : List Value} {t : TypeId} (h : x.ownsRow B t sz v N xs) (hb : v.ownBlock ≠ some b) : (x.setCell ⟨b, j, none⟩ u).ownsRow B t sz v N xs := by
  refine ⟨h.1, ?_⟩
  rcases h.2 with hn | ⟨g, cap, cur, rfl, h1, hgg, rest⟩
  · exact .inl hn
  · refine .inr ⟨g, cap, cur, rfl, h1, ?_, rest⟩
    rw [heap_setCell_other _ _ _ _ (fun e => hb (by rw [e]; rfl))]
    exact hgg
theorem wrap_small {i : Nat} (h : i < 100000) : wrap64 (i : Int) = i := by unfold wrap64; omega
end Go.Proofs.YtkmkmgnfolpphaaDoor
