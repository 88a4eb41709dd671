/- Contracts (the document's graph): a graph is made; a node. -/
import Derived.Test.YtjmbicaacplolaaY7
namespace Go.Proofs.Ytjmbicaacplolaa
open Go.RowKit
set_option linter.unusedSimpArgs false
set_option linter.unusedVariables false

/-- The document's graph at block g (its nodes' slice: v) has room for mo nodes and holds ns; all of it lies from B on. -/
structure Rg (w : World) (B g : Nat) (v : Value) (mo : Nat) (ns : List Nd) : Prop where
  hd : w.heap[g]? = some (.cells #[v, .int .i64 (mo : Int)] 41)
  row : w.ownsRow B 36 11 v ns.length (ns.flatMap Nd.cs)
  bg : B ≤ g
  most : mo ≤ 4096
  room : ns.length ≤ mo
theorem Rg.c0 {w : World} {B g mo : Nat} {v : Value} {ns : List Nd} (h : Rg w B g v mo ns) : w.cell? ⟨g, 0, none⟩ = some v := cell_of h.hd 0 rfl
theorem Rg.c1 {w : World} {B g mo : Nat} {v : Value} {ns : List Nd} (h : Rg w B g v mo ns) : w.cell? ⟨g, 1, none⟩ = some (.int .i64 (mo : Int)) := cell_of h.hd 1 rfl
theorem Rg.sl {w : World} {B g mo : Nat} {v : Value} {ns : List Nd} (h : Rg w B g v mo ns) : ∃ ad cap, v = .slice ad ns.length cap := by
  rcases h.row.2 with ⟨hv, hn⟩ | ⟨r, cap, cur, hv, _⟩
  · exact ⟨none, 0, by rw [hv, hn]⟩
  · exact ⟨_, cap, hv⟩
theorem Rg.len {w : World} {B g mo : Nat} {v : Value} {ns : List Nd} (h : Rg w B g v mo ns) : ns.length ≤ 4096 := Nat.le_trans h.room h.most
theorem Rg.lt {w : World} {B g mo : Nat} {v : Value} {ns : List Nd} (h : Rg w B g v mo ns) : g < w.heap.size := (Array.getElem?_eq_some_iff.1 h.hd).1
theorem Rg.kept {w w' : World} {B g mo : Nat} {v : Value} {ns : List Nd} (h : Rg w B g v mo ns) (hk : ∀ k, k < w.heap.size → w'.heap[k]? = w.heap[k]?) : Rg w' B g v mo ns :=
  ⟨(hk g h.lt).trans h.hd, row_kept h.row hk, h.bg, h.most, h.room⟩
theorem Rg.below {w w' : World} {B g mo : Nat} {v : Value} {ns : List Nd} (h : Rg w B g v mo ns) (hb : Below w.heap.size w w') : Rg w' B g v mo ns := h.kept hb.block

set_option maxHeartbeats 1600000 in
theorem at_yes {w : World} {B g mo : Nat} {v : Value} {ns : List Nd} (h : Rg w B g v mo ns) {i : Nat} {n : Nd} (hi : ns[i]? = some n) :
    Calls Try.prog 16 #[.pointer (some ⟨g, 0, none⟩), .int .i64 ((i : Int) + 1)] w fun e w' => e = .returned (.tuple #[.agg #[.int .i64 n.op, .int .i64 n.s, .int .i64 n.a, .int .i64 n.b, .int .i64 n.c, .int .i64 n.p, .int .i64 n.q, .int .i64 n.w, .int .u64 n.lo, .int .u64 n.hi, .string n.nm], .bool true]) ∧ Below w.heap.size w w' := by
  have hlt : i < ns.length := (List.getElem?_eq_some_iff.1 hi).1
  have hlen := h.len
  have c0 := h.c0
  have hg := h.lt
  obtain ⟨r, cap, rfl, hBr, hrl, hc⟩ := row_all h.row (by omega)
  have hc := hc i n hi
  have d0 : w.cell? ⟨r, i * 11, none⟩ = some (.int .i64 n.op) := hc 0 _ rfl
  have d1 : w.cell? ⟨r, i * 11 + 1, none⟩ = some (.int .i64 n.s) := hc 1 _ rfl
  have d2 : w.cell? ⟨r, i * 11 + 2, none⟩ = some (.int .i64 n.a) := hc 2 _ rfl
  have d3 : w.cell? ⟨r, i * 11 + 3, none⟩ = some (.int .i64 n.b) := hc 3 _ rfl
  have d4 : w.cell? ⟨r, i * 11 + 4, none⟩ = some (.int .i64 n.c) := hc 4 _ rfl
  have d5 : w.cell? ⟨r, i * 11 + 5, none⟩ = some (.int .i64 n.p) := hc 5 _ rfl
  have d6 : w.cell? ⟨r, i * 11 + 6, none⟩ = some (.int .i64 n.q) := hc 6 _ rfl
  have d7 : w.cell? ⟨r, i * 11 + 7, none⟩ = some (.int .i64 n.w) := hc 7 _ rfl
  have d8 : w.cell? ⟨r, i * 11 + 8, none⟩ = some (.int .u64 n.lo) := hc 8 _ rfl
  have d9 : w.cell? ⟨r, i * 11 + 9, none⟩ = some (.int .u64 n.hi) := hc 9 _ rfl
  have d10 : w.cell? ⟨r, i * 11 + 10, none⟩ = some (.string n.nm) := hc 10 _ rfl
  have e1 := wrap_small (i := i) (by omega)
  have b1 : (i : Int) < (ns.length : Int) := by omega
  have g1 : ¬ (i : Int) + 1 < 1 := by omega
  have g2 : ¬ (ns.length : Int) < (i : Int) + 1 := by omega
  clear hc hi
  obtain ⟨N, hN⟩ : ∃ N, N = ns.length := ⟨_, rfl⟩
  rw [← hN] at c0 b1 hlt g2
  clear hN h hlen
  go_enter Try.func16, Try.ntmps16
  go_wp2_with fail
  refine bodyPost_ret (v := .tuple #[.agg #[.int .i64 n.op, .int .i64 n.s, .int .i64 n.a, .int .i64 n.b, .int .i64 n.c, .int .i64 n.p, .int .i64 n.q, .int .i64 n.w, .int .u64 n.lo, .int .u64 n.hi, .string n.nm], .bool true]) (by simp [results, Try.results16, go_sem]) rfl ?_
  exact ⟨rfl, by go_grown⟩
set_option maxHeartbeats 1600000 in
theorem at_no {w : World} {B g mo : Nat} {v : Value} {ns : List Nd} (h : Rg w B g v mo ns) {i : Int} (hi : hasB ns.length i = false) :
    Calls Try.prog 16 #[.pointer (some ⟨g, 0, none⟩), .int .i64 i] w fun e w' => e = .returned (.tuple #[.agg #[.int .i64 0, .int .i64 0, .int .i64 0, .int .i64 0, .int .i64 0, .int .i64 0, .int .i64 0, .int .i64 0, .int .u64 0, .int .u64 0, .string ⟨#[]⟩], .bool false]) ∧ Below w.heap.size w w' := by
  have c0 := h.c0
  have hg := h.lt
  obtain ⟨ad, cap, rfl⟩ := h.sl
  have hx : i < 1 ∨ (¬ i < 1 ∧ (ns.length : Int) < i) := by
    by_cases h1 : i < 1
    · exact Or.inl h1
    · right
      refine ⟨h1, ?_⟩
      apply Classical.byContradiction
      intro h2
      have : hasB ns.length i = true := by simp [hasB]; omega
      rw [this] at hi; cases hi
  obtain ⟨N, hN⟩ : ∃ N, N = ns.length := ⟨_, rfl⟩
  rw [← hN] at c0 hx
  clear hN h hi
  rcases hx with h1 | ⟨h1, h2⟩
  all_goals
    go_enter Try.func16, Try.ntmps16
    go_wp2_with fail
    refine bodyPost_ret (v := .tuple #[.agg #[.int .i64 0, .int .i64 0, .int .i64 0, .int .i64 0, .int .i64 0, .int .i64 0, .int .i64 0, .int .i64 0, .int .u64 0, .int .u64 0, .string ⟨#[]⟩], .bool false]) (by simp [results, Try.results16, go_sem]) rfl ?_
    exact ⟨rfl, by go_grown⟩
end Go.Proofs.Ytjmbicaacplolaa
