/- Contracts (both graphs): a node is made; nodes, variables; both graphs in one world. -/
import Derived.Test.YtjmbicaacplolaaZ6
import Derived.Test.YtjmbicaacplolaaZ7
import Derived.Test.YtjmbicaacplolaaZ8
import Derived.Test.YtjmbicaacplolaaZ9
import Derived.Test.YtjmbicaacplolaaZ3
namespace Go.Proofs.Ytjmbicaacplolaa
open Go.RowKit
set_option linter.unusedSimpArgs false
set_option linter.unusedVariables false

theorem rmk_any {w : World} {B gB mo : Nat} {v : Value} {ns ns' : List Nd} {n : Nd} {id er : Int} (h : Rg w B gB v mo ns) (hv : Inv ns) (ho : Ok n) (hM : Mkd mo ns n id er ns') (hBw : B ≤ w.heap.size) :
    Calls Try.prog 13 #[.pointer (some ⟨gB, 0, none⟩), .agg #[.int .i64 n.op, .int .i64 n.s, .int .i64 n.a, .int .i64 n.b, .int .i64 n.c, .int .i64 n.p, .int .i64 n.q, .int .i64 n.w, .int .u64 n.lo, .int .u64 n.hi, .string n.nm]] w fun e w' => e = .returned (.tuple #[.int .i64 id, .int .i64 er]) ∧ ∃ v', Rg w' B gB v' mo ns' ∧ RChg w w' gB v ∧ (v'.ownBlock = v.ownBlock ∨ ∃ b, v'.ownBlock = some b ∧ w.heap.size ≤ b) := by
  cases hp : prt ns.length n
  · have hE : srtOf ns n = (0, 32) := by unfold srtOf; rw [if_pos hp]
    obtain ⟨rfl, rfl, rfl⟩ := hM.of_err hE (by decide)
    refine (rmk_bad h hp).mono ?_
    rintro e w' ⟨he, hb⟩
    exact ⟨he, v, h.below hb, RChg.of hb, Or.inl rfl⟩
  · by_cases h1 : n.op = 1
    · exact rmk_1 h hv ho hp h1 hM hBw
    · by_cases h2 : n.op = 2
      · exact rmk_2 h hv ho hp h2 hM hBw
      · exact rmk_3 h hv ho hp h1 h2 hM hBw

/-- The node of a number; none: nought. -/
def ndF (ns : List Nd) (z : Int) : Nd := if hasB ns.length z then (ns[(z - 1).toNat]?).getD ⟨0, 0, 0, 0, 0, 0, 0, 0, 0, 0, ⟨#[]⟩⟩ else ⟨0, 0, 0, 0, 0, 0, 0, 0, 0, 0, ⟨#[]⟩⟩
theorem node_all {w : World} {B g mi mv mo : Nat} {v : Value} {ns : List Nd} (h : Gr w B g mi mv v mo ns) {z : Int} {X : Nd} {b : Bool} (hX : X = ndF ns z) (hb : b = hasB ns.length z) :
    Calls Try.prog 15 #[.pointer (some ⟨g, 0, none⟩), .int .i64 z] w fun e w' => e = .returned (.tuple #[.agg #[.int .i64 X.op, .int .i64 X.s, .int .i64 X.a, .int .i64 X.b, .int .i64 X.c, .int .i64 X.p, .int .i64 X.q, .int .i64 X.w, .int .u64 X.lo, .int .u64 X.hi, .string X.nm], .bool b]) ∧ Below w.heap.size w w' := by
  subst hX hb
  unfold ndF
  cases e : hasB ns.length z
  · exact node_no h e
  · obtain ⟨i, m, hi, rfl⟩ := has_node e
    rw [if_pos rfl, show ((i : Int) + 1 - 1).toNat = i by omega, hi]
    exact node_yes h hi
theorem at_all {w : World} {B g mo : Nat} {v : Value} {ns : List Nd} (h : Rg w B g v mo ns) {z : Int} {X : Nd} {b : Bool} (hX : X = ndF ns z) (hb : b = hasB ns.length z) :
    Calls Try.prog 16 #[.pointer (some ⟨g, 0, none⟩), .int .i64 z] w fun e w' => e = .returned (.tuple #[.agg #[.int .i64 X.op, .int .i64 X.s, .int .i64 X.a, .int .i64 X.b, .int .i64 X.c, .int .i64 X.p, .int .i64 X.q, .int .i64 X.w, .int .u64 X.lo, .int .u64 X.hi, .string X.nm], .bool b]) ∧ Below w.heap.size w w' := by
  subst hX hb
  unfold ndF
  cases e : hasB ns.length z
  · exact at_no h e
  · obtain ⟨i, m, hi, rfl⟩ := has_node e
    rw [if_pos rfl, show ((i : Int) + 1 - 1).toNat = i by omega, hi]
    exact at_yes h hi
theorem vars_all {w : World} {B g mi mv mo : Nat} {v : Value} {ns : List Nd} (h : Gr w B g mi mv v mo ns) :
    Calls Try.prog 22 #[.pointer (some ⟨g, 0, none⟩)] w fun e w' => ∃ u, e = .returned u ∧ Is' w' w.heap.size u (vsF ns) ∧ Below w.heap.size w w' := by
  by_cases hn : ns = []
  · subst hn; exact vars_nil h
  · exact vars_any h (List.length_pos_iff.2 hn)
theorem nsame_nd (n : Nd) (w : World) : (binOp .neq 36 (.agg #[.int .i64 n.op, .int .i64 n.s, .int .i64 n.a, .int .i64 n.b, .int .i64 n.c, .int .i64 n.p, .int .i64 n.q, .int .i64 n.w, .int .u64 n.lo, .int .u64 n.hi, .string n.nm]) (.agg #[.int .i64 n.op, .int .i64 n.s, .int .i64 n.a, .int .i64 n.b, .int .i64 n.c, .int .i64 n.p, .int .i64 n.q, .int .i64 n.w, .int .u64 n.lo, .int .u64 n.hi, .string n.nm])).run Try.prog w = .ok (.bool false) w := by simp [go_sem]

/-- Both graphs, in one world, of the same nodes. -/
structure Tw (w wr : World) (B D : Nat) (v u : Value) (R : Nat) (ns : List Nd) : Prop where
  gr : Gr wr B (B + 2) B (B + 1) v R ns
  rg : Rg wr D D u R ns
  far : v.ownBlock ≠ some D
  own : ∀ q, u.ownBlock = some q → q ≠ B ∧ q ≠ B + 1 ∧ q ≠ B + 2 ∧ v.ownBlock ≠ some q
  bd : B + 2 < D
  lo : w.heap.size ≤ B
  bel : Below w.heap.size w wr
theorem Tw.below {w wr wx : World} {B D R : Nat} {v u : Value} {ns : List Nd} (h : Tw w wr B D v u R ns) (hb : Below wr.heap.size wr wx) : Tw w wx B D v u R ns :=
  ⟨h.gr.below hb, h.rg.below hb, h.far, h.own, h.bd, h.lo, h.bel.trans (hb.mono h.bel.size)⟩
theorem row_same {x y : World} {b : Nat} {e : TypeId} {sz : Nat} {v : Value} {n : Nat} {xs : List Value} (h : x.ownsRow b e sz v n xs) (hk : ∀ q, v.ownBlock = some q → y.heap[q]? = x.heap[q]?) : y.ownsRow b e sz v n xs := by
  refine ⟨h.1, ?_⟩
  rcases h.2 with hn | ⟨g, cap, cur, rfl, hb, hgg, rest⟩
  · exact .inl hn
  · exact .inr ⟨g, cap, cur, rfl, hb, by rw [hk g rfl]; exact hgg, rest⟩
/-- Behind the program's Make. -/
theorem Tw.first {w wr w2 : World} {B D R : Nat} {v v' u : Value} {ns ns' : List Nd} (h : Tw w wr B D v u R ns) (hG : Gr w2 B (B + 2) B (B + 1) v' R ns') (hC : Chg wr w2 (B + 2) B (B + 1) v) (hv : v'.ownBlock = v.ownBlock ∨ ∃ b, v'.ownBlock = some b ∧ wr.heap.size ≤ b) :
    Rg w2 D D u R ns ∧ v'.ownBlock ≠ some D ∧ (∀ q, u.ownBlock = some q → q ≠ B ∧ q ≠ B + 1 ∧ q ≠ B + 2 ∧ v'.ownBlock ≠ some q) ∧ Below w.heap.size w w2 := by
  have hD := h.rg.lt
  have hbd := h.bd
  refine ⟨⟨(hC.block D hD (by omega) (by omega) (by omega) (fun e => h.far e.symm)).trans h.rg.hd, row_same h.rg.row (fun q hq => ?_), h.rg.bg, h.rg.most, h.rg.room⟩, ?_, fun q hq => ?_, h.bel.trans ((hC.low h.gr (by have := h.gr.lt; omega)).mono h.lo)⟩
  · obtain ⟨h1, h2, h3, h4⟩ := h.own q hq
    exact hC.block q (h.rg.row.lt q hq).2 h3 h1 h2 (fun e => h4 e.symm)
  · rcases hv with e | ⟨b, e, hb⟩
    · rw [e]; exact h.far
    · rw [e]; intro e2; cases e2; omega
  · obtain ⟨h1, h2, h3, h4⟩ := h.own q hq
    refine ⟨h1, h2, h3, ?_⟩
    rcases hv with e | ⟨b, e, hb⟩
    · rw [e]; exact h4
    · rw [e]; intro e2; cases e2; have := (h.rg.row.lt _ hq).2; omega
/-- Behind the document's. -/
theorem Tw.second {w w2 w3 : World} {B D R : Nat} {v u u' : Value} {ns ns' : List Nd} (hG : Gr w2 B (B + 2) B (B + 1) v R ns') (hR : Rg w3 D D u' R ns') (hC : RChg w2 w3 D u) (hu : u'.ownBlock = u.ownBlock ∨ ∃ b, u'.ownBlock = some b ∧ w2.heap.size ≤ b)
    (hfar : v.ownBlock ≠ some D) (hown : ∀ q, u.ownBlock = some q → q ≠ B ∧ q ≠ B + 1 ∧ q ≠ B + 2 ∧ v.ownBlock ≠ some q) (hbd : B + 2 < D) (hlo : w.heap.size ≤ B) (hbel : Below w.heap.size w w2) (hub : ∀ q, u.ownBlock = some q → D ≤ q) : Tw w w3 B D v u' R ns' := by
  have hg := hG.lt
  have hs : ∀ k, k < w2.heap.size → k < D → w3.heap[k]? = w2.heap[k]? := fun k hk hd => hC.block k hk (by omega) (fun e => by have := hub k e.symm; omega)
  refine ⟨⟨(hs _ hg hbd).trans hG.hd, row_same hG.row (fun q hq => hC.block q (hG.row.lt q hq).2 (fun e => hfar (by rw [hq, e])) (fun e => (hown q e.symm).2.2.2 hq)), hG.ids.kept (hs B (by omega) (by omega)), hG.vars.kept (hs (B + 1) (by omega) (by omega)), hG.bg, hG.bi, hG.bv, hG.ne, hG.most, hG.room, hG.inv⟩, hR, hfar, fun q hq => ?_, hbd, hlo, ?_⟩
  · rcases hu with e | ⟨b, e, hb⟩
    · rw [e] at hq; exact hown q hq
    · rw [e] at hq
      cases hq
      refine ⟨by omega, by omega, by omega, fun e2 => ?_⟩
      have := (hG.row.lt _ e2).2
      omega
  · exact hbel.trans ⟨hC.os, hC.tape, hC.output, hC.size, fun k hk => hs k (by have := hbel.size; omega) (by omega)⟩
end Go.Proofs.Ytjmbicaacplolaa
