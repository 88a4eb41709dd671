/- Maps by their entries, looked up and written at the operation. -/
import Derived.Test.YtjmbicaacplolaaX8
import Derived.Maps.Keyed
import Derived.Maps.OwnOps
import Derived.Maps.AppendAt
import Derived.DeepKeys3
namespace Go.Proofs.Ytjmbicaacplolaa
open Go.RowKit
set_option linter.unusedSimpArgs false
set_option linter.unusedVariables false

/-- Block b is a map of just these entries, in the order in which they came; each key is one. -/
def Mp (w : World) (k : TypeId) (b : Nat) (L : List (Value × Value)) : Prop :=
  ∃ es cl, w.heap[b]? = some (.map es cl) ∧ es.toList.map (fun e => (e.key, e.val)) = L ∧ ∀ p ∈ L, ∃ l, keyOf Try.prog k p.1 = some l
theorem Mp.keys {w : World} {k : TypeId} {b : Nat} {L : List (Value × Value)} (h : Mp w k b L) : ∀ p ∈ L, ∃ l, keyOf Try.prog k p.1 = some l := by
  obtain ⟨_, _, _, _, h⟩ := h
  exact h
theorem Mp.kept {w w' : World} {k : TypeId} {b : Nat} {L : List (Value × Value)} (h : Mp w k b L) (hb : w'.heap[b]? = w.heap[b]?) : Mp w' k b L := by
  obtain ⟨es, cl, h1, h2⟩ := h
  exact ⟨es, cl, hb.trans h1, h2⟩
theorem Mp.lt {w : World} {k : TypeId} {b : Nat} {L : List (Value × Value)} (h : Mp w k b L) : b < w.heap.size := by
  obtain ⟨es, cl, h1, h2⟩ := h
  exact (Array.getElem?_eq_some_iff.1 h1).1
theorem Mp.made (w : World) (k : TypeId) : Mp (w.alloc (.map #[] 0)) k w.heap.size [] := ⟨#[], 0, heap_alloc_new w _, rfl, fun p hp => nomatch hp⟩

theorem Mp.look {w : World} {k e t : TypeId} {b : Nat} {L : List (Value × Value)} (h : Mp w k b L) (K : WideMaps.KeyLaw Try.prog k) (ht : Try.prog.underlying t = some (.map k e)) {z : Value} (hz : (zeroValue e).run Try.prog w = .ok z w)
    {key : Value} {kl : Lit} (hkey : keyOf Try.prog k key = some kl) :
    ((Instr.lookup t (.map (some b)) key true).run Try.prog w = .ok (.tuple #[z, .bool false]) w ∧ ∀ p ∈ L, p.1 ≠ key) ∨
    ∃ p, p ∈ L ∧ p.1 = key ∧ (Instr.lookup t (.map (some b)) key true).run Try.prog w = .ok (.tuple #[p.2, .bool true]) w := by
  obtain ⟨es, cl, hb, rfl, hk⟩ := h
  have hes : ∀ x ∈ es.toList, ∃ l, keyOf Try.prog k x.key = some l := fun x hx => hk (x.key, x.val) (List.mem_map.2 ⟨x, hx, rfl⟩)
  rcases K.find w hkey es.toList hes with ⟨h1, h2⟩ | ⟨j, e0, h1, h2, h3⟩
  · refine Or.inl ⟨by simp [Instr.lookup, run_underlying ht, MapKept.run_getObj_map hb, K.check w _ hkey, h1, hz, Result.andThen], fun p hp => ?_⟩
    obtain ⟨x, hx, rfl⟩ := List.mem_map.1 hp
    exact h2 x hx
  · exact Or.inr ⟨(e0.key, e0.val), List.mem_map.2 ⟨e0, List.mem_of_getElem? h2, rfl⟩, h3, by simp [Instr.lookup, run_underlying ht, MapKept.run_getObj_map hb, K.check w _ hkey, h1, Result.andThen]⟩

theorem Mp.store {w : World} {k e t : TypeId} {b : Nat} {L : List (Value × Value)} (h : Mp w k b L) (K : WideMaps.KeyLaw Try.prog k) (ht : Try.prog.underlying t = some (.map k e))
    {key val : Value} {kl : Lit} (hkey : keyOf Try.prog k key = some kl) (hno : ∀ p ∈ L, p.1 ≠ key) :
    ∃ w', (Instr.mapUpdate t (.map (some b)) key val).run Try.prog w = .ok () w' ∧ Mp w' k b (L ++ [(key, val)]) ∧ w.grownBy w' (some b) ∧ w'.heap.size = w.heap.size := by
  obtain ⟨es, cl, hb, rfl, hk⟩ := h
  have hes : ∀ x ∈ es.toList, ∃ l, keyOf Try.prog k x.key = some l := fun x hx => hk (x.key, x.val) (List.mem_map.2 ⟨x, hx, rfl⟩)
  have hlt : b < w.heap.size := (Array.getElem?_eq_some_iff.1 hb).1
  rcases K.find w hkey es.toList hes with ⟨h1, h2⟩ | ⟨j, e0, h1, h2, h3⟩
  · refine ⟨ChangeMaps.setBlock w b (.map (es.push ⟨key, val, cl⟩) (cl + 1)), by simp [Instr.mapUpdate, run_underlying ht, MapKept.run_getObj_map hb, K.check w false hkey, h1, MapKept.run_setObj_map _ hb, Result.andThen, ChangeMaps.setBlock], ⟨es.push ⟨key, val, cl⟩, cl + 1, by simp [ChangeMaps.setBlock, hlt], by simp, ?_⟩, ⟨rfl, rfl, rfl, by simp [ChangeMaps.setBlock], fun i _ hi => ?_⟩, by simp [ChangeMaps.setBlock]⟩
    · intro p hp
      rcases List.mem_append.1 hp with hp | hp
      · exact hk p hp
      · obtain rfl := List.mem_singleton.1 hp
        exact ⟨_, hkey⟩
    · have : b ≠ i := fun e => hi (by rw [e])
      simp [ChangeMaps.setBlock, this]
  · exact absurd h3 (hno (e0.key, e0.val) (List.mem_map.2 ⟨e0, List.mem_of_getElem? h2, rfl⟩))

/-- 'v, ok := m[k]' at the operation. -/
theorem wpList_look {w : World} {ops : Array Oper} {rest : List Oper} {o : Oper} {a : Act} {Q : Exit → Act → World → Prop}
    (hg : o.guard = none) (m x : Operand) (t : TypeId) (hop : o.op = Op.lookup t m x true)
    {k e : TypeId} {b : Nat} {L : List (Value × Value)} (K : WideMaps.KeyLaw Try.prog k) (ht : Try.prog.underlying t = some (.map k e)) {z : Value} (hz : (zeroValue e).run Try.prog w = .ok z w)
    (hm : a.eval m = .map (some b)) (h : Mp w k b L) (key : Value) {kl : Lit} (hx : a.eval x = key) (hkey : keyOf Try.prog k key = some kl)
    (h0 : (∀ p ∈ L, p.1 ≠ key) → wpList Try.prog ops Q rest (a.put o.dst (.tuple #[z, .bool false])) w)
    (h1 : ∀ p ∈ L, p.1 = key → wpList Try.prog ops Q rest (a.put o.dst (.tuple #[p.2, .bool true])) w) :
    wpList Try.prog ops Q (o :: rest) a w := by
  refine wpList_plain hg fun K' hK' => ?_
  rcases h.look K ht hz hkey with ⟨hr, hn⟩ | ⟨p, hp, he, hr⟩
  · unfold Oper.wp
    simp [execOp, hop, hm, hx, hr, Result.andThen]
    exact hK' _ _ (h0 hn)
  · unfold Oper.wp
    simp [execOp, hop, hm, hx, hr, Result.andThen]
    exact hK' _ _ (h1 p hp he)

/-- 'm[k] = v' at the operation, k being new. -/
theorem wpList_mput {w : World} {ops : Array Oper} {rest : List Oper} {o : Oper} {a : Act} {Q : Exit → Act → World → Prop}
    (hg : o.guard = none) (m x u : Operand) (t : TypeId) (hop : o.op = Op.mapUpdate t m x u)
    {k e : TypeId} {b : Nat} {L : List (Value × Value)} (K : WideMaps.KeyLaw Try.prog k) (ht : Try.prog.underlying t = some (.map k e))
    (hm : a.eval m = .map (some b)) (h : Mp w k b L) (key val : Value) {kl : Lit} (hx : a.eval x = key) (hu : a.eval u = val) (hkey : keyOf Try.prog k key = some kl) (hno : ∀ p ∈ L, p.1 ≠ key)
    (h1 : ∀ w', Mp w' k b (L ++ [(key, val)]) → w.grownBy w' (some b) → w'.heap.size = w.heap.size → wpList Try.prog ops Q rest (a.put o.dst undef) w') :
    wpList Try.prog ops Q (o :: rest) a w := by
  refine wpList_plain hg fun K' hK' => ?_
  obtain ⟨w', hr, r1, r2, r3⟩ := h.store (val := val) K ht hkey hno
  unfold Oper.wp
  simp [execOp, hop, hm, hx, hu, hr, Result.andThen]
  exact hK' _ _ (h1 w' r1 r2 r3)
end Go.Proofs.Ytjmbicaacplolaa
