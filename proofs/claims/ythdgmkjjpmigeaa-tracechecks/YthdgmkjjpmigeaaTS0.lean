/- 'append(v, u...)' of lists of lists. -/
import Derived.Test.YthdgmkjjpmigeaaTK3
import Derived.Test.YthdgmkjjpmigeaaTP2
namespace Go.Proofs.Ythdgmkjjpmigeaa
open Go.RowKit
set_option linter.unusedSimpArgs false
set_option linter.unusedVariables false

theorem run_appL_none (w : World) (ty : TypeId) {base : Nat} {v : Value} {n : Nat} {us : List Value} {c : Nat} (hown : w.ownsRow base 51 1 v n us) :
    (Builtin.append_ #[22, 22] ty #[v, .slice none 0 c]).run Try.prog w = .ok v w := by
  obtain ⟨i, hi, hz, hs, hb⟩ := info_any infoList
  rcases hown.2 with ⟨rfl, -⟩ | ⟨g, cap, cur, rfl, hbg, hg, hnc, hcm, hcs, htake⟩
  · simp [Builtin.append_, run_underlying underLists, sizeOf, typeInfo, hi, Builtin.lenOf, Builtin.firstCells]
  · simp [Builtin.append_, run_underlying underLists, sizeOf, typeInfo, hi, Builtin.lenOf, Builtin.firstCells, hnc, storeCells]
theorem Lr.vals {w : World} {r o n k : Nat} {C : List (List Int)} (h : ∀ (i : Nat) x, C[i]? = some x → ∃ u, w.cell? ⟨r, o + i, none⟩ = some u ∧ Sr w u x) : ∃ us : List Value, us.length = C.length ∧ (∀ j u, us[j]? = some u → w.cell? ((⟨r, o, none⟩ : Addr).add j) = some u) ∧ ∀ (i : Nat) u x, us[i]? = some u → C[i]? = some x → Sr w u x := by
  have ea : ∀ j, (⟨r, o, none⟩ : Addr).add j = ⟨r, o + j, none⟩ := fun j => by by_cases hj0 : j = 0 <;> simp [Addr.add, hj0]
  refine ⟨(List.range C.length).map fun i => (w.cell? ⟨r, o + i, none⟩).getD (.bool false), by simp, fun j u hj => ?_, fun i u x hi hx => ?_⟩
  · have hl : j < C.length := by have := (List.getElem?_eq_some_iff.1 hj).1; simpa using this
    obtain ⟨u', h1, -⟩ := h j _ (List.getElem?_eq_getElem hl)
    rw [List.getElem?_map, List.getElem?_range hl] at hj
    injection hj with hj
    simp only [h1] at hj
    rw [ea, h1, ← hj]; rfl
  · have hl : i < C.length := (List.getElem?_eq_some_iff.1 hx).1
    obtain ⟨u', h1, h2⟩ := h i x hx
    rw [List.getElem?_map, List.getElem?_range hl] at hi
    injection hi with hi
    simp only [h1] at hi
    rw [← hi]; exact h2
theorem run_appL {w0 w : World} (ty : TypeId) (hb : Below w0.heap.size w0 w) {v u : Value} {C D : List (List Int)} (hv : Ga 51 w w0.heap.size v C) (hu : Lr w0 u D) (hn : C.length + D.length ≤ 100000) :
    ∃ v' w', (Builtin.append_ #[22, 22] ty #[v, u]).run Try.prog w = .ok v' w' ∧ Lr w' v' (C ++ D) ∧ Below w0.heap.size w0 w' := by
  obtain ⟨i, hi, hz, hs, hbb⟩ := info_any infoList
  obtain ⟨us, hus, hul, hue⟩ := hv.ex
  obtain ⟨a, k, rfl, h2⟩ := hu.ex
  have go : ∀ (ad : Addr) (vs : List Value), vs.length = D.length → (∀ j y, vs[j]? = some y → w.cell? (ad.add j) = some y) → (∀ (i : Nat) y x, vs[i]? = some y → D[i]? = some x → Sr w0 y x) → ∃ v' w', (Builtin.append_ #[22, 22] ty #[v, .slice (some ad) D.length k]).run Try.prog w = .ok v' w' ∧ Lr w' v' (C ++ D) ∧ Below w0.heap.size w0 w' := by
    intro ad vs hl ha hS
    have h1s : ∀ u ∈ vs, u.oneCell' = true := fun y hy => by
      obtain ⟨j, hj⟩ := List.getElem?_of_mem hy
      have hjl : j < D.length := by rw [← hl]; exact (List.getElem?_eq_some_iff.1 hj).1
      obtain ⟨a1, c1, e⟩ := (hS j y _ hj (List.getElem?_eq_getElem hjl)).out
      rw [e]; rfl
    obtain ⟨v', w', h1, h2, h3, -, h5⟩ := run_append_own_at (P := Try.prog) w w0.heap.size 22 ty 51 i _ 1 24 underLists hi hz hs hbb rfl (by decide) v us.length _ hus ad D.length k vs (by omega) ha h1s (by unfold maxLen; omega) (by omega) hb.size
    have hlow : ∀ q, v.ownBlock = some q → w0.heap.size ≤ q := fun q hq => (World.ownsRow.lt hus q hq).1
    have hB : Below w0.heap.size w0 w' := ⟨h3.os.trans hb.os, h3.tape.trans hb.tape, h3.output.trans hb.output, Nat.le_trans hb.size h3.size, fun q hq => (h3.block q (Nat.lt_of_lt_of_le hq hb.size) (fun e => by have := hlow q e.symm; omega)).trans (hb.block q hq)⟩
    refine ⟨v', w', h1, Ga.lr (e := 51) (B := w0.heap.size) ⟨us ++ vs, ?_, by simp [hul, hl], fun i y c hy hc => ?_⟩, hB⟩
    · rw [List.length_append, hl]; exact h2
    · by_cases hi : i < us.length
      · rw [List.getElem?_append_left hi] at hy
        rw [List.getElem?_append_left (by omega)] at hc
        refine (hue i y c hy hc).kept h3.size fun q hq hf => ⟨h3.block q hq (fun e => hf e.symm), fun hf' => ?_⟩
        unfold own at hf hf'
        rcases h5 with e | e
        · rw [e] at hf'; exact hf hf'
        · rw [e] at hf'; injection hf' with hf'; omega
      · rw [List.getElem?_append_right (by omega)] at hy
        rw [List.getElem?_append_right (by omega), ← hul] at hc
        refine Sf.below' (hS _ y c hy hc) hB fun q hq => ?_
        exact World.ownsRow.lt h2 q hq
  rcases h2 with rfl | ⟨r, o, rfl, hr, h2⟩
  · cases a with
    | none =>
      refine ⟨v, w, run_appL_none w ty hus, ?_, hb⟩
      rw [List.append_nil]; exact hv.lr
    | some ad => exact go ad [] rfl (fun j y h => by simp at h) (fun i y x h => by simp at h)
  · obtain ⟨vs, h3, h4, h5⟩ := Lr.vals (n := 0) (k := 0) h2
    refine go ⟨r, o, none⟩ vs h3 (fun j y hy => ?_) h5
    have := h4 j y hy
    exact keep_cell hb this
theorem wpList_appL {w0 w : World} {ops : Array Oper} {rest : List Oper} {o : Oper} {a : Act} {Q : Exit → Act → World → Prop} (hgd : o.guard = none) (s x : Operand)
    (ho : o.op = .call { callee := .builtin .append, args := #[s, x], argTypes := #[22, 22] })
    (hb : Below w0.heap.size w0 w) (v u : Value) {C D : List (List Int)} (hs : a.eval s = v) (hx : a.eval x = u) (hv : Ga 51 w w0.heap.size v C) (hu : Lr w0 u D) (hn : C.length + D.length ≤ 100000)
    (h : ∀ v' w', Lr w' v' (C ++ D) → Below w0.heap.size w0 w' → wpList Try.prog ops Q rest (a.put o.dst v') w') :
    wpList Try.prog ops Q (o :: rest) a w := by
  obtain ⟨v', w', hr, h2, h3⟩ := run_appL o.type hb hv hu hn
  exact wpList_app_eq w hgd s x _ _ ho v u hs hx hr (h v' w' h2 h3)
theorem Lr.nil (w : World) : Lr w (.slice none 0 0) [] := ⟨none, 0, rfl, Or.inl rfl⟩
end Go.Proofs.Ythdgmkjjpmigeaa
