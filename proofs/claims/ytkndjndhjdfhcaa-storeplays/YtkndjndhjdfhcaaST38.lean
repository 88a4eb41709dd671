/- Contracts (the laws): StoreStays. -/
import Derived.Test.YtkndjndhjdfhcaaST37
namespace Go.Proofs.Ytkndjndhjdfhcaa
open Go.RowKit
set_option linter.unusedSimpArgs false
set_option linter.unusedVariables false

/-- The law's memory: a store of its own, the clauses that it took, slices that stay. -/
structure Lw (w0 w : World) (F : Nat → Prop) (s mo : Nat) (C : List (List Int)) (va : Value) (U : List (Value × List Int)) : Prop where
  kn : Kn w0 w F s mo C
  al : Ll w F w0.heap.size va C
  sl : ∀ x ∈ U, Sf w F x.1 x.2
theorem Lw.ch {w0 w w' : World} {F F' : Nat → Prop} {s mo : Nat} {C : List (List Int)} {va : Value} {U : List (Value × List Int)} (h : Lw w0 w F s mo C va U) (hc : Ch w w' F F') (hs : So w' F' s mo C) : Lw w0 w' F' s mo C va U :=
  ⟨h.kn.ch hc hs, h.al.ch hc, fun x hx => (h.sl x hx).ch hc⟩
theorem Lw.below {w0 w w' : World} {F : Nat → Prop} {s mo : Nat} {C : List (List Int)} {va : Value} {U : List (Value × List Int)} (h : Lw w0 w F s mo C va U) (hb : Below w.heap.size w w') : Lw w0 w' F s mo C va U := h.ch (Ch.of_below F hb) (h.kn.so.below hb)
theorem Lw.more {w0 w : World} {F : Nat → Prop} {s mo : Nat} {C : List (List Int)} {va : Value} {U : List (Value × List Int)} (h : Lw w0 w F s mo C va U) {v : Value} {l : List Int} (hv : Sf w F v l) : Lw w0 w F s mo C va ((v, l) :: U) :=
  ⟨h.kn, h.al, fun x hx => by
    rcases List.mem_cons.1 hx with e | e
    · rw [e]; exact hv
    · exact h.sl x e⟩
theorem Lw.get {w0 w : World} {F : Nat → Prop} {s mo : Nat} {C : List (List Int)} {va : Value} {U : List (Value × List Int)} (h : Lw w0 w F s mo C va U) {v : Value} {l : List Int} (hv : (v, l) ∈ U) : Sr w v l := (h.sl _ hv).sr
theorem Sr.up {w0 w : World} {F : Nat → Prop} {v : Value} {l : List Int} (h : Sr w0 v l) (hb : Below w0.heap.size w0 w) (hF : ∀ k, F k → w0.heap.size ≤ k) : Sf w F v l := by
  obtain ⟨a, c, e, h2⟩ := (h.sf hF).ex
  refine ⟨a, c, e, ?_⟩
  rcases h2 with h2 | ⟨r, o, h3, h4, h5, h6⟩
  · exact Or.inl h2
  · exact Or.inr ⟨r, o, h3, Nat.lt_of_lt_of_le h4 hb.size, h5, h6.below (hb.block r h4)⟩
theorem lw_fol {w0 w : World} {F : Nat → Prop} {s mo : Nat} {C : List (List Int)} {va : Value} {U : List (Value × List Int)} (h : Lw w0 w F s mo C va U) {u : Value} {l : List Int} (hu : (u, l) ∈ U) (hl : l.length ≤ 100000) :
    Calls Try.prog 23 #[.pointer (some ⟨s, 0, none⟩), u] w fun ev w' => ∃ (v : Value) (r : Int) (T : List Int), ev = .returned (.tuple #[v, .int .i64 r]) ∧ FolR C l T r ∧ ∃ F', Lw w0 w' F' s mo C va U ∧ Ch w w' F F' ∧ Is' w' w.heap.size v T ∧ ∀ q, v.ownBlock = some q → ¬ F' q := by
  refine (follow_any h.kn.so (h.sl _ hu) hl).mono ?_
  rintro ev w' ⟨v, r, T, rfl, hW, hR⟩
  obtain ⟨F', hS, hC, hv⟩ := hW.ex
  exact ⟨v, r, T, rfl, hR, F', h.ch hC hS, hC, hW.told, hv⟩
/-- What was told is copied, and spoiled. -/
theorem lw_spoil {w0 w w1 w2 w3 : World} {F F1 : Nat → Prop} {s mo : Nat} {C : List (List Int)} {va : Value} {U : List (Value × List Int)} {v u : Value} {T : List Int} (h : Lw w0 w F s mo C va U) (h1 : Lw w0 w1 F1 s mo C va U) (hc : Ch w w1 F F1) (hv : Is' w1 w.heap.size v T) (hn : ∀ q, v.ownBlock = some q → ¬ F1 q)
    (hu : Is' w2 w1.heap.size u T) (hb : Below w1.heap.size w1 w2) (hg : w2.grownBy w3 v.ownBlock) (hz : w3.heap.size = w2.heap.size) : Lw w0 w3 F1 s mo C va ((u, T) :: U) := by
  have hz1 := hc.size
  have hz2 := hb.size
  have hg' := hg
  have hlow : ∀ q, v.ownBlock = some q → w.heap.size ≤ q ∧ q < w1.heap.size := fun q e => World.ownsRow.lt hv q e
  have hS3 : So w3 F1 s mo C := (h1.kn.so.below hb).kept (by omega) fun k hk hf => hg'.block k hk fun e => hn k e.symm hf
  have hc3 : Ch w w3 F F1 := by
    have hc2 := hc.trans (Ch.of_below F1 hb)
    exact ⟨hg'.os.trans hc2.os, hg'.tape.trans hc2.tape, hg'.output.trans hc2.output, by rw [hz]; exact hc2.size, fun k hk hf => (hg'.block k (by omega) fun e => by have := hlow k e.symm; omega).trans (hc2.block k hk hf), fun k hk => by
      rw [hz]; exact hc2.foot k hk⟩
  have hu3 : Is' w3 w1.heap.size u T := row_own hu fun q e => hg'.block q (World.ownsRow.lt hu q e).2 fun e2 => by
    have := hlow q e2.symm; have := (World.ownsRow.lt hu q e).1; omega
  exact (h.ch hc3 hS3).more (hu3.sf_low h1.kn.so.lt)
theorem set12_le (c : List Int) : (set12 c).length ≤ c.length := by
  unfold set12
  split
  · exact setF_le c
  · exact Nat.zero_le _
theorem len_sum {L : List (List Int)} {x : List Int} (h : x ∈ L) : x.length ≤ (L.map List.length).sum := by
  induction L with
  | nil => cases h
  | cons y L ih =>
    rw [List.map_cons, List.sum_cons]
    rcases List.mem_cons.1 h with rfl | h
    · omega
    · have := ih h; omega
theorem nodup_sub : ∀ {T S : List Int}, T.Nodup → (∀ x ∈ T, x ∈ S) → T.length ≤ S.length
  | [], _, _, _ => Nat.zero_le _
  | x :: T, S, hn, hs => by
    rw [List.nodup_cons] at hn
    have h1 : x ∈ S := hs x (List.mem_cons_self ..)
    have h2 := nodup_sub (S := S.erase x) hn.2 fun y hy => (List.mem_erase_of_ne (a := y) (b := x) (fun e => hn.1 (by rw [← e]; exact hy))).2 (hs y (List.mem_cons_of_mem _ hy))
    rw [List.length_erase_of_mem h1] at h2
    have := List.length_pos_of_mem h1
    rw [List.length_cons]; omega
theorem fol_len {C : List (List Int)} {lits T : List Int} {r : Int} (h : FolR C lits T r) : T.length ≤ lits.length + C.flatten.length := by
  obtain ⟨k, hk, hd, hL, hn, -⟩ := h
  rw [← List.length_append]
  refine nodup_sub hn fun x hx => ?_
  obtain ⟨i, hi⟩ := List.getElem?_of_mem hx
  rw [List.mem_append]
  rcases hd i x hi with h1 | ⟨c, h1, h2, -⟩
  · exact Or.inl (take_mem h1)
  · exact Or.inr (List.mem_flatten.2 ⟨c, h1, h2⟩)
theorem addF_flat (mo : Nat) (C : List (List Int)) (c : List Int) : (addF mo C c).2.2.flatten.length ≤ C.flatten.length + c.length := by
  cases Classical.em ((addF mo C c).2.1 = 0) with
  | inl h =>
    rw [(addF_ok h).2, List.flatten_append, List.length_append]
    have := len_dd c
    simp; omega
  | inr h => rw [addF_no h]; omega
theorem addsF_flat (mo : Nat) : ∀ (L C : List (List Int)), (L.foldl (fun C c => (addF mo C c).2.2) C).flatten.length ≤ C.flatten.length + (L.map List.length).sum
  | [], C => Nat.le_refl _
  | c :: L, C => by
    have h1 := addsF_flat mo L (addF mo C c).2.2
    have h2 := addF_flat mo C c
    rw [List.foldl_cons, List.map_cons, List.sum_cons]
    omega
theorem madeF_flat (L : List (List Int)) : (madeF L).flatten.length ≤ (L.map List.length).sum := by
  have := addsF_flat 262144 L []
  unfold madeF
  simpa using this
end Go.Proofs.Ytkndjndhjdfhcaa
