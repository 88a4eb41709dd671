/- How many nodes are kept. -/
import Derived.Test.YtohfjpahdoodgaaDoorDF3
namespace Go.Proofs.YtohfjpahdoodgaaDoor
open Go.RowKit
set_option linter.unusedSimpArgs false
set_option linter.unusedVariables false

theorem len_le : ∀ (l m : List Nat), l.Nodup → (∀ x ∈ l, x ∈ m) → l.length ≤ m.length
  | [], _, _, _ => Nat.zero_le _
  | x :: l, m, hn, h => by
    obtain ⟨h1, h2⟩ := List.nodup_cons.1 hn
    have hx : x ∈ m := h x List.mem_cons_self
    have := len_le l (m.erase x) h2 fun y hy => (List.mem_erase_of_ne (fun e => h1 (by rw [← e]; exact hy))).2 (h y (List.mem_cons_of_mem _ hy))
    rw [List.length_erase_of_mem hx] at this
    have := List.length_pos_of_mem hx
    rw [List.length_cons]
    omega
/-- Reached from what is pinned. -/
def Pnd (ns : List T3) (pn : Int → Int) (i : Int) : Prop := ∃ p, 1 ≤ pn p ∧ Rc ns [p] i
open Classical in
noncomputable def livL (ns : List T3) (pn : Int → Int) : List Nat := (List.range ns.length).filter fun (i : Nat) => decide (2 ≤ i ∧ Pnd ns pn (i : Int))
noncomputable def livF (ns : List T3) (pn : Int → Int) : Nat := (livL ns pn).length
open Classical in
theorem mem_livL {ns : List T3} {pn : Int → Int} {i : Nat} : i ∈ livL ns pn ↔ i < ns.length ∧ 2 ≤ i ∧ Pnd ns pn (i : Int) := by
  unfold livL; rw [List.mem_filter, List.mem_range, decide_eq_true_eq]
theorem livL_nd (ns : List T3) (pn : Int → Int) : (livL ns pn).Nodup := List.nodup_range.sublist List.filter_sublist
theorem map_nd : ∀ {L : List Int}, L.Nodup → (∀ i ∈ L, 0 ≤ i) → (L.map Int.toNat).Nodup
  | [], _, _ => List.nodup_nil
  | x :: L, h, h0 => by
    obtain ⟨h1, h2⟩ := List.nodup_cons.1 h
    rw [List.map_cons, List.nodup_cons]
    refine ⟨fun hx => ?_, map_nd h2 fun i hi => h0 i (List.mem_cons_of_mem _ hi)⟩
    obtain ⟨y, hy, e⟩ := List.mem_map.1 hx
    have a := h0 x List.mem_cons_self
    have b := h0 y (List.mem_cons_of_mem _ hy)
    have : y = x := by omega
    exact h1 (this ▸ hy)
/-- A list that holds just these, each once, is so long. -/
theorem liv_of {ns : List T3} {pn : Int → Int} {L : List Int} (hnd : L.Nodup) (h : ∀ i, i ∈ L ↔ 2 ≤ i ∧ i.toNat < ns.length ∧ Pnd ns pn i) : L.length = livF ns pn := by
  have h0 : ∀ i ∈ L, 0 ≤ i := fun i hi => by have := ((h i).1 hi).1; omega
  have hm := map_nd hnd h0
  have e : (L.map Int.toNat).length = L.length := List.length_map ..
  refine Nat.le_antisymm ?_ ?_
  · rw [← e]
    refine len_le _ _ hm fun x hx => ?_
    obtain ⟨i, hi, rfl⟩ := List.mem_map.1 hx
    obtain ⟨q1, q2, q3⟩ := (h i).1 hi
    exact mem_livL.2 ⟨q2, by omega, by rwa [Int.toNat_of_nonneg (by omega)]⟩
  · rw [← e]
    refine len_le _ _ (livL_nd ns pn) fun x hx => ?_
    obtain ⟨q1, q2, q3⟩ := mem_livL.1 hx
    exact List.mem_map.2 ⟨(x : Int), (h _).2 ⟨by omega, by simpa using q1, q3⟩, Int.toNat_natCast x⟩
/-- Less that is pinned, fewer. -/
theorem liv_mono {ns : List T3} {pn pn' : Int → Int} (h : ∀ f, 1 ≤ pn f → 1 ≤ pn' f) : livF ns pn ≤ livF ns pn' :=
  len_le _ _ (livL_nd ns pn) fun x hx => by
    obtain ⟨q1, q2, p, q3, q4⟩ := mem_livL.1 hx
    exact mem_livL.2 ⟨q1, q2, p, h p q3, q4⟩
theorem liv_congr {ns : List T3} {pn pn' : Int → Int} (h : ∀ f, 1 ≤ pn f ↔ 1 ≤ pn' f) : livF ns pn = livF ns pn' :=
  Nat.le_antisymm (liv_mono fun f => (h f).1) (liv_mono fun f => (h f).2)

/-- What a walk has met so far: all that is reached from those that have been visited, and no more. -/
structure Wm (vars : Nat) (ns : List T3) (pn : Int → Int) (V : Int → Prop) (s : Vs) : Prop where
  vi : VI ns (fun _ => False) s
  done : ∀ p, V p → p ≤ 1 ∨ p ∈ s.od
  all : ∀ i ∈ s.od, Pnd ns pn i
theorem Wm.start (vars : Nat) (ns : List T3) (pn : Int → Int) : Wm vars ns pn (fun _ => False) (v0F ns.length) :=
  ⟨v0_vi ns, (fun _ h => nomatch h), fun i hi => nomatch hi⟩
theorem Wm.visit {vars : Nat} {ns : List T3} {sp : List Int} {pn : Int → Int} {V : Int → Prop} {s : Vs} (h : Wm vars ns pn V s) (g : Good vars ns sp) {p : Int} (ha : alive ns p) (hp : 1 ≤ pn p) : Wm vars ns pn (fun x => V x ∨ x = p) (visF ns (vars + 1) s p) := by
  obtain ⟨h1, h2, new, h3, h4⟩ := vis_ok g (vars + 1) s p (fun _ => False) h.vi ha (by have := (g.var ha).1; omega) (fun _ h => nomatch h)
  refine ⟨h1, fun x hx => ?_, fun i hi => ?_⟩
  · rcases hx with hx | rfl
    · rcases h.done x hx with q | q
      · exact Or.inl q
      · exact Or.inr (by rw [h3]; exact List.mem_append_left _ q)
    · exact h2
  · rw [h3, List.mem_append] at hi
    rcases hi with q | q
    · exact h.all i q
    · exact ⟨p, hp, h4 i q⟩
theorem VI.closed {ns : List T3} {s : Vs} (h : VI ns (fun _ => False) s) {i : Int} (hi : i ∈ s.od) : ((at3 ns i).2.1 ≤ 1 ∨ (at3 ns i).2.1 ∈ s.od) ∧ ((at3 ns i).2.2 ≤ 1 ∨ (at3 ns i).2.2 ∈ s.od) := by
  obtain ⟨a, b, e⟩ := List.append_of_mem hi
  obtain ⟨h1, h2⟩ := h.kid a i b e
  rw [e]
  exact ⟨h1.imp id fun q => List.mem_append_left _ q, h2.imp id fun q => List.mem_append_left _ q⟩
theorem Wm.len {vars : Nat} {ns : List T3} {pn : Int → Int} {V : Int → Prop} {s : Vs} (h : Wm vars ns pn V s) (hV : ∀ p, 1 ≤ pn p → V p) : s.od.length = livF ns pn := by
  refine liv_of h.vi.nd fun i => ⟨fun hi => ⟨(h.vi.mem i hi).1, (h.vi.mem i hi).2.1.2.1, h.all i hi⟩, fun ⟨h2, _, p, hp, hr⟩ => ?_⟩
  have key : ∀ i, Rc ns [p] i → i ≤ 1 ∨ i ∈ s.od := fun i hr => by
    induction hr with
    | base q => rw [List.mem_singleton.1 q]; exact h.done p (hV p hp)
    | lo _ h2 ih =>
      rcases ih with q | q
      · omega
      · exact (h.vi.closed q).1
    | hi _ h2 ih =>
      rcases ih with q | q
      · omega
      · exact (h.vi.closed q).2
  rcases key i hr with q | q
  · omega
  · exact q
end Go.Proofs.YtohfjpahdoodgaaDoor
