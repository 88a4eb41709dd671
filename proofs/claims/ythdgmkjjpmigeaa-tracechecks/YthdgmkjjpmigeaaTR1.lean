/- Contracts (traces): lists of lists: read, gathered, counted. -/
import Derived.Test.YthdgmkjjpmigeaaST2
namespace Go.Proofs.Ythdgmkjjpmigeaa
open Go.RowKit
set_option linter.unusedSimpArgs false
set_option linter.unusedVariables false

structure Lr (w : World) (v : Value) (C : List (List Int)) : Prop where
  ex : ∃ a c, v = .slice a C.length c ∧ (C = [] ∨ ∃ r o, a = some ⟨r, o, none⟩ ∧ r < w.heap.size ∧ ∀ (i : Nat) x, C[i]? = some x → ∃ u, w.cell? ⟨r, o + i, none⟩ = some u ∧ Sr w u x)
theorem Lr.below {w w' : World} {v : Value} {C : List (List Int)} (h : Lr w v C) (hb : Below w.heap.size w w') : Lr w' v C := by
  obtain ⟨a, c, e, h2⟩ := h.ex
  refine ⟨a, c, e, ?_⟩
  rcases h2 with h2 | ⟨r, o, h3, h4, h5⟩
  · exact Or.inl h2
  · refine Or.inr ⟨r, o, h3, Nat.lt_of_lt_of_le h4 hb.size, fun i x hx => ?_⟩
    obtain ⟨u, h6, h7⟩ := h5 i x hx
    exact ⟨u, bel_cell hb h4 h6, h7.below hb⟩
theorem Lr.out {w : World} {v : Value} {C : List (List Int)} (h : Lr w v C) : ∃ a c, v = .slice a C.length c := by
  obtain ⟨a, c, e, -⟩ := h.ex
  exact ⟨a, c, e⟩
theorem Lr.at' {w : World} {a : Option Addr} {n c : Nat} {C : List (List Int)} (h : Lr w (.slice a n c) C) {k : Nat} {x : List Int} (hx : C[k]? = some x) : ∃ r o u, a = some ⟨r, o, none⟩ ∧ w.cell? ⟨r, o + k, none⟩ = some u ∧ Sr w u x := by
  obtain ⟨a', c', e, h2⟩ := h.ex
  injection e with e1
  subst e1
  rcases h2 with h2 | ⟨r, o, h3, -, h5⟩
  · rw [h2] at hx; simp at hx
  · obtain ⟨u, h6, h7⟩ := h5 k x hx
    exact ⟨r, o, u, h3, h6, h7⟩
theorem sum_take {C : List (List Int)} {k : Nat} {x : List Int} (h : C[k]? = some x) : ((C.take (k + 1)).map List.length).sum = ((C.take k).map List.length).sum + x.length := by
  rw [List.take_add_one, h]; simp
set_option maxRecDepth 20000 in
set_option maxHeartbeats 6400000 in
theorem size_any {w : World} {v : Value} {C : List (List Int)} (h : Lr w v C) (hl : C.length ≤ 70368744177664) (hc : ∀ x ∈ C, x.length ≤ 70368744177664) {most : Int} (hm0 : 0 ≤ most) (hm : most ≤ 1000000) :
    Calls Try.prog 32 #[v, .int .i64 most] w fun ev w' => (∃ z : Int, ev = .returned (.int .i64 z) ∧ (z ≤ most → z = (C.length : Int) + ((C.map List.length).sum : Int))) ∧ w' = w := by
  obtain ⟨a, c, rfl⟩ := h.out
  obtain ⟨n, hn⟩ : ∃ n, n = C.length := ⟨_, rfl⟩
  have HC : Hid _ := h
  have HCC : Hid _ := hc
  have HN : Hid _ := hn
  rw [← hn] at hl HC ⊢
  clear h hc hn
  go_enter Try.func32, Try.ntmps32
  go_wp2_with fail
  go_loopw [5, 6] (fun q i wr => ∃ (k : Nat) (z : Nat), k ≤ n ∧ q = .int .i64 (z : Int) ∧ i = .int .i64 (k : Int) ∧ z ≤ 140737488355328 ∧ Hid (z = n + ((C.take k).map List.length).sum) ∧ w = wr) (fun q i wr => n - (intOf i).toNat)
  case atStart => exact ⟨0, n, Nat.zero_le _, rfl, rfl, by omega, by show n = n + _; simp, rfl⟩
  case round =>
    obtain ⟨k, z, hk, rfl, rfl, hz, hH, rfl⟩ := hrel
    by_cases hlt : k < n
    · have hltI : (k : Int) < (n : Int) := by omega
      have hltd : decide ((k : Int) < (n : Int)) = true := decide_eq_true hltI
      by_cases hzm : (z : Int) ≤ most
      · have hzd : decide ((z : Int) ≤ most) = true := decide_eq_true hzm
        obtain ⟨x, hx⟩ : ∃ x, C[k]? = some x := ⟨_, List.getElem?_eq_getElem (by rw [← HN.out]; exact hlt)⟩
        obtain ⟨r, o, u, rfl, hcu, hSr⟩ := HC.out.at' hx
        have hxl := HCC.out x (List.mem_of_getElem? hx)
        have HST : Hid _ := sum_take hx
        obtain ⟨au, cu, hue⟩ := hSr.out
        obtain ⟨nx, hnx⟩ : ∃ n, n = x.length := ⟨_, rfl⟩
        rw [← hnx] at hue hxl
        subst hue
        have HNX : Hid _ := hnx
        clear hx hSr hnx
        go_wp2_with fail
        refine ⟨⟨k + 1, z + nx, by omega, by go_num, by go_num, by omega, ?_, by first | rfl | trivial⟩, by simp [intOf]; omega⟩
        show z + nx = n + _
        rw [HST.out, hH.out, HNX.out]; omega
      · have hzd : decide ((z : Int) ≤ most) = false := decide_eq_false hzm
        go_wp2_with fail
        go_ret
        exact ⟨⟨_, rfl, fun h => absurd h (by omega)⟩, rfl⟩
    · obtain rfl : k = n := by omega
      have hltI : ¬ (k : Int) < (k : Int) := by omega
      have hltd : decide ((k : Int) < (k : Int)) = false := decide_eq_false hltI
      have HE : Hid ((z : Int) = (k : Int) + ((C.map List.length).sum : Int)) := by
        have := hH.out
        rw [HN.out, List.take_length, ← HN.out] at this
        unfold Hid
        omega
      go_wp2_with fail
      go_ret
      exact ⟨⟨_, rfl, fun _ => HE.out⟩, rfl⟩

/-- A slice of these numbers, in no block of F. -/
structure Sf (w : World) (F : Nat → Prop) (v : Value) (l : List Int) : Prop where
  ex : ∃ a c, v = .slice a l.length c ∧ (l = [] ∨ ∃ r o, a = some ⟨r, o, none⟩ ∧ r < w.heap.size ∧ ¬ F r ∧ Li w r o l)
theorem Sf.sr {w : World} {F : Nat → Prop} {v : Value} {l : List Int} (h : Sf w F v l) : Sr w v l := by
  obtain ⟨a, c, e, h2⟩ := h.ex
  refine ⟨a, c, e, ?_⟩
  rcases h2 with h2 | ⟨r, o, h3, h4, -, h6⟩
  · exact Or.inl h2
  · exact Or.inr ⟨r, o, h3, h4, h6⟩
theorem Is'.sf {w : World} {B : Nat} {F : Nat → Prop} {v : Value} {l : List Int} (h : Is' w B v l) (hF : ∀ q, F q → q < B) : Sf w F v l := by
  obtain ⟨a, c, e, h2⟩ := h.sr.ex
  refine ⟨a, c, e, ?_⟩
  by_cases hl : l = []
  · exact Or.inl hl
  · obtain ⟨r, cap, e', hb, -, hL⟩ := h.li hl
    rw [e] at e'
    injection e' with e1
    exact Or.inr ⟨r, 0, e1, (World.ownsRow.lt h r (by rw [e, e1]; rfl)).2, fun hf => by have := hF r hf; omega, hL⟩
/-- The block of a row of the call's own. -/
def own (v : Value) (q : Nat) : Prop := v.ownBlock = some q
/-- Lists that are gathered in a row of elements e (a slice each). -/
structure Ga (e : TypeId) (w : World) (B : Nat) (v : Value) (C : List (List Int)) : Prop where
  ex : ∃ us, w.ownsRow B e 1 v us.length us ∧ us.length = C.length ∧ ∀ (i : Nat) u c, us[i]? = some u → C[i]? = some c → Sf w (own v) u c
theorem Ga.nil (e : TypeId) (w : World) (B : Nat) : Ga e w B (.slice none 0 0) [] := ⟨[], World.ownsRow_nil _ _ _ _, rfl, fun i u c hu => by simp at hu⟩
theorem Sf.kept {w w' : World} {F F' : Nat → Prop} {v : Value} {l : List Int} (h : Sf w F v l) (hs : w.heap.size ≤ w'.heap.size) (hb : ∀ q, q < w.heap.size → ¬ F q → w'.heap[q]? = w.heap[q]? ∧ ¬ F' q) : Sf w' F' v l := by
  obtain ⟨a, c, e, h2⟩ := h.ex
  refine ⟨a, c, e, ?_⟩
  rcases h2 with h2 | ⟨r, o, h3, h4, h5, h6⟩
  · exact Or.inl h2
  · exact Or.inr ⟨r, o, h3, Nat.lt_of_lt_of_le h4 hs, (hb r h4 h5).2, h6.below (hb r h4 h5).1⟩
theorem Sf.below {w w' : World} {F : Nat → Prop} {v : Value} {l : List Int} (h : Sf w F v l) (hb : Below w.heap.size w w') : Sf w' F v l := h.kept hb.size fun q hq hf => ⟨hb.block q hq, hf⟩
theorem Ga.below {e : TypeId} {w w' : World} {B : Nat} {v : Value} {C : List (List Int)} (h : Ga e w B v C) (hb : Below w.heap.size w w') : Ga e w' B v C := by
  obtain ⟨us, h1, h2, h3⟩ := h.ex
  exact ⟨us, row_kept h1 hb.block, h2, fun i u c hu hc => (h3 i u c hu hc).below hb⟩
theorem Ga.sl {e : TypeId} {w : World} {B : Nat} {v : Value} {C : List (List Int)} (h : Ga e w B v C) : ∃ a c, v = .slice a C.length c := by
  obtain ⟨us, h1, h2, -⟩ := h.ex
  obtain ⟨a, c, e⟩ := own_slice h1
  exact ⟨a, c, by rw [e, h2]⟩
theorem grown_of {w w1 : World} {o : Obj} {row : Option Nat} (hg : (w.alloc o).grownBy w1 row) : w.grownBy w1 row :=
  ⟨hg.os, hg.tape, hg.output, by have := hg.size; rw [size_alloc'] at this; omega, fun q hq hn => (hg.block q (by rw [size_alloc']; omega) hn).trans (heap_alloc_old _ _ hq)⟩
/-- One more list is gathered. -/
theorem Ga.app {e : TypeId} {w w2 : World} {B : Nat} {v v' u : Value} {C : List (List Int)} {c : List Int} {o : Obj} {us : List Value} (h2 : us.length = C.length) (h3 : ∀ (i : Nat) u c, us[i]? = some u → C[i]? = some c → Sf w (own v) u c) (hu : Sf w (own v) u c) (hg : (w.alloc o).grownBy w2 v.ownBlock)
    (hrow : w2.ownsRow B e 1 v' (us.length + 1) (us ++ [u])) (hat : v'.ownBlock = v.ownBlock ∨ v'.ownBlock = some (w.alloc o).heap.size) : Ga e w2 B v' (C ++ [c]) := by
  have hg' := grown_of hg
  have hmv : ∀ {x : Value} {y : List Int}, Sf w (own v) x y → Sf w2 (own v') x y := fun hx => hx.kept hg'.size fun q hq hf => ⟨hg'.block q hq fun e => hf e.symm, fun e => by
    rcases hat with e2 | e2
    · exact hf (e2.symm.trans e)
    · unfold own at e
      rw [e2, size_alloc'] at e
      injection e with e
      omega⟩
  refine ⟨us ++ [u], by rw [List.length_append]; exact hrow, by simp [h2], fun i y c' hy hc' => ?_⟩
  by_cases hi : i < us.length
  · rw [List.getElem?_append_left hi] at hy
    rw [List.getElem?_append_left (by omega)] at hc'
    exact hmv (h3 i y c' hy hc')
  · have hil := (List.getElem?_eq_some_iff.1 hy).1
    rw [List.length_append] at hil
    have hie : i = us.length := by simp at hil; omega
    subst hie
    rw [List.getElem?_append_right (Nat.le_refl _), Nat.sub_self] at hy
    rw [h2, List.getElem?_append_right (Nat.le_refl _), Nat.sub_self] at hc'
    obtain rfl : c = c' := by simpa using hc'
    obtain rfl : u = y := by simpa using hy
    exact hmv hu
theorem Ga.lr {e : TypeId} {w : World} {B : Nat} {v : Value} {C : List (List Int)} (h : Ga e w B v C) : Lr w v C := by
  obtain ⟨us, h1, h2, h3⟩ := h.ex
  obtain ⟨a, c, hv⟩ := h.sl
  refine ⟨a, c, hv, ?_⟩
  rcases h1.2 with ⟨e, h0⟩ | ⟨g, cap, cur, e, hb, hg, hc, hm, hs, ht⟩
  · exact Or.inl (List.eq_nil_of_length_eq_zero (by omega))
  · rw [hv] at e
    injection e with e1
    refine Or.inr ⟨g, 0, e1, (Array.getElem?_eq_some_iff.1 hg).1, fun i x hx => ?_⟩
    have hi := (List.getElem?_eq_some_iff.1 hx).1
    have hiu : i < us.length := by omega
    refine ⟨us[i], ?_, (h3 i us[i] x (List.getElem?_eq_getElem hiu) hx).sr⟩
    have h6 : (cur.toList.take (us.length * 1))[i]? = some us[i] := by rw [ht]; exact List.getElem?_eq_getElem hiu
    rw [List.getElem?_take_of_lt (by omega)] at h6
    rw [Nat.zero_add]
    exact cell_of hg _ (by simpa using h6)
theorem own_sl {w : World} {B : Nat} {e : TypeId} {sz : Nat} {v : Value} {n : Nat} {xs : List Value} (h : w.ownsRow B e sz v n xs) : ∃ a m k, v = .slice a m k ∧ Hid (m = n) := by
  obtain ⟨a, k, e⟩ := own_slice h
  exact ⟨a, n, k, e, rfl⟩
theorem Sr.sl {w : World} {v : Value} {l : List Int} (h : Sr w v l) : ∃ a m k, v = .slice a m k ∧ Hid (m = l.length) := by
  obtain ⟨a, k, e⟩ := h.out
  exact ⟨a, _, k, e, rfl⟩
theorem Ga.low {e : TypeId} {w : World} {B : Nat} {v : Value} {C : List (List Int)} (h : Ga e w B v C) : ∀ q, v.ownBlock = some q → B ≤ q ∧ q < w.heap.size := fun q hq => by
  obtain ⟨us, h1, -⟩ := h.ex
  exact h1.lt q hq
theorem underSteps : Try.prog.underlying 26 = some (.slice 57) := by kernel_rfl
theorem infoStep : (Try.prog.info? 57).map (fun i => (i.zero, i.size, i.bytes)) = some (some (.agg #[.slice none 0 0]), 1, 24) := by kernel_rfl

/-- What lies in the call's first world lies in none of its own blocks. -/
theorem Sf.below' {w wr : World} {v u : Value} {x : List Int} (h : Sr w u x) (hb : Below w.heap.size w wr) (hl : ∀ q, v.ownBlock = some q → w.heap.size ≤ q ∧ q < wr.heap.size) : Sf wr (own v) u x := by
  obtain ⟨a, c, e, h2⟩ := h.ex
  refine ⟨a, c, e, ?_⟩
  rcases h2 with h2 | ⟨r, o, h3, h4, h5⟩
  · exact Or.inl h2
  · exact Or.inr ⟨r, o, h3, Nat.lt_of_lt_of_le h4 hb.size, fun hf => by have := (hl r hf).1; omega, h5.below (hb.block r h4)⟩
theorem Lr.old {w wr : World} {r o n c k : Nat} {C : List (List Int)} {x : List Int} {u : Value} (h : Lr w (.slice (some ⟨r, o, none⟩) n c) C) (hx : C[k]? = some x) (hb : Below w.heap.size w wr) (hc : wr.cell? ⟨r, o + k, none⟩ = some u) : Sr w u x := by
  obtain ⟨r', o', u', e1, e2, e3⟩ := h.at' hx
  injection e1 with e1
  injection e1 with e1 e4
  subst e1 e4
  have h2 := bel_cell hb (World.block_lt_of_cell? _ _ e2) e2
  rw [hc] at h2
  injection h2 with h2
  rw [h2]; exact e3
end Go.Proofs.Ythdgmkjjpmigeaa
