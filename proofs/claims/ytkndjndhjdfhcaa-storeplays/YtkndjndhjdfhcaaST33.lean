/- Contracts (the law's helps): lists of lists; Size, Spoil, Place. -/
import Derived.Test.YtkndjndhjdfhcaaST32
namespace Go.Proofs.Ytkndjndhjdfhcaa
open Go.RowKit
set_option linter.unusedSimpArgs false
set_option linter.unusedVariables false

/-- v is a slice of slices of these numbers. -/
structure Lr (w : World) (v : Value) (C : List (List Int)) : Prop where
  ex : ∃ a c, v = .slice a C.length c ∧ (C = [] ∨ ∃ r o, a = some ⟨r, o, none⟩ ∧ r < w.heap.size ∧ ∀ (i : Nat) x, C[i]? = some x → ∃ u, w.cell? ⟨r, o + i, none⟩ = some u ∧ Sr w u x)
theorem Lr.below {w w' : World} {v : Value} {C : List (List Int)} (h : Lr w v C) (hb : Below w.heap.size w w') : Lr w' v C := by
  obtain ⟨a, c, e, h2⟩ := h.ex
  refine ⟨a, c, e, ?_⟩
  rcases h2 with h2 | ⟨r, o, h3, h4, h5⟩
  · exact Or.inl h2
  · refine Or.inr ⟨r, o, h3, Nat.lt_of_lt_of_le h4 hb.size, fun i x hx => ?_⟩
    obtain ⟨u, h6, h7⟩ := h5 i x hx
    exact ⟨u, bel_cell hb h4 h6, h7.below hb⟩
theorem Lr.out {w : World} {v : Value} {C : List (List Int)} (h : Lr w v C) : ∃ a c, v = .slice a C.length c := by
  obtain ⟨a, c, e, -⟩ := h.ex
  exact ⟨a, c, e⟩
theorem Lr.at' {w : World} {a : Option Addr} {n c : Nat} {C : List (List Int)} (h : Lr w (.slice a n c) C) {k : Nat} {x : List Int} (hx : C[k]? = some x) : ∃ r o u, a = some ⟨r, o, none⟩ ∧ w.cell? ⟨r, o + k, none⟩ = some u ∧ Sr w u x := by
  obtain ⟨a', c', e, h2⟩ := h.ex
  injection e with e1
  subst e1
  rcases h2 with h2 | ⟨r, o, h3, -, h5⟩
  · rw [h2] at hx; simp at hx
  · obtain ⟨u, h6, h7⟩ := h5 k x hx
    exact ⟨r, o, u, h3, h6, h7⟩
theorem sum_take {C : List (List Int)} {k : Nat} {x : List Int} (h : C[k]? = some x) : ((C.take (k + 1)).map List.length).sum = ((C.take k).map List.length).sum + x.length := by
  rw [List.take_add_one, h]; simp
set_option maxRecDepth 20000 in
set_option maxHeartbeats 6400000 in
theorem size_any {w : World} {v : Value} {C : List (List Int)} (h : Lr w v C) (hl : C.length ≤ 70368744177664) (hc : ∀ x ∈ C, x.length ≤ 70368744177664) {most : Int} (hm0 : 0 ≤ most) (hm : most ≤ 1000000) :
    Calls Try.prog 10 #[v, .int .i64 most] w fun ev w' => (∃ z : Int, ev = .returned (.int .i64 z) ∧ (z ≤ most → z = (C.length : Int) + ((C.map List.length).sum : Int))) ∧ w' = w := by
  obtain ⟨a, c, rfl⟩ := h.out
  obtain ⟨n, hn⟩ : ∃ n, n = C.length := ⟨_, rfl⟩
  have HC : Hid _ := h
  have HCC : Hid _ := hc
  have HN : Hid _ := hn
  rw [← hn] at hl HC ⊢
  clear h hc hn
  go_enter Try.func10, Try.ntmps10
  go_wp2_with fail
  go_loopw [5, 6] (fun q i wr => ∃ (k : Nat) (z : Nat), k ≤ n ∧ q = .int .i64 (z : Int) ∧ i = .int .i64 (k : Int) ∧ z ≤ 140737488355328 ∧ Hid (z = n + ((C.take k).map List.length).sum) ∧ w = wr) (fun q i wr => n - (intOf i).toNat)
  case atStart => exact ⟨0, n, Nat.zero_le _, rfl, rfl, by omega, by show n = n + _; simp, rfl⟩
  case round =>
    obtain ⟨k, z, hk, rfl, rfl, hz, hH, rfl⟩ := hrel
    by_cases hlt : k < n
    · have hltI : (k : Int) < (n : Int) := by omega
      have hltd : decide ((k : Int) < (n : Int)) = true := decide_eq_true hltI
      by_cases hzm : (z : Int) ≤ most
      · have hzd : decide ((z : Int) ≤ most) = true := decide_eq_true hzm
        obtain ⟨x, hx⟩ : ∃ x, C[k]? = some x := ⟨_, List.getElem?_eq_getElem (by rw [← HN.out]; exact hlt)⟩
        obtain ⟨r, o, u, rfl, hcu, hSr⟩ := HC.out.at' hx
        have hxl := HCC.out x (List.mem_of_getElem? hx)
        have HST : Hid _ := sum_take hx
        obtain ⟨au, cu, hue⟩ := hSr.out
        obtain ⟨nx, hnx⟩ : ∃ n, n = x.length := ⟨_, rfl⟩
        rw [← hnx] at hue hxl
        subst hue
        have HNX : Hid _ := hnx
        clear hx hSr hnx
        go_wp2_with fail
        refine ⟨⟨k + 1, z + nx, by omega, by go_num, by go_num, by omega, ?_, by first | rfl | trivial⟩, by simp [intOf]; omega⟩
        show z + nx = n + _
        rw [HST.out, hH.out, HNX.out]; omega
      · have hzd : decide ((z : Int) ≤ most) = false := decide_eq_false hzm
        go_wp2_with fail
        go_ret
        exact ⟨⟨_, rfl, fun h => absurd h (by omega)⟩, rfl⟩
    · obtain rfl : k = n := by omega
      have hltI : ¬ (k : Int) < (k : Int) := by omega
      have hltd : decide ((k : Int) < (k : Int)) = false := decide_eq_false hltI
      have HE : Hid ((z : Int) = (k : Int) + ((C.map List.length).sum : Int)) := by
        have := hH.out
        rw [HN.out, List.take_length, ← HN.out] at this
        unfold Hid
        omega
      go_wp2_with fail
      go_ret
      exact ⟨⟨_, rfl, fun _ => HE.out⟩, rfl⟩
set_option maxRecDepth 20000 in
set_option maxHeartbeats 6400000 in
theorem spoil_any {w : World} {B : Nat} {u : Value} {l : List Int} (h : Is' w B u l) (hl : l.length ≤ 1000000) :
    Calls Try.prog 16 #[u] w fun ev w' => ev = .returned (.tuple #[]) ∧ w.grownBy w' u.ownBlock ∧ w'.heap.size = w.heap.size := by
  obtain ⟨a, c, rfl⟩ := own_slice h
  obtain ⟨n, hn⟩ : ∃ n, n = l.length := ⟨_, rfl⟩
  have HN : Hid _ := hn
  rw [← hn] at h hl ⊢
  have HC : Hid (Is' w B (.slice a n c) l) := h
  clear h hn
  go_enter Try.func16, Try.ntmps16
  go_wp2_with fail
  go_loopw [2] (fun i wr => ∃ (k : Nat) (l' : List Int), k ≤ n ∧ i = .int .i64 (k : Int) ∧ Hid (l'.length = n ∧ Is' wr B (.slice a n c) l' ∧ w.grownBy wr (Value.slice a n c).ownBlock ∧ wr.heap.size = w.heap.size)) (fun i wr => n - (intOf i).toNat)
  case atStart => exact ⟨0, l, Nat.zero_le _, rfl, HN.out.symm, HC.out, ⟨rfl, rfl, rfl, Nat.le_refl _, fun _ _ _ => rfl⟩, rfl⟩
  case round =>
    obtain ⟨k, l', hk, rfl, hH⟩ := hrel
    by_cases hlt : k < n
    · have hltI : (k : Int) < (n : Int) := by omega
      have hne : l' ≠ [] := by
        intro e
        have := hH.out.1
        rw [e] at this; simp at this; omega
      obtain ⟨r, cap, e, -⟩ := hH.out.2.1.li hne
      injection e with e1 e2 e3
      subst e1
      obtain ⟨⟨u5, g2⟩, g3, g4⟩ := Is'.put hH.out.2.1 (j := k) (by rw [hH.out.1]; exact hlt)
      have hrl : r < wr.heap.size := World.block_lt_of_cell? _ _ g2
      have HG : Hid _ := (g4 (-7777)).1
      clear g4
      go_wp2_with fail
      refine ⟨⟨k + 1, l'.set k (-7777), by omega, by go_num, by rw [List.length_set]; exact hH.out.1, HG.out, ?_, by rw [World.size_setCell]; exact hH.out.2.2.2⟩, by simp [intOf]; omega⟩
      have hg := hH.out.2.2.1
      refine ⟨hg.os, hg.tape, hg.output, by rw [World.size_setCell]; exact hg.size, fun q hq hn2 => ?_⟩
      exact (heap_setCell_other wr ⟨r, k, none⟩ q _ (fun (e : q = r) => hn2 (by rw [e]; rfl))).trans (hg.block q hq hn2)
    · obtain rfl : k = n := by omega
      have hltI : ¬ (k : Int) < (k : Int) := by omega
      go_wp2_with fail
      go_end0
      exact ⟨rfl, hH.out.2.2.1, hH.out.2.2.2⟩
/-- Lists of numbers that were gathered: all of it lies from B on, in no block of F. -/
structure Ll (w : World) (F : Nat → Prop) (B : Nat) (v : Value) (C : List (List Int)) : Prop where
  ex : ∃ us, w.ownsRow B 27 1 v us.length us ∧ us.length = C.length ∧ (∀ (i : Nat) u c, us[i]? = some u → C[i]? = some c → Is' w B u c ∧ ∀ q, u.ownBlock = some q → ¬ F q) ∧ ∀ q, v.ownBlock = some q → ¬ F q
theorem Ll.nil (w : World) (F : Nat → Prop) (B : Nat) : Ll w F B (.slice none 0 0) [] := ⟨[], World.ownsRow_nil _ _ _ _, rfl, (fun i u c hu => by simp at hu), (fun q e => by cases e)⟩
theorem Ll.ch {w w' : World} {F F' : Nat → Prop} {B : Nat} {v : Value} {C : List (List Int)} (h : Ll w F B v C) (hc : Ch w w' F F') : Ll w' F' B v C := by
  obtain ⟨us, h1, h2, h3, h4⟩ := h.ex
  have hno : ∀ q, ¬ F q → q < w.heap.size → ¬ F' q := fun q hn hq hf => by
    rcases hc.foot q hf with h5 | ⟨h5, -⟩
    · exact hn h5
    · omega
  refine ⟨us, row_own h1 (fun q e => hc.block q (h1.lt q e).2 (h4 q e)), h2, fun i u c hu hc' => ?_, fun q e => hno q (h4 q e) (h1.lt q e).2⟩
  obtain ⟨h5, h6⟩ := h3 i u c hu hc'
  exact ⟨row_own h5 (fun q e => hc.block q (World.ownsRow.lt h5 q e).2 (h6 q e)), fun q e => hno q (h6 q e) (World.ownsRow.lt h5 q e).2⟩
theorem Ll.at' {w : World} {F : Nat → Prop} {B : Nat} {a : Option Addr} {n c : Nat} {C : List (List Int)} (h : Ll w F B (.slice a n c) C) {k : Nat} {x : List Int} (hx : C[k]? = some x) : ∃ r u, a = some ⟨r, 0, none⟩ ∧ w.cell? ⟨r, k, none⟩ = some u ∧ Is' w B u x := by
  obtain ⟨us, h1, h2, h3, -⟩ := h.ex
  have hk := (List.getElem?_eq_some_iff.1 hx).1
  have hku : k < us.length := by omega
  obtain ⟨h5, -⟩ := h3 k us[k] x (List.getElem?_eq_getElem hku) hx
  rcases h1.2 with ⟨e, h0⟩ | ⟨g, cap, cur, e, hb, hg, hc, hm, hs, ht⟩
  · omega
  · injection e with e1 e2 e3
    refine ⟨g, us[k], e1, ?_, h5⟩
    have h6 : (cur.toList.take (us.length * 1))[k]? = some us[k] := by rw [ht]; exact List.getElem?_eq_getElem hku
    rw [List.getElem?_take_of_lt (by omega)] at h6
    exact cell_of hg _ (by simpa using h6)
theorem Ll.sl {w : World} {F : Nat → Prop} {B : Nat} {v : Value} {C : List (List Int)} (h : Ll w F B v C) : ∃ a c, v = .slice a C.length c := by
  obtain ⟨us, h1, h2, -⟩ := h.ex
  obtain ⟨a, c, e⟩ := own_slice h1
  exact ⟨a, c, by rw [e, h2]⟩
/-- One more list is gathered. -/
theorem Ll.app {w w2 : World} {F : Nat → Prop} {B : Nat} {v v' u : Value} {C : List (List Int)} {c : List Int} {o : Obj} {us : List Value} (hx : w.ownsRow B 27 1 v us.length us ∧ us.length = C.length ∧ (∀ (i : Nat) u c, us[i]? = some u → C[i]? = some c → Is' w B u c ∧ ∀ q, u.ownBlock = some q → ¬ F q) ∧ ∀ q, v.ownBlock = some q → ¬ F q) (hlt : ∀ q, F q → q < w.heap.size) (hu : Is' w B u c) (huF : ∀ q, u.ownBlock = some q → ¬ F q) (hg : (w.alloc o).grownBy w2 v.ownBlock)
    (hrow : w2.ownsRow B 27 1 v' (us.length + 1) (us ++ [u])) (hat : v'.ownBlock = v.ownBlock ∨ v'.ownBlock = some (w.alloc o).heap.size) : Ll w2 F B v' (C ++ [c]) := by
  obtain ⟨h1, h2, h3, h4⟩ := hx
  have hg' := grown_of hg
  have hvn : ∀ {x : Value} {y : List Int}, Is' w B x y → ∀ q, x.ownBlock = some q → v.ownBlock ≠ some q := fun hx q e e2 => row_ne h1 hx (by decide) e2 e
  refine ⟨us ++ [u], by rw [List.length_append]; exact hrow, by simp [h2], fun i y c' hy hc' => ?_, fun q e hf => ?_⟩
  · by_cases hi : i < us.length
    · rw [List.getElem?_append_left hi] at hy
      rw [List.getElem?_append_left (by omega)] at hc'
      obtain ⟨h5, h6⟩ := h3 i y c' hy hc'
      exact ⟨row_own h5 (fun q e => hg'.block q (World.ownsRow.lt h5 q e).2 (fun e2 => hvn h5 q e e2.symm)), h6⟩
    · have hil := (List.getElem?_eq_some_iff.1 hy).1
      rw [List.length_append] at hil
      have hie : i = us.length := by simp at hil; omega
      subst hie
      rw [List.getElem?_append_right (Nat.le_refl _), Nat.sub_self] at hy
      rw [h2, List.getElem?_append_right (Nat.le_refl _), Nat.sub_self] at hc'
      obtain rfl : c = c' := by simpa using hc'
      obtain rfl : u = y := by simpa using hy
      exact ⟨row_own hu (fun q e => hg'.block q (World.ownsRow.lt hu q e).2 (fun e2 => hvn hu q e e2.symm)), huF⟩
  · rcases hat with e2 | e2
    · exact h4 q (by rw [← e2]; exact e) hf
    · rw [e2, size_alloc'] at e
      injection e with e
      have := hlt q hf
      omega
end Go.Proofs.Ytkndjndhjdfhcaa
