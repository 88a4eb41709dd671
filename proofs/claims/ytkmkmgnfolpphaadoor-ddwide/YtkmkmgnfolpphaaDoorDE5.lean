/- Contracts (dd): a question's halves. -/
import Derived.Test.YtkmkmgnfolpphaaDoorDE4
namespace Go.Proofs.YtkmkmgnfolpphaaDoor
open Go.RowKit
set_option linter.unusedSimpArgs false
set_option linter.unusedVariables false

def halK (ns : List T3) (top : Int) (b : Bool) (q : T3) : Nat → T3
  | 0 => q
  | 1 => (sideF ns top b q.1, q.2.1, q.2.2)
  | 2 => (sideF ns top b q.1, sideF ns top b q.2.1, q.2.2)
  | _ => halfF ns top b q
theorem side_no {ns : List T3} {top : Int} {b : Bool} : sideF ns top b (-1) = -1 := by unfold sideF; rw [if_pos rfl]
theorem side_at {ns : List T3} {top : Int} {b : Bool} (j : Nat) : sideF ns top b (j : Int) = if (at3 ns (j : Int)).1 = top then (if b then (at3 ns (j : Int)).2.2 else (at3 ns (j : Int)).2.1) else (j : Int) := by unfold sideF; rw [if_neg (by omega)]
set_option maxRecDepth 20000 in
set_option maxHeartbeats 12800000 in
theorem half_any {w : World} {F : Nat → Prop} {g vars most rb : Nat} {S : St} {pn : Int → Int} (h : Gr w F g vars most S pn) (hr : w.cell? ⟨rb, 0, none⟩ = some (.pointer (some ⟨g, 0, none⟩))) {q : T3} (e0 : Ent S.ns q.1) (e1 : Ent S.ns q.2.1) (e2 : Ent S.ns q.2.2) (top : Int) (b : Bool) :
    Calls Tryd.prog 77 #[.pointer (some ⟨rb, 0, none⟩), t3v q, .int .i64 top, .int .i64 (if b then 2 else 1)] w fun e w' => e = .returned (t3v (halfF S.ns top b q)) ∧ Below w.heap.size w w' := by
  obtain ⟨m, p, v, u, hx, -⟩ := h
  have c2 := hx.c2
  have hl := hx.mg.len
  have hm := hx.mg.mo
  have hg := hx.lt
  have hrb := World.block_lt_of_cell? _ _ hr
  obtain ⟨r, cap, rfl, hrl, -, -, hc⟩ := hx.sl
  have HC : Hid _ := hc
  obtain ⟨N, hN⟩ : ∃ N, N = S.ns.length := ⟨_, rfl⟩
  have HN : Hid _ := hN
  rw [← hN] at c2 hl
  have HG2 : Hid (w.cell? ⟨g, 2, none⟩ = _) := c2
  have HR0 : Hid (w.cell? ⟨rb, 0, none⟩ = _) := hr
  clear hx hc hN c2 hr
  obtain ⟨q0, q1, q2⟩ := q
  dsimp only at e0 e1 e2
  have HE0 : Hid _ := e0
  have HE1 : Hid _ := e1
  have HE2 : Hid _ := e2
  obtain ⟨s0, hs0⟩ : ∃ s, s = sideF S.ns top b q0 := ⟨_, rfl⟩
  obtain ⟨s1, hs1⟩ : ∃ s, s = sideF S.ns top b q1 := ⟨_, rfl⟩
  obtain ⟨s2, hs2⟩ : ∃ s, s = sideF S.ns top b q2 := ⟨_, rfl⟩
  have eR : halfF S.ns top b (q0, q1, q2) = (s0, s1, s2) := by rw [hs0, hs1, hs2]; rfl
  rw [eR]
  have HS0 : Hid _ := hs0
  have HS1 : Hid _ := hs1
  have HS2 : Hid _ := hs2
  obtain ⟨sd, hsd⟩ : ∃ sd : Int, sd = if b then 2 else 1 := ⟨_, rfl⟩
  rw [← hsd]
  have HSD : Hid _ := hsd
  clear e0 e1 e2 eR hs0 hs1 hs2 hsd
  have C0 : Hid (∀ k, k = 0 → ((if 0 < k then s0 else q0) = q0 ∧ (if 1 < k then s1 else q1) = q1 ∧ (if 2 < k then s2 else q2) = q2)) := fun k hk => by subst hk; simp
  have C1 : Hid (∀ k, k = 1 → ((if 0 < k then s0 else q0) = s0 ∧ (if 1 < k then s1 else q1) = q1 ∧ (if 2 < k then s2 else q2) = q2)) := fun k hk => by subst hk; simp
  have C2 : Hid (∀ k, k = 2 → ((if 0 < k then s0 else q0) = s0 ∧ (if 1 < k then s1 else q1) = s1 ∧ (if 2 < k then s2 else q2) = q2)) := fun k hk => by subst hk; simp
  have C3 : Hid (∀ k, k = 3 → ((if 0 < k then s0 else q0) = s0 ∧ (if 1 < k then s1 else q1) = s1 ∧ (if 2 < k then s2 else q2) = s2)) := fun k hk => by subst hk; simp
  unfold t3v
  dsimp only
  go_enter Tryd.func77, Tryd.ntmps77
  go_wp2_with fail
  go_loopw [13] (fun i wr => ∃ (k : Nat) (a b c : Int), k ≤ 3 ∧ i = .int .i64 (k : Int) ∧ Hid (a = (if 0 < k then s0 else q0) ∧ b = (if 1 < k then s1 else q1) ∧ c = (if 2 < k then s2 else q2)) ∧ wr.cell? ⟨w.heap.size, 0, none⟩ = some (.int .i64 a) ∧ wr.cell? ⟨w.heap.size, 1, none⟩ = some (.int .i64 b) ∧ wr.cell? ⟨w.heap.size, 2, none⟩ = some (.int .i64 c) ∧ (∀ j, wr.frozen? ⟨w.heap.size, j, none⟩ = false) ∧
      wr.cell? ⟨w.heap.size + 1, 0, none⟩ = some (.int .i64 0) ∧ wr.cell? ⟨w.heap.size + 1, 1, none⟩ = some (.int .i64 0) ∧ wr.cell? ⟨w.heap.size + 1, 2, none⟩ = some (.int .i64 0) ∧ (∀ j, wr.frozen? ⟨w.heap.size + 1, j, none⟩ = false) ∧ w.heap.size + 1 < wr.heap.size ∧ Below w.heap.size w wr) (fun i wr => 3 - (intOf i).toNat)
  case atStart => exact ⟨0, q0, q1, q2, by omega, rfl, ⟨by simp, by simp, by simp⟩, by simp, by simp, by simp, (fun j => by simp), by simp, by simp, by simp, (fun j => by simp), by simp, by go_grown⟩
  case round =>
    obtain ⟨k, a, b', c, hk, rfl, hT, a0, a1, a2, af, z0, z1, z2, zf, hsz, hB⟩ := hrel
    have hr : wr.cell? ⟨rb, 0, none⟩ = some (.pointer (some ⟨g, 0, none⟩)) := bel_cell hB hrb HR0.out
    have c2 : wr.cell? ⟨g, 2, none⟩ = some (.slice (some ⟨r, 0, none⟩) N cap) := bel_cell hB hg HG2.out
    have hne0 : wr.heap.size ≠ w.heap.size := by omega
    have hne1 : wr.heap.size ≠ w.heap.size + 1 := by omega
    have hne2 : w.heap.size ≠ wr.heap.size := by omega
    have hne3 : w.heap.size + 1 ≠ wr.heap.size := by omega
    have hlt0 : w.heap.size < wr.heap.size := by omega
    obtain rfl | rfl | rfl | rfl : k = 0 ∨ k = 1 ∨ k = 2 ∨ k = 3 := by omega
    · have b0 : (((0 : Nat) : Int)) < 3 := by decide
      have hx := idx0 q0 q1 q2
      rcases HE0.out with he | ⟨j, he, hj⟩
      · subst he
        have HX : Hid (a = s0) := by
          unfold Hid
          rw [hT.out.1, HS0.out, side_no]; simp
        go_wp2_with fail
        exact ⟨⟨1, a, b', c, by omega, by go_num, ⟨by rw [HX.out]; simp, hT.out.2.1.trans (by simp), hT.out.2.2.trans (by simp)⟩, a0, a1, a2, af, z0, z1, z2, zf, hsz, hB⟩, by simp [intOf]⟩
      · subst he
        obtain ⟨k0, k1, k2⟩ := HC.out j hj
        rw [← HN.out] at hj
        replace k0 := bel_cell hB hrl k0
        replace k1 := bel_cell hB hrl k1
        replace k2 := bel_cell hB hrl k2
        have hjI : (j : Int) < (N : Int) := by omega
        have hd : ((j : Int) == -1) = false := by simp
        obtain ⟨V, hV⟩ : ∃ V, V = (at3 S.ns (j : Int)).1 := ⟨_, rfl⟩
        obtain ⟨Lo, hLo⟩ : ∃ V, V = (at3 S.ns (j : Int)).2.1 := ⟨_, rfl⟩
        obtain ⟨Hi, hHi⟩ : ∃ V, V = (at3 S.ns (j : Int)).2.2 := ⟨_, rfl⟩
        rw [← hV] at k0
        rw [← hLo] at k1
        rw [← hHi] at k2
        have HV : Hid (s0 = if V = top then (if b then Hi else Lo) else (j : Int)) := by
          unfold Hid; rw [HS0.out, side_at, ← hV, ← hLo, ← hHi]
        clear hV hLo hHi
        by_cases ht : V = top
        · have htb : (V == top) = true := by simp [ht]
          cases b with
          | true =>
            obtain rfl : sd = 2 := HSD.out
            have HX : Hid (Hi = s0) := by unfold Hid; rw [HV.out, if_pos ht]; rfl
            clear ht
            go_wp2_with fail
            exact ⟨⟨1, Hi, b', c, by omega, by go_num, ⟨by rw [HX.out]; simp, hT.out.2.1.trans (by simp), hT.out.2.2.trans (by simp)⟩, (by first | rfl | trivial | assumption | exact al_cell (by assumption) | exact as_same (by assumption) | exact as_other (by simp) (by assumption)), (by first | rfl | trivial | assumption | exact al_cell (by assumption) | exact as_same (by assumption) | exact as_other (by simp) (by assumption)), (by first | rfl | trivial | assumption | exact al_cell (by assumption) | exact as_same (by assumption) | exact as_other (by simp) (by assumption)), (by first | trivial | assumption | exact fun j => (frozen?_alloc_cells _ _ _ _).trans (by simp [*])), (by first | rfl | trivial | assumption | exact al_cell (by assumption) | exact as_same (by assumption) | exact as_other (by simp) (by assumption)), (by first | rfl | trivial | assumption | exact al_cell (by assumption) | exact as_same (by assumption) | exact as_other (by simp) (by assumption)), (by first | rfl | trivial | assumption | exact al_cell (by assumption) | exact as_same (by assumption) | exact as_other (by simp) (by assumption)), (by first | trivial | assumption | exact fun j => (frozen?_alloc_cells _ _ _ _).trans (by simp [*])), by simp; omega, by go_grown⟩, by simp [intOf]⟩
          | false =>
            obtain rfl : sd = 1 := HSD.out
            have HX : Hid (Lo = s0) := by unfold Hid; rw [HV.out, if_pos ht]; rfl
            clear ht
            go_wp2_with fail
            exact ⟨⟨1, Lo, b', c, by omega, by go_num, ⟨by rw [HX.out]; simp, hT.out.2.1.trans (by simp), hT.out.2.2.trans (by simp)⟩, (by first | rfl | trivial | assumption | exact al_cell (by assumption) | exact as_same (by assumption) | exact as_other (by simp) (by assumption)), (by first | rfl | trivial | assumption | exact al_cell (by assumption) | exact as_same (by assumption) | exact as_other (by simp) (by assumption)), (by first | rfl | trivial | assumption | exact al_cell (by assumption) | exact as_same (by assumption) | exact as_other (by simp) (by assumption)), (by first | trivial | assumption | exact fun j => (frozen?_alloc_cells _ _ _ _).trans (by simp [*])), (by first | rfl | trivial | assumption | exact al_cell (by assumption) | exact as_same (by assumption) | exact as_other (by simp) (by assumption)), (by first | rfl | trivial | assumption | exact al_cell (by assumption) | exact as_same (by assumption) | exact as_other (by simp) (by assumption)), (by first | rfl | trivial | assumption | exact al_cell (by assumption) | exact as_same (by assumption) | exact as_other (by simp) (by assumption)), (by first | trivial | assumption | exact fun j => (frozen?_alloc_cells _ _ _ _).trans (by simp [*])), by simp; omega, by go_grown⟩, by simp [intOf]⟩
        · have htb : (V == top) = false := by simp [ht]
          have HX : Hid (a = s0) := by
            unfold Hid; rw [HV.out, if_neg ht, hT.out.1]; simp
          clear ht
          go_wp2_with fail
          exact ⟨⟨1, a, b', c, by omega, by go_num, ⟨by rw [HX.out]; simp, hT.out.2.1.trans (by simp), hT.out.2.2.trans (by simp)⟩, (by first | rfl | trivial | assumption | exact al_cell (by assumption) | exact as_same (by assumption) | exact as_other (by simp) (by assumption)), (by first | rfl | trivial | assumption | exact al_cell (by assumption) | exact as_same (by assumption) | exact as_other (by simp) (by assumption)), (by first | rfl | trivial | assumption | exact al_cell (by assumption) | exact as_same (by assumption) | exact as_other (by simp) (by assumption)), (by first | trivial | assumption | exact fun j => (frozen?_alloc_cells _ _ _ _).trans (by simp [*])), (by first | rfl | trivial | assumption | exact al_cell (by assumption) | exact as_same (by assumption) | exact as_other (by simp) (by assumption)), (by first | rfl | trivial | assumption | exact al_cell (by assumption) | exact as_same (by assumption) | exact as_other (by simp) (by assumption)), (by first | rfl | trivial | assumption | exact al_cell (by assumption) | exact as_same (by assumption) | exact as_other (by simp) (by assumption)), (by first | trivial | assumption | exact fun j => (frozen?_alloc_cells _ _ _ _).trans (by simp [*])), by simp; omega, by go_grown⟩, by simp [intOf]⟩
    · have b0 : (((1 : Nat) : Int)) < 3 := by decide
      have hx := idx1 q0 q1 q2
      rcases HE1.out with he | ⟨j, he, hj⟩
      · subst he
        have HX : Hid (b' = s1) := by
          unfold Hid
          rw [hT.out.2.1, HS1.out, side_no]; simp
        go_wp2_with fail
        exact ⟨⟨2, a, b', c, by omega, by go_num, ⟨hT.out.1.trans (by simp), by rw [HX.out]; simp, hT.out.2.2.trans (by simp)⟩, a0, a1, a2, af, z0, z1, z2, zf, hsz, hB⟩, by simp [intOf]⟩
      · subst he
        obtain ⟨k0, k1, k2⟩ := HC.out j hj
        rw [← HN.out] at hj
        replace k0 := bel_cell hB hrl k0
        replace k1 := bel_cell hB hrl k1
        replace k2 := bel_cell hB hrl k2
        have hjI : (j : Int) < (N : Int) := by omega
        have hd : ((j : Int) == -1) = false := by simp
        obtain ⟨V, hV⟩ : ∃ V, V = (at3 S.ns (j : Int)).1 := ⟨_, rfl⟩
        obtain ⟨Lo, hLo⟩ : ∃ V, V = (at3 S.ns (j : Int)).2.1 := ⟨_, rfl⟩
        obtain ⟨Hi, hHi⟩ : ∃ V, V = (at3 S.ns (j : Int)).2.2 := ⟨_, rfl⟩
        rw [← hV] at k0
        rw [← hLo] at k1
        rw [← hHi] at k2
        have HV : Hid (s1 = if V = top then (if b then Hi else Lo) else (j : Int)) := by
          unfold Hid; rw [HS1.out, side_at, ← hV, ← hLo, ← hHi]
        clear hV hLo hHi
        by_cases ht : V = top
        · have htb : (V == top) = true := by simp [ht]
          cases b with
          | true =>
            obtain rfl : sd = 2 := HSD.out
            have HX : Hid (Hi = s1) := by unfold Hid; rw [HV.out, if_pos ht]; rfl
            clear ht
            go_wp2_with fail
            exact ⟨⟨2, a, Hi, c, by omega, by go_num, ⟨hT.out.1.trans (by simp), by rw [HX.out]; simp, hT.out.2.2.trans (by simp)⟩, (by first | rfl | trivial | assumption | exact al_cell (by assumption) | exact as_same (by assumption) | exact as_other (by simp) (by assumption)), (by first | rfl | trivial | assumption | exact al_cell (by assumption) | exact as_same (by assumption) | exact as_other (by simp) (by assumption)), (by first | rfl | trivial | assumption | exact al_cell (by assumption) | exact as_same (by assumption) | exact as_other (by simp) (by assumption)), (by first | trivial | assumption | exact fun j => (frozen?_alloc_cells _ _ _ _).trans (by simp [*])), (by first | rfl | trivial | assumption | exact al_cell (by assumption) | exact as_same (by assumption) | exact as_other (by simp) (by assumption)), (by first | rfl | trivial | assumption | exact al_cell (by assumption) | exact as_same (by assumption) | exact as_other (by simp) (by assumption)), (by first | rfl | trivial | assumption | exact al_cell (by assumption) | exact as_same (by assumption) | exact as_other (by simp) (by assumption)), (by first | trivial | assumption | exact fun j => (frozen?_alloc_cells _ _ _ _).trans (by simp [*])), by simp; omega, by go_grown⟩, by simp [intOf]⟩
          | false =>
            obtain rfl : sd = 1 := HSD.out
            have HX : Hid (Lo = s1) := by unfold Hid; rw [HV.out, if_pos ht]; rfl
            clear ht
            go_wp2_with fail
            exact ⟨⟨2, a, Lo, c, by omega, by go_num, ⟨hT.out.1.trans (by simp), by rw [HX.out]; simp, hT.out.2.2.trans (by simp)⟩, (by first | rfl | trivial | assumption | exact al_cell (by assumption) | exact as_same (by assumption) | exact as_other (by simp) (by assumption)), (by first | rfl | trivial | assumption | exact al_cell (by assumption) | exact as_same (by assumption) | exact as_other (by simp) (by assumption)), (by first | rfl | trivial | assumption | exact al_cell (by assumption) | exact as_same (by assumption) | exact as_other (by simp) (by assumption)), (by first | trivial | assumption | exact fun j => (frozen?_alloc_cells _ _ _ _).trans (by simp [*])), (by first | rfl | trivial | assumption | exact al_cell (by assumption) | exact as_same (by assumption) | exact as_other (by simp) (by assumption)), (by first | rfl | trivial | assumption | exact al_cell (by assumption) | exact as_same (by assumption) | exact as_other (by simp) (by assumption)), (by first | rfl | trivial | assumption | exact al_cell (by assumption) | exact as_same (by assumption) | exact as_other (by simp) (by assumption)), (by first | trivial | assumption | exact fun j => (frozen?_alloc_cells _ _ _ _).trans (by simp [*])), by simp; omega, by go_grown⟩, by simp [intOf]⟩
        · have htb : (V == top) = false := by simp [ht]
          have HX : Hid (b' = s1) := by
            unfold Hid; rw [HV.out, if_neg ht, hT.out.2.1]; simp
          clear ht
          go_wp2_with fail
          exact ⟨⟨2, a, b', c, by omega, by go_num, ⟨hT.out.1.trans (by simp), by rw [HX.out]; simp, hT.out.2.2.trans (by simp)⟩, (by first | rfl | trivial | assumption | exact al_cell (by assumption) | exact as_same (by assumption) | exact as_other (by simp) (by assumption)), (by first | rfl | trivial | assumption | exact al_cell (by assumption) | exact as_same (by assumption) | exact as_other (by simp) (by assumption)), (by first | rfl | trivial | assumption | exact al_cell (by assumption) | exact as_same (by assumption) | exact as_other (by simp) (by assumption)), (by first | trivial | assumption | exact fun j => (frozen?_alloc_cells _ _ _ _).trans (by simp [*])), (by first | rfl | trivial | assumption | exact al_cell (by assumption) | exact as_same (by assumption) | exact as_other (by simp) (by assumption)), (by first | rfl | trivial | assumption | exact al_cell (by assumption) | exact as_same (by assumption) | exact as_other (by simp) (by assumption)), (by first | rfl | trivial | assumption | exact al_cell (by assumption) | exact as_same (by assumption) | exact as_other (by simp) (by assumption)), (by first | trivial | assumption | exact fun j => (frozen?_alloc_cells _ _ _ _).trans (by simp [*])), by simp; omega, by go_grown⟩, by simp [intOf]⟩
    · have b0 : (((2 : Nat) : Int)) < 3 := by decide
      have hx := idx2 q0 q1 q2
      rcases HE2.out with he | ⟨j, he, hj⟩
      · subst he
        have HX : Hid (c = s2) := by
          unfold Hid
          rw [hT.out.2.2, HS2.out, side_no]; simp
        go_wp2_with fail
        exact ⟨⟨3, a, b', c, by omega, by go_num, ⟨hT.out.1.trans (by simp), hT.out.2.1.trans (by simp), by rw [HX.out]; simp⟩, a0, a1, a2, af, z0, z1, z2, zf, hsz, hB⟩, by simp [intOf]⟩
      · subst he
        obtain ⟨k0, k1, k2⟩ := HC.out j hj
        rw [← HN.out] at hj
        replace k0 := bel_cell hB hrl k0
        replace k1 := bel_cell hB hrl k1
        replace k2 := bel_cell hB hrl k2
        have hjI : (j : Int) < (N : Int) := by omega
        have hd : ((j : Int) == -1) = false := by simp
        obtain ⟨V, hV⟩ : ∃ V, V = (at3 S.ns (j : Int)).1 := ⟨_, rfl⟩
        obtain ⟨Lo, hLo⟩ : ∃ V, V = (at3 S.ns (j : Int)).2.1 := ⟨_, rfl⟩
        obtain ⟨Hi, hHi⟩ : ∃ V, V = (at3 S.ns (j : Int)).2.2 := ⟨_, rfl⟩
        rw [← hV] at k0
        rw [← hLo] at k1
        rw [← hHi] at k2
        have HV : Hid (s2 = if V = top then (if b then Hi else Lo) else (j : Int)) := by
          unfold Hid; rw [HS2.out, side_at, ← hV, ← hLo, ← hHi]
        clear hV hLo hHi
        by_cases ht : V = top
        · have htb : (V == top) = true := by simp [ht]
          cases b with
          | true =>
            obtain rfl : sd = 2 := HSD.out
            have HX : Hid (Hi = s2) := by unfold Hid; rw [HV.out, if_pos ht]; rfl
            clear ht
            go_wp2_with fail
            exact ⟨⟨3, a, b', Hi, by omega, by go_num, ⟨hT.out.1.trans (by simp), hT.out.2.1.trans (by simp), by rw [HX.out]; simp⟩, (by first | rfl | trivial | assumption | exact al_cell (by assumption) | exact as_same (by assumption) | exact as_other (by simp) (by assumption)), (by first | rfl | trivial | assumption | exact al_cell (by assumption) | exact as_same (by assumption) | exact as_other (by simp) (by assumption)), (by first | rfl | trivial | assumption | exact al_cell (by assumption) | exact as_same (by assumption) | exact as_other (by simp) (by assumption)), (by first | trivial | assumption | exact fun j => (frozen?_alloc_cells _ _ _ _).trans (by simp [*])), (by first | rfl | trivial | assumption | exact al_cell (by assumption) | exact as_same (by assumption) | exact as_other (by simp) (by assumption)), (by first | rfl | trivial | assumption | exact al_cell (by assumption) | exact as_same (by assumption) | exact as_other (by simp) (by assumption)), (by first | rfl | trivial | assumption | exact al_cell (by assumption) | exact as_same (by assumption) | exact as_other (by simp) (by assumption)), (by first | trivial | assumption | exact fun j => (frozen?_alloc_cells _ _ _ _).trans (by simp [*])), by simp; omega, by go_grown⟩, by simp [intOf]⟩
          | false =>
            obtain rfl : sd = 1 := HSD.out
            have HX : Hid (Lo = s2) := by unfold Hid; rw [HV.out, if_pos ht]; rfl
            clear ht
            go_wp2_with fail
            exact ⟨⟨3, a, b', Lo, by omega, by go_num, ⟨hT.out.1.trans (by simp), hT.out.2.1.trans (by simp), by rw [HX.out]; simp⟩, (by first | rfl | trivial | assumption | exact al_cell (by assumption) | exact as_same (by assumption) | exact as_other (by simp) (by assumption)), (by first | rfl | trivial | assumption | exact al_cell (by assumption) | exact as_same (by assumption) | exact as_other (by simp) (by assumption)), (by first | rfl | trivial | assumption | exact al_cell (by assumption) | exact as_same (by assumption) | exact as_other (by simp) (by assumption)), (by first | trivial | assumption | exact fun j => (frozen?_alloc_cells _ _ _ _).trans (by simp [*])), (by first | rfl | trivial | assumption | exact al_cell (by assumption) | exact as_same (by assumption) | exact as_other (by simp) (by assumption)), (by first | rfl | trivial | assumption | exact al_cell (by assumption) | exact as_same (by assumption) | exact as_other (by simp) (by assumption)), (by first | rfl | trivial | assumption | exact al_cell (by assumption) | exact as_same (by assumption) | exact as_other (by simp) (by assumption)), (by first | trivial | assumption | exact fun j => (frozen?_alloc_cells _ _ _ _).trans (by simp [*])), by simp; omega, by go_grown⟩, by simp [intOf]⟩
        · have htb : (V == top) = false := by simp [ht]
          have HX : Hid (c = s2) := by
            unfold Hid; rw [HV.out, if_neg ht, hT.out.2.2]; simp
          clear ht
          go_wp2_with fail
          exact ⟨⟨3, a, b', c, by omega, by go_num, ⟨hT.out.1.trans (by simp), hT.out.2.1.trans (by simp), by rw [HX.out]; simp⟩, (by first | rfl | trivial | assumption | exact al_cell (by assumption) | exact as_same (by assumption) | exact as_other (by simp) (by assumption)), (by first | rfl | trivial | assumption | exact al_cell (by assumption) | exact as_same (by assumption) | exact as_other (by simp) (by assumption)), (by first | rfl | trivial | assumption | exact al_cell (by assumption) | exact as_same (by assumption) | exact as_other (by simp) (by assumption)), (by first | trivial | assumption | exact fun j => (frozen?_alloc_cells _ _ _ _).trans (by simp [*])), (by first | rfl | trivial | assumption | exact al_cell (by assumption) | exact as_same (by assumption) | exact as_other (by simp) (by assumption)), (by first | rfl | trivial | assumption | exact al_cell (by assumption) | exact as_same (by assumption) | exact as_other (by simp) (by assumption)), (by first | rfl | trivial | assumption | exact al_cell (by assumption) | exact as_same (by assumption) | exact as_other (by simp) (by assumption)), (by first | trivial | assumption | exact fun j => (frozen?_alloc_cells _ _ _ _).trans (by simp [*])), by simp; omega, by go_grown⟩, by simp [intOf]⟩
    · have b0 : ¬ (((3 : Nat) : Int)) < 3 := by decide
      go_wp2_with fail
      refine bodyPost_ret (v := t3v (a, b', c)) (by simp [results, Tryd.results77, go_sem, t3v, *]) rfl ?_
      refine ⟨?_, by go_grown⟩
      obtain ⟨h1, h2, h3⟩ := hT.out
      simp at h1 h2 h3
      rw [h1, h2, h3]; rfl
end Go.Proofs.YtkmkmgnfolpphaaDoor
