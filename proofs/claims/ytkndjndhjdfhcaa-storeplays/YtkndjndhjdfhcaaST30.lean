/- Contracts (store): reach, Follow. -/
import Derived.Test.YtkndjndhjdfhcaaST29
namespace Go.Proofs.Ytkndjndhjdfhcaa
open Go.RowKit
set_option linter.unusedSimpArgs false
set_option linter.unusedVariables false

set_option maxRecDepth 20000 in
set_option maxHeartbeats 6400000 in
theorem reach_any {w : World} {F : Nat → Prop} {s mo m : Nat} {A B S : List Int} {W : List (List Int)} (h : SX w F s mo A B S W) (hm : W.length = m) (hmb : m ≤ 131074) {u : Value} {lits : List Int} (hu : Sr w u lits) (hl : lits.length ≤ 100000) :
    Calls Try.prog 38 #[.pointer (some ⟨s, 0, none⟩), u] w fun e w' => (∃ N : Nat, e = .returned (.int .i64 (N : Int)) ∧ m ≤ N ∧ N ≤ 131074 ∧ ∀ x ∈ lits, isL x = true → sp x ≤ N) ∧ w' = w := by
  obtain ⟨va, vb, vs, vw, us, hS⟩ := h
  have c4 : w.cell? ⟨s, 4, none⟩ = some vw := cell_of hS.hd 4 rfl
  obtain ⟨aw, cw, hvw⟩ := own_slice hS.row
  rw [hS.len, hm] at hvw
  subst hvw
  obtain ⟨a, c, rfl⟩ := hu.out
  obtain ⟨n, hn⟩ : ∃ n, n = lits.length := ⟨_, rfl⟩
  have HC : Hid _ := hu
  rw [← hn] at hl HC ⊢
  have HN : Hid _ := hn
  clear hS hu hn hm
  go_enter Try.func38, Try.ntmps38
  go_wp2_with fail
  go_loopw [5, 15] (fun q ix wr => ∃ (j N : Nat), j ≤ n ∧ q = .int .i64 (N : Int) ∧ ix = .int .i64 (j : Int) ∧ m ≤ N ∧ N ≤ 131074 ∧ Hid (∀ x ∈ lits.take j, isL x = true → sp x ≤ N) ∧ w = wr) (fun q ix wr => n - (intOf ix).toNat)
  case atStart => exact ⟨0, m, Nat.zero_le _, rfl, rfl, Nat.le_refl _, hmb, (fun x hx => by simp at hx), rfl⟩
  case round =>
    obtain ⟨j, N, hj, rfl, rfl, h1, h2, hH, rfl⟩ := hrel
    by_cases hlt : j < n
    · have hjl : j < lits.length := by rw [← HN.out]; exact hlt
      obtain ⟨g, o, rfl, hck⟩ := HC.out.at' (Below.refl _ _) (k := j) hjl
      obtain ⟨x, hx⟩ : ∃ x, x = lits.getD j 0 := ⟨_, rfl⟩
      rw [← hx] at hck
      have HTK : Hid (lits.take (j + 1) = lits.take j ++ [x]) := by
        unfold Hid
        rw [List.take_add_one, List.getElem?_eq_getElem hjl, hx, List.getD_eq_getElem?_getD, List.getElem?_eq_getElem hjl]; rfl
      have HL : Hid _ := isLiteral_any x w
      obtain ⟨b, hb⟩ : ∃ b, b = isL x := ⟨_, rfl⟩
      rw [← hb] at HL
      have HB : Hid _ := hb
      have hltI : (j : Int) < (n : Int) := by omega
      clear hx hjl
      cases b with
      | false =>
        clear hb
        go_wp2_with fail
        refine Calls.mono HL.out ?_
        rintro ev w1 ⟨rfl, hq⟩
        rw [hq]
        clear hq w1
        go_wp2_with fail
        refine ⟨⟨j + 1, N, by omega, rfl, by go_num, h1, h2, ?_, by first | rfl | trivial⟩, by simp [intOf]; omega⟩
        intro y hy hyl
        rw [HTK.out] at hy
        rcases List.mem_append.1 hy with hy | hy
        · exact hH.out y hy hyl
        · rw [List.mem_singleton.1 hy, ← HB.out] at hyl; cases hyl
      | true =>
        have hsm := isL_sm hb.symm
        have HSP : Hid _ := span_any hsm w
        have hsp : sp x ≤ 131074 := by unfold sm at hsm; unfold sp; omega
        obtain ⟨q, hq⟩ : ∃ q, q = sp x := ⟨_, rfl⟩
        rw [← hq] at HSP hsp
        have HQ : Hid _ := hq
        clear hb hq hsm
        go_wp2_with fail
        refine Calls.mono HL.out ?_
        rintro ev w1 ⟨rfl, hq⟩
        rw [hq]
        clear hq w1
        go_wp2_with fail
        refine Calls.mono HSP.out ?_
        rintro ev w1 ⟨rfl, hq⟩
        rw [hq]
        clear hq w1
        go_wp2_with fail
        refine ⟨⟨j + 1, max N q, by omega, by first | rfl | (simp; omega) | (congr 1; omega), by go_num, by omega, by omega, ?_, by first | rfl | trivial⟩, by simp [intOf]; omega⟩
        intro y hy hyl
        rw [HTK.out] at hy
        rcases List.mem_append.1 hy with hy | hy
        · have := hH.out y hy hyl; omega
        · rw [List.mem_singleton.1 hy, ← HQ.out]; omega
    · obtain rfl : j = n := by omega
      have hltI : ¬ (j : Int) < (j : Int) := by omega
      have HT : Hid (∀ x ∈ lits, isL x = true → sp x ≤ N) := by
        have := hH.out
        rw [HN.out, List.take_length] at this
        exact this
      go_wp2_with fail
      go_ret
      exact ⟨⟨N, rfl, h1, h2, HT.out⟩, rfl⟩
theorem made_row (w : World) (N : Nat) : (w.alloc (.cells (madeCells #[.bool false] N) 4)).rowIs w.heap.size 4 N (fun j => .bool (trv [] j)) := (World.rowIs_made w (.bool false) N 4).congr fun i _ => rfl
/-- A slice of these numbers, in no block of F. -/
structure Sf (w : World) (F : Nat → Prop) (v : Value) (l : List Int) : Prop where
  ex : ∃ a c, v = .slice a l.length c ∧ (l = [] ∨ ∃ r o, a = some ⟨r, o, none⟩ ∧ r < w.heap.size ∧ ¬ F r ∧ Li w r o l)
theorem Sf.sr {w : World} {F : Nat → Prop} {v : Value} {l : List Int} (h : Sf w F v l) : Sr w v l := by
  obtain ⟨a, c, e, h2⟩ := h.ex
  refine ⟨a, c, e, ?_⟩
  rcases h2 with h2 | ⟨r, o, h3, h4, -, h5⟩
  · exact Or.inl h2
  · exact Or.inr ⟨r, o, h3, h4, h5⟩
theorem Sf.ch {w w' : World} {F F' : Nat → Prop} {v : Value} {l : List Int} (h : Sf w F v l) (hc : Ch w w' F F') : Sf w' F' v l := by
  obtain ⟨a, c, e, h2⟩ := h.ex
  refine ⟨a, c, e, ?_⟩
  rcases h2 with h2 | ⟨r, o, h3, h4, h5, h6⟩
  · exact Or.inl h2
  · refine Or.inr ⟨r, o, h3, Nat.lt_of_lt_of_le h4 hc.size, fun hf => ?_, h6.below (hc.block r h4 h5)⟩
    rcases hc.foot r hf with h7 | ⟨h7, -⟩
    · exact h5 h7
    · omega
theorem Sr.sf {w : World} {F : Nat → Prop} {v : Value} {l : List Int} (h : Sr w v l) (hF : ∀ k, F k → w.heap.size ≤ k) : Sf w F v l := by
  obtain ⟨a, c, e, h2⟩ := h.ex
  refine ⟨a, c, e, ?_⟩
  rcases h2 with h2 | ⟨r, o, h3, h4, h5⟩
  · exact Or.inl h2
  · exact Or.inr ⟨r, o, h3, h4, fun hf => by have := hF r hf; omega, h5⟩
theorem Is'.sf {w : World} {B : Nat} {F : Nat → Prop} {v : Value} {l : List Int} (h : Is' w B v l) (hF : ∀ q, v.ownBlock = some q → ¬ F q) : Sf w F v l := by
  obtain ⟨a, k, hv⟩ := own_slice h
  refine ⟨a, k, hv, ?_⟩
  by_cases hl : l = []
  · exact Or.inl hl
  · obtain ⟨r, cap, e, hb, -, hL⟩ := h.li hl
    refine Or.inr ⟨r, 0, ?_, ?_, hF r (by rw [e]; rfl), hL⟩
    · rw [hv] at e; injection e
    · exact (World.ownsRow.lt h r (by rw [e]; rfl)).2
/-- What a store leaves that was followed. -/
structure FolW (w w' : World) (F : Nat → Prop) (s mo : Nat) (C : List (List Int)) (v : Value) (T : List Int) : Prop where
  ex : ∃ F', So w' F' s mo C ∧ Ch w w' F F' ∧ ∀ q, v.ownBlock = some q → ¬ F' q
  told : Is' w' w.heap.size v T
set_option maxRecDepth 20000 in
set_option maxHeartbeats 12800000 in
theorem follow_any {w : World} {F : Nat → Prop} {s mo : Nat} {C : List (List Int)} (h : So w F s mo C) {u : Value} {lits : List Int} (hu : Sf w F u lits) (hl : lits.length ≤ 100000) :
    Calls Try.prog 23 #[.pointer (some ⟨s, 0, none⟩), u] w fun e w' => ∃ (v : Value) (r : Int) (T : List Int), e = .returned (.tuple #[v, .int .i64 r]) ∧ FolW w w' F s mo C v T ∧ FolR C lits T r := by
  obtain ⟨m, hX, hRm, hm⟩ := h.ex
  have HX : Hid (SX w F s mo (ar C) (bds C) (shs C) (wls C m)) := hX
  have HSO : Hid (So w F s mo C) := h
  have HRE : Hid _ := reach_any hX (wls_len C m) hm hu.sr hl
  have HRM : Hid (Rm C m) := hRm
  have HUF : Hid (∀ wr F', Ch w wr F F' → Sr wr u lits) := fun wr F' hc => (hu.ch hc).sr
  obtain ⟨a, c, hue⟩ := hu.sr.out
  obtain ⟨n, hn⟩ : ∃ n, n = lits.length := ⟨_, rfl⟩
  rw [← hn] at hue
  subst hue
  clear h hX hRm hu hn
  go_enter Try.func23, Try.ntmps23
  go_wp2_with fail
  refine Calls.mono HRE.out ?_
  rintro ev w1 ⟨⟨N, rfl, hN1, hN2, hN3⟩, hw1⟩
  rw [hw1]
  clear hw1 w1 HRE
  have hmk := run_make_row' (P := Try.prog) 60 4 (.bool false) 1 underBools infoBool rfl .i64 .i64 N (by omega) (by omega) w
  have HN3 : Hid _ := hN3
  clear hN3
  obtain ⟨w1, hw1⟩ : ∃ w1, w1 = w.alloc (.cells (madeCells #[.bool false] N) 4) := ⟨_, rfl⟩
  obtain ⟨w2, hw2⟩ : ∃ w2, w2 = w1.alloc (.cells #[.pointer (some ⟨s, 0, none⟩), .slice (some ⟨w.heap.size, 0, none⟩) N N, .slice none 0 0, .int .i64 0, .slice none 0 0] 64) := ⟨_, rfl⟩
  have hz1 : w1.heap.size = w.heap.size + 1 := by rw [hw1, size_alloc']
  have hz2 : w2.heap.size = w.heap.size + 2 := by rw [hw2, size_alloc', hz1]
  have hb1 : Below w.heap.size w w1 := by rw [hw1]; go_grown
  have hb2 : Below w1.heap.size w1 w2 := by rw [hw2]; go_grown
  have hb : Below w.heap.size w w2 := hb1.trans (hb2.mono (by omega))
  have hF := HSO.out.lt
  have HWS : Hid (WS [] w F w2 s mo (w.heap.size + 1) N w.heap.size C m [] (fun _ => (0, 1)) [] 0) := by
    refine ⟨⟨F, .slice none 0 0, .slice none 0 0, ⟨?_, ?_, World.ownsRow_nil _ _ _ _, World.ownsRow_nil _ _ _ _, by omega, Nat.le_refl _, ?_, fun hf => by have := hF _ hf; omega, fun hf => by have := hF _ hf; omega, (fun q e => by cases e), (fun q e => by cases e), Ch.of_below F hb, fun q hq => by have := hF q hq; omega⟩⟩, ⟨HSO.out.ok, HRM.out, hN1, hN2, HSO.out.len.2⟩, Mv.start C m, (fun x hx => nomatch hx)⟩
    · rw [hw2, ← hz1]; exact heap_alloc_new w1 _
    · refine World.rowIs.of_block (w := w1) ?_ (hb2.block _ (by omega))
      rw [hw1]; exact made_row w N
    · obtain ⟨va, vb, vs, vw, us, hS⟩ := HX.out
      have hS2 := hS.below hb
      rw [arP_rest C _ 0 (fun _ => rfl), wlsU_nil]
      exact ⟨va, vb, vs, vw, us, hS2, fun x hx => nomatch hx⟩
  have HAL : Hid _ := all_any HWS.out HUF.out HN3.out hl
  clear hb1 hb2 hb
  go_wp2_with fail
  rw [← hw1, ← hw2]
  clear hw1 hw2 hmk
  refine Calls.mono HAL.out ?_
  rintro ev w3 ⟨r, T, rfl, ⟨M, P, k, hW3⟩, hfr⟩
  have HW3 : Hid _ := hW3
  have HFR : Hid (FolR C lits T r) := hfr
  have HUN : Hid _ := undo_any hW3
  clear hW3 hfr HAL
  go_wp2_with fail
  refine Calls.mono HUN.out ?_
  rintro ev w4 ⟨rfl, F4, vo4, vm4, hK4⟩
  have HK4 : Hid (Wk [] w F w4 F4 s mo (w.heap.size + 1) N w.heap.size vo4 vm4 (ar C) C (wls C m) M T k) := hK4
  have c2 : w4.cell? ⟨w.heap.size + 1, 2, none⟩ = some vo4 := cell_of hK4.hd 2 rfl
  obtain ⟨ao, no, ko, hvo, -⟩ := own_sl hK4.to
  subst hvo
  clear hK4 HUN
  go_wp2_with fail
  go_ret2
  have hk := HK4.out
  obtain ⟨va, vb, vs, vw, us, hS, -⟩ := hk.st
  exact ⟨_, r, T, rfl, ⟨⟨F4, ⟨⟨m, ⟨va, vb, vs, vw, us, hS⟩, HRM.out, hm⟩, HSO.out.ok, HSO.out.room, HSO.out.most, hk.lt⟩, hk.ch, hk.no⟩, hk.to⟩, HFR.out⟩
end Go.Proofs.Ytkndjndhjdfhcaa
