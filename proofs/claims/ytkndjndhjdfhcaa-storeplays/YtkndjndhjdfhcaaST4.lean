/- Contracts (store): once. -/
import Derived.Test.YtkndjndhjdfhcaaST3
namespace Go.Proofs.Ytkndjndhjdfhcaa
open Go.RowKit
set_option linter.unusedSimpArgs false
set_option linter.unusedVariables false

theorem ms_ne {w : World} {b : Nat} {S : List Int} (h : Ms w b S) {B : Nat} {v : Value} {l : List Int} (hI : Is' w B v l) : v.ownBlock ≠ some b := by
  intro e
  obtain ⟨es, cl, h1, -⟩ := h
  obtain ⟨cur, h2⟩ := row_cur hI e
  rw [h1] at h2; cases h2
set_option maxRecDepth 20000 in
set_option maxHeartbeats 12800000 in
theorem once_any {w : World} {u : Value} {c : List Int} (h : Sr w u c) (hl : c.length ≤ 100000) :
    Calls Try.prog 28 #[u] w fun ev w' => ∃ u', ev = .returned (.tuple #[u', .int .i64 (onceF c).2]) ∧ Is' w' w.heap.size u' (onceF c).1 ∧ Below w.heap.size w w' := by
  obtain ⟨ti, ht0, hz0, hz1, hz2⟩ := info_any infoInt
  have HI : Hid _ := (⟨ht0, hz0, hz1, hz2⟩ : Try.prog.info? 3 = some ti ∧ ti.zero = _ ∧ ti.size = 1 ∧ ti.bytes = 8)
  clear ht0 hz0 hz1 hz2
  have hmm := @run_makeMap Try.prog
  obtain ⟨a, k0, rfl⟩ := h.out
  obtain ⟨n, hn⟩ : ∃ n, n = c.length := ⟨_, rfl⟩
  obtain ⟨R, hR⟩ : ∃ R, R = onceF c := ⟨_, rfl⟩
  have HR : Hid _ := hR
  have HN : Hid _ := hn
  have HC : Hid _ := h
  rw [← hn] at hl HC ⊢
  rw [← hR]
  clear h hn hR
  go_enter Try.func28, Try.ntmps28
  go_wp2_with fail
  go_loopw [16] (fun i wr => ∃ k : Nat, k ≤ n ∧ i = .int .i64 (k : Int) ∧ (∀ j, j < k → isL (c.getD j 0) = true) ∧ w = wr) (fun i wr => n - (intOf i).toNat)
  case atStart => exact ⟨0, Nat.zero_le _, rfl, (fun j hj => by omega), rfl⟩
  case round =>
    obtain ⟨k, hk, rfl, hz, rfl⟩ := hrel
    have HZ : Hid _ := hz
    clear hz
    by_cases hlt : k < n
    · obtain ⟨g, o, rfl, hck⟩ := HC.out.at' (Below.refl _ _) (k := k) (by rw [← HN.out]; exact hlt)
      obtain ⟨s, hs⟩ : ∃ s, s = c.getD k 0 := ⟨_, rfl⟩
      rw [← hs] at hck
      have HL : Hid _ := isLiteral_any s w
      obtain ⟨b, hb⟩ : ∃ b, b = isL s := ⟨_, rfl⟩
      rw [← hb] at HL
      cases b with
      | true =>
        have HB : Hid (isL (c.getD k 0) = true) := by unfold Hid; rw [← hs, ← hb]
        clear hs hb
        go_wp2_with fail
        refine Calls.mono HL.out ?_
        rintro ev w1 ⟨rfl, hw⟩
        rw [hw]
        clear hw w1
        go_wp2_with fail
        refine ⟨⟨k + 1, by omega, by go_num, (fun j hj => ?_), by first | rfl | trivial⟩, by simp [intOf]; omega⟩
        by_cases e : j = k
        · subst e; exact HB.out
        · exact HZ.out j (by omega)
      | false =>
        have HB : Hid (R = ([], 110)) := by
          unfold Hid
          rw [HR.out]
          unfold onceF
          rw [if_neg]
          intro e
          have := List.all_eq_true.1 e s (by rw [hs]; exact getD_mem (by rw [← HN.out]; exact hlt))
          rw [← hb] at this; cases this
        clear hs hb
        go_wp2_with fail
        refine Calls.mono HL.out ?_
        rintro ev w1 ⟨rfl, hw⟩
        rw [hw]
        clear hw w1
        go_wp2_with fail
        go_ret2
        rw [HB.out]
        exact ⟨_, rfl, World.ownsRow_nil _ _ _ _, Below.refl _ _⟩
    · obtain rfl : k = n := by omega
      have HA : Hid (c.all isL = true) := by
        unfold Hid
        rw [List.all_eq_true]
        intro x hx
        obtain ⟨j, hj, rfl⟩ := List.getElem_of_mem hx
        have := HZ.out j (by rw [HN.out]; exact hj)
        rwa [List.getD_eq_getElem?_getD, List.getElem?_eq_getElem hj] at this
      go_wp2_with fail
      go_loopw [6, 27] (fun v i wr => ∃ j : Nat, j ≤ k ∧ i = .int .i64 (j : Int) ∧ Hid (opp (c.take j) = false ∧ Is' wr w.heap.size v (dd (c.take j)) ∧ Ms wr w.heap.size (dd (c.take j)) ∧ Below w.heap.size w wr)) (fun v i wr => k - (intOf i).toNat)
      case atStart => exact ⟨0, Nat.zero_le _, rfl, rfl, World.ownsRow_nil _ _ _ _, Ms.made w, by go_grown⟩
      case round =>
        obtain ⟨j, hj, rfl, hH⟩ := hrel
        by_cases hlt2 : j < k
        · obtain ⟨g, o, rfl, hck⟩ := HC.out.at' hH.out.2.2.2 (k := j) (by rw [← HN.out]; exact hlt2)
          obtain ⟨s, hs⟩ : ∃ s, s = c.getD j 0 := ⟨_, rfl⟩
          rw [← hs] at hck
          have hcj : c[j]? = some s := by
            have hjl : j < c.length := by rw [← HN.out]; exact hlt2
            rw [hs, List.getD_eq_getElem?_getD, List.getElem?_eq_getElem hjl]; rfl
          have hisl : isL s = true := List.all_eq_true.1 HA.out s (List.mem_of_getElem? hcj)
          have hsm := isL_sm hisl
          have hs0 := isL_ne hisl
          have hb1 : sm s := hsm
          unfold sm at hb1
          have hw1 : w64 (-s) := by unfold w64; omega
          have hw2 : w64 s := by unfold w64; omega
          have hlk := hH.out.2.2.1.look hw1
          obtain ⟨b1, hb1e⟩ : ∃ b, b = decide (-s ∈ dd (c.take j)) := ⟨_, rfl⟩
          obtain ⟨b2, hb2e⟩ : ∃ b, b = decide (s ∈ dd (c.take j)) := ⟨_, rfl⟩
          rw [← hb1e] at hlk
          have HOP : Hid (opp (c.take (j + 1)) = b1) := by
            unfold Hid
            rw [opp_take_succ hcj hH.out.1 hs0, hb1e]
            simp [mem_dd]
          have hlk2 : ∀ o : Obj, (Instr.lookup 65 (.map (some w.heap.size)) (.int .i64 s) true).run Try.prog (wr.alloc o) = .ok (.tuple #[.agg #[], .bool b2]) (wr.alloc o) := fun o => by
            rw [hb2e]; exact (hH.out.2.2.1.kept (heap_alloc_old _ _ hH.out.2.2.1.lt)).look hw2
          have HB2 : Hid _ := hb2e
          have HCJ : Hid _ := hcj
          clear hs hb1e hb2e hcj hw1 hisl
          cases b1 with
          | true =>
            have HB : Hid (R = ([], 112)) := by
              unfold Hid
              rw [HR.out]
              unfold onceF
              rw [if_pos HA.out, if_pos (opp_mono HOP.out)]
            clear hlk2
            go_wp2_with fail
            go_ret2
            rw [HB.out]
            refine ⟨_, rfl, World.ownsRow_nil _ _ _ _, ?_⟩
            exact below_step hH.out.2.2.2 (by go_grown)
          | false =>
            cases b2 with
            | true =>
              have HD : Hid (dd (c.take (j + 1)) = dd (c.take j)) := by
                unfold Hid
                rw [List.take_add_one, HCJ.out]
                show dd (c.take j ++ [s]) = _
                rw [dd_snoc, if_pos (decide_eq_true_iff.1 HB2.out.symm)]
              go_wp2_with fail
              have hbz : Below wr.heap.size wr ((wr.alloc (.cells #[] 66)).alloc (.cells #[] 66)) := by go_grown
              refine ⟨⟨j + 1, by omega, by go_num, HOP.out, ?_, ?_, below_step hH.out.2.2.2 hbz⟩, by simp [intOf]; omega⟩
              · rw [HD.out]; exact row_kept hH.out.2.1 hbz.block
              · rw [HD.out]; exact hH.out.2.2.1.kept (hbz.block _ hH.out.2.2.1.lt)
            | false =>
              have HD : Hid (dd (c.take (j + 1)) = dd (c.take j) ++ [s]) := by
                unfold Hid
                rw [List.take_add_one, HCJ.out]
                show dd (c.take j ++ [s]) = _
                rw [dd_snoc, if_neg (decide_eq_false_iff_not.1 HB2.out.symm)]
              have HBZ : Hid (Below wr.heap.size wr ((wr.alloc (.cells #[] 66)).alloc (.cells #[] 66))) := by unfold Hid; go_grown
              have hM2 := hH.out.2.2.1.kept (HBZ.out.block _ hH.out.2.2.1.lt)
              obtain ⟨w2, hput, hM3, hgr, hsz⟩ := hM2.put hw2 (decide_eq_false_iff_not.1 HB2.out.symm)
              have hne := ms_ne hH.out.2.2.1 hH.out.2.1
              have hIx : Is' w2 w.heap.size u6 (dd (c.take j)) := row_own hH.out.2.1 (fun q hq => (hgr.block q (Nat.lt_of_lt_of_le (World.ownsRow.lt hH.out.2.1 q hq).2 HBZ.out.size) (fun e => hne (by rw [hq, ← e]))).trans (HBZ.out.block q (World.ownsRow.lt hH.out.2.1 q hq).2))
              have hz1 : wr.heap.size ≤ w2.heap.size := by rw [hsz]; exact HBZ.out.size
              have hz0 : w.heap.size ≤ wr.heap.size := hH.out.2.2.2.size
              have HB5 : Hid (Below w.heap.size w w2) := by
                have h1 := below_step hH.out.2.2.2 HBZ.out
                exact ⟨hgr.os.trans h1.os, hgr.tape.trans h1.tape, hgr.output.trans h1.output, by omega, fun q hq => (hgr.block q (by have := h1.size; omega) (fun e => by injection e with e; omega)).trans (h1.block q hq)⟩
              have HIX : Hid _ := hIx
              have HM3 : Hid _ := hM3
              have HNE : Hid _ := hne
              have hlen : (dd (c.take j)).length ≤ 100000 := by
                have h1 := len_dd (c.take j)
                rw [List.length_take] at h1
                omega
              obtain ⟨m, hm⟩ : ∃ m, m = (dd (c.take j)).length := ⟨_, rfl⟩
              have HM : Hid _ := hm
              rw [← hm] at hlen
              clear hIx hM3 hgr hM2 hne hm hsz
              go_wp2_with (at_builtin; refine wpList_append_own_at _ rfl _ _ 27 rfl w.heap.size 3 ti (.int .i64 0) 1 8 underInts HI.out.1 HI.out.2.1 HI.out.2.2.1 HI.out.2.2.2 rfl (by decide) u6 m ((dd (c.take j)).map (Value.int .i64)) rfl (by rw [HM.out]; exact row_kept HIX.out (fun _ hq => heap_alloc_old _ _ hq)) ⟨w2.heap.size, 0, none⟩ 1 1 [.int .i64 s] rfl rfl (cell_one_new _ _ _) (ones [s]) (by unfold maxLen; omega) (by omega) (by rw [size_alloc']; omega) ?_; intro v3 w3 hown hgrow hnil hat)
              refine ⟨⟨j + 1, by omega, by go_num, HOP.out, ?_, ?_, ?_⟩, by simp [intOf]; omega⟩
              · rw [HD.out]
                unfold Is'
                rw [List.map_append, List.length_append, ← HM.out]
                exact hown
              · rw [HD.out]
                have h1 : w.heap.size < w2.heap.size := Ms.lt HM3.out
                exact Ms.kept HM3.out ((hgrow.block _ (by rw [size_alloc']; omega) (fun e => HNE.out e.symm)).trans (heap_alloc_old _ _ h1))
              · exact low_grown HB5.out (by omega) hgrow (fun q hq => (World.ownsRow.lt HIX.out q hq).1)
        · obtain rfl : j = k := by omega
          have HB : Hid (R = (dd c, 0)) := by
            unfold Hid
            rw [HR.out]
            unfold onceF
            have := hH.out.1
            rw [HN.out, List.take_length] at this
            rw [if_pos HA.out, this]
            rfl
          have HB3 : Hid (Is' wr w.heap.size u6 (dd c)) := by
            unfold Hid
            have := hH.out.2.1
            rw [HN.out, List.take_length] at this
            exact this
          go_wp2_with fail
          go_ret2
          rw [HB.out]
          exact ⟨_, rfl, HB3.out, hH.out.2.2.2⟩
end Go.Proofs.Ytkndjndhjdfhcaa
