/- The walk of SexpBlanks. -/
import Derived.Test.YtlpojfpfindpkaaDoorSX32
namespace Go.Proofs.YtlpojfpfindpkaaDoor
open Go.RowKit
set_option linter.unusedSimpArgs false
set_option linter.unusedVariables false

theorem lts_mono {ks : List Sx} {j : Nat} : lts (ks.take j) ≤ lts ks := by
  have key : ∀ (l : List Sx) (j : Nat), lts (l.take j) ≤ lts l := by
    intro l
    induction l with
    | nil => intro j; simp
    | cons x r ih =>
      intro j
      cases j with
      | zero => simp [lts]
      | succ j => simp only [List.take_succ_cons, lts]; have := ih j; omega
  exact key ks j
theorem cls_get {ks : List Sx} {d : Nat} (h : cls d ks = true) : ∀ y ∈ ks, y.cl d = true := by
  induction ks with
  | nil => intro y hy; cases hy
  | cons z r ih =>
    simp only [cls, Bool.and_eq_true] at h
    intro y hy
    rcases List.mem_cons.1 hy with rfl | hy
    · exact h.1
    · exact ih h.2 y hy
theorem take_snoc {ks : List Sx} {k : Nat} {y : Sx} (hy : ks[k]? = some y) : ks.take (k + 1) = ks.take k ++ [y] := by rw [List.take_add_one, hy]; rfl
set_option maxRecDepth 20000 in
set_option maxHeartbeats 12800000 in
theorem walk_blanks {ks : List Sx} {u : Value} (n0 : Int) {w : World} (hR : Row w (fun b => b < w.heap.size) ks u) (hwk : wks ks) (hg : Gl w) :
    Calls Tryd.prog 6 #[u, .int .i64 n0] w fun e w' => e = .returned (.bool true) ∧ Below w.heap.size w w' := by
  have HKN : Hid _ := known_any hg
  have hml := row_len hR
  have HRow : Hid (∀ wx, Below w.heap.size w wx → Row wx (fun b => b < w.heap.size) ks u) := fun wx hb => row_low hR (fun _ h => h) hb
  obtain ⟨a, c, rfl, hget⟩ := row_get hR
  have HG : Hid _ := hget
  have HWK : Hid _ := wks_get hwk
  obtain ⟨N, hN⟩ : ∃ N, N = ks.length := ⟨_, rfl⟩
  have HN : Hid _ := hN
  have hN9 : (N : Int) ≤ 9223372036854775807 := by unfold maxLen at hml; omega
  rw [← hN] at HRow ⊢
  clear hget hR hwk hg hN hml
  go_enter Tryd.func6, Tryd.ntmps6
  go_wp2_with fail
  refine Calls.mono HKN.out ?_
  rintro e w1 ⟨rfl, hb1⟩
  have HB1 : Hid _ := hb1
  clear hb1 HKN
  go_wp2_with fail
  go_loopw [5, 6] (fun s i wr => ∃ k : Nat, k ≤ N ∧ ∃ S : Int, s = .int .i64 S ∧ i = .int .i64 (k : Int) ∧ 0 ≤ S ∧ S ≤ 1152921504606850000 ∧ Hid (cls 100 (ks.take k) = true) ∧ Hid (S ≤ 500 → S = ((lts (ks.take k) : Nat) : Int)) ∧ Hid (Below w.heap.size w wr)) (fun s i wr => N - (intOf i).toNat)
  case atStart => exact ⟨0, Nat.zero_le _, 0, rfl, rfl, by decide, by decide, by unfold Hid; simp [cls], fun _ => by simp [lts], HB1⟩
  case round =>
    obtain ⟨k, hk, S, rfl, rfl, hS0, hS1, hC, hS, hW⟩ := hrel
    have hsr : w.heap.size ≤ wr.heap.size := hW.out.size
    by_cases hbig : 500 < S
    · by_cases hlt : k < N
      · have hltI : (k : Int) < (N : Int) := by omega
        go_wp2_with fail
        go_ret
        exact ⟨rfl, hW.out⟩
      · have hltI : (N : Int) ≤ (k : Int) := by omega
        go_wp2_with fail
        go_ret
        exact ⟨rfl, hW.out⟩
    · have hSle : S ≤ 500 := by omega
      by_cases hlt : k < N
      · obtain ⟨y, hy⟩ : ∃ y, ks[k]? = some y := ⟨_, List.getElem?_eq_getElem (by rw [← HN.out]; exact hlt)⟩
        obtain ⟨g, o, uy, rfl, hDg, hgl, g0, g1, g2, hRy⟩ := HG.out k y hy
        have cc : ∀ wx, Below w.heap.size w wx → ∀ i, wx.cell? ⟨g, i, none⟩ = w.cell? ⟨g, i, none⟩ := fun wx hb i => World.cell?_of_block (a := ⟨g, i, none⟩) (hb.block g hDg)
        obtain ⟨ay, ny, cy, rfl⟩ := hRy.sl
        have HC3 : Hid (∀ wx, Below w.heap.size w wx → wx.cell? ⟨g, o + k * 3, none⟩ = some (.string y.w) ∧ wx.cell? ⟨g, o + k * 3 + 1, none⟩ = some (.bool y.l) ∧ wx.cell? ⟨g, o + k * 3 + 2, none⟩ = some (.slice ay ny cy)) := fun wx hb => ⟨(cc wx hb _).trans g0, (cc wx hb _).trans g1, (cc wx hb _).trans g2⟩
        obtain ⟨d0, d1, d2⟩ := HC3.out wr hW.out
        have hltI : (k : Int) < (N : Int) := by omega
        have hST := lts_take hy
        have hyw := HWK.out y (List.mem_of_getElem? hy)
        have HLI : Hid (Calls Tryd.prog 14 #[.agg #[.string y.w, .bool y.l, .slice ay ny cy], .int .i64 500, .int .i64 100] wr fun e w' => ∃ r : Int, e = .returned (.int .i64 r) ∧ 0 ≤ r ∧ r ≤ 500 + 1152921504606846976 ∧ Hid (S + r ≤ 500 → S + r = ((lts (ks.take (k + 1)) : Nat) : Int)) ∧ Hid (Below w.heap.size w w')) := by
          refine (Light_any y (w := wr) (m := 500) (d := 100) (row_low hRy (fun _ h => h) hW.out) (fun g (h : g < w.heap.size) => by omega) hyw (by decide) (by decide) (by decide) (by decide)).mono ?_
          rintro e w' ⟨r, rfl, hr0, hr1, hr2, hb⟩
          refine ⟨r, rfl, hr0, hr1, fun h => ?_, hW.out.trans (hb.mono hsr)⟩
          have e1 := hS.out hSle
          have e2 := hr2.out (by omega)
          rw [hST]; omega
        obtain ⟨Y, hYe⟩ : ∃ Y, Y = y.cl 100 := ⟨_, rfl⟩
        have HCL : Hid (∀ wx, Below w.heap.size w wx → Calls Tryd.prog 21 #[.agg #[.string y.w, .bool y.l, .slice ay ny cy], .int .i64 100] wx fun e w' => e = .returned (.bool Y) ∧ Hid (Below w.heap.size w w')) := fun wx hb => by
          rw [hYe]
          refine (clean_any y (w := wx) (d := 100) (row_low hRy (fun _ h => h) hb) (fun g (h : g < w.heap.size) => Nat.lt_of_lt_of_le h hb.size) hyw (by decide)).mono ?_
          rintro e w' ⟨rfl, hb2⟩
          exact ⟨rfl, hb.trans (hb2.mono hb.size)⟩
        have HCT : Hid (cls 100 (ks.take (k + 1)) = Y) := by unfold Hid; rw [cls_take hy, hC.out, hYe]; rfl
        clear hy g0 g1 g2 hRy cc hST hyw hYe hbig
        go_wp2_with fail
        refine Calls.mono HLI.out ?_
        rintro e w2 ⟨r, rfl, hr0, hr1, hr2, hb2⟩
        clear d0 d1 d2
        obtain ⟨d0, d1, d2⟩ := HC3.out w2 hb2.out
        go_wp2_with fail
        refine Calls.mono (HCL.out _ hb2.out) ?_
        rintro e w3 ⟨rfl, hb3⟩
        clear d0 d1 d2
        cases Y
        · go_wp2_with fail
          go_ret
          exact ⟨rfl, hb3.out⟩
        · go_wp2_with fail
          exact ⟨⟨k + 1, by omega, S + r, rfl, rfl, by omega, by omega, HCT, hr2, hb3⟩, by simp [intOf]; omega⟩
      · obtain rfl : k = N := by omega
        by_cases h100 : 100 < k
        · have hhI : (100 : Int) < (k : Int) := by omega
          go_wp2_with fail
          go_ret
          exact ⟨rfl, hW.out⟩
        · have hhI : (k : Int) ≤ 100 := by omega
          have htk : ks.take k = ks := by rw [HN.out]; exact List.take_length
          have HL5 : Hid (lts ks ≤ 500) := by
            have e1 := hS.out hSle
            rw [htk] at e1
            unfold Hid; omega
          have HCK : Hid _ := cls_get (by rw [htk] at hC; exact hC.out)
          clear hC hS htk
          go_wp2_with fail
          go_loopw [7, 8] (fun s i wv => ∃ j : Nat, j ≤ k ∧ ∃ T, s = .string T ∧ i = .int .i64 (j : Int) ∧ Hid (Bl T (ks.take j)) ∧ Hid (T.size ≤ 11 + 10 * lts (ks.take j) + 6 * j) ∧ Hid (Below w.heap.size w wv)) (fun s i wv => k - (intOf i).toNat)
          case atStart => exact ⟨0, Nat.zero_le _, _, rfl, rfl, bl_first, by unfold Hid; show 11 ≤ _; omega, hW⟩
          case round =>
            obtain ⟨j, hj, T, rfl, rfl, hB, hTz, hV⟩ := hrel
            have hsv : w.heap.size ≤ wr.heap.size := hV.out.size
            have hlm := lts_mono (ks := ks) (j := j)
            by_cases hlt2 : j < k
            · obtain ⟨y, hy⟩ : ∃ y, ks[j]? = some y := ⟨_, List.getElem?_eq_getElem (by rw [← HN.out]; exact hlt2)⟩
              obtain ⟨g, o, uy, rfl, hDg, hgl, g0, g1, g2, hRy⟩ := HG.out j y hy
              have cc : ∀ i, wr.cell? ⟨g, i, none⟩ = w.cell? ⟨g, i, none⟩ := fun i => World.cell?_of_block (a := ⟨g, i, none⟩) (hV.out.block g hDg)
              obtain ⟨ay, ny, cy, rfl⟩ := hRy.sl
              have d0 : wr.cell? ⟨g, o + j * 3, none⟩ = some (.string y.w) := (cc _).trans g0
              have d1 : wr.cell? ⟨g, o + j * 3 + 1, none⟩ = some (.bool y.l) := (cc _).trans g1
              have d2 : wr.cell? ⟨g, o + j * 3 + 2, none⟩ = some (.slice ay ny cy) := (cc _).trans g2
              have hltI : (j : Int) < (k : Int) := by omega
              have hST := lts_take hy
              have hlm2 := lts_mono (ks := ks) (j := j + 1)
              have hpl := prt_lt y
              obtain ⟨P, hP⟩ : ∃ P, P = tx y.prt := ⟨_, rfl⟩
              have hPs : P.size + 1 ≤ 10 * y.lt := by rw [hP, tx_size]; exact hpl
              have HPR : Hid (Calls Tryd.prog 15 #[.agg #[.string y.w, .bool y.l, .slice ay ny cy]] wr fun e w' => e = .returned (.string P) ∧ Hid (Below w.heap.size w w')) := by
                rw [hP]
                have h5 := HL5.out
                refine (Print_any (x := y) (w := wr) (row_low hRy (fun _ h => h) hV.out) (fun g (h : g < w.heap.size) => by omega) (by omega)).mono ?_
                rintro e w' ⟨rfl, hb⟩
                exact ⟨rfl, hV.out.trans (hb.mono hsv)⟩
              have HPUT : Hid (∀ l ∈ seps, Bl (T ++ P ++ ⟨l.toArray⟩) (ks.take (j + 1)) ∧ (l.length ≤ 6 → (T ++ P ++ ⟨l.toArray⟩ : ByteArray).size ≤ 11 + 10 * lts (ks.take (j + 1)) + 6 * (j + 1))) := fun l hl => by
                rw [take_snoc hy, hP]
                refine ⟨bl_put hB.out (HCK.out y (List.mem_of_getElem? hy)) hl, fun h6 => ?_⟩
                have h1 := hTz.out
                rw [← take_snoc hy, hST, ByteArray.size_append, ByteArray.size_append, tx_size]
                have h2 : (⟨l.toArray⟩ : ByteArray).size = l.length := by show l.toArray.size = _; simp
                rw [h2]; omega
              have hT9 : T.size + P.size ≤ 100000 := by have h1 := hTz.out; have h5 := HL5.out; omega
              have hz0 : ¬ (9223372036854775807 < T.size + P.size) := by omega
              have hz1 : ¬ (9223372036854775807 < (T ++ P).size + 1) := by rw [ByteArray.size_append]; omega
              have hz4 : ¬ (9223372036854775807 < (T ++ P).size + 4) := by rw [ByteArray.size_append]; omega
              have hz6 : ¬ (9223372036854775807 < (T ++ P).size + 6) := by rw [ByteArray.size_append]; omega
              have hy1 : ¬ (9223372036854775807 < T.size + P.size + 1) := by omega
              have hy4 : ¬ (9223372036854775807 < T.size + P.size + 4) := by omega
              have hy6 : ¬ (9223372036854775807 < T.size + P.size + 6) := by omega
              obtain ⟨v, hv, hv4⟩ := and3 (wrap64 (n0 + (j : Int)))
              clear hy g0 g1 g2 hRy cc hST hlm hlm2 hpl hP hPs hT9 h100
              go_wp2_with fail
              refine Calls.mono HPR.out ?_
              rintro e w2 ⟨rfl, hb2⟩
              clear d0 d1 d2
              rcases hv4 with rfl | rfl | rfl | rfl
              · obtain ⟨p1, p2⟩ := HPUT.out [32] (by simp [seps])
                have Q1 : Hid (Bl (T ++ P ++ ⟨#[32]⟩) (ks.take (j + 1))) := p1
                have Q2 : Hid ((T ++ P ++ ⟨#[32]⟩ : ByteArray).size ≤ 11 + 10 * lts (ks.take (j + 1)) + 6 * (j + 1)) := p2 (by decide)
                clear p1 p2
                go_wp2_with fail
                exact ⟨⟨j + 1, by omega, _, rfl, rfl, Q1, Q2, hb2⟩, by simp [intOf]; omega⟩
              · obtain ⟨p1, p2⟩ := HPUT.out [9, 13, 10, 32] (by simp [seps])
                have Q1 : Hid (Bl (T ++ P ++ ⟨#[9, 13, 10, 32]⟩) (ks.take (j + 1))) := p1
                have Q2 : Hid ((T ++ P ++ ⟨#[9, 13, 10, 32]⟩ : ByteArray).size ≤ 11 + 10 * lts (ks.take (j + 1)) + 6 * (j + 1)) := p2 (by decide)
                clear p1 p2
                go_wp2_with fail
                exact ⟨⟨j + 1, by omega, _, rfl, rfl, Q1, Q2, hb2⟩, by simp [intOf]; omega⟩
              · obtain ⟨p1, p2⟩ := HPUT.out [10, 59, 124, 32, 40, 10] (by simp [seps])
                have Q1 : Hid (Bl (T ++ P ++ ⟨#[10, 59, 124, 32, 40, 10]⟩) (ks.take (j + 1))) := p1
                have Q2 : Hid ((T ++ P ++ ⟨#[10, 59, 124, 32, 40, 10]⟩ : ByteArray).size ≤ 11 + 10 * lts (ks.take (j + 1)) + 6 * (j + 1)) := p2 (by decide)
                clear p1 p2
                go_wp2_with fail
                exact ⟨⟨j + 1, by omega, _, rfl, rfl, Q1, Q2, hb2⟩, by simp [intOf]; omega⟩
              · obtain ⟨p1, p2⟩ := HPUT.out [32, 59, 32, 41, 10, 10] (by simp [seps])
                have Q1 : Hid (Bl (T ++ P ++ ⟨#[32, 59, 32, 41, 10, 10]⟩) (ks.take (j + 1))) := p1
                have Q2 : Hid ((T ++ P ++ ⟨#[32, 59, 32, 41, 10, 10]⟩ : ByteArray).size ≤ 11 + 10 * lts (ks.take (j + 1)) + 6 * (j + 1)) := p2 (by decide)
                clear p1 p2
                go_wp2_with fail
                exact ⟨⟨j + 1, by omega, _, rfl, rfl, Q1, Q2, hb2⟩, by simp [intOf]; omega⟩
            · obtain rfl : j = k := by omega
              have htk : ks.take j = ks := by rw [HN.out]; exact List.take_length
              have hTs : T.size ≤ 60000 := by have h1 := hTz.out; have h5 := HL5.out; omega
              rw [htk] at hB
              have HPK : Hid (pars (T ++ ⟨#[59, 101, 110, 100]⟩) = (ks, 0, 0)) := bl_end hB.out (by omega)
              have hz4 : ¬ (9223372036854775807 < T.size + 4) := by omega
              clear htk hTs hB hTz hlm
              go_wp2_with fail
              refine Calls.mono (parse_ok HPK.out _) ?_
              rintro e w2 ⟨v2, rfl, ⟨D2, hR2, hD2⟩, hb2⟩
              have hB2 : Below w.heap.size w w2 := hV.out.trans (hb2.mono hsv)
              have HSM : Hid (Calls Tryd.prog 13 #[.slice a j c, v2] w2 fun e w' => e = .returned (.bool true) ∧ Hid (Below w.heap.size w w')) := by
                have r1 : Row w2 (fun b => b < w.heap.size ∨ D2 b) ks (.slice a j c) := (HRow.out w2 hB2).keep (fun _ _ => rfl) (fun g h => Or.inl h)
                have r2 : Row w2 (fun b => b < w.heap.size ∨ D2 b) ks v2 := hR2.keep (fun _ _ => rfl) (fun g h => Or.inr h)
                refine (same_any r1 r2 (fun g h => ?_)).mono ?_
                · rcases h with h | h
                  · exact Nat.lt_of_lt_of_le h hB2.size
                  · exact (hD2 g h).2
                · rintro e w' ⟨rfl, hb⟩
                  exact ⟨rfl, hB2.trans (hb.mono hB2.size)⟩
              obtain ⟨a2, c2, rfl, -⟩ := row_get hR2
              clear hR2 hD2 hb2 hB2
              go_wp2_with fail
              refine Calls.mono HSM.out ?_
              rintro e w3 ⟨rfl, hb3⟩
              go_wp2_with fail
              go_ret
              exact ⟨rfl, hb3.out⟩
end Go.Proofs.YtlpojfpfindpkaaDoor
