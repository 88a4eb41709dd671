/- Contracts (the document): Apply. (Made by a script.) -/
import Derived.Test.YtnflphhckgeneaaGreatEA11
import Derived.Test.YtnflphhckgeneaaGreatMg34
import Derived.Test.YtnflphhckgeneaaGreatMg35
namespace Go.Proofs.YtnflphhckgeneaaGreat
set_option maxHeartbeats 12800000
set_option maxRecDepth 100000
open Go.RowKit
set_option linter.unusedSimpArgs false
set_option linter.unusedVariables false

def allr (l : List Bt) : Prop := ∀ b ∈ l, rgt b.w b.lo b.hi = true
/-- What the document's Apply answers: by the error of the sorts (of at most four values). -/
def DRes (w : World) (l : List Bt) (op p q : Int) (gb o cc : Nat) (e : Int) (r : Bt) (er : Int) : Prop :=
  (e = 32 ∧ er = 32 ∧ r = zBt) ∨ (¬ e = 32 ∧ ¬ allr l ∧ er = 30 ∧ r = zBt) ∨ (¬ e = 32 ∧ ¬ e = 0 ∧ allr l ∧ er = e ∧ r = zBt) ∨
  (e = 0 ∧ allr l ∧ er = 0 ∧ ∀ wx, Below w.heap.size w wx → Rt 31 #[.int .i64 op, .int .i64 p, .int .i64 q, .slice (some ⟨gb, o, none⟩) l.length cc] wx (.agg #[.int .i64 r.w, .int .u64 r.lo, .int .u64 r.hi]))
theorem ws_snoc {l : List Bt} {k : Nat} {b : Bt} (h : l[k]? = some b) : (l.take (k + 1)).map (·.w) = (l.take k).map (·.w) ++ [b.w] := by
  rw [List.take_add_one, h, List.map_append]; rfl

theorem dap_any {w : World} {gb o cc : Nat} {l : List Bt} {op p q s e er : Int} {r : Bt} (h : Lb w gb o l) (hg : gb < w.heap.size) (hk : ∀ b ∈ l, Bk b) (hl : l.length ≤ 8) (hne : l ≠ []) (hs : srtF op p q ((l.take 4).map (·.w)) = (s, e)) (hd : DRes w l op p q gb o cc e r er) :
    Rt 16 #[.int .i64 op, .int .i64 p, .int .i64 q, .slice (some ⟨gb, o, none⟩) l.length cc] w (.tuple #[.agg #[.int .i64 r.w, .int .u64 r.lo, .int .u64 r.hi], .int .i64 er]) := by
  obtain ⟨t0, ht0, hz0, hz1, hz2⟩ := info_parts info3
  have HI0 : Hid (Tryz.prog.info? 3 = some t0 ∧ t0.zero = some (.int .i64 0) ∧ t0.size = 1 ∧ t0.bytes = 8) := ⟨ht0, hz0, hz1, hz2⟩
  obtain ⟨n, hn⟩ : ∃ n, n = l.length := ⟨_, rfl⟩
  have HN : Hid _ := hn
  have HC : Hid _ := h
  have HK : Hid _ := hk
  have HS : Hid _ := hs
  have HNE : Hid _ := hne
  have HD : Hid (DRes w l op p q gb o cc e r er) := hd
  unfold DRes at HD
  rw [← hn] at hl HD ⊢
  have hn1 : 1 ≤ n := by rw [hn]; exact List.length_pos_iff.2 hne
  clear hn ht0 hz0 hz1 hz2 h hk hs hne hd
  go_enter Tryz.func16, Tryz.ntmps16
  go_wp2_with fail
  go_loopw [10, 11] (fun v i wr => ∃ k : Nat, k ≤ n ∧ k ≤ 4 ∧ i = .int .i64 (k : Int) ∧ Hid (Is' wr (w.heap.size + 1) v ((l.take k).map (·.w)) ∧ Below (w.heap.size + 1) (w.alloc (.cells #[.int .i64 0, .int .u64 0, .int .u64 0] 34)) wr)) (fun v i wr => 4 - (intOf i).toNat)
  case atStart => exact ⟨0, Nat.zero_le _, Nat.zero_le _, rfl, World.ownsRow_nil _ _ _ _, Below.refl _ _⟩
  case round =>
    obtain ⟨k, hk, hk4, rfl, hH⟩ := hrel
    have hbl : Below w.heap.size w wr := Below.trans (by go_grown) (hH.out.2.mono (by omega))
    by_cases hlt : k < n ∧ k < 4
    · obtain ⟨b, hb⟩ : ∃ b, l[k]? = some b := ⟨_, List.getElem?_eq_getElem (by rw [← HN.out]; exact hlt.1)⟩
      have d0 : wr.cell? ⟨gb, o + k * 3, none⟩ = some (.int .i64 b.w) := bel_cell hbl hg (HC.out k b hb 0 _ rfl)
      have HSS : Hid _ := ws_snoc hb
      have hltI : (k : Int) < (n : Int) := by omega
      have hltJ : (k : Int) < 4 := by omega
      have HLN : Hid (((l.take k).map (·.w)).length ≤ 4) := by unfold Hid; rw [List.length_map, List.length_take]; omega
      have hsz := hH.out.2.size
      rw [size_alloc'] at hsz
      clear hb
      go_wp2_with (at_builtin; refine wpList_append_own_at _ rfl _ _ 24 rfl (w.heap.size + 1) 3 t0 (.int .i64 0) 1 8 under45 HI0.out.1 HI0.out.2.1 HI0.out.2.2.1 HI0.out.2.2.2 rfl (by decide) _ _ _ rfl (row_kept hH.out.1 (fun _ hq => heap_alloc_old _ _ hq)) ⟨wr.heap.size, 0, none⟩ 1 1 [.int .i64 b.w] rfl rfl (cell_one_new _ _ _) (ones [b.w]) (by have := HLN.out; rw [List.length_map] at *; unfold maxLen; simp only [List.length_map] at *; omega) (by have := HLN.out; simp only [List.length_map] at *; omega) (by rw [size_alloc']; omega) ?_; intro v1 w1 hown hgrow hnil hat)
      have hb1 : Below (w.heap.size + 1) (w.alloc (.cells #[.int .i64 0, .int .u64 0, .int .u64 0] 34)) w1 := low_grown hH.out.2 hsz hgrow (fun q hq => (World.ownsRow.lt hH.out.1 q hq).1)
      have HI1 : Hid (Is' w1 (w.heap.size + 1) v1 ((l.take (k + 1)).map (·.w))) := by
        unfold Hid Is'
        rw [HSS.out, List.map_append, List.length_append]
        exact hown
      clear hown hgrow hnil hat
      go_wp2_with fail
      exact ⟨⟨k + 1, by omega, by omega, by go_num, HI1.out, hb1⟩, by simp [intOf]; omega⟩
    · have HW : Hid ((l.take k).map (·.w) = (l.take 4).map (·.w)) := by
        unfold Hid
        by_cases h4 : k = 4
        · rw [h4]
        · rw [List.take_of_length_le (by rw [← HN.out]; omega), List.take_of_length_le (by rw [← HN.out]; omega)]
      have HVS : Hid (Calls Tryz.prog 40 #[.int .i64 op, .int .i64 p, .int .i64 q, u10] wr fun e' w' => e' = .returned (.tuple #[.int .i64 s, .int .i64 e]) ∧ Below wr.heap.size wr w') := by
        have hI := hH.out.1
        rw [HW.out] at hI
        obtain ⟨r1, cap, rfl, hb, hc, hLi⟩ := Is'.li hI (by
          intro q
          have h2 : ((l.take 4).map (·.w)).length = 0 := by rw [q]; rfl
          rw [List.length_map, List.length_take, ← HN.out] at h2
          omega)
        have := refsort_any (op := op) (p := p) (q := q) (c := cap) hLi (by rw [List.length_map, List.length_take]; omega)
        rw [HS.out] at this
        exact this
      have hz8 : wr.heap[w.heap.size]? = some (.cells #[.int .i64 0, .int .u64 0, .int .u64 0] 34) := (hH.out.2.block _ (by omega)).trans (heap_alloc_new w _)
      have HZ : Hid _ := hz8
      have hsz := hH.out.2.size
      rw [size_alloc'] at hsz
      have hlt2 : (decide ((k : Int) < (n : Int)) && decide ((k : Int) < 4)) = false := by
        by_cases q : k < n
        · have : ¬ k < 4 := fun q4 => hlt ⟨q, q4⟩
          simp; omega
        · simp; omega
      clear hz8
      by_cases hkn : k < n
      all_goals first | (have c1 : (k : Int) < (n : Int) := (by omega); have c2 : ¬ (k : Int) < 4 := (by omega); go_wp2_with fail; clear c1 c2) | (have c1 : ¬ (k : Int) < (n : Int) := (by omega); go_wp2_with fail; clear c1)
      all_goals
        refine HVS.out.mono ?_
        rintro e' w1 ⟨rfl, hb⟩
        have hB1 : Below w.heap.size w w1 := hbl.trans (hb.mono hbl.size)
        have h81 : w1.heap[w.heap.size]? = some (.cells #[.int .i64 0, .int .u64 0, .int .u64 0] 34) := (hb.block _ (by omega)).trans HZ.out
        have hs1 : w.heap.size < w1.heap.size := by have := hb.size; omega
        clear hb
        rcases HD.out with ⟨rfl, rfl, rfl⟩ | ⟨e32, hna, rfl, rfl⟩ | ⟨e32, e0, ha, rfl, rfl⟩ | ⟨rfl, ha, rfl, hM⟩
        · have r0 : w1.cell? ⟨w.heap.size, 0, none⟩ = some (.int .i64 0) := cell_of h81 0 rfl
          have r1 : w1.cell? ⟨w.heap.size, 1, none⟩ = some (.int .u64 0) := cell_of h81 1 rfl
          have r2 : w1.cell? ⟨w.heap.size, 2, none⟩ = some (.int .u64 0) := cell_of h81 2 rfl
          have rf : ∀ j, w1.frozen? ⟨w.heap.size, j, none⟩ = false := fun j => by have hh := h81; simp [World.frozen?, hh]
          go_wp2_with fail
          refine bodyPost_ret (v := .tuple #[.agg #[.int .i64 0, .int .u64 0, .int .u64 0], .int .i64 32]) (by simp [results, Tryz.results16, go_sem, r0, r1, r2]) rfl ?_
          exact ⟨rfl, by go_grown⟩
        · have z32 : (e == 32) = false := by simp [e32]
          have H81 : Hid _ := h81
          clear h81
          go_wp2_with fail
          go_loopw [14] (fun i wy => ∃ k : Nat, k ≤ n ∧ i = .int .i64 (k : Int) ∧ Hid ((∀ j b, j < k → l[j]? = some b → rgt b.w b.lo b.hi = true) ∧ Below w1.heap.size w1 wy)) (fun i wy => n - (intOf i).toNat)
          case atStart => exact ⟨0, Nat.zero_le _, rfl, (fun j b hj => absurd hj (by omega)), Below.refl _ _⟩
          case round =>
            obtain ⟨k2, hk2, rfl, hG⟩ := hrel
            have hB2 : Below w.heap.size w wr := hB1.trans (hG.out.2.mono hB1.size)
            have h82 : wr.heap[w.heap.size]? = some (.cells #[.int .i64 0, .int .u64 0, .int .u64 0] 34) := (hG.out.2.block _ hs1).trans H81.out
            have hs2 : w.heap.size < wr.heap.size := by have := hG.out.2.size; omega
            by_cases hlt3 : k2 < n
            · obtain ⟨b, hb⟩ : ∃ b, l[k2]? = some b := ⟨_, List.getElem?_eq_getElem (by rw [← HN.out]; exact hlt3)⟩
              have d0 : wr.cell? ⟨gb, o + k2 * 3, none⟩ = some (.int .i64 b.w) := bel_cell hB2 hg (HC.out k2 b hb 0 _ rfl)
              have d1 : wr.cell? ⟨gb, o + k2 * 3 + 1, none⟩ = some (.int .u64 b.lo) := bel_cell hB2 hg (HC.out k2 b hb 1 _ rfl)
              have d2 : wr.cell? ⟨gb, o + k2 * 3 + 2, none⟩ = some (.int .u64 b.hi) := bel_cell hB2 hg (HC.out k2 b hb 2 _ rfl)
              have hltI : (k2 : Int) < (n : Int) := by omega
              have hBk := HK.out b (List.mem_of_getElem? hb)
              obtain ⟨y, hy⟩ : ∃ y, y = rgt b.w b.lo b.hi := ⟨_, rfl⟩
              have HR : Hid (∀ wx, Rt 30 #[.agg #[.int .i64 b.w, .int .u64 b.lo, .int .u64 b.hi]] wx (.bool y)) := fun wx => by rw [hy]; exact refright_all hBk.l0 hBk.l1 hBk.h0 hBk.h1 wx
              have HB : Hid _ := hb
              have HY : Hid _ := hy
              have H82 : Hid _ := h82
              clear hb hBk hy h82
              cases y
              · go_wp2_with fail
                refine (HR.out _).mono ?_
                rintro e' w3 ⟨rfl, hb3⟩
                have hB3 : Below w.heap.size w w3 := hB2.trans (hb3.mono hB2.size)
                have h83 : w3.heap[w.heap.size]? = some (.cells #[.int .i64 0, .int .u64 0, .int .u64 0] 34) := (hb3.block _ hs2).trans H82.out
                have r0 : w3.cell? ⟨w.heap.size, 0, none⟩ = some (.int .i64 0) := cell_of h83 0 rfl
                have r1 : w3.cell? ⟨w.heap.size, 1, none⟩ = some (.int .u64 0) := cell_of h83 1 rfl
                have r2 : w3.cell? ⟨w.heap.size, 2, none⟩ = some (.int .u64 0) := cell_of h83 2 rfl
                have rf : ∀ j, w3.frozen? ⟨w.heap.size, j, none⟩ = false := fun j => by have hh := h83; simp [World.frozen?, hh]
                clear hb3 h83
                go_wp2_with fail
                refine bodyPost_ret (v := .tuple #[.agg #[.int .i64 0, .int .u64 0, .int .u64 0], .int .i64 30]) (by simp [results, Tryz.results16, go_sem, r0, r1, r2]) rfl ?_
                exact ⟨rfl, by go_grown⟩
              · go_wp2_with fail
                refine (HR.out _).mono ?_
                rintro e' w3 ⟨rfl, hb3⟩
                have hG3 : Hid ((∀ j b, j < k2 + 1 → l[j]? = some b → rgt b.w b.lo b.hi = true) ∧ Below w1.heap.size w1 w3) := by
                  refine ⟨fun j c hj hc => ?_, hG.out.2.trans (hb3.mono hG.out.2.size)⟩
                  by_cases hjk : j = k2
                  · subst hjk; rw [HB.out] at hc; cases hc; exact HY.out.symm
                  · exact hG.out.1 j c (by omega) hc
                clear hb3
                go_wp2_with fail
                exact ⟨⟨k2 + 1, by omega, by go_num, hG3⟩, by simp [intOf]; omega⟩
            · obtain rfl : k2 = n := by omega
              have hltI : ¬ (k2 : Int) < (k2 : Int) := by omega
              exact absurd (fun b hb => by
                obtain ⟨j, hj, rfl⟩ := List.getElem_of_mem hb
                exact hG.out.1 j _ (by rw [HN.out]; exact hj) (List.getElem?_eq_getElem hj)) hna
        · have z32 : (er == 32) = false := by simp [e32]
          have z0 : (er == 0) = false := by simp [e0]
          have z1 : (er != 0) = true := by simp [e0]
          have H81 : Hid _ := h81
          clear h81
          go_wp2_with fail
          go_loopw [14] (fun i wy => ∃ k : Nat, k ≤ n ∧ i = .int .i64 (k : Int) ∧ Hid ((∀ j b, j < k → l[j]? = some b → rgt b.w b.lo b.hi = true) ∧ Below w1.heap.size w1 wy)) (fun i wy => n - (intOf i).toNat)
          case atStart => exact ⟨0, Nat.zero_le _, rfl, (fun j b hj => absurd hj (by omega)), Below.refl _ _⟩
          case round =>
            obtain ⟨k2, hk2, rfl, hG⟩ := hrel
            have hB2 : Below w.heap.size w wr := hB1.trans (hG.out.2.mono hB1.size)
            have h82 : wr.heap[w.heap.size]? = some (.cells #[.int .i64 0, .int .u64 0, .int .u64 0] 34) := (hG.out.2.block _ hs1).trans H81.out
            have hs2 : w.heap.size < wr.heap.size := by have := hG.out.2.size; omega
            by_cases hlt3 : k2 < n
            · obtain ⟨b, hb⟩ : ∃ b, l[k2]? = some b := ⟨_, List.getElem?_eq_getElem (by rw [← HN.out]; exact hlt3)⟩
              have d0 : wr.cell? ⟨gb, o + k2 * 3, none⟩ = some (.int .i64 b.w) := bel_cell hB2 hg (HC.out k2 b hb 0 _ rfl)
              have d1 : wr.cell? ⟨gb, o + k2 * 3 + 1, none⟩ = some (.int .u64 b.lo) := bel_cell hB2 hg (HC.out k2 b hb 1 _ rfl)
              have d2 : wr.cell? ⟨gb, o + k2 * 3 + 2, none⟩ = some (.int .u64 b.hi) := bel_cell hB2 hg (HC.out k2 b hb 2 _ rfl)
              have hltI : (k2 : Int) < (n : Int) := by omega
              have hBk := HK.out b (List.mem_of_getElem? hb)
              obtain ⟨y, hy⟩ : ∃ y, y = rgt b.w b.lo b.hi := ⟨_, rfl⟩
              have HR : Hid (∀ wx, Rt 30 #[.agg #[.int .i64 b.w, .int .u64 b.lo, .int .u64 b.hi]] wx (.bool y)) := fun wx => by rw [hy]; exact refright_all hBk.l0 hBk.l1 hBk.h0 hBk.h1 wx
              have HB : Hid _ := hb
              have HY : Hid _ := hy
              have H82 : Hid _ := h82
              clear hb hBk hy h82
              cases y
              · exact absurd (ha b (List.mem_of_getElem? HB.out)) (by rw [← HY.out]; simp)
              · go_wp2_with fail
                refine (HR.out _).mono ?_
                rintro e' w3 ⟨rfl, hb3⟩
                have hG3 : Hid ((∀ j b, j < k2 + 1 → l[j]? = some b → rgt b.w b.lo b.hi = true) ∧ Below w1.heap.size w1 w3) := by
                  refine ⟨fun j c hj hc => ?_, hG.out.2.trans (hb3.mono hG.out.2.size)⟩
                  by_cases hjk : j = k2
                  · subst hjk; rw [HB.out] at hc; cases hc; exact HY.out.symm
                  · exact hG.out.1 j c (by omega) hc
                clear hb3
                go_wp2_with fail
                exact ⟨⟨k2 + 1, by omega, by go_num, hG3⟩, by simp [intOf]; omega⟩
            · obtain rfl : k2 = n := by omega
              have hltI : ¬ (k2 : Int) < (k2 : Int) := by omega
              have r0 : wr.cell? ⟨w.heap.size, 0, none⟩ = some (.int .i64 0) := cell_of h82 0 rfl
              have r1 : wr.cell? ⟨w.heap.size, 1, none⟩ = some (.int .u64 0) := cell_of h82 1 rfl
              have r2 : wr.cell? ⟨w.heap.size, 2, none⟩ = some (.int .u64 0) := cell_of h82 2 rfl
              have rf : ∀ j, wr.frozen? ⟨w.heap.size, j, none⟩ = false := fun j => by have hh := h82; simp [World.frozen?, hh]
              clear h82
              go_wp2_with fail
              refine bodyPost_ret (v := .tuple #[.agg #[.int .i64 0, .int .u64 0, .int .u64 0], .int .i64 er]) (by simp [results, Tryz.results16, go_sem, r0, r1, r2]) rfl ?_
              exact ⟨rfl, by go_grown⟩
        · have H81 : Hid _ := h81
          clear h81
          go_wp2_with fail
          go_loopw [14] (fun i wy => ∃ k : Nat, k ≤ n ∧ i = .int .i64 (k : Int) ∧ Hid ((∀ j b, j < k → l[j]? = some b → rgt b.w b.lo b.hi = true) ∧ Below w1.heap.size w1 wy)) (fun i wy => n - (intOf i).toNat)
          case atStart => exact ⟨0, Nat.zero_le _, rfl, (fun j b hj => absurd hj (by omega)), Below.refl _ _⟩
          case round =>
            obtain ⟨k2, hk2, rfl, hG⟩ := hrel
            have hB2 : Below w.heap.size w wr := hB1.trans (hG.out.2.mono hB1.size)
            have h82 : wr.heap[w.heap.size]? = some (.cells #[.int .i64 0, .int .u64 0, .int .u64 0] 34) := (hG.out.2.block _ hs1).trans H81.out
            have hs2 : w.heap.size < wr.heap.size := by have := hG.out.2.size; omega
            by_cases hlt3 : k2 < n
            · obtain ⟨b, hb⟩ : ∃ b, l[k2]? = some b := ⟨_, List.getElem?_eq_getElem (by rw [← HN.out]; exact hlt3)⟩
              have d0 : wr.cell? ⟨gb, o + k2 * 3, none⟩ = some (.int .i64 b.w) := bel_cell hB2 hg (HC.out k2 b hb 0 _ rfl)
              have d1 : wr.cell? ⟨gb, o + k2 * 3 + 1, none⟩ = some (.int .u64 b.lo) := bel_cell hB2 hg (HC.out k2 b hb 1 _ rfl)
              have d2 : wr.cell? ⟨gb, o + k2 * 3 + 2, none⟩ = some (.int .u64 b.hi) := bel_cell hB2 hg (HC.out k2 b hb 2 _ rfl)
              have hltI : (k2 : Int) < (n : Int) := by omega
              have hBk := HK.out b (List.mem_of_getElem? hb)
              obtain ⟨y, hy⟩ : ∃ y, y = rgt b.w b.lo b.hi := ⟨_, rfl⟩
              have HR : Hid (∀ wx, Rt 30 #[.agg #[.int .i64 b.w, .int .u64 b.lo, .int .u64 b.hi]] wx (.bool y)) := fun wx => by rw [hy]; exact refright_all hBk.l0 hBk.l1 hBk.h0 hBk.h1 wx
              have HB : Hid _ := hb
              have HY : Hid _ := hy
              have H82 : Hid _ := h82
              clear hb hBk hy h82
              cases y
              · exact absurd (ha b (List.mem_of_getElem? HB.out)) (by rw [← HY.out]; simp)
              · go_wp2_with fail
                refine (HR.out _).mono ?_
                rintro e' w3 ⟨rfl, hb3⟩
                have hG3 : Hid ((∀ j b, j < k2 + 1 → l[j]? = some b → rgt b.w b.lo b.hi = true) ∧ Below w1.heap.size w1 w3) := by
                  refine ⟨fun j c hj hc => ?_, hG.out.2.trans (hb3.mono hG.out.2.size)⟩
                  by_cases hjk : j = k2
                  · subst hjk; rw [HB.out] at hc; cases hc; exact HY.out.symm
                  · exact hG.out.1 j c (by omega) hc
                clear hb3
                go_wp2_with fail
                exact ⟨⟨k2 + 1, by omega, by go_num, hG3⟩, by simp [intOf]; omega⟩
            · obtain rfl : k2 = n := by omega
              have hltI : ¬ (k2 : Int) < (k2 : Int) := by omega
              have H82 : Hid _ := h82
              have HM : Hid _ := hM
              clear h82 hM
              go_wp2_with fail
              refine (HM.out _ hB2).mono ?_
              rintro e' w3 ⟨rfl, hb3⟩
              have hB3 : Below w.heap.size w w3 := hB2.trans (hb3.mono hB2.size)
              have h83 : w3.heap[w.heap.size]? = some (.cells #[.int .i64 0, .int .u64 0, .int .u64 0] 34) := (hb3.block _ hs2).trans H82.out
              have r0 : w3.cell? ⟨w.heap.size, 0, none⟩ = some (.int .i64 0) := cell_of h83 0 rfl
              have r1 : w3.cell? ⟨w.heap.size, 1, none⟩ = some (.int .u64 0) := cell_of h83 1 rfl
              have r2 : w3.cell? ⟨w.heap.size, 2, none⟩ = some (.int .u64 0) := cell_of h83 2 rfl
              have rf : ∀ j, w3.frozen? ⟨w.heap.size, j, none⟩ = false := fun j => by have hh := h83; simp [World.frozen?, hh]
              clear hb3 h83
              go_wp2_with fail
              refine bodyPost_ret (v := .tuple #[.agg #[.int .i64 r.w, .int .u64 r.lo, .int .u64 r.hi], .int .i64 0]) (by simp [results, Tryz.results16, go_sem, r0, r1, r2]) rfl ?_
              exact ⟨rfl, by go_grown⟩
end Go.Proofs.YtnflphhckgeneaaGreat
