/- Contracts (values of terms): slices of values, and their sorts. -/
import Derived.Test.YtnflphhckgeneaaGreatY19
import Derived.Deep.Slices
import Derived.ProofKit
import Derived.OpenShut
import Derived.BigRegion
namespace Go.Proofs.YtnflphhckgeneaaGreat
set_option maxHeartbeats 12800000
set_option maxRecDepth 100000
open Go.RowKit
set_option linter.unusedSimpArgs false
set_option linter.unusedVariables false

/-- A value. -/
structure Bt where
  w : Int
  lo : Int
  hi : Int
def Bt.cs (b : Bt) : List Value := [.int .i64 b.w, .int .u64 b.lo, .int .u64 b.hi]
/-- The cells behind g, o hold the values l. -/
def Lb (w : World) (g o : Nat) (l : List Bt) : Prop := ∀ (j : Nat) (b : Bt), l[j]? = some b → ∀ t u, b.cs[t]? = some u → w.cell? ⟨g, o + j * 3 + t, none⟩ = some u
structure Bk (b : Bt) : Prop where
  l0 : 0 ≤ b.lo
  l1 : b.lo < 18446744073709551616
  h0 : 0 ≤ b.hi
  h1 : b.hi < 18446744073709551616
/-- The sort of a right value; -1 of another. -/
def sof (b : Bt) : Int := if rgt b.w b.lo b.hi then b.w else -1
theorem sof_snoc {l : List Bt} {k : Nat} {b : Bt} (h : l[k]? = some b) : (l.take (k + 1)).map sof = (l.take k).map sof ++ [sof b] := by
  rw [List.take_add_one, h, List.map_append]; rfl

theorem sorts_any {w : World} {g o c : Nat} {l : List Bt} (h : Lb w g o l) (hg : g < w.heap.size) (hk : ∀ b ∈ l, Bk b) (hl : l.length ≤ 8) :
    Calls Tryz.prog 38 #[.slice (some ⟨g, o, none⟩) l.length c] w fun e w' => ∃ u, e = .returned u ∧ Is' w' w.heap.size u (l.map sof) ∧ Below w.heap.size w w' := by
  obtain ⟨t0, ht0, hz0, hz1, hz2⟩ := info_parts info3
  have HI0 : Hid (Tryz.prog.info? 3 = some t0 ∧ t0.zero = some (.int .i64 0) ∧ t0.size = 1 ∧ t0.bytes = 8) := ⟨ht0, hz0, hz1, hz2⟩
  obtain ⟨n, hn⟩ : ∃ n, n = l.length := ⟨_, rfl⟩
  have HN : Hid _ := hn
  have HC : Hid _ := h
  have HK : Hid _ := hk
  rw [← hn] at hl ⊢
  obtain ⟨w0, hmk, hown, hgr⟩ := run_make_own (P := Tryz.prog) w w.heap.size 24 3 t0 (.int .i64 0) 1 under45 ht0 hz0 hz1 .i64 .i64 n (by rw [hz2]; omega) (by unfold maxLen; omega) (Nat.le_refl _)
  have HI00 : Hid (Is' w0 w.heap.size (.slice (some ⟨w.heap.size, 0, none⟩) 0 n) []) := hown
  have hb0 : Below w.heap.size w w0 := ⟨hgr.os, hgr.tape, hgr.output, hgr.size, fun k hk => hgr.block k hk (fun e => by cases e)⟩
  clear hn ht0 hz0 hz1 hz2 h hk hown hgr
  go_enter Tryz.func38, Tryz.ntmps38
  go_wp2_with fail
  clear hmk
  go_loopw [3, 11] (fun v i wr => ∃ k : Nat, k ≤ n ∧ i = .int .i64 (k : Int) ∧ Is' wr w.heap.size v ((l.take k).map sof) ∧ Below w.heap.size w wr) (fun v i wr => n - (intOf i).toNat)
  case atStart => exact ⟨0, Nat.zero_le _, rfl, HI00.out, hb0⟩
  case round =>
    clear HI00 hb0
    obtain ⟨k, hk, rfl, hI, hbl⟩ := hrel
    have HI : Hid _ := hI
    clear hI
    by_cases hlt : k < n
    · obtain ⟨b, hb⟩ : ∃ b, l[k]? = some b := ⟨_, List.getElem?_eq_getElem (by rw [← HN.out]; exact hlt)⟩
      have hc := HC.out k b hb
      have d0 : wr.cell? ⟨g, o + k * 3, none⟩ = some (.int .i64 b.w) := bel_cell hbl hg (hc 0 _ rfl)
      have d1 : wr.cell? ⟨g, o + k * 3 + 1, none⟩ = some (.int .u64 b.lo) := bel_cell hbl hg (hc 1 _ rfl)
      have d2 : wr.cell? ⟨g, o + k * 3 + 2, none⟩ = some (.int .u64 b.hi) := bel_cell hbl hg (hc 2 _ rfl)
      have hgr : g < wr.heap.size := Nat.lt_of_lt_of_le hg hbl.size
      have HS := sof_snoc hb
      have hBk := HK.out b (List.mem_of_getElem? hb)
      obtain ⟨r, hr⟩ : ∃ r, r = rgt b.w b.lo b.hi := ⟨_, rfl⟩
      have HR : Hid (∀ wx, Rt 60 #[.agg #[.int .i64 b.w, .int .u64 b.lo, .int .u64 b.hi]] wx (.bool r)) := fun wx => by rw [hr]; exact right_all hBk.l0 hBk.l1 hBk.h0 hBk.h1 wx
      have HSF : Hid (sof b = if r then b.w else -1) := by unfold Hid sof; rw [hr]
      have hltI : (k : Int) < (n : Int) := by omega
      have HLN : Hid (((l.take k).map sof).length ≤ 8) := by unfold Hid; rw [List.length_map, List.length_take]; omega
      have HSS : Hid _ := HS
      clear hc hb hBk hr HS
      cases r
      · go_wp2_with fail
        refine (HR.out _).mono ?_
        rintro e w5 ⟨rfl, hb5⟩
        have HI5 : Hid (Is' w5 w.heap.size u3 ((l.take k).map sof)) := row_kept (row_kept HI.out (fun _ hq => heap_alloc_old _ _ hq)) hb5.block
        have hb6 : Below w.heap.size w w5 := (hbl.alloc hbl.size _).trans (hb5.mono (by rw [size_alloc']; have := hbl.size; omega))
        clear hb5 HI
        go_wp2_with (at_builtin; refine wpList_append_own_at _ rfl _ _ 24 rfl w.heap.size 3 t0 (.int .i64 0) 1 8 under45 HI0.out.1 HI0.out.2.1 HI0.out.2.2.1 HI0.out.2.2.2 rfl (by decide) _ _ _ rfl (row_kept HI5.out (fun _ hq => heap_alloc_old _ _ hq)) ⟨w5.heap.size, 0, none⟩ 1 1 [.int .i64 (-1)] rfl rfl (cell_one_new _ _ _) (ones [-1]) (by have := HLN.out; unfold maxLen; omega) (by have := HLN.out; omega) (by have := hb6.size; rw [size_alloc']; omega) ?_; intro v1 w1 hown hgrow hnil hat)
        have hb1 : Below w.heap.size w w1 := low_grown hb6 hb6.size hgrow (fun q hq => (HI5.out.lt q hq).1)
        have HI1 : Hid (Is' w1 w.heap.size v1 ((l.take (k + 1)).map sof)) := by
          unfold Hid Is'
          rw [HSS.out, HSF.out, List.map_append, List.length_append]
          exact hown
        clear hown hgrow hnil hat HI5
        go_wp2_with fail
        exact ⟨⟨k + 1, by omega, by go_num, HI1.out, hb1⟩, by simp [intOf]; omega⟩
      · go_wp2_with fail
        refine (HR.out _).mono ?_
        rintro e w5 ⟨rfl, hb5⟩
        have HI5 : Hid (Is' w5 w.heap.size u3 ((l.take k).map sof)) := row_kept (row_kept HI.out (fun _ hq => heap_alloc_old _ _ hq)) hb5.block
        have hb6 : Below w.heap.size w w5 := (hbl.alloc hbl.size _).trans (hb5.mono (by rw [size_alloc']; have := hbl.size; omega))
        have x0 : w5.cell? ⟨wr.heap.size, 0, none⟩ = some (.int .i64 b.w) := by rw [hb5.cell (p := ⟨wr.heap.size, 0, none⟩) (by show wr.heap.size < _; rw [size_alloc']; omega)]; simp
        clear hb5 HI
        go_wp2_with (at_builtin; refine wpList_append_own_at _ rfl _ _ 24 rfl w.heap.size 3 t0 (.int .i64 0) 1 8 under45 HI0.out.1 HI0.out.2.1 HI0.out.2.2.1 HI0.out.2.2.2 rfl (by decide) _ _ _ rfl (row_kept HI5.out (fun _ hq => heap_alloc_old _ _ hq)) ⟨w5.heap.size, 0, none⟩ 1 1 [.int .i64 b.w] rfl rfl (cell_one_new _ _ _) (ones [b.w]) (by have := HLN.out; unfold maxLen; omega) (by have := HLN.out; omega) (by have := hb6.size; rw [size_alloc']; omega) ?_; intro v1 w1 hown hgrow hnil hat)
        have hb1 : Below w.heap.size w w1 := low_grown hb6 hb6.size hgrow (fun q hq => (HI5.out.lt q hq).1)
        have HI1 : Hid (Is' w1 w.heap.size v1 ((l.take (k + 1)).map sof)) := by
          unfold Hid Is'
          rw [HSS.out, HSF.out, List.map_append, List.length_append]
          exact hown
        clear hown hgrow hnil hat HI5
        go_wp2_with fail
        exact ⟨⟨k + 1, by omega, by go_num, HI1.out, hb1⟩, by simp [intOf]; omega⟩
    · obtain rfl : k = n := by omega
      have hltI : ¬ (k : Int) < (k : Int) := by omega
      have HF : Hid (Is' wr w.heap.size u3 (l.map sof)) := by have h := HI.out; rw [HN.out, List.take_length] at h; exact h
      clear HI
      go_wp2_with fail
      go_ret
      exact ⟨_, rfl, HF.out, hbl⟩

/-- True. -/
def tru (b : Bt) : Bool := decide (b.w = 0) && decide (b.lo = 1) && decide (b.hi = 0)
theorem eq_t (a b c : Int) (w : World) : (binOp .eql 34 (.agg #[.int .i64 a, .int .u64 b, .int .u64 c]) (.agg #[.int .i64 0, .int .u64 1, .int .u64 0])).run Tryz.prog w = .ok (.bool (tru ⟨a, b, c⟩)) w := by
  unfold tru
  by_cases h1 : a = 0
  · by_cases h2 : b = 1
    · by_cases h3 : c = 0 <;> simp [go_sem, h1, h2, h3]
    · simp [go_sem, h1, h2]
  · simp [go_sem, h1]
theorem istrue_any (b : Bt) (w : World) :
    Rt 106 #[.agg #[.int .i64 b.w, .int .u64 b.lo, .int .u64 b.hi]] w (.bool (tru b)) := by
  have hqe := eq_t b.w b.lo b.hi
  have HB : Hid (∀ wx, Rt 102 #[.bool true] wx (.agg #[.int .i64 0, .int .u64 1, .int .u64 0])) := fun wx => bool_any true wx
  go_enter Tryz.func106, Tryz.ntmps106
  go_wp2_with fail
  go_region_held3 (fun x => x.cell? ⟨w.heap.size, 0, none⟩ = some (.int .i64 b.w) ∧ x.cell? ⟨w.heap.size, 1, none⟩ = some (.int .u64 b.lo) ∧ x.cell? ⟨w.heap.size, 2, none⟩ = some (.int .u64 b.hi) ∧ (∀ o, x.frozen? ⟨w.heap.size, o, none⟩ = false) ∧ Below w.heap.size w x)
    ((refine ⟨?_, ?_, ?_, ?_, ?_⟩ <;> first | (simp [go_sem]; done) | (refine cv_some ?_; simp [go_sem]; done) | (simp [go_sem, KFr, KFrz0]; done) | (refine cv_some ?_; simp [go_sem, KFr, KFrz0]; done) | (refine put_below ?_ ?_ <;> first | assumption | omega) | (have hH := ‹_ ∧ _ ∧ _ ∧ _ ∧ _›; exact put_below hH.2.2.2.2 (by omega)) | go_grown))
    ((first | (go_at_call_of 102 (Value.bool true); refine (HB.out _).mono ?_; rintro e wq ⟨rfl, hb⟩; have hb' := below_step (w := w) (by go_grown) hb; have hs := hb'.size; have KFr : T3 wq w.heap.size (.int .i64 b.w) (.int .u64 b.lo) (.int .u64 b.hi) <| F3 wq w.heap.size <| True := (by refine k3 hb ?_ ?_ ?_ <| f3 hb ?_ ?_ <| trivial <;> (first | (simp [go_sem]; done) | (simp [go_sem, KFr]; done) | (simp [go_sem, KFr, World.cell?_alloc_some, frozen?_alloc_cells]; done))); have KFrz0 : w.heap.size < wq.heap.size := World.block_lt_of_cell? _ _ KFr.1; clear hb)))
  obtain ⟨-, -, -, -, hBq⟩ := ‹_ ∧ _ ∧ _ ∧ _ ∧ _›
  go_wp2_with fail
  go_ret
  exact ⟨rfl, by go_grown⟩

theorem choose_any {w : World} {g o cc : Nat} {a b c : Bt} (h : Lb w g o [a, b, c]) (hg : g < w.heap.size) :
    Rt 73 #[.slice (some ⟨g, o, none⟩) 3 cc] w (.tuple #[.agg #[.int .i64 (if tru a then b else c).w, .int .u64 (if tru a then b else c).lo, .int .u64 (if tru a then b else c).hi], .int .i64 0]) := by
  have a0 : w.cell? ⟨g, o, none⟩ = some (.int .i64 a.w) := h 0 a rfl 0 _ rfl
  have a1 : w.cell? ⟨g, o + 1, none⟩ = some (.int .u64 a.lo) := h 0 a rfl 1 _ rfl
  have a2 : w.cell? ⟨g, o + 2, none⟩ = some (.int .u64 a.hi) := h 0 a rfl 2 _ rfl
  have b0 : w.cell? ⟨g, o + 3, none⟩ = some (.int .i64 b.w) := h 1 b rfl 0 _ rfl
  have b1 : w.cell? ⟨g, o + 4, none⟩ = some (.int .u64 b.lo) := h 1 b rfl 1 _ rfl
  have b2 : w.cell? ⟨g, o + 5, none⟩ = some (.int .u64 b.hi) := h 1 b rfl 2 _ rfl
  have c0 : w.cell? ⟨g, o + 6, none⟩ = some (.int .i64 c.w) := h 2 c rfl 0 _ rfl
  have c1 : w.cell? ⟨g, o + 7, none⟩ = some (.int .u64 c.lo) := h 2 c rfl 1 _ rfl
  have c2 : w.cell? ⟨g, o + 8, none⟩ = some (.int .u64 c.hi) := h 2 c rfl 2 _ rfl
  have HT : Hid (∀ wx, Rt 106 #[.agg #[.int .i64 a.w, .int .u64 a.lo, .int .u64 a.hi]] wx (.bool (tru a))) := fun wx => istrue_any a wx
  clear h
  cases ht : tru a
  · rw [ht] at HT
    simp only [Bool.false_eq_true, if_false]
    clear ht
    go_enter Tryz.func73, Tryz.ntmps73
    go_wp2_with fail
    refine (HT.out _).mono ?_
    rintro e w1 ⟨rfl, hb⟩
    have hB : Below w.heap.size w w1 := Below.trans (by go_grown) (hb.mono (by rw [size_alloc']; omega))
    have e0 : w1.cell? ⟨g, o + 6, none⟩ = some (.int .i64 c.w) := bel_cell hB hg c0
    have e1 : w1.cell? ⟨g, o + 7, none⟩ = some (.int .u64 c.lo) := bel_cell hB hg c1
    have e2 : w1.cell? ⟨g, o + 8, none⟩ = some (.int .u64 c.hi) := bel_cell hB hg c2
    have r0 : w1.cell? ⟨w.heap.size, 0, none⟩ = some (.int .i64 0) := by rw [hb.cell (p := ⟨w.heap.size, 0, none⟩) (by simp)]; simp
    have r1 : w1.cell? ⟨w.heap.size, 1, none⟩ = some (.int .u64 0) := by rw [hb.cell (p := ⟨w.heap.size, 1, none⟩) (by simp)]; simp
    have r2 : w1.cell? ⟨w.heap.size, 2, none⟩ = some (.int .u64 0) := by rw [hb.cell (p := ⟨w.heap.size, 2, none⟩) (by simp)]; simp
    have rf : ∀ j, w1.frozen? ⟨w.heap.size, j, none⟩ = false := fun j => by rw [hb.frozen (p := ⟨w.heap.size, j, none⟩) (by simp)]; simp
    clear hb
    go_wp2_with fail
    refine bodyPost_ret (v := .tuple #[.agg #[.int .i64 c.w, .int .u64 c.lo, .int .u64 c.hi], .int .i64 0]) (by simp [results, Tryz.results73, go_sem, r0, r1, r2]) rfl ?_
    exact ⟨rfl, by go_grown⟩
  · rw [ht] at HT
    simp only [if_true]
    clear ht
    go_enter Tryz.func73, Tryz.ntmps73
    go_wp2_with fail
    refine (HT.out _).mono ?_
    rintro e w1 ⟨rfl, hb⟩
    have hB : Below w.heap.size w w1 := Below.trans (by go_grown) (hb.mono (by rw [size_alloc']; omega))
    have e0 : w1.cell? ⟨g, o + 3, none⟩ = some (.int .i64 b.w) := bel_cell hB hg b0
    have e1 : w1.cell? ⟨g, o + 4, none⟩ = some (.int .u64 b.lo) := bel_cell hB hg b1
    have e2 : w1.cell? ⟨g, o + 5, none⟩ = some (.int .u64 b.hi) := bel_cell hB hg b2
    have r0 : w1.cell? ⟨w.heap.size, 0, none⟩ = some (.int .i64 0) := by rw [hb.cell (p := ⟨w.heap.size, 0, none⟩) (by simp)]; simp
    have r1 : w1.cell? ⟨w.heap.size, 1, none⟩ = some (.int .u64 0) := by rw [hb.cell (p := ⟨w.heap.size, 1, none⟩) (by simp)]; simp
    have r2 : w1.cell? ⟨w.heap.size, 2, none⟩ = some (.int .u64 0) := by rw [hb.cell (p := ⟨w.heap.size, 2, none⟩) (by simp)]; simp
    have rf : ∀ j, w1.frozen? ⟨w.heap.size, j, none⟩ = false := fun j => by rw [hb.frozen (p := ⟨w.heap.size, j, none⟩) (by simp)]; simp
    clear hb
    go_wp2_with fail
    refine bodyPost_ret (v := .tuple #[.agg #[.int .i64 b.w, .int .u64 b.lo, .int .u64 b.hi], .int .i64 0]) (by simp [results, Tryz.results73, go_sem, r0, r1, r2]) rfl ?_
    exact ⟨rfl, by go_grown⟩

/-- The function that does an operator of two words. -/
theorem two_cl {w : World} {g o cc bo : Nat} {a b r : Bt} {op er : Int} (h : Lb w g o [a, b]) (hg : g < w.heap.size) (hop : w.cell? ⟨bo, 0, none⟩ = some (.int .i64 op)) (hbo : bo < w.heap.size)
    (HT : Hid (∀ wx, Rt 87 #[.int .i64 op, .agg #[.int .i64 a.w, .int .u64 a.lo, .int .u64 a.hi], .agg #[.int .i64 b.w, .int .u64 b.lo, .int .u64 b.hi]] wx (.tuple #[.agg #[.int .i64 r.w, .int .u64 r.lo, .int .u64 r.hi], .int .i64 er]))) :
    Rt 86 #[.slice (some ⟨g, o, none⟩) 2 cc, .pointer (some ⟨bo, 0, none⟩)] w (.tuple #[.agg #[.int .i64 r.w, .int .u64 r.lo, .int .u64 r.hi], .int .i64 er]) := by
  have a0 : w.cell? ⟨g, o, none⟩ = some (.int .i64 a.w) := h 0 a rfl 0 _ rfl
  have a1 : w.cell? ⟨g, o + 1, none⟩ = some (.int .u64 a.lo) := h 0 a rfl 1 _ rfl
  have a2 : w.cell? ⟨g, o + 2, none⟩ = some (.int .u64 a.hi) := h 0 a rfl 2 _ rfl
  have b0 : w.cell? ⟨g, o + 3, none⟩ = some (.int .i64 b.w) := h 1 b rfl 0 _ rfl
  have b1 : w.cell? ⟨g, o + 4, none⟩ = some (.int .u64 b.lo) := h 1 b rfl 1 _ rfl
  have b2 : w.cell? ⟨g, o + 5, none⟩ = some (.int .u64 b.hi) := h 1 b rfl 2 _ rfl
  clear h
  go_enter Tryz.func86, Tryz.ntmps86
  go_wp2_with fail
  go_region_with ((go_at_call 87; refine Calls.mono (HT.out _) ?_; rintro e w1 ⟨rfl, hb⟩; have r0 : w1.cell? ⟨w.heap.size, 0, none⟩ = some (.int .i64 0) := (by rw [hb.cell (p := ⟨w.heap.size, 0, none⟩) (by simp)]; simp [go_sem]); have r1 : w1.cell? ⟨w.heap.size, 1, none⟩ = some (.int .u64 0) := (by rw [hb.cell (p := ⟨w.heap.size, 1, none⟩) (by simp)]; simp [go_sem]); have r2 : w1.cell? ⟨w.heap.size, 2, none⟩ = some (.int .u64 0) := (by rw [hb.cell (p := ⟨w.heap.size, 2, none⟩) (by simp)]; simp [go_sem]); have rf : ∀ j, w1.frozen? ⟨w.heap.size, j, none⟩ = false := (fun j => by rw [hb.frozen (p := ⟨w.heap.size, j, none⟩) (by simp)]; simp [go_sem]); have hB : Below w.heap.size w w1 := Below.trans (by go_grown) (hb.mono (by simp)); clear hb))
  all_goals
    go_wp2_with fail
    refine bodyPost_ret (v := .tuple #[.agg #[.int .i64 r.w, .int .u64 r.lo, .int .u64 r.hi], .int .i64 er]) (by simp [results, Tryz.results86, go_sem, r0, r1, r2]) rfl ?_
    exact ⟨rfl, by go_grown⟩

theorem mkf (fn : Fn) (first cap : Array Value) (w : World) : (Instr.makeFunc fn first cap).run Tryz.prog w = .ok (.func fn first cap) w := rfl
theorem stf (a : Addr) (fn : Fn) (first cap : Array Value) (m : Mode) (w : World) : (store a (.func fn first cap) m).run Tryz.prog w = stored Tryz.prog w a (.func fn first cap) m := run_store Tryz.prog w a _ m rfl
theorem fld (x : Value) (hx : x.cells = #[x]) (w : World) : (Instr.field 85 (.agg #[x]) 0).run Tryz.prog w = .ok x w := by kernel_rfl
theorem mean_two {op p q : Int} (h1 : 12 ≤ op) (h2 : op ≤ 37) (w : World) :
    Calls Tryz.prog 39 #[.int .i64 op, .int .i64 p, .int .i64 q] w fun e w' => e = .returned (.agg #[.func (.func 86) #[] #[.pointer (some ⟨w.heap.size, 0, none⟩)]]) ∧ Below w.heap.size w w' ∧ w'.cell? ⟨w.heap.size, 0, none⟩ = some (.int .i64 op) ∧ w.heap.size < w'.heap.size := by
  have hmf := mkf
  have hsf := stf
  have z3 : (op == 3) = false := by simp; omega
  have z4 : (op == 4) = false := by simp; omega
  have z5 : (op == 5) = false := by simp; omega
  have z6 : (op == 6) = false := by simp; omega
  have z7 : (op == 7) = false := by simp; omega
  have z8 : (op == 8) = false := by simp; omega
  have z9 : (op == 9) = false := by simp; omega
  have z10 : (op == 10) = false := by simp; omega
  have z11 : (op == 11) = false := by simp; omega
  have z38 : (op == 38) = false := by simp; omega
  have z39 : (op == 39) = false := by simp; omega
  have z40 : (op == 40) = false := by simp; omega
  have z41 : (op == 41) = false := by simp; omega
  have z42 : (op == 42) = false := by simp; omega
  have z43 : (op == 43) = false := by simp; omega
  have z44 : (op == 44) = false := by simp; omega
  clear h1 h2
  go_enter Tryz.func39, Tryz.ntmps39
  go_wp2_with fail
  refine bodyPost_ret (v := .agg #[.func (.func 86) #[] #[.pointer (some ⟨w.heap.size, 0, none⟩)]]) (by simp [results, Tryz.results39, go_sem]) rfl ?_
  refine ⟨rfl, by go_grown, ?_, by simp; omega⟩
  refine (World.cell?_of_block ?_).trans (cell_of (heap_alloc_new w (.cells #[.int .i64 op] 3)) 0 rfl)
  first | exact (heap_alloc_old _ _ (by simp; omega)).trans ((heap_alloc_old _ _ (by simp; omega)).trans (heap_alloc_old _ _ (by simp))) | (simp; done)
theorem mean_ite {p q : Int} (w : World) :
    Rt 39 #[.int .i64 9, .int .i64 p, .int .i64 q] w (.agg #[.func (.func 73) #[] #[]]) := by
  have hsf := stf
  go_enter Tryz.func39, Tryz.ntmps39
  go_wp2_with fail
  refine bodyPost_ret (v := .agg #[.func (.func 73) #[] #[]]) (by simp [results, Tryz.results39, go_sem]) rfl ?_
  exact ⟨rfl, by go_grown⟩

/-- The sort of an operator's answer, by its values. -/
theorem vsort_any {w : World} {op p q : Int} {l : List Bt} {u : Value} {base : Nat} (h : Is' w base u (l.map sof)) (hl : l ≠ []) (h8 : l.length ≤ 8) :
    Rt 37 #[.int .i64 op, .int .i64 p, .int .i64 q, u] w (.tuple #[.int .i64 (srtF op p q (l.map sof)).1, .int .i64 (srtF op p q (l.map sof)).2]) := by
  obtain ⟨r, cap, rfl, hb, hc, hLi⟩ := h.li (by simpa using hl)
  exact sort_any hLi (by rw [List.length_map]; omega) hc

theorem apply_err {w : World} {g o c : Nat} {l : List Bt} {op p q s er : Int} (h : Lb w g o l) (hg : g < w.heap.size) (hk : ∀ b ∈ l, Bk b) (hl : l.length ≤ 8) (hne : l ≠ []) (hs : srtF op p q (l.map sof) = (s, er)) (he : ¬ er = 0) :
    Rt 15 #[.int .i64 op, .int .i64 p, .int .i64 q, .slice (some ⟨g, o, none⟩) l.length c] w (.tuple #[.agg #[.int .i64 0, .int .u64 0, .int .u64 0], .int .i64 er]) := by
  have HSO : Hid (∀ wx, Below w.heap.size w wx → Calls Tryz.prog 38 #[.slice (some ⟨g, o, none⟩) l.length c] wx fun e w' => ∃ u, e = .returned u ∧ Is' w' wx.heap.size u (l.map sof) ∧ Below wx.heap.size wx w') := fun wx hb => sorts_any (fun j b hj t u hu => by rw [hb.cell (p := ⟨g, o + j * 3 + t, none⟩) hg]; exact h j b hj t u hu) (Nat.lt_of_lt_of_le hg hb.size) hk hl
  have HVS : Hid (∀ wx u base, Is' wx base u (l.map sof) → Rt 37 #[.int .i64 op, .int .i64 p, .int .i64 q, u] wx (.tuple #[.int .i64 s, .int .i64 er])) := fun wx u base hi => by
    have := vsort_any (op := op) (p := p) (q := q) hi hne hl
    rw [hs] at this; exact this
  have z1 : (er != 0) = true := by simp [he]
  obtain ⟨n, hn⟩ : ∃ n, n = l.length := ⟨_, rfl⟩
  rw [← hn] at HSO ⊢
  clear h hk hne hs he hn
  go_enter Tryz.func15, Tryz.ntmps15
  go_wp2_with fail
  refine Calls.mono (HSO.out _ (by go_grown)) ?_
  rintro e w1 ⟨u, rfl, hI, hb⟩
  have HI : Hid _ := hI
  have r0 : w1.cell? ⟨w.heap.size, 0, none⟩ = some (.int .i64 0) := by rw [hb.cell (p := ⟨w.heap.size, 0, none⟩) (by simp)]; simp
  have r1 : w1.cell? ⟨w.heap.size, 1, none⟩ = some (.int .u64 0) := by rw [hb.cell (p := ⟨w.heap.size, 1, none⟩) (by simp)]; simp
  have r2 : w1.cell? ⟨w.heap.size, 2, none⟩ = some (.int .u64 0) := by rw [hb.cell (p := ⟨w.heap.size, 2, none⟩) (by simp)]; simp
  have rf : ∀ j, w1.frozen? ⟨w.heap.size, j, none⟩ = false := fun j => by rw [hb.frozen (p := ⟨w.heap.size, j, none⟩) (by simp)]; simp
  have hB : Below w.heap.size w w1 := Below.trans (by go_grown) (hb.mono (by simp))
  have hs1 : w.heap.size < w1.heap.size := by have := hb.size; simp at this; omega
  clear hb hI
  go_wp2_with fail
  refine Calls.mono (HVS.out _ _ _ HI.out) ?_
  rintro e w2 ⟨rfl, hb⟩
  have t0 : w2.cell? ⟨w.heap.size, 0, none⟩ = some (.int .i64 0) := bel_cell hb hs1 r0
  have t1 : w2.cell? ⟨w.heap.size, 1, none⟩ = some (.int .u64 0) := bel_cell hb hs1 r1
  have t2 : w2.cell? ⟨w.heap.size, 2, none⟩ = some (.int .u64 0) := bel_cell hb hs1 r2
  have tf : ∀ j, w2.frozen? ⟨w.heap.size, j, none⟩ = false := fun j => by rw [hb.frozen (p := ⟨w.heap.size, j, none⟩) hs1]; exact rf j
  have hB2 : Below w.heap.size w w2 := hB.trans (hb.mono hB.size)
  clear hb r0 r1 r2 rf hB HI
  go_wp2_with fail
  refine bodyPost_ret (v := .tuple #[.agg #[.int .i64 0, .int .u64 0, .int .u64 0], .int .i64 er]) (by simp [results, Tryz.results15, go_sem, t0, t1, t2]) rfl ?_
  exact ⟨rfl, by go_grown⟩

theorem apply_two {w : World} {g o c : Nat} {a b r : Bt} {op p q s er : Int} (h1 : 12 ≤ op) (h2 : op ≤ 37) (h : Lb w g o [a, b]) (hg : g < w.heap.size) (hka : Bk a) (hkb : Bk b) (hs : srtF op p q [sof a, sof b] = (s, 0))
    (HT : Hid (∀ wx, Rt 87 #[.int .i64 op, .agg #[.int .i64 a.w, .int .u64 a.lo, .int .u64 a.hi], .agg #[.int .i64 b.w, .int .u64 b.lo, .int .u64 b.hi]] wx (.tuple #[.agg #[.int .i64 r.w, .int .u64 r.lo, .int .u64 r.hi], .int .i64 er]))) :
    Rt 15 #[.int .i64 op, .int .i64 p, .int .i64 q, .slice (some ⟨g, o, none⟩) 2 c] w (.tuple #[.agg #[.int .i64 r.w, .int .u64 r.lo, .int .u64 r.hi], .int .i64 er]) := by
  have hLb : ∀ wx, Below w.heap.size w wx → Lb wx g o [a, b] := fun wx hb j x hj t u hu => by rw [hb.cell (p := ⟨g, o + j * 3 + t, none⟩) hg]; exact h j x hj t u hu
  have HSO : Hid (∀ wx, Below w.heap.size w wx → Calls Tryz.prog 38 #[.slice (some ⟨g, o, none⟩) 2 c] wx fun e w' => ∃ u, e = .returned u ∧ Is' w' wx.heap.size u ([a, b].map sof) ∧ Below wx.heap.size wx w') := fun wx hb => sorts_any (l := [a, b]) (hLb wx hb) (Nat.lt_of_lt_of_le hg hb.size) (fun x hx => by
    rcases List.mem_cons.1 hx with rfl | hx
    · exact hka
    · rw [List.mem_singleton.1 hx]; exact hkb) (by simp)
  have HVS : Hid (∀ wx u base, Is' wx base u ([a, b].map sof) → Rt 37 #[.int .i64 op, .int .i64 p, .int .i64 q, u] wx (.tuple #[.int .i64 s, .int .i64 0])) := fun wx u base hi => by
    have := vsort_any (op := op) (p := p) (q := q) hi (by simp) (by simp)
    rw [show [a, b].map sof = [sof a, sof b] from rfl, hs] at this; exact this
  have HME : Hid _ := fun wx => mean_two (p := p) (q := q) h1 h2 wx
  have HCL : Hid (∀ wx bo, Below w.heap.size w wx → wx.cell? ⟨bo, 0, none⟩ = some (.int .i64 op) → bo < wx.heap.size → Rt 86 #[.slice (some ⟨g, o, none⟩) 2 c, .pointer (some ⟨bo, 0, none⟩)] wx (.tuple #[.agg #[.int .i64 r.w, .int .u64 r.lo, .int .u64 r.hi], .int .i64 er])) := fun wx bo hb hc hl => two_cl (hLb wx hb) (Nat.lt_of_lt_of_le hg hb.size) hc hl HT
  have hfd : ∀ wx bo, (Instr.field 85 (.agg #[.func (.func 86) #[] #[.pointer (some ⟨bo, 0, none⟩)]]) 0).run Tryz.prog wx = .ok (.func (.func 86) #[] #[.pointer (some ⟨bo, 0, none⟩)]) wx := fun wx bo => fld _ rfl wx
  clear h hka hkb hs h1 h2 hLb
  go_enter Tryz.func15, Tryz.ntmps15
  go_wp2_with fail
  refine Calls.mono (HSO.out _ (by go_grown)) ?_
  rintro e w1 ⟨u, rfl, hI, hb⟩
  have HI : Hid _ := hI
  have hB : Below w.heap.size w w1 := Below.trans (by go_grown) (hb.mono (by simp))
  have hr : w1.heap[w.heap.size]? = some (.cells #[.int .i64 0, .int .u64 0, .int .u64 0] 34) := (hb.block _ (by simp)).trans (heap_alloc_new w _)
  have HR : Hid _ := hr
  clear hb hI hr
  go_wp2_with fail
  refine Calls.mono (HVS.out _ _ _ HI.out) ?_
  rintro e w2 ⟨rfl, hb⟩
  have hB2 : Below w.heap.size w w2 := hB.trans (hb.mono hB.size)
  have HR2 : Hid _ := (hb.block _ (Array.getElem?_eq_some_iff.1 HR.out).1).trans HR.out
  clear hb HI HR hB
  go_wp2_with fail
  refine Calls.mono (HME.out _) ?_
  rintro e w3 ⟨rfl, hb, hcell, hlt⟩
  have hB3 : Below w.heap.size w w3 := hB2.trans (hb.mono hB2.size)
  have HR3 : Hid _ := (hb.block _ (Array.getElem?_eq_some_iff.1 HR2.out).1).trans HR2.out
  have HCE : Hid _ := hcell
  clear hb HR2 hcell hB2
  go_wp2_with fail
  refine Calls.mono (HCL.out _ _ hB3 HCE.out hlt) ?_
  rintro e w4 ⟨rfl, hb⟩
  have hB4 : Below w.heap.size w w4 := hB3.trans (hb.mono hB3.size)
  have hr4 : w4.heap[w.heap.size]? = _ := (hb.block _ (Array.getElem?_eq_some_iff.1 HR3.out).1).trans HR3.out
  have t0 : w4.cell? ⟨w.heap.size, 0, none⟩ = some (.int .i64 0) := cell_of hr4 0 rfl
  have t1 : w4.cell? ⟨w.heap.size, 1, none⟩ = some (.int .u64 0) := cell_of hr4 1 rfl
  have t2 : w4.cell? ⟨w.heap.size, 2, none⟩ = some (.int .u64 0) := cell_of hr4 2 rfl
  have tf : ∀ j, w4.frozen? ⟨w.heap.size, j, none⟩ = false := fun j => by simp [World.frozen?, hr4]
  clear hb HR3 hr4 hB3
  go_wp2_with fail
  refine bodyPost_ret (v := .tuple #[.agg #[.int .i64 r.w, .int .u64 r.lo, .int .u64 r.hi], .int .i64 er]) (by simp [results, Tryz.results15, go_sem, t0, t1, t2]) rfl ?_
  exact ⟨rfl, by go_grown⟩

/-- Two values alike. -/
def eqT (a b : Bt) : Bool := decide (a.w = b.w) && decide (a.lo = b.lo) && decide (a.hi = b.hi)
theorem eq2 (a b : Bt) (w : World) : (binOp .eql 34 (.agg #[.int .i64 a.w, .int .u64 a.lo, .int .u64 a.hi]) (.agg #[.int .i64 b.w, .int .u64 b.lo, .int .u64 b.hi])).run Tryz.prog w = .ok (.bool (eqT a b)) w := by
  unfold eqT
  by_cases h1 : a.w = b.w
  · by_cases h2 : a.lo = b.lo
    · by_cases h3 : a.hi = b.hi <;> simp [go_sem, h1, h2, h3]
    · simp [go_sem, h1, h2]
  · simp [go_sem, h1]
/-- A truth as a value. -/
def bT (b : Bool) : Bt := ⟨0, if b then 1 else 0, 0⟩

theorem apply_ite {w : World} {g o c : Nat} {a b d : Bt} {p q s : Int} (h : Lb w g o [a, b, d]) (hg : g < w.heap.size) (hka : Bk a) (hkb : Bk b) (hkd : Bk d) (hs : srtF 9 p q [sof a, sof b, sof d] = (s, 0)) :
    Rt 15 #[.int .i64 9, .int .i64 p, .int .i64 q, .slice (some ⟨g, o, none⟩) 3 c] w (.tuple #[.agg #[.int .i64 (if tru a then b else d).w, .int .u64 (if tru a then b else d).lo, .int .u64 (if tru a then b else d).hi], .int .i64 0]) := by
  have hLb : ∀ wx, Below w.heap.size w wx → Lb wx g o [a, b, d] := fun wx hb j x hj t u hu => by rw [hb.cell (p := ⟨g, o + j * 3 + t, none⟩) hg]; exact h j x hj t u hu
  have HSO : Hid (∀ wx, Below w.heap.size w wx → Calls Tryz.prog 38 #[.slice (some ⟨g, o, none⟩) 3 c] wx fun e w' => ∃ u, e = .returned u ∧ Is' w' wx.heap.size u ([a, b, d].map sof) ∧ Below wx.heap.size wx w') := fun wx hb => sorts_any (l := [a, b, d]) (hLb wx hb) (Nat.lt_of_lt_of_le hg hb.size) (fun x hx => by
    rcases List.mem_cons.1 hx with rfl | hx
    · exact hka
    · rcases List.mem_cons.1 hx with rfl | hx
      · exact hkb
      · rw [List.mem_singleton.1 hx]; exact hkd) (by simp)
  have HVS : Hid (∀ wx u base, Is' wx base u ([a, b, d].map sof) → Rt 37 #[.int .i64 9, .int .i64 p, .int .i64 q, u] wx (.tuple #[.int .i64 s, .int .i64 0])) := fun wx u base hi => by
    have := vsort_any (op := 9) (p := p) (q := q) hi (by simp) (by simp)
    rw [show [a, b, d].map sof = [sof a, sof b, sof d] from rfl, hs] at this; exact this
  have HME : Hid _ := fun wx => mean_ite (p := p) (q := q) wx
  obtain ⟨r, hr⟩ : ∃ r, r = (if tru a then b else d) := ⟨_, rfl⟩
  have HCL : Hid (∀ wx, Below w.heap.size w wx → Rt 73 #[.slice (some ⟨g, o, none⟩) 3 c] wx (.tuple #[.agg #[.int .i64 r.w, .int .u64 r.lo, .int .u64 r.hi], .int .i64 0])) := fun wx hb => by rw [hr]; exact choose_any (hLb wx hb) (Nat.lt_of_lt_of_le hg hb.size)
  have hfd : ∀ wx, (Instr.field 85 (.agg #[.func (.func 73) #[] #[]]) 0).run Tryz.prog wx = .ok (.func (.func 73) #[] #[]) wx := fun wx => fld _ rfl wx
  rw [← hr]
  clear h hka hkb hkd hs hLb hr
  go_enter Tryz.func15, Tryz.ntmps15
  go_wp2_with fail
  refine Calls.mono (HSO.out _ (by go_grown)) ?_
  rintro e w1 ⟨u, rfl, hI, hb⟩
  have HI : Hid _ := hI
  have hB : Below w.heap.size w w1 := Below.trans (by go_grown) (hb.mono (by simp))
  have hr : w1.heap[w.heap.size]? = some (.cells #[.int .i64 0, .int .u64 0, .int .u64 0] 34) := (hb.block _ (by simp)).trans (heap_alloc_new w _)
  have HR : Hid _ := hr
  clear hb hI hr
  go_wp2_with fail
  refine Calls.mono (HVS.out _ _ _ HI.out) ?_
  rintro e w2 ⟨rfl, hb⟩
  have hB2 : Below w.heap.size w w2 := hB.trans (hb.mono hB.size)
  have HR2 : Hid _ := (hb.block _ (Array.getElem?_eq_some_iff.1 HR.out).1).trans HR.out
  clear hb HI HR hB
  go_wp2_with fail
  refine Calls.mono (HME.out _) ?_
  rintro e w3 ⟨rfl, hb⟩
  have hB3 : Below w.heap.size w w3 := hB2.trans (hb.mono hB2.size)
  have HR3 : Hid _ := (hb.block _ (Array.getElem?_eq_some_iff.1 HR2.out).1).trans HR2.out
  clear hb HR2 hB2
  go_wp2_with fail
  refine Calls.mono (HCL.out _ hB3) ?_
  rintro e w4 ⟨rfl, hb⟩
  have hB4 : Below w.heap.size w w4 := hB3.trans (hb.mono hB3.size)
  have hr4 : w4.heap[w.heap.size]? = _ := (hb.block _ (Array.getElem?_eq_some_iff.1 HR3.out).1).trans HR3.out
  have t0 : w4.cell? ⟨w.heap.size, 0, none⟩ = some (.int .i64 0) := cell_of hr4 0 rfl
  have t1 : w4.cell? ⟨w.heap.size, 1, none⟩ = some (.int .u64 0) := cell_of hr4 1 rfl
  have t2 : w4.cell? ⟨w.heap.size, 2, none⟩ = some (.int .u64 0) := cell_of hr4 2 rfl
  have tf : ∀ j, w4.frozen? ⟨w.heap.size, j, none⟩ = false := fun j => by simp [World.frozen?, hr4]
  clear hb HR3 hr4 hB3
  go_wp2_with fail
  refine bodyPost_ret (v := .tuple #[.agg #[.int .i64 r.w, .int .u64 r.lo, .int .u64 r.hi], .int .i64 0]) (by simp [results, Tryz.results15, go_sem, t0, t1, t2]) rfl ?_
  exact ⟨rfl, by go_grown⟩

theorem same_any {w : World} {g o cc : Nat} {a b : Bt} (h : Lb w g o [a, b]) (hg : g < w.heap.size) :
    Rt 72 #[.slice (some ⟨g, o, none⟩) 2 cc] w (.tuple #[.agg #[.int .i64 (bT (eqT a b)).w, .int .u64 (bT (eqT a b)).lo, .int .u64 (bT (eqT a b)).hi], .int .i64 0]) := by
  have a0 : w.cell? ⟨g, o, none⟩ = some (.int .i64 a.w) := h 0 a rfl 0 _ rfl
  have a1 : w.cell? ⟨g, o + 1, none⟩ = some (.int .u64 a.lo) := h 0 a rfl 1 _ rfl
  have a2 : w.cell? ⟨g, o + 2, none⟩ = some (.int .u64 a.hi) := h 0 a rfl 2 _ rfl
  have b0 : w.cell? ⟨g, o + 3, none⟩ = some (.int .i64 b.w) := h 1 b rfl 0 _ rfl
  have b1 : w.cell? ⟨g, o + 4, none⟩ = some (.int .u64 b.lo) := h 1 b rfl 1 _ rfl
  have b2 : w.cell? ⟨g, o + 5, none⟩ = some (.int .u64 b.hi) := h 1 b rfl 2 _ rfl
  have heq := eq2 a b
  obtain ⟨y, hy⟩ : ∃ y, y = eqT a b := ⟨_, rfl⟩
  rw [← hy] at heq ⊢
  obtain ⟨L, hL⟩ : ∃ L : Int, L = if y then 1 else 0 := ⟨_, rfl⟩
  have HB : Hid (∀ wx, Rt 102 #[.bool y] wx (.agg #[.int .i64 0, .int .u64 L, .int .u64 0])) := fun wx => by rw [hL]; exact bool_any y wx
  show Rt 72 #[.slice (some ⟨g, o, none⟩) 2 cc] w (.tuple #[.agg #[.int .i64 0, .int .u64 (if y then 1 else 0), .int .u64 0], .int .i64 0])
  rw [← hL]
  clear h hy hL
  go_enter Tryz.func72, Tryz.ntmps72
  go_wp2_with fail
  go_region_with ((go_at_call 102; refine Calls.mono (HB.out _) ?_; rintro e w1 ⟨rfl, hb⟩; have hB : Below w.heap.size w w1 := Below.trans (by go_grown) (hb.mono (by first | (simp; done) | (simp; omega) | omega)); have qa0 : w1.cell? ⟨g, o, none⟩ = some (.int .i64 a.w) := bel_cell hB hg a0; have qa1 : w1.cell? ⟨g, o + 1, none⟩ = some (.int .u64 a.lo) := bel_cell hB hg a1; have qa2 : w1.cell? ⟨g, o + 2, none⟩ = some (.int .u64 a.hi) := bel_cell hB hg a2; have qb0 : w1.cell? ⟨g, o + 3, none⟩ = some (.int .i64 b.w) := bel_cell hB hg b0; have qb1 : w1.cell? ⟨g, o + 4, none⟩ = some (.int .u64 b.lo) := bel_cell hB hg b1; have qb2 : w1.cell? ⟨g, o + 5, none⟩ = some (.int .u64 b.hi) := bel_cell hB hg b2; have r0 : w1.cell? ⟨w.heap.size, 0, none⟩ = some (.int .i64 0) := (by rw [hb.cell (p := ⟨w.heap.size, 0, none⟩) (by first | (simp; done) | (simp; omega) | omega)]; first | (simp [go_sem]; done) | assumption); have r1 : w1.cell? ⟨w.heap.size, 1, none⟩ = some (.int .u64 0) := (by rw [hb.cell (p := ⟨w.heap.size, 1, none⟩) (by first | (simp; done) | (simp; omega) | omega)]; first | (simp [go_sem]; done) | assumption); have r2 : w1.cell? ⟨w.heap.size, 2, none⟩ = some (.int .u64 0) := (by rw [hb.cell (p := ⟨w.heap.size, 2, none⟩) (by first | (simp; done) | (simp; omega) | omega)]; first | (simp [go_sem]; done) | assumption); have rf : ∀ j, w1.frozen? ⟨w.heap.size, j, none⟩ = false := (fun j => by rw [hb.frozen (p := ⟨w.heap.size, j, none⟩) (by first | (simp; done) | (simp; omega) | omega)]; first | (simp [go_sem]; done) | apply_assumption); have hsz : w.heap.size < w1.heap.size := (by have := hb.size; first | omega | (simp at this; omega)); clear hb))
  all_goals
    go_wp2_with fail
    refine bodyPost_ret (v := .tuple #[.agg #[.int .i64 0, .int .u64 L, .int .u64 0], .int .i64 0]) (by simp [results, Tryz.results72, go_sem, r0, r1, r2]) rfl ?_
    exact ⟨rfl, by go_grown⟩

theorem f_and (x y : Bool) (w : World) : Calls Tryz.prog 68 #[.bool x, .bool y] w fun e w' => e = .returned (.bool (x && y)) ∧ w' = w := by
  cases x
  · go_enter Tryz.func68, Tryz.ntmps68
    go_wp2_with fail
    go_ret
    exact ⟨rfl, rfl⟩
  · go_enter Tryz.func68, Tryz.ntmps68
    go_wp2_with fail
    go_ret
    exact ⟨by simp, rfl⟩
theorem f_or (x y : Bool) (w : World) : Calls Tryz.prog 69 #[.bool x, .bool y] w fun e w' => e = .returned (.bool (x || y)) ∧ w' = w := by
  cases x
  · go_enter Tryz.func69, Tryz.ntmps69
    go_wp2_with fail
    go_ret
    exact ⟨by simp, rfl⟩
  · go_enter Tryz.func69, Tryz.ntmps69
    go_wp2_with fail
    go_ret
    exact ⟨rfl, rfl⟩
theorem f_xor (x y : Bool) (w : World) : Calls Tryz.prog 70 #[.bool x, .bool y] w fun e w' => e = .returned (.bool (x != y)) ∧ w' = w := by
  go_enter Tryz.func70, Tryz.ntmps70
  go_wp2_with fail
  go_ret
  exact ⟨rfl, rfl⟩

end Go.Proofs.YtnflphhckgeneaaGreat
