import Derived.Test.YtedldoobmmhloaaY19
import Derived.Deep.Slices
import Derived.ProofKit
import Derived.OpenShut
import Derived.BigRegion
namespace Go.Proofs.Ytedldoobmmhloaa
set_option maxHeartbeats 12800000
set_option maxRecDepth 100000
open Go.RowKit
set_option linter.unusedSimpArgs false
set_option linter.unusedVariables false
structure Bt where
 w : Int
 lo : Int
 hi : Int
def Bt.cs (b : Bt) : List Value := [.int .i64 b.w, .int .u64 b.lo, .int .u64 b.hi]
def Lb (w : World) (g o : Nat) (l : List Bt) : Prop := ∀ (j : Nat) (b : Bt), l[j]? = some b → ∀ t u, b.cs[t]? = some u → w.cell? ⟨g, o + j * 3 + t, none⟩ = some u
structure Bk (b : Bt) : Prop where
 l0 : 0 ≤ b.lo
 l1 : b.lo < 18446744073709551616
 h0 : 0 ≤ b.hi
 h1 : b.hi < 18446744073709551616
def sof (b : Bt) : Int := if rgt b.w b.lo b.hi then b.w else -1
theorem sof_snoc {l : List Bt} {k : Nat} {b : Bt} (h : l[k]? = some b) : (l.take (k + 1)).map sof = (l.take k).map sof ++ [sof b] := by
 rw [List.take_add_one, h, List.map_append]; rfl
theorem sorts_any {w : World} {g o c : Nat} {l : List Bt} (h : Lb w g o l) (hg : g < w.heap.size) (hk : ∀ b ∈ l, Bk b) (hl : l.length ≤ 8) :
  Calls Try.prog 53 #[.slice (some ⟨g, o, none⟩) l.length c] w fun e w' => ∃ u, e = .returned u ∧ Is' w' w.heap.size u (l.map sof) ∧ Below w.heap.size w w' := by
 obtain ⟨t0, ht0, hz0, hz1, hz2⟩ := info_parts info3
 have HI0 : Hid (Try.prog.info? 3 = some t0 ∧ t0.zero = some (.int .i64 0) ∧ t0.size = 1 ∧ t0.bytes = 8) := ⟨ht0, hz0, hz1, hz2⟩
 obtain ⟨n, hn⟩ : ∃ n, n = l.length := ⟨_, rfl⟩
 have HN : Hid _ := hn
 have HC : Hid _ := h
 have HK : Hid _ := hk
 rw [← hn] at hl ⊢
 obtain ⟨w0, hmk, hown, hgr⟩ := run_make_own (P := Try.prog) w w.heap.size 39 3 t0 (.int .i64 0) 1 under45 ht0 hz0 hz1 .i64 .i64 n (by rw [hz2]; omega) (by unfold maxLen; omega) (Nat.le_refl _)
 have HI00 : Hid (Is' w0 w.heap.size (.slice (some ⟨w.heap.size, 0, none⟩) 0 n) []) := hown
 have hb0 : Below w.heap.size w w0 := ⟨hgr.os, hgr.tape, hgr.output, hgr.size, fun k hk => hgr.block k hk (fun e => by cases e)⟩
 clear hn ht0 hz0 hz1 hz2 h hk hown hgr
 go_enter Try.func53, Try.ntmps53
 go_wp2_with fail
 clear hmk
 go_loopw [3, 11] (fun v i wr => ∃ k : Nat, k ≤ n ∧ i = .int .i64 (k : Int) ∧ Is' wr w.heap.size v ((l.take k).map sof) ∧ Below w.heap.size w wr) (fun v i wr => n - (intOf i).toNat)
 case atStart => exact ⟨0, Nat.zero_le _, rfl, HI00.out, hb0⟩
 case round =>
  clear HI00 hb0
  obtain ⟨k, hk, rfl, hI, hbl⟩ := hrel
  have HI : Hid _ := hI
  clear hI
  by_cases hlt : k < n
  ·obtain ⟨b, hb⟩ : ∃ b, l[k]? = some b := ⟨_, List.getElem?_eq_getElem (by rw [← HN.out]; exact hlt)⟩
   have hc := HC.out k b hb
   have d0 : wr.cell? ⟨g, o + k * 3, none⟩ = some (.int .i64 b.w) := bel_cell hbl hg (hc 0 _ rfl)
   have d1 : wr.cell? ⟨g, o + k * 3 + 1, none⟩ = some (.int .u64 b.lo) := bel_cell hbl hg (hc 1 _ rfl)
   have d2 : wr.cell? ⟨g, o + k * 3 + 2, none⟩ = some (.int .u64 b.hi) := bel_cell hbl hg (hc 2 _ rfl)
   have hgr : g < wr.heap.size := Nat.lt_of_lt_of_le hg hbl.size
   have HS := sof_snoc hb
   have hBk := HK.out b (List.mem_of_getElem? hb)
   obtain ⟨r, hr⟩ : ∃ r, r = rgt b.w b.lo b.hi := ⟨_, rfl⟩
   have HR : Hid (∀ wx, Calls Try.prog 22 #[.agg #[.int .i64 b.w, .int .u64 b.lo, .int .u64 b.hi]] wx fun e w' => e = .returned (.bool r) ∧ Below wx.heap.size wx w') := fun wx => by rw [hr]; exact right_all hBk.l0 hBk.l1 hBk.h0 hBk.h1 wx
   have HSF : Hid (sof b = if r then b.w else -1) := by unfold Hid sof; rw [hr]
   have hltI : (k : Int) < (n : Int) := by omega
   have HLN : Hid (((l.take k).map sof).length ≤ 8) := by unfold Hid; rw [List.length_map, List.length_take]; omega
   have HSS : Hid _ := HS
   clear hc hb hBk hr HS
   cases r
   ·go_wp2_with fail
    refine (HR.out _).mono ?_
    rintro e w5 ⟨rfl, hb5⟩
    have HI5 : Hid (Is' w5 w.heap.size u3 ((l.take k).map sof)) := row_kept (row_kept HI.out (fun _ hq => heap_alloc_old _ _ hq)) hb5.block
    have hb6 : Below w.heap.size w w5 := (hbl.alloc hbl.size _).trans (hb5.mono (by rw [size_alloc']; have := hbl.size; omega))
    clear hb5 HI
    go_wp2_with (at_builtin; refine wpList_append_own_at _ rfl _ _ 39 rfl w.heap.size 3 t0 (.int .i64 0) 1 8 under45 HI0.out.1 HI0.out.2.1 HI0.out.2.2.1 HI0.out.2.2.2 rfl (by decide) _ _ _ rfl (row_kept HI5.out (fun _ hq => heap_alloc_old _ _ hq)) ⟨w5.heap.size, 0, none⟩ 1 1 [.int .i64 (-1)] rfl rfl (cell_one_new _ _ _) (ones [-1]) (by have := HLN.out; unfold maxLen; omega) (by have := HLN.out; omega) (by have := hb6.size; rw [size_alloc']; omega) ?_; intro v1 w1 hown hgrow hnil hat)
    have hb1 : Below w.heap.size w w1 := low_grown hb6 hb6.size hgrow (fun q hq => (HI5.out.lt q hq).1)
    have HI1 : Hid (Is' w1 w.heap.size v1 ((l.take (k + 1)).map sof)) := by
     unfold Hid Is'
     rw [HSS.out, HSF.out, List.map_append, List.length_append]
     exact hown
    clear hown hgrow hnil hat HI5
    go_wp2_with fail
    exact ⟨⟨k + 1, by omega, by go_num, HI1.out, hb1⟩, by simp [intOf]; omega⟩
   ·go_wp2_with fail
    refine (HR.out _).mono ?_
    rintro e w5 ⟨rfl, hb5⟩
    have HI5 : Hid (Is' w5 w.heap.size u3 ((l.take k).map sof)) := row_kept (row_kept HI.out (fun _ hq => heap_alloc_old _ _ hq)) hb5.block
    have hb6 : Below w.heap.size w w5 := (hbl.alloc hbl.size _).trans (hb5.mono (by rw [size_alloc']; have := hbl.size; omega))
    have x0 : w5.cell? ⟨wr.heap.size, 0, none⟩ = some (.int .i64 b.w) := by rw [hb5.cell (p := ⟨wr.heap.size, 0, none⟩) (by show wr.heap.size < _; rw [size_alloc']; omega)]; simp
    clear hb5 HI
    go_wp2_with (at_builtin; refine wpList_append_own_at _ rfl _ _ 39 rfl w.heap.size 3 t0 (.int .i64 0) 1 8 under45 HI0.out.1 HI0.out.2.1 HI0.out.2.2.1 HI0.out.2.2.2 rfl (by decide) _ _ _ rfl (row_kept HI5.out (fun _ hq => heap_alloc_old _ _ hq)) ⟨w5.heap.size, 0, none⟩ 1 1 [.int .i64 b.w] rfl rfl (cell_one_new _ _ _) (ones [b.w]) (by have := HLN.out; unfold maxLen; omega) (by have := HLN.out; omega) (by have := hb6.size; rw [size_alloc']; omega) ?_; intro v1 w1 hown hgrow hnil hat)
    have hb1 : Below w.heap.size w w1 := low_grown hb6 hb6.size hgrow (fun q hq => (HI5.out.lt q hq).1)
    have HI1 : Hid (Is' w1 w.heap.size v1 ((l.take (k + 1)).map sof)) := by
     unfold Hid Is'
     rw [HSS.out, HSF.out, List.map_append, List.length_append]
     exact hown
    clear hown hgrow hnil hat HI5
    go_wp2_with fail
    exact ⟨⟨k + 1, by omega, by go_num, HI1.out, hb1⟩, by simp [intOf]; omega⟩
  ·obtain rfl : k = n := by omega
   have hltI : ¬ (k : Int) < (k : Int) := by omega
   have HF : Hid (Is' wr w.heap.size u3 (l.map sof)) := by have h := HI.out; rw [HN.out, List.take_length] at h; exact h
   clear HI
   go_wp2_with fail
   go_ret
   exact ⟨_, rfl, HF.out, hbl⟩
end Go.Proofs.Ytedldoobmmhloaa
namespace Go.Proofs.Ytedldoobmmhloaa
set_option maxHeartbeats 12800000
set_option maxRecDepth 100000
set_option linter.unusedSimpArgs false
set_option linter.unusedVariables false
open Go.RowKit Go.ChangeShapes Go.WideShapes Go.Deep
section
variable {H : Type} {enc : TypeId × Value → H} {w : World} {base : Nat} {spare : Nat → Bool} {held : Bool}
instance : Inhabited Bt := ⟨⟨0, 0, 0⟩⟩
def Lba (w : World) (a : Option Addr) (l : List Bt) : Prop := l = [] ∨ ∃ g o, a = some ⟨g, o, none⟩ ∧ g < w.heap.size ∧ Lb w g o l
set_option maxRecDepth 20000 in
theorem bits_read {fuel : Nat} {cs : List Value} {x : DataW H × List MemPlace} (h : DataW.trod enc Try.prog w base spare held fuel 25 cs = some x) : ∃ b : Bt, cs = b.cs ∧ Bk b := by
 obtain ⟨zs, k, -, -, hl, hzl, hz⟩ := DataW.trod_struct Try.underlying25 h
 have e3 : Try.prog.cellsOf 3 = 1 := by kernel_rfl
 have e32 : Try.prog.cellsOf 23 = 1 := by kernel_rfl
 have e34 : Try.prog.cellsOf 25 = 3 := by kernel_rfl
 rw [e34] at hl
 have hzl3 : zs.length = 3 := hzl
 clear hzl
 match zs, hzl3, cs, hl with
 | [z0, z1, z2], _, [v0, v1, v2], _ =>
  have k0 := hz 0 _ rfl
  have k1 := hz 1 _ rfl
  have k2 := hz 2 _ rfl
  simp [e3, e32] at k0 k1 k2
  obtain ⟨a7, h7, -, w7⟩ := DataW.trod_int Try.underlying3 k0
  obtain ⟨a8, h8, -, w8⟩ := DataW.trod_int Try.underlying23 k1
  obtain ⟨a9, h9, -, w9⟩ := DataW.trod_int Try.underlying23 k2
  cases h7; cases h8; cases h9
  have b8 := bounds_u64 w8
  have b9 := bounds_u64 w9
  exact ⟨⟨a7, a8, a9⟩, rfl, ⟨b8.1, by show a8 < _; omega, b9.1, by show a9 < _; omega⟩⟩
end
open Go.RowKit
def tru (b : Bt) : Bool := decide (b.w = 0) && decide (b.lo = 1) && decide (b.hi = 0)
theorem eq_t (a b c : Int) (w : World) : (binOp .eql 25 (.agg #[.int .i64 a, .int .u64 b, .int .u64 c]) (.agg #[.int .i64 0, .int .u64 1, .int .u64 0])).run Try.prog w = .ok (.bool (tru ⟨a, b, c⟩)) w := by
 unfold tru
 by_cases h1 : a = 0
 ·by_cases h2 : b = 1
  ·by_cases h3 : c = 0 <;> simp [go_sem, h1, h2, h3]
  ·simp [go_sem, h1, h2]
 ·simp [go_sem, h1]
theorem istrue_any (b : Bt) (w : World) :
  Calls Try.prog 77 #[.agg #[.int .i64 b.w, .int .u64 b.lo, .int .u64 b.hi]] w fun e w' => e = .returned (.bool (tru b)) ∧ Below w.heap.size w w' := by
 have hqe := eq_t b.w b.lo b.hi
 have HB : Hid (∀ wx, Calls Try.prog 33 #[.bool true] wx fun e w' => e = .returned (.agg #[.int .i64 0, .int .u64 1, .int .u64 0]) ∧ Below wx.heap.size wx w') := fun wx => bool_any true wx
 go_enter Try.func77, Try.ntmps77
 go_wp2_with fail
 go_region_held3 (fun x => x.cell? ⟨w.heap.size, 0, none⟩ = some (.int .i64 b.w) ∧ x.cell? ⟨w.heap.size, 1, none⟩ = some (.int .u64 b.lo) ∧ x.cell? ⟨w.heap.size, 2, none⟩ = some (.int .u64 b.hi) ∧ (∀ o, x.frozen? ⟨w.heap.size, o, none⟩ = false) ∧ Below w.heap.size w x)
  ((refine ⟨?_, ?_, ?_, ?_, ?_⟩ <;> first | (simp [go_sem]; done) | (refine cv_some ?_; simp [go_sem]; done) | (simp [go_sem, KFr, KFrz0]; done) | (refine cv_some ?_; simp [go_sem, KFr, KFrz0]; done) | (refine put_below ?_ ?_ <;> first | assumption | omega) | (have hH := ‹_ ∧ _ ∧ _ ∧ _ ∧ _›; exact put_below hH.2.2.2.2 (by omega)) | go_grown))
  ((first | (go_at_call_of 33 (Value.bool true); refine (HB.out _).mono ?_; rintro e wq ⟨rfl, hb⟩; have hb' := below_step (w := w) (by go_grown) hb; have hs := hb'.size; have KFr : T3 wq w.heap.size (.int .i64 b.w) (.int .u64 b.lo) (.int .u64 b.hi) <| (∀ o, wq.frozen? ⟨w.heap.size, o, none⟩ = false) := (by refine k3 hb ?_ ?_ ?_ <| keep_frozen2 hb ?_ ?_ <;> (first | (simp [go_sem]; done) | (simp [go_sem, KFr]; done) | (simp [go_sem, KFr, World.cell?_alloc_some, frozen?_alloc_cells]; done))); have KFrz0 : w.heap.size < wq.heap.size := World.block_lt_of_cell? _ _ KFr.1; clear hb)))
 obtain ⟨-, -, -, -, hBq⟩ := ‹_ ∧ _ ∧ _ ∧ _ ∧ _›
 go_wp2_with fail
 go_ret
 exact ⟨rfl, by go_grown⟩
theorem choose_any {w : World} {g o cc : Nat} {a b c : Bt} (h : Lb w g o [a, b, c]) (hg : g < w.heap.size) :
  Calls Try.prog 62 #[.slice (some ⟨g, o, none⟩) 3 cc] w fun e w' => e = .returned (.tuple #[.agg #[.int .i64 (if tru a then b else c).w, .int .u64 (if tru a then b else c).lo, .int .u64 (if tru a then b else c).hi], .int .i64 0]) ∧ Below w.heap.size w w' := by
 have a0 : w.cell? ⟨g, o, none⟩ = some (.int .i64 a.w) := h 0 a rfl 0 _ rfl
 have a1 : w.cell? ⟨g, o + 1, none⟩ = some (.int .u64 a.lo) := h 0 a rfl 1 _ rfl
 have a2 : w.cell? ⟨g, o + 2, none⟩ = some (.int .u64 a.hi) := h 0 a rfl 2 _ rfl
 have b0 : w.cell? ⟨g, o + 3, none⟩ = some (.int .i64 b.w) := h 1 b rfl 0 _ rfl
 have b1 : w.cell? ⟨g, o + 4, none⟩ = some (.int .u64 b.lo) := h 1 b rfl 1 _ rfl
 have b2 : w.cell? ⟨g, o + 5, none⟩ = some (.int .u64 b.hi) := h 1 b rfl 2 _ rfl
 have c0 : w.cell? ⟨g, o + 6, none⟩ = some (.int .i64 c.w) := h 2 c rfl 0 _ rfl
 have c1 : w.cell? ⟨g, o + 7, none⟩ = some (.int .u64 c.lo) := h 2 c rfl 1 _ rfl
 have c2 : w.cell? ⟨g, o + 8, none⟩ = some (.int .u64 c.hi) := h 2 c rfl 2 _ rfl
 have HT : Hid (∀ wx, Calls Try.prog 77 #[.agg #[.int .i64 a.w, .int .u64 a.lo, .int .u64 a.hi]] wx fun e w' => e = .returned (.bool (tru a)) ∧ Below wx.heap.size wx w') := fun wx => istrue_any a wx
 clear h
 cases ht : tru a
 ·rw [ht] at HT
  simp only [Bool.false_eq_true, if_false]
  clear ht
  go_enter Try.func62, Try.ntmps62
  go_wp2_with fail
  refine (HT.out _).mono ?_
  rintro e w1 ⟨rfl, hb⟩
  have hB : Below w.heap.size w w1 := Below.trans (by go_grown) (hb.mono (by rw [size_alloc']; omega))
  have e0 : w1.cell? ⟨g, o + 6, none⟩ = some (.int .i64 c.w) := bel_cell hB hg c0
  have e1 : w1.cell? ⟨g, o + 7, none⟩ = some (.int .u64 c.lo) := bel_cell hB hg c1
  have e2 : w1.cell? ⟨g, o + 8, none⟩ = some (.int .u64 c.hi) := bel_cell hB hg c2
  have r0 : w1.cell? ⟨w.heap.size, 0, none⟩ = some (.int .i64 0) := by rw [hb.cell (p := ⟨w.heap.size, 0, none⟩) (by simp)]; simp
  have r1 : w1.cell? ⟨w.heap.size, 1, none⟩ = some (.int .u64 0) := by rw [hb.cell (p := ⟨w.heap.size, 1, none⟩) (by simp)]; simp
  have r2 : w1.cell? ⟨w.heap.size, 2, none⟩ = some (.int .u64 0) := by rw [hb.cell (p := ⟨w.heap.size, 2, none⟩) (by simp)]; simp
  have rf : ∀ j, w1.frozen? ⟨w.heap.size, j, none⟩ = false := fun j => by rw [hb.frozen (p := ⟨w.heap.size, j, none⟩) (by simp)]; simp
  clear hb
  go_wp2_with fail
  refine bodyPost_ret (v := .tuple #[.agg #[.int .i64 c.w, .int .u64 c.lo, .int .u64 c.hi], .int .i64 0]) (by simp [results, Try.results62, go_sem, r0, r1, r2]) rfl ?_
  exact ⟨rfl, by go_grown⟩
 ·rw [ht] at HT
  simp only [if_true]
  clear ht
  go_enter Try.func62, Try.ntmps62
  go_wp2_with fail
  refine (HT.out _).mono ?_
  rintro e w1 ⟨rfl, hb⟩
  have hB : Below w.heap.size w w1 := Below.trans (by go_grown) (hb.mono (by rw [size_alloc']; omega))
  have e0 : w1.cell? ⟨g, o + 3, none⟩ = some (.int .i64 b.w) := bel_cell hB hg b0
  have e1 : w1.cell? ⟨g, o + 4, none⟩ = some (.int .u64 b.lo) := bel_cell hB hg b1
  have e2 : w1.cell? ⟨g, o + 5, none⟩ = some (.int .u64 b.hi) := bel_cell hB hg b2
  have r0 : w1.cell? ⟨w.heap.size, 0, none⟩ = some (.int .i64 0) := by rw [hb.cell (p := ⟨w.heap.size, 0, none⟩) (by simp)]; simp
  have r1 : w1.cell? ⟨w.heap.size, 1, none⟩ = some (.int .u64 0) := by rw [hb.cell (p := ⟨w.heap.size, 1, none⟩) (by simp)]; simp
  have r2 : w1.cell? ⟨w.heap.size, 2, none⟩ = some (.int .u64 0) := by rw [hb.cell (p := ⟨w.heap.size, 2, none⟩) (by simp)]; simp
  have rf : ∀ j, w1.frozen? ⟨w.heap.size, j, none⟩ = false := fun j => by rw [hb.frozen (p := ⟨w.heap.size, j, none⟩) (by simp)]; simp
  clear hb
  go_wp2_with fail
  refine bodyPost_ret (v := .tuple #[.agg #[.int .i64 b.w, .int .u64 b.lo, .int .u64 b.hi], .int .i64 0]) (by simp [results, Try.results62, go_sem, r0, r1, r2]) rfl ?_
  exact ⟨rfl, by go_grown⟩
theorem two_cl {w : World} {g o cc bo : Nat} {a b r : Bt} {op er : Int} (h : Lb w g o [a, b]) (hg : g < w.heap.size) (hop : w.cell? ⟨bo, 0, none⟩ = some (.int .i64 op)) (hbo : bo < w.heap.size)
  (HT : Hid (∀ wx, Calls Try.prog 76 #[.int .i64 op, .agg #[.int .i64 a.w, .int .u64 a.lo, .int .u64 a.hi], .agg #[.int .i64 b.w, .int .u64 b.lo, .int .u64 b.hi]] wx fun e w' => e = .returned (.tuple #[.agg #[.int .i64 r.w, .int .u64 r.lo, .int .u64 r.hi], .int .i64 er]) ∧ Below wx.heap.size wx w')) :
  Calls Try.prog 75 #[.slice (some ⟨g, o, none⟩) 2 cc, .pointer (some ⟨bo, 0, none⟩)] w fun e w' => e = .returned (.tuple #[.agg #[.int .i64 r.w, .int .u64 r.lo, .int .u64 r.hi], .int .i64 er]) ∧ Below w.heap.size w w' := by
 have a0 : w.cell? ⟨g, o, none⟩ = some (.int .i64 a.w) := h 0 a rfl 0 _ rfl
 have a1 : w.cell? ⟨g, o + 1, none⟩ = some (.int .u64 a.lo) := h 0 a rfl 1 _ rfl
 have a2 : w.cell? ⟨g, o + 2, none⟩ = some (.int .u64 a.hi) := h 0 a rfl 2 _ rfl
 have b0 : w.cell? ⟨g, o + 3, none⟩ = some (.int .i64 b.w) := h 1 b rfl 0 _ rfl
 have b1 : w.cell? ⟨g, o + 4, none⟩ = some (.int .u64 b.lo) := h 1 b rfl 1 _ rfl
 have b2 : w.cell? ⟨g, o + 5, none⟩ = some (.int .u64 b.hi) := h 1 b rfl 2 _ rfl
 clear h
 go_enter Try.func75, Try.ntmps75
 go_wp2_with fail
 go_region_with ((go_at_call 76; refine Calls.mono (HT.out _) ?_; rintro e w1 ⟨rfl, hb⟩; have r0 : w1.cell? ⟨w.heap.size, 0, none⟩ = some (.int .i64 0) := (by rw [hb.cell (p := ⟨w.heap.size, 0, none⟩) (by simp)]; simp [go_sem]); have r1 : w1.cell? ⟨w.heap.size, 1, none⟩ = some (.int .u64 0) := (by rw [hb.cell (p := ⟨w.heap.size, 1, none⟩) (by simp)]; simp [go_sem]); have r2 : w1.cell? ⟨w.heap.size, 2, none⟩ = some (.int .u64 0) := (by rw [hb.cell (p := ⟨w.heap.size, 2, none⟩) (by simp)]; simp [go_sem]); have rf : ∀ j, w1.frozen? ⟨w.heap.size, j, none⟩ = false := (fun j => by rw [hb.frozen (p := ⟨w.heap.size, j, none⟩) (by simp)]; simp [go_sem]); have hB : Below w.heap.size w w1 := Below.trans (by go_grown) (hb.mono (by simp)); clear hb))
 all_goals
  go_wp2_with fail
  refine bodyPost_ret (v := .tuple #[.agg #[.int .i64 r.w, .int .u64 r.lo, .int .u64 r.hi], .int .i64 er]) (by simp [results, Try.results75, go_sem, r0, r1, r2]) rfl ?_
  exact ⟨rfl, by go_grown⟩
end Go.Proofs.Ytedldoobmmhloaa
