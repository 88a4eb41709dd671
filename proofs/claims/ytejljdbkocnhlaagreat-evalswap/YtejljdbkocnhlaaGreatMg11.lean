import Derived.Test.YtejljdbkocnhlaaGreatMg10
import Derived.Test.YtejljdbkocnhlaaGreatMg9
import Derived.Test.YtejljdbkocnhlaaGreatMg5
import Derived.Test.YtejljdbkocnhlaaGreatMg6
import Derived.Test.YtejljdbkocnhlaaGreatMg3
namespace Go.Proofs.YtejljdbkocnhlaaGreat
set_option maxHeartbeats 12800000
set_option maxRecDepth 100000
open Go.RowKit
set_option linter.unusedSimpArgs false
set_option linter.unusedVariables false
theorem mkf (fn : Fn) (first cap : Array Value) (w : World) : (Instr.makeFunc fn first cap).run Tryz.prog w = .ok (.func fn first cap) w := rfl
theorem stf (a : Addr) (fn : Fn) (first cap : Array Value) (m : Mode) (w : World) : (store a (.func fn first cap) m).run Tryz.prog w = stored Tryz.prog w a (.func fn first cap) m := run_store Tryz.prog w a _ m rfl
theorem fld (x : Value) (hx : x.cells = #[x]) (w : World) : (Instr.field 85 (.agg #[x]) 0).run Tryz.prog w = .ok x w := by kernel_rfl
theorem mean_two {op p q : Int} (h1 : 12 ≤ op) (h2 : op ≤ 37) (w : World) :
  Calls Tryz.prog 39 #[.int .i64 op, .int .i64 p, .int .i64 q] w fun e w' => e = .returned (.agg #[.func (.func 86) #[] #[.pointer (some ⟨w.heap.size, 0, none⟩)]]) ∧ Below w.heap.size w w' ∧ w'.cell? ⟨w.heap.size, 0, none⟩ = some (.int .i64 op) ∧ w.heap.size < w'.heap.size := by
 have hmf := mkf
 have hsf := stf
 have z3 : (op == 3) = false := by simp; omega
 have z4 : (op == 4) = false := by simp; omega
 have z5 : (op == 5) = false := by simp; omega
 have z6 : (op == 6) = false := by simp; omega
 have z7 : (op == 7) = false := by simp; omega
 have z8 : (op == 8) = false := by simp; omega
 have z9 : (op == 9) = false := by simp; omega
 have z10 : (op == 10) = false := by simp; omega
 have z11 : (op == 11) = false := by simp; omega
 have z38 : (op == 38) = false := by simp; omega
 have z39 : (op == 39) = false := by simp; omega
 have z40 : (op == 40) = false := by simp; omega
 have z41 : (op == 41) = false := by simp; omega
 have z42 : (op == 42) = false := by simp; omega
 have z43 : (op == 43) = false := by simp; omega
 have z44 : (op == 44) = false := by simp; omega
 clear h1 h2
 go_enter Tryz.func39, Tryz.ntmps39
 go_wp2_with fail
 refine bodyPost_ret (v := .agg #[.func (.func 86) #[] #[.pointer (some ⟨w.heap.size, 0, none⟩)]]) (by simp [results, Tryz.results39, go_sem]) rfl ?_
 refine ⟨rfl, by go_grown, ?_, by simp; omega⟩
 refine (World.cell?_of_block ?_).trans (cell_of (heap_alloc_new w (.cells #[.int .i64 op] 3)) 0 rfl)
 first | exact (heap_alloc_old _ _ (by simp; omega)).trans ((heap_alloc_old _ _ (by simp; omega)).trans (heap_alloc_old _ _ (by simp))) | (simp; done)
theorem mean_ite {p q : Int} (w : World) :
  Rt 39 #[.int .i64 9, .int .i64 p, .int .i64 q] w (.agg #[.func (.func 73) #[] #[]]) := by
 have hsf := stf
 go_enter Tryz.func39, Tryz.ntmps39
 go_wp2_with fail
 refine bodyPost_ret (v := .agg #[.func (.func 73) #[] #[]]) (by simp [results, Tryz.results39, go_sem]) rfl ?_
 exact ⟨rfl, by go_grown⟩
theorem vsort_any {w : World} {op p q : Int} {l : List Bt} {u : Value} {base : Nat} (h : Is' w base u (l.map sof)) (hl : l ≠ []) (h8 : l.length ≤ 8) :
  Rt 37 #[.int .i64 op, .int .i64 p, .int .i64 q, u] w (.tuple #[.int .i64 (srtF op p q (l.map sof)).1, .int .i64 (srtF op p q (l.map sof)).2]) := by
 obtain ⟨r, cap, rfl, hb, hc, hLi⟩ := h.li (by simpa using hl)
 exact sort_any hLi (by rw [List.length_map]; omega) hc
theorem apply_err {w : World} {g o c : Nat} {l : List Bt} {op p q s er : Int} (h : Lb w g o l) (hg : g < w.heap.size) (hk : ∀ b ∈ l, Bk b) (hl : l.length ≤ 8) (hne : l ≠ []) (hs : srtF op p q (l.map sof) = (s, er)) (he : ¬ er = 0) :
  Rt 15 #[.int .i64 op, .int .i64 p, .int .i64 q, .slice (some ⟨g, o, none⟩) l.length c] w (.tuple #[.agg #[.int .i64 0, .int .u64 0, .int .u64 0], .int .i64 er]) := by
 have HSO : Hid (∀ wx, Below w.heap.size w wx → Calls Tryz.prog 38 #[.slice (some ⟨g, o, none⟩) l.length c] wx fun e w' => ∃ u, e = .returned u ∧ Is' w' wx.heap.size u (l.map sof) ∧ Below wx.heap.size wx w') := fun wx hb => sorts_any (fun j b hj t u hu => by rw [hb.cell (p := ⟨g, o + j * 3 + t, none⟩) hg]; exact h j b hj t u hu) (Nat.lt_of_lt_of_le hg hb.size) hk hl
 have HVS : Hid (∀ wx u base, Is' wx base u (l.map sof) → Rt 37 #[.int .i64 op, .int .i64 p, .int .i64 q, u] wx (.tuple #[.int .i64 s, .int .i64 er])) := fun wx u base hi => by
  have := vsort_any (op := op) (p := p) (q := q) hi hne hl
  rw [hs] at this; exact this
 have z1 : (er != 0) = true := by simp [he]
 obtain ⟨n, hn⟩ : ∃ n, n = l.length := ⟨_, rfl⟩
 rw [← hn] at HSO ⊢
 clear h hk hne hs he hn
 go_enter Tryz.func15, Tryz.ntmps15
 go_wp2_with fail
 refine Calls.mono (HSO.out _ (by go_grown)) ?_
 rintro e w1 ⟨u, rfl, hI, hb⟩
 have HI : Hid _ := hI
 have r0 : w1.cell? ⟨w.heap.size, 0, none⟩ = some (.int .i64 0) := by rw [hb.cell (p := ⟨w.heap.size, 0, none⟩) (by simp)]; simp
 have r1 : w1.cell? ⟨w.heap.size, 1, none⟩ = some (.int .u64 0) := by rw [hb.cell (p := ⟨w.heap.size, 1, none⟩) (by simp)]; simp
 have r2 : w1.cell? ⟨w.heap.size, 2, none⟩ = some (.int .u64 0) := by rw [hb.cell (p := ⟨w.heap.size, 2, none⟩) (by simp)]; simp
 have rf : ∀ j, w1.frozen? ⟨w.heap.size, j, none⟩ = false := fun j => by rw [hb.frozen (p := ⟨w.heap.size, j, none⟩) (by simp)]; simp
 have hB : Below w.heap.size w w1 := Below.trans (by go_grown) (hb.mono (by simp))
 have hs1 : w.heap.size < w1.heap.size := by have := hb.size; simp at this; omega
 clear hb hI
 go_wp2_with fail
 refine Calls.mono (HVS.out _ _ _ HI.out) ?_
 rintro e w2 ⟨rfl, hb⟩
 have t0 : w2.cell? ⟨w.heap.size, 0, none⟩ = some (.int .i64 0) := bel_cell hb hs1 r0
 have t1 : w2.cell? ⟨w.heap.size, 1, none⟩ = some (.int .u64 0) := bel_cell hb hs1 r1
 have t2 : w2.cell? ⟨w.heap.size, 2, none⟩ = some (.int .u64 0) := bel_cell hb hs1 r2
 have tf : ∀ j, w2.frozen? ⟨w.heap.size, j, none⟩ = false := fun j => by rw [hb.frozen (p := ⟨w.heap.size, j, none⟩) hs1]; exact rf j
 have hB2 : Below w.heap.size w w2 := hB.trans (hb.mono hB.size)
 clear hb r0 r1 r2 rf hB HI
 go_wp2_with fail
 refine bodyPost_ret (v := .tuple #[.agg #[.int .i64 0, .int .u64 0, .int .u64 0], .int .i64 er]) (by simp [results, Tryz.results15, go_sem, t0, t1, t2]) rfl ?_
 exact ⟨rfl, by go_grown⟩
theorem apply_two {w : World} {g o c : Nat} {a b r : Bt} {op p q s er : Int} (h1 : 12 ≤ op) (h2 : op ≤ 37) (h : Lb w g o [a, b]) (hg : g < w.heap.size) (hka : Bk a) (hkb : Bk b) (hs : srtF op p q [sof a, sof b] = (s, 0))
  (HT : Hid (∀ wx, Rt 87 #[.int .i64 op, .agg #[.int .i64 a.w, .int .u64 a.lo, .int .u64 a.hi], .agg #[.int .i64 b.w, .int .u64 b.lo, .int .u64 b.hi]] wx (.tuple #[.agg #[.int .i64 r.w, .int .u64 r.lo, .int .u64 r.hi], .int .i64 er]))) :
  Rt 15 #[.int .i64 op, .int .i64 p, .int .i64 q, .slice (some ⟨g, o, none⟩) 2 c] w (.tuple #[.agg #[.int .i64 r.w, .int .u64 r.lo, .int .u64 r.hi], .int .i64 er]) := by
 have hLb : ∀ wx, Below w.heap.size w wx → Lb wx g o [a, b] := fun wx hb j x hj t u hu => by rw [hb.cell (p := ⟨g, o + j * 3 + t, none⟩) hg]; exact h j x hj t u hu
 have HSO : Hid (∀ wx, Below w.heap.size w wx → Calls Tryz.prog 38 #[.slice (some ⟨g, o, none⟩) 2 c] wx fun e w' => ∃ u, e = .returned u ∧ Is' w' wx.heap.size u ([a, b].map sof) ∧ Below wx.heap.size wx w') := fun wx hb => sorts_any (l := [a, b]) (hLb wx hb) (Nat.lt_of_lt_of_le hg hb.size) (fun x hx => by
  rcases List.mem_cons.1 hx with rfl | hx
  ·exact hka
  ·rw [List.mem_singleton.1 hx]; exact hkb) (by simp)
 have HVS : Hid (∀ wx u base, Is' wx base u ([a, b].map sof) → Rt 37 #[.int .i64 op, .int .i64 p, .int .i64 q, u] wx (.tuple #[.int .i64 s, .int .i64 0])) := fun wx u base hi => by
  have := vsort_any (op := op) (p := p) (q := q) hi (by simp) (by simp)
  rw [show [a, b].map sof = [sof a, sof b] from rfl, hs] at this; exact this
 have HME : Hid _ := fun wx => mean_two (p := p) (q := q) h1 h2 wx
 have HCL : Hid (∀ wx bo, Below w.heap.size w wx → wx.cell? ⟨bo, 0, none⟩ = some (.int .i64 op) → bo < wx.heap.size → Rt 86 #[.slice (some ⟨g, o, none⟩) 2 c, .pointer (some ⟨bo, 0, none⟩)] wx (.tuple #[.agg #[.int .i64 r.w, .int .u64 r.lo, .int .u64 r.hi], .int .i64 er])) := fun wx bo hb hc hl => two_cl (hLb wx hb) (Nat.lt_of_lt_of_le hg hb.size) hc hl HT
 have hfd : ∀ wx bo, (Instr.field 85 (.agg #[.func (.func 86) #[] #[.pointer (some ⟨bo, 0, none⟩)]]) 0).run Tryz.prog wx = .ok (.func (.func 86) #[] #[.pointer (some ⟨bo, 0, none⟩)]) wx := fun wx bo => fld _ rfl wx
 clear h hka hkb hs h1 h2 hLb
 go_enter Tryz.func15, Tryz.ntmps15
 go_wp2_with fail
 refine Calls.mono (HSO.out _ (by go_grown)) ?_
 rintro e w1 ⟨u, rfl, hI, hb⟩
 have HI : Hid _ := hI
 have hB : Below w.heap.size w w1 := Below.trans (by go_grown) (hb.mono (by simp))
 have hr : w1.heap[w.heap.size]? = some (.cells #[.int .i64 0, .int .u64 0, .int .u64 0] 34) := (hb.block _ (by simp)).trans (heap_alloc_new w _)
 have HR : Hid _ := hr
 clear hb hI hr
 go_wp2_with fail
 refine Calls.mono (HVS.out _ _ _ HI.out) ?_
 rintro e w2 ⟨rfl, hb⟩
 have hB2 : Below w.heap.size w w2 := hB.trans (hb.mono hB.size)
 have HR2 : Hid _ := (hb.block _ (Array.getElem?_eq_some_iff.1 HR.out).1).trans HR.out
 clear hb HI HR hB
 go_wp2_with fail
 refine Calls.mono (HME.out _) ?_
 rintro e w3 ⟨rfl, hb, hcell, hlt⟩
 have hB3 : Below w.heap.size w w3 := hB2.trans (hb.mono hB2.size)
 have HR3 : Hid _ := (hb.block _ (Array.getElem?_eq_some_iff.1 HR2.out).1).trans HR2.out
 have HCE : Hid _ := hcell
 clear hb HR2 hcell hB2
 go_wp2_with fail
 refine Calls.mono (HCL.out _ _ hB3 HCE.out hlt) ?_
 rintro e w4 ⟨rfl, hb⟩
 have hB4 : Below w.heap.size w w4 := hB3.trans (hb.mono hB3.size)
 have hr4 : w4.heap[w.heap.size]? = _ := (hb.block _ (Array.getElem?_eq_some_iff.1 HR3.out).1).trans HR3.out
 have t0 : w4.cell? ⟨w.heap.size, 0, none⟩ = some (.int .i64 0) := cell_of hr4 0 rfl
 have t1 : w4.cell? ⟨w.heap.size, 1, none⟩ = some (.int .u64 0) := cell_of hr4 1 rfl
 have t2 : w4.cell? ⟨w.heap.size, 2, none⟩ = some (.int .u64 0) := cell_of hr4 2 rfl
 have tf : ∀ j, w4.frozen? ⟨w.heap.size, j, none⟩ = false := fun j => by simp [World.frozen?, hr4]
 clear hb HR3 hr4 hB3
 go_wp2_with fail
 refine bodyPost_ret (v := .tuple #[.agg #[.int .i64 r.w, .int .u64 r.lo, .int .u64 r.hi], .int .i64 er]) (by simp [results, Tryz.results15, go_sem, t0, t1, t2]) rfl ?_
 exact ⟨rfl, by go_grown⟩
open Go.RowKit
def eqT (a b : Bt) : Bool := decide (a.w = b.w) && decide (a.lo = b.lo) && decide (a.hi = b.hi)
theorem eq2 (a b : Bt) (w : World) : (binOp .eql 34 (.agg #[.int .i64 a.w, .int .u64 a.lo, .int .u64 a.hi]) (.agg #[.int .i64 b.w, .int .u64 b.lo, .int .u64 b.hi])).run Tryz.prog w = .ok (.bool (eqT a b)) w := by
 unfold eqT
 by_cases h1 : a.w = b.w
 ·by_cases h2 : a.lo = b.lo
  ·by_cases h3 : a.hi = b.hi <;> simp [go_sem, h1, h2, h3]
  ·simp [go_sem, h1, h2]
 ·simp [go_sem, h1]
def bT (b : Bool) : Bt := ⟨0, if b then 1 else 0, 0⟩
theorem apply_ite {w : World} {g o c : Nat} {a b d : Bt} {p q s : Int} (h : Lb w g o [a, b, d]) (hg : g < w.heap.size) (hka : Bk a) (hkb : Bk b) (hkd : Bk d) (hs : srtF 9 p q [sof a, sof b, sof d] = (s, 0)) :
  Rt 15 #[.int .i64 9, .int .i64 p, .int .i64 q, .slice (some ⟨g, o, none⟩) 3 c] w (.tuple #[.agg #[.int .i64 (if tru a then b else d).w, .int .u64 (if tru a then b else d).lo, .int .u64 (if tru a then b else d).hi], .int .i64 0]) := by
 have hLb : ∀ wx, Below w.heap.size w wx → Lb wx g o [a, b, d] := fun wx hb j x hj t u hu => by rw [hb.cell (p := ⟨g, o + j * 3 + t, none⟩) hg]; exact h j x hj t u hu
 have HSO : Hid (∀ wx, Below w.heap.size w wx → Calls Tryz.prog 38 #[.slice (some ⟨g, o, none⟩) 3 c] wx fun e w' => ∃ u, e = .returned u ∧ Is' w' wx.heap.size u ([a, b, d].map sof) ∧ Below wx.heap.size wx w') := fun wx hb => sorts_any (l := [a, b, d]) (hLb wx hb) (Nat.lt_of_lt_of_le hg hb.size) (fun x hx => by
  rcases List.mem_cons.1 hx with rfl | hx
  ·exact hka
  ·rcases List.mem_cons.1 hx with rfl | hx
   ·exact hkb
   ·rw [List.mem_singleton.1 hx]; exact hkd) (by simp)
 have HVS : Hid (∀ wx u base, Is' wx base u ([a, b, d].map sof) → Rt 37 #[.int .i64 9, .int .i64 p, .int .i64 q, u] wx (.tuple #[.int .i64 s, .int .i64 0])) := fun wx u base hi => by
  have := vsort_any (op := 9) (p := p) (q := q) hi (by simp) (by simp)
  rw [show [a, b, d].map sof = [sof a, sof b, sof d] from rfl, hs] at this; exact this
 have HME : Hid _ := fun wx => mean_ite (p := p) (q := q) wx
 obtain ⟨r, hr⟩ : ∃ r, r = (if tru a then b else d) := ⟨_, rfl⟩
 have HCL : Hid (∀ wx, Below w.heap.size w wx → Rt 73 #[.slice (some ⟨g, o, none⟩) 3 c] wx (.tuple #[.agg #[.int .i64 r.w, .int .u64 r.lo, .int .u64 r.hi], .int .i64 0])) := fun wx hb => by rw [hr]; exact choose_any (hLb wx hb) (Nat.lt_of_lt_of_le hg hb.size)
 have hfd : ∀ wx, (Instr.field 85 (.agg #[.func (.func 73) #[] #[]]) 0).run Tryz.prog wx = .ok (.func (.func 73) #[] #[]) wx := fun wx => fld _ rfl wx
 rw [← hr]
 clear h hka hkb hkd hs hLb hr
 go_enter Tryz.func15, Tryz.ntmps15
 go_wp2_with fail
 refine Calls.mono (HSO.out _ (by go_grown)) ?_
 rintro e w1 ⟨u, rfl, hI, hb⟩
 have HI : Hid _ := hI
 have hB : Below w.heap.size w w1 := Below.trans (by go_grown) (hb.mono (by simp))
 have hr : w1.heap[w.heap.size]? = some (.cells #[.int .i64 0, .int .u64 0, .int .u64 0] 34) := (hb.block _ (by simp)).trans (heap_alloc_new w _)
 have HR : Hid _ := hr
 clear hb hI hr
 go_wp2_with fail
 refine Calls.mono (HVS.out _ _ _ HI.out) ?_
 rintro e w2 ⟨rfl, hb⟩
 have hB2 : Below w.heap.size w w2 := hB.trans (hb.mono hB.size)
 have HR2 : Hid _ := (hb.block _ (Array.getElem?_eq_some_iff.1 HR.out).1).trans HR.out
 clear hb HI HR hB
 go_wp2_with fail
 refine Calls.mono (HME.out _) ?_
 rintro e w3 ⟨rfl, hb⟩
 have hB3 : Below w.heap.size w w3 := hB2.trans (hb.mono hB2.size)
 have HR3 : Hid _ := (hb.block _ (Array.getElem?_eq_some_iff.1 HR2.out).1).trans HR2.out
 clear hb HR2 hB2
 go_wp2_with fail
 refine Calls.mono (HCL.out _ hB3) ?_
 rintro e w4 ⟨rfl, hb⟩
 have hB4 : Below w.heap.size w w4 := hB3.trans (hb.mono hB3.size)
 have hr4 : w4.heap[w.heap.size]? = _ := (hb.block _ (Array.getElem?_eq_some_iff.1 HR3.out).1).trans HR3.out
 have t0 : w4.cell? ⟨w.heap.size, 0, none⟩ = some (.int .i64 0) := cell_of hr4 0 rfl
 have t1 : w4.cell? ⟨w.heap.size, 1, none⟩ = some (.int .u64 0) := cell_of hr4 1 rfl
 have t2 : w4.cell? ⟨w.heap.size, 2, none⟩ = some (.int .u64 0) := cell_of hr4 2 rfl
 have tf : ∀ j, w4.frozen? ⟨w.heap.size, j, none⟩ = false := fun j => by simp [World.frozen?, hr4]
 clear hb HR3 hr4 hB3
 go_wp2_with fail
 refine bodyPost_ret (v := .tuple #[.agg #[.int .i64 r.w, .int .u64 r.lo, .int .u64 r.hi], .int .i64 0]) (by simp [results, Tryz.results15, go_sem, t0, t1, t2]) rfl ?_
 exact ⟨rfl, by go_grown⟩
theorem same_any {w : World} {g o cc : Nat} {a b : Bt} (h : Lb w g o [a, b]) (hg : g < w.heap.size) :
  Rt 72 #[.slice (some ⟨g, o, none⟩) 2 cc] w (.tuple #[.agg #[.int .i64 (bT (eqT a b)).w, .int .u64 (bT (eqT a b)).lo, .int .u64 (bT (eqT a b)).hi], .int .i64 0]) := by
 have a0 : w.cell? ⟨g, o, none⟩ = some (.int .i64 a.w) := h 0 a rfl 0 _ rfl
 have a1 : w.cell? ⟨g, o + 1, none⟩ = some (.int .u64 a.lo) := h 0 a rfl 1 _ rfl
 have a2 : w.cell? ⟨g, o + 2, none⟩ = some (.int .u64 a.hi) := h 0 a rfl 2 _ rfl
 have b0 : w.cell? ⟨g, o + 3, none⟩ = some (.int .i64 b.w) := h 1 b rfl 0 _ rfl
 have b1 : w.cell? ⟨g, o + 4, none⟩ = some (.int .u64 b.lo) := h 1 b rfl 1 _ rfl
 have b2 : w.cell? ⟨g, o + 5, none⟩ = some (.int .u64 b.hi) := h 1 b rfl 2 _ rfl
 have heq := eq2 a b
 obtain ⟨y, hy⟩ : ∃ y, y = eqT a b := ⟨_, rfl⟩
 rw [← hy] at heq ⊢
 obtain ⟨L, hL⟩ : ∃ L : Int, L = if y then 1 else 0 := ⟨_, rfl⟩
 have HB : Hid (∀ wx, Rt 102 #[.bool y] wx (.agg #[.int .i64 0, .int .u64 L, .int .u64 0])) := fun wx => by rw [hL]; exact bool_any y wx
 show Rt 72 #[.slice (some ⟨g, o, none⟩) 2 cc] w (.tuple #[.agg #[.int .i64 0, .int .u64 (if y then 1 else 0), .int .u64 0], .int .i64 0])
 rw [← hL]
 clear h hy hL
 go_enter Tryz.func72, Tryz.ntmps72
 go_wp2_with fail
 go_region_with ((go_at_call 102; refine Calls.mono (HB.out _) ?_; rintro e w1 ⟨rfl, hb⟩; have hB : Below w.heap.size w w1 := Below.trans (by go_grown) (hb.mono (by first | (simp; done) | (simp; omega) | omega)); have qa0 : w1.cell? ⟨g, o, none⟩ = some (.int .i64 a.w) := bel_cell hB hg a0; have qa1 : w1.cell? ⟨g, o + 1, none⟩ = some (.int .u64 a.lo) := bel_cell hB hg a1; have qa2 : w1.cell? ⟨g, o + 2, none⟩ = some (.int .u64 a.hi) := bel_cell hB hg a2; have qb0 : w1.cell? ⟨g, o + 3, none⟩ = some (.int .i64 b.w) := bel_cell hB hg b0; have qb1 : w1.cell? ⟨g, o + 4, none⟩ = some (.int .u64 b.lo) := bel_cell hB hg b1; have qb2 : w1.cell? ⟨g, o + 5, none⟩ = some (.int .u64 b.hi) := bel_cell hB hg b2; have r0 : w1.cell? ⟨w.heap.size, 0, none⟩ = some (.int .i64 0) := (by rw [hb.cell (p := ⟨w.heap.size, 0, none⟩) (by first | (simp; done) | (simp; omega) | omega)]; first | (simp [go_sem]; done) | assumption); have r1 : w1.cell? ⟨w.heap.size, 1, none⟩ = some (.int .u64 0) := (by rw [hb.cell (p := ⟨w.heap.size, 1, none⟩) (by first | (simp; done) | (simp; omega) | omega)]; first | (simp [go_sem]; done) | assumption); have r2 : w1.cell? ⟨w.heap.size, 2, none⟩ = some (.int .u64 0) := (by rw [hb.cell (p := ⟨w.heap.size, 2, none⟩) (by first | (simp; done) | (simp; omega) | omega)]; first | (simp [go_sem]; done) | assumption); have rf : ∀ j, w1.frozen? ⟨w.heap.size, j, none⟩ = false := (fun j => by rw [hb.frozen (p := ⟨w.heap.size, j, none⟩) (by first | (simp; done) | (simp; omega) | omega)]; first | (simp [go_sem]; done) | apply_assumption); have hsz : w.heap.size < w1.heap.size := (by have := hb.size; first | omega | (simp at this; omega)); clear hb))
 all_goals
  go_wp2_with fail
  refine bodyPost_ret (v := .tuple #[.agg #[.int .i64 0, .int .u64 L, .int .u64 0], .int .i64 0]) (by simp [results, Tryz.results72, go_sem, r0, r1, r2]) rfl ?_
  exact ⟨rfl, by go_grown⟩
theorem f_and (x y : Bool) (w : World) : Calls Tryz.prog 68 #[.bool x, .bool y] w fun e w' => e = .returned (.bool (x && y)) ∧ w' = w := by
 cases x
 ·go_enter Tryz.func68, Tryz.ntmps68
  go_wp2_with fail
  go_ret
  exact ⟨rfl, rfl⟩
 ·go_enter Tryz.func68, Tryz.ntmps68
  go_wp2_with fail
  go_ret
  exact ⟨by simp, rfl⟩
theorem f_or (x y : Bool) (w : World) : Calls Tryz.prog 69 #[.bool x, .bool y] w fun e w' => e = .returned (.bool (x || y)) ∧ w' = w := by
 cases x
 ·go_enter Tryz.func69, Tryz.ntmps69
  go_wp2_with fail
  go_ret
  exact ⟨by simp, rfl⟩
 ·go_enter Tryz.func69, Tryz.ntmps69
  go_wp2_with fail
  go_ret
  exact ⟨rfl, rfl⟩
theorem f_xor (x y : Bool) (w : World) : Calls Tryz.prog 70 #[.bool x, .bool y] w fun e w' => e = .returned (.bool (x != y)) ∧ w' = w := by
 go_enter Tryz.func70, Tryz.ntmps70
 go_wp2_with fail
 go_ret
 exact ⟨rfl, rfl⟩
open Go.RowKit
def Bt.val (b : Bt) : Value := .agg #[.int .i64 b.w, .int .u64 b.lo, .int .u64 b.hi]
def zBt : Bt := ⟨0, 0, 0⟩
def bmL (M : List (Int × Bt)) : List (Value × Value) := M.map fun p => (.int .i64 p.1, p.2.val)
def getM (M : List (Int × Bt)) (k : Int) : Option Bt := (M.find? fun p => decide (p.1 = k)).map (·.2)
structure Bm (w : World) (b : Nat) (M : List (Int × Bt)) : Prop where
 mp : Mp w 3 b (bmL M)
 once : (M.map (·.1)).Nodup
theorem intUnder : Tryz.prog.underlying 3 = some (.int .i64) := by kernel_rfl
theorem intLaw : Go.Maps.Keyed Tryz.prog 3 := Go.Maps.int_keyed intUnder
theorem bmUnder : Tryz.prog.underlying 77 = some (.map 3 34) := by kernel_rfl
theorem zeroBt (w : World) : (zeroValue 34).run Tryz.prog w = .ok zBt.val w := by kernel_rfl
theorem intKey {k : Int} (h : w64 k) : keyOf Tryz.prog 3 (.int .i64 k) = some (.int .i64 k) := Go.Maps.keyOf_int_mk intUnder (wf64 h)
theorem Mp.lookK {w : World} {k e t : TypeId} {b : Nat} {L : List (Value × Value)} (h : Mp w k b L) (K : Go.Maps.Keyed Tryz.prog k) (ht : Tryz.prog.underlying t = some (.map k e)) {z : Value} (hz : (zeroValue e).run Tryz.prog w = .ok z w)
  {key : Value} {kl : Lit} (hkey : keyOf Tryz.prog k key = some kl) :
  ((Instr.lookup t (.map (some b)) key true).run Tryz.prog w = .ok (.tuple #[z, .bool false]) w ∧ ∀ p ∈ L, p.1 ≠ key) ∨
  ∃ p, p ∈ L ∧ p.1 = key ∧ (Instr.lookup t (.map (some b)) key true).run Tryz.prog w = .ok (.tuple #[p.2, .bool true]) w := by
 obtain ⟨es, cl, hb, rfl, hk⟩ := h
 have hes : ∀ x ∈ es.toList, ∃ l, keyOf Tryz.prog k x.key = some l := fun x hx => hk (x.key, x.val) (List.mem_map.2 ⟨x, hx, rfl⟩)
 rcases K.find w hkey es.toList hes with ⟨h1, h2⟩ | ⟨j, e0, h1, h2, h3⟩
 ·refine Or.inl ⟨by simp [Instr.lookup, run_underlying ht, MapKept.run_getObj_map hb, K.check w _ hkey, h1, hz, Result.andThen], fun p hp => ?_⟩
  obtain ⟨x, hx, rfl⟩ := List.mem_map.1 hp
  exact h2 x hx
 ·exact Or.inr ⟨(e0.key, e0.val), List.mem_map.2 ⟨e0, List.mem_of_getElem? h2, rfl⟩, h3, by simp [Instr.lookup, run_underlying ht, MapKept.run_getObj_map hb, K.check w _ hkey, h1, Result.andThen]⟩
theorem Mp.storeK {w : World} {k e t : TypeId} {b : Nat} {L : List (Value × Value)} (h : Mp w k b L) (K : Go.Maps.Keyed Tryz.prog k) (ht : Tryz.prog.underlying t = some (.map k e))
  {key val : Value} {kl : Lit} (hkey : keyOf Tryz.prog k key = some kl) (hno : ∀ p ∈ L, p.1 ≠ key) :
  ∃ w', (Instr.mapUpdate t (.map (some b)) key val).run Tryz.prog w = .ok () w' ∧ Mp w' k b (L ++ [(key, val)]) ∧ w.grownBy w' (some b) ∧ w'.heap.size = w.heap.size := by
 obtain ⟨es, cl, hb, rfl, hk⟩ := h
 have hes : ∀ x ∈ es.toList, ∃ l, keyOf Tryz.prog k x.key = some l := fun x hx => hk (x.key, x.val) (List.mem_map.2 ⟨x, hx, rfl⟩)
 have hlt : b < w.heap.size := (Array.getElem?_eq_some_iff.1 hb).1
 rcases K.find w hkey es.toList hes with ⟨h1, h2⟩ | ⟨j, e0, h1, h2, h3⟩
 ·refine ⟨ChangeMaps.setBlock w b (.map (es.push ⟨key, val, cl⟩) (cl + 1)), by simp [Instr.mapUpdate, run_underlying ht, MapKept.run_getObj_map hb, K.check w false hkey, h1, MapKept.run_setObj_map _ hb, Result.andThen, ChangeMaps.setBlock], ⟨es.push ⟨key, val, cl⟩, cl + 1, by simp [ChangeMaps.setBlock, hlt], by simp, ?_⟩, ⟨rfl, rfl, rfl, by simp [ChangeMaps.setBlock], fun i _ hi => ?_⟩, by simp [ChangeMaps.setBlock]⟩
  ·intro p hp
   rcases List.mem_append.1 hp with hp | hp
   ·exact hk p hp
   ·obtain rfl := List.mem_singleton.1 hp
    exact ⟨_, hkey⟩
  ·have : b ≠ i := fun e => hi (by rw [e])
   simp [ChangeMaps.setBlock, this]
 ·exact absurd h3 (hno (e0.key, e0.val) (List.mem_map.2 ⟨e0, List.mem_of_getElem? h2, rfl⟩))
theorem Mp.look1 {w : World} {k e t : TypeId} {b : Nat} {L : List (Value × Value)} (h : Mp w k b L) (K : Go.Maps.Keyed Tryz.prog k) (ht : Tryz.prog.underlying t = some (.map k e)) {z : Value} (hz : (zeroValue e).run Tryz.prog w = .ok z w)
  {key : Value} {kl : Lit} (hkey : keyOf Tryz.prog k key = some kl) :
  ((Instr.lookup t (.map (some b)) key false).run Tryz.prog w = .ok z w ∧ ∀ p ∈ L, p.1 ≠ key) ∨
  ∃ p, p ∈ L ∧ p.1 = key ∧ (Instr.lookup t (.map (some b)) key false).run Tryz.prog w = .ok p.2 w := by
 obtain ⟨es, cl, hb, rfl, hk⟩ := h
 have hes : ∀ x ∈ es.toList, ∃ l, keyOf Tryz.prog k x.key = some l := fun x hx => hk (x.key, x.val) (List.mem_map.2 ⟨x, hx, rfl⟩)
 rcases K.find w hkey es.toList hes with ⟨h1, h2⟩ | ⟨j, e0, h1, h2, h3⟩
 ·refine Or.inl ⟨by simp [Instr.lookup, run_underlying ht, MapKept.run_getObj_map hb, K.check w _ hkey, h1, hz, Result.andThen], fun p hp => ?_⟩
  obtain ⟨x, hx, rfl⟩ := List.mem_map.1 hp
  exact h2 x hx
 ·exact Or.inr ⟨(e0.key, e0.val), List.mem_map.2 ⟨e0, List.mem_of_getElem? h2, rfl⟩, h3, by simp [Instr.lookup, run_underlying ht, MapKept.run_getObj_map hb, K.check w _ hkey, h1, Result.andThen]⟩
theorem getM_none {M : List (Int × Bt)} {k : Int} (h : getM M k = none) : ∀ p ∈ bmL M, p.1 ≠ .int .i64 k := by
 intro p hp e
 obtain ⟨x, hx, rfl⟩ := List.mem_map.1 hp
 have hk : x.1 = k := by simpa using e
 unfold getM at h
 rw [Option.map_eq_none_iff, List.find?_eq_none] at h
 exact h x hx (by simp [hk])
theorem getM_some {M : List (Int × Bt)} {k : Int} {v : Bt} (h : getM M k = some v) (hn : (M.map (·.1)).Nodup) : (.int .i64 k, v.val) ∈ bmL M ∧ ∀ p ∈ bmL M, p.1 = .int .i64 k → p.2 = v.val := by
 unfold getM at h
 obtain ⟨x, hx, rfl⟩ := Option.map_eq_some_iff.1 h
 have hk : x.1 = k := by simpa using List.find?_some hx
 have hm := List.mem_of_find?_eq_some hx
 refine ⟨List.mem_map.2 ⟨x, hm, by rw [← hk]⟩, fun p hp e => ?_⟩
 obtain ⟨y, hy, rfl⟩ := List.mem_map.1 hp
 have hy1 : y.1 = k := by simpa using e
 have : y = x := by
  have hpw := List.pairwise_map.1 hn
  rcases List.mem_iff_getElem.1 hy with ⟨i, hi, ei⟩
  rcases List.mem_iff_getElem.1 hm with ⟨j, hj, ej⟩
  by_cases hij : i = j
  ·subst hij; rw [← ei, ← ej]
  ·exfalso
   rcases Nat.lt_or_gt_of_ne hij with hl | hl
   ·exact List.pairwise_iff_getElem.1 hpw i j hi hj hl (by rw [ei, ej, hy1, hk])
   ·exact List.pairwise_iff_getElem.1 hpw j i hj hi hl (by rw [ei, ej, hy1, hk])
 rw [this]
theorem Bm.look {w : World} {b : Nat} {M : List (Int × Bt)} (h : Bm w b M) {k : Int} (hk : w64 k) : (Instr.lookup 77 (.map (some b)) (.int .i64 k) true).run Tryz.prog w = .ok (.tuple #[((getM M k).getD zBt).val, .bool (getM M k).isSome]) w := by
 cases e : getM M k with
 | none =>
  rcases h.mp.lookK intLaw bmUnder (zeroBt w) (intKey hk) with ⟨hr, _⟩ | ⟨p, hp, he, _⟩
  ·exact hr
  ·exact absurd he (getM_none e p hp)
 | some v =>
  obtain ⟨h1, h2⟩ := getM_some e h.once
  rcases h.mp.lookK intLaw bmUnder (zeroBt w) (intKey hk) with ⟨_, hn⟩ | ⟨p, hp, he, hr⟩
  ·exact absurd rfl (hn _ h1)
  ·rw [hr, h2 p hp he]; rfl
theorem Bm.look1 {w : World} {b : Nat} {M : List (Int × Bt)} (h : Bm w b M) {k : Int} (hk : w64 k) : (Instr.lookup 77 (.map (some b)) (.int .i64 k) false).run Tryz.prog w = .ok ((getM M k).getD zBt).val w := by
 cases e : getM M k with
 | none =>
  rcases h.mp.look1 intLaw bmUnder (zeroBt w) (intKey hk) with ⟨hr, _⟩ | ⟨p, hp, he, _⟩
  ·exact hr
  ·exact absurd he (getM_none e p hp)
 | some v =>
  obtain ⟨h1, h2⟩ := getM_some e h.once
  rcases h.mp.look1 intLaw bmUnder (zeroBt w) (intKey hk) with ⟨_, hn⟩ | ⟨p, hp, he, hr⟩
  ·exact absurd rfl (hn _ h1)
  ·rw [hr, h2 p hp he]; rfl
theorem Bm.kept {w w' : World} {b : Nat} {M : List (Int × Bt)} (h : Bm w b M) (hb : w'.heap[b]? = w.heap[b]?) : Bm w' b M := ⟨h.mp.kept hb, h.once⟩
theorem Bm.put {w : World} {b : Nat} {M : List (Int × Bt)} (h : Bm w b M) {k : Int} (hk : w64 k) (v : Bt) (hno : getM M k = none) :
  ∃ w', (Instr.mapUpdate 77 (.map (some b)) (.int .i64 k) v.val).run Tryz.prog w = .ok () w' ∧ Bm w' b (M ++ [(k, v)]) ∧ w.grownBy w' (some b) ∧ w'.heap.size = w.heap.size := by
 obtain ⟨w', hr, h1, h2, h3⟩ := h.mp.storeK (val := v.val) intLaw bmUnder (intKey hk) (getM_none hno)
 refine ⟨w', hr, ⟨by unfold bmL; rw [List.map_append]; exact h1, ?_⟩, h2, h3⟩
 rw [List.map_append, List.nodup_append]
 refine ⟨h.once, by simp, fun a ha c hc => ?_⟩
 obtain rfl : c = k := by simpa using hc
 obtain ⟨x, hx, rfl⟩ := List.mem_map.1 ha
 intro e
 exact getM_none hno (.int .i64 x.1, x.2.val) (List.mem_map.2 ⟨x, hx, rfl⟩) (by rw [e])
theorem Bm.made (w : World) : Bm (w.alloc (.map #[] 0)) w.heap.size [] := ⟨Mp.made w _, by simp⟩
open Go.RowKit
def fits (M : List (Int × Bt)) (id s : Int) : Bool := (getM M id).isSome && rgt ((getM M id).getD zBt).w ((getM M id).getD zBt).lo ((getM M id).getD zBt).hi && decide (((getM M id).getD zBt).w = s)
theorem fit_no {w : World} {b : Nat} {M : List (Int × Bt)} {id s : Int} (h : Bm w b M) (hk : w64 id) (hn : getM M id = none) :
  Rt 35 #[.map (some b), .int .i64 id, .int .i64 s] w (.tuple #[.agg #[.int .i64 0, .int .u64 0, .int .u64 0], .bool false]) := by
 have hlk : (Instr.lookup 77 (.map (some b)) (.int .i64 id) true).run Tryz.prog (w.alloc (.cells #[.int .i64 0, .int .u64 0, .int .u64 0] 34)) = .ok (.tuple #[.agg #[.int .i64 0, .int .u64 0, .int .u64 0], .bool false]) (w.alloc (.cells #[.int .i64 0, .int .u64 0, .int .u64 0] 34)) := by
  have h1 := (h.kept (heap_alloc_old w (.cells #[.int .i64 0, .int .u64 0, .int .u64 0] 34) h.mp.lt)).look hk
  rw [hn] at h1
  exact h1
 clear h hk hn
 go_enter Tryz.func35, Tryz.ntmps35
 go_wp2_with fail
 go_region
 all_goals
  go_wp2_with fail
  refine bodyPost_ret (v := .tuple #[.agg #[.int .i64 0, .int .u64 0, .int .u64 0], .bool false]) (by simp [results, Tryz.results35, go_sem]) rfl ?_
  exact ⟨rfl, by go_grown⟩
open Go.RowKit
structure Nv where
 nm : ByteArray
 v : Bt
def Nv.cs (x : Nv) : List Value := [.string x.nm, .int .i64 x.v.w, .int .u64 x.v.lo, .int .u64 x.v.hi]
def Le (w : World) (a : Option Addr) (l : List Nv) : Prop := l = [] ∨ ∃ g o, a = some ⟨g, o, none⟩ ∧ g < w.heap.size ∧ ∀ (j : Nat) (x : Nv), l[j]? = some x → ∀ t u, x.cs[t]? = some u → w.cell? ⟨g, o + j * 4 + t, none⟩ = some u
def fvS (ns : List Nd) (M : List (Int × Bt)) (x : Nv) : List (Int × Bt) := if varAt ns x.nm = 0 then M else if (getM M (varAt ns x.nm)).isSome then M else M ++ [(varAt ns x.nm, x.v)]
def fvF (ns : List Nd) (l : List Nv) : List (Int × Bt) := l.foldl (fvS ns) []
theorem fvF_snoc {ns : List Nd} {l : List Nv} {k : Nat} {x : Nv} (h : l[k]? = some x) : fvF ns (l.take (k + 1)) = fvS ns (fvF ns (l.take k)) x := by
 unfold fvF
 rw [List.take_add_one, h, List.foldl_append]; rfl
theorem varAt_range (ns : List Nd) (s : ByteArray) : 0 ≤ varAt ns s ∧ varAt ns s ≤ (ns.length : Int) := by
 unfold varAt
 split
 ·rename_i i hi
  have := (List.findIdx?_eq_some_iff_getElem.1 hi).1
  omega
 ·omega
theorem fv_any {w : World} {B g mi mv mo c : Nat} {v : Value} {ns : List Nd} {a : Option Addr} {l : List Nv} (h : Gr w B g mi mv v mo ns) (he : Le w a l) (hnm : ∀ x ∈ l, x.nm.size ≤ maxLen) (hl : l.length ≤ 1000) :
  Calls Tryz.prog 33 #[.pointer (some ⟨g, 0, none⟩), .slice a l.length c] w fun e w' => e = .returned (.map (some w.heap.size)) ∧ Bm w' w.heap.size (fvF ns l) ∧ Below w.heap.size w w' := by
 have hlen := h.len
 have HG : Hid _ := h
 have HE : Hid _ := he
 have HNM : Hid _ := hnm
 obtain ⟨n, hn⟩ : ∃ n, n = l.length := ⟨_, rfl⟩
 have HN : Hid _ := hn
 rw [← hn] at hl ⊢
 have hmm := @run_makeMap Tryz.prog
 clear h he hnm hn
 go_enter Tryz.func33, Tryz.ntmps33
 go_wp2_with fail
 clear hmm
 go_loopw [15] (fun i wr => ∃ k : Nat, k ≤ n ∧ i = .int .i64 (k : Int) ∧ Bm wr w.heap.size (fvF ns (l.take k)) ∧ Below w.heap.size w wr) (fun i wr => n - (intOf i).toNat)
 case atStart => exact ⟨0, Nat.zero_le _, rfl, Bm.made w, by go_grown⟩
 case round =>
  obtain ⟨k, hk, rfl, hM, hbl⟩ := hrel
  have HM : Hid _ := hM
  have hbw : w.heap.size < wr.heap.size := hM.mp.lt
  clear hM
  by_cases hlt : k < n
  ·obtain ⟨x, hx⟩ : ∃ x, l[k]? = some x := ⟨_, List.getElem?_eq_getElem (by rw [← HN.out]; exact hlt)⟩
   obtain ⟨ge, o, rfl, hge, hLe⟩ : ∃ ge o, a = some ⟨ge, o, none⟩ ∧ ge < w.heap.size ∧ ∀ (j : Nat) (x : Nv), l[j]? = some x → ∀ t u, x.cs[t]? = some u → w.cell? ⟨ge, o + j * 4 + t, none⟩ = some u := by
    rcases HE.out with e | h
    ·rw [e] at hx; simp at hx
    ·exact h
   have hc := hLe k x hx
   have d0 : wr.cell? ⟨ge, o + k * 4, none⟩ = some (.string x.nm) := bel_cell hbl hge (hc 0 _ rfl)
   have d1 : wr.cell? ⟨ge, o + k * 4 + 1, none⟩ = some (.int .i64 x.v.w) := bel_cell hbl hge (hc 1 _ rfl)
   have d2 : wr.cell? ⟨ge, o + k * 4 + 2, none⟩ = some (.int .u64 x.v.lo) := bel_cell hbl hge (hc 2 _ rfl)
   have d3 : wr.cell? ⟨ge, o + k * 4 + 3, none⟩ = some (.int .u64 x.v.hi) := bel_cell hbl hge (hc 3 _ rfl)
   have hltI : (k : Int) < (n : Int) := by omega
   have HS : Hid _ := fvF_snoc (ns := ns) hx
   have hsz := HNM.out x (List.mem_of_getElem? hx)
   obtain ⟨V, hV⟩ : ∃ V, V = varAt ns x.nm := ⟨_, rfl⟩
   have HVR : Hid (∀ wx, Below w.heap.size w wx → Calls Tryz.prog 21 #[.pointer (some ⟨g, 0, none⟩), .string x.nm] wx fun e w' => e = .returned (.tuple #[.int .i64 V, .bool (!decide (V = 0))]) ∧ w' = wx) := fun wx hb => by rw [hV]; exact var_any (HG.out.below hb) hsz
   have HSV : Hid (fvF ns (l.take (k + 1)) = if V = 0 then fvF ns (l.take k) else if (getM (fvF ns (l.take k)) V).isSome then fvF ns (l.take k) else fvF ns (l.take k) ++ [(V, x.v)]) := by unfold Hid; rw [HS.out, hV]; rfl
   have hVr := varAt_range ns x.nm
   rw [← hV] at hVr
   have hV64 : w64 V := by unfold w64; omega
   have HV64 : Hid _ := hV64
   clear hc hLe hx hsz HS hV hVr hV64
   obtain ⟨M, hMM⟩ : ∃ M, M = fvF ns (l.take k) := ⟨_, rfl⟩
   rw [← hMM] at HM HSV
   clear hMM
   have hbc : Below w.heap.size w (wr.alloc (.cells #[.string x.nm, .int .i64 x.v.w, .int .u64 x.v.lo, .int .u64 x.v.hi] 60)) := hbl.alloc hbl.size _
   by_cases hV0 : V = 0
   ·subst hV0
    have HFN : Hid (fvF ns (l.take (k + 1)) = M) := by unfold Hid; rw [HSV.out, if_pos rfl]
    go_wp2_with fail
    refine Calls.mono (HVR.out _ hbc) ?_
    rintro e wq ⟨rfl, hq⟩
    rw [hq]
    clear hq wq
    go_wp2_with fail
    exact ⟨⟨k + 1, by omega, by go_num, by rw [HFN.out]; exact HM.out.kept (heap_alloc_old _ _ hbw), hbc⟩, by simp [intOf]; omega⟩
   ·have HVR2 : Hid (∀ wx, Below w.heap.size w wx → Calls Tryz.prog 21 #[.pointer (some ⟨g, 0, none⟩), .string x.nm] wx fun e w' => e = .returned (.tuple #[.int .i64 V, .bool true]) ∧ w' = wx) := fun wx hb => by
     have h := HVR.out wx hb
     rw [show (!decide (V = 0)) = true by simp [hV0]] at h
     exact h
    obtain ⟨y, hy⟩ : ∃ y, y = (getM M V).getD zBt := ⟨_, rfl⟩
    obtain ⟨f, hf⟩ : ∃ f, f = (getM M V).isSome := ⟨_, rfl⟩
    have hlk : (Instr.lookup 77 (.map (some w.heap.size)) (.int .i64 V) true).run Tryz.prog (wr.alloc (.cells #[.string x.nm, .int .i64 x.v.w, .int .u64 x.v.lo, .int .u64 x.v.hi] 60)) = .ok (.tuple #[.agg #[.int .i64 y.w, .int .u64 y.lo, .int .u64 y.hi], .bool f]) (wr.alloc (.cells #[.string x.nm, .int .i64 x.v.w, .int .u64 x.v.lo, .int .u64 x.v.hi] 60)) := by
     rw [hy, hf]
     exact (HM.out.kept (heap_alloc_old wr _ hbw)).look HV64.out
    clear hy
    cases f
    ·have hno : getM M V = none := by simpa using hf.symm
     have HFN : Hid (fvF ns (l.take (k + 1)) = M ++ [(V, x.v)]) := by unfold Hid; rw [HSV.out, if_neg hV0, ← hf]; rfl
     obtain ⟨w6, hmu, hM6, hg6, hs6⟩ := Bm.put (w := (wr.alloc (.cells #[.string x.nm, .int .i64 x.v.w, .int .u64 x.v.lo, .int .u64 x.v.hi] 60)).alloc (.cells #[.int .i64 y.w, .int .u64 y.lo, .int .u64 y.hi] 34)) ((HM.out.kept (heap_alloc_old wr _ hbw)).kept (heap_alloc_old _ _ (by rw [size_alloc']; omega))) HV64.out x.v hno
     have hmu2 : (Instr.mapUpdate 77 (.map (some w.heap.size)) (.int .i64 V) (.agg #[.int .i64 x.v.w, .int .u64 x.v.lo, .int .u64 x.v.hi])).run Tryz.prog ((wr.alloc (.cells #[.string x.nm, .int .i64 x.v.w, .int .u64 x.v.lo, .int .u64 x.v.hi] 60)).alloc (.cells #[.int .i64 y.w, .int .u64 y.lo, .int .u64 y.hi] 34)) = .ok () w6 := hmu
     have HM6 : Hid _ := hM6
     have hb6 : Below w.heap.size w w6 := (hbc.alloc hbc.size _).trans ⟨hg6.os, hg6.tape, hg6.output, hg6.size, fun q hq => hg6.block q (by rw [size_alloc', size_alloc']; omega) (fun e => by cases e; omega)⟩
     clear hmu hM6 hg6 hs6 hf hno hV0
     go_wp2_with fail
     refine Calls.mono (HVR2.out _ hbc) ?_
     rintro e wq ⟨rfl, hq⟩
     rw [hq]
     clear hq wq
     go_wp2_with fail
     exact ⟨⟨k + 1, by omega, by go_num, by rw [HFN.out]; exact HM6.out, hb6⟩, by simp [intOf]; omega⟩
    ·have HFN : Hid (fvF ns (l.take (k + 1)) = M) := by unfold Hid; rw [HSV.out, if_neg hV0, ← hf]; rfl
     clear hf hV0
     go_wp2_with fail
     refine Calls.mono (HVR2.out _ hbc) ?_
     rintro e wq ⟨rfl, hq⟩
     rw [hq]
     clear hq wq
     go_wp2_with fail
     exact ⟨⟨k + 1, by omega, by go_num, by rw [HFN.out]; exact (HM.out.kept (heap_alloc_old _ _ hbw)).kept (heap_alloc_old _ _ (by rw [size_alloc']; omega)), hbc.alloc hbc.size _⟩, by simp [intOf]; omega⟩
  ·obtain rfl : k = n := by omega
   have hltI : ¬ (k : Int) < (k : Int) := by omega
   have HF : Hid (Bm wr w.heap.size (fvF ns l)) := by have h := HM.out; rw [HN.out, List.take_length] at h; exact h
   clear HM
   go_wp2_with fail
   go_ret
   exact ⟨rfl, HF.out, hbl⟩
end Go.Proofs.YtejljdbkocnhlaaGreat
namespace Go.Proofs.YtejljdbkocnhlaaGreat
set_option maxHeartbeats 12800000
set_option maxRecDepth 100000
set_option linter.unusedSimpArgs false
set_option linter.unusedVariables false
open Go.RowKit Go.ChangeShapes Go.WideShapes Go.Deep
section
variable {H : Type} {enc : TypeId × Value → H} {w : World} {base : Nat} {spare : Nat → Bool} {held : Bool}
instance : Inhabited Nv := ⟨⟨⟨#[]⟩, ⟨0, 0, 0⟩⟩⟩
set_option maxRecDepth 20000 in
theorem named_read {fuel : Nat} {cs : List Value} {x : DataW H × List MemPlace} (h : DataW.trod enc Tryz.prog w base spare held fuel 60 cs = some x) : ∃ b : Nv, cs = b.cs ∧ Bk b.v ∧ b.nm.size ≤ maxLen := by
 obtain ⟨xs, k, -, -, hl, hxl, hf⟩ := DataW.trod_struct Tryz.underlying60 h
 have e9 : Tryz.prog.cellsOf 9 = 1 := by kernel_rfl
 have e34 : Tryz.prog.cellsOf 34 = 3 := by kernel_rfl
 have e38 : Tryz.prog.cellsOf 60 = 4 := by kernel_rfl
 rw [e38] at hl
 have hxl2 : xs.length = 2 := hxl
 clear hxl
 match xs, hxl2, cs, hl with
 | [y0, y1], _, [v0, v1, v2, v3], _ =>
  have g0 := hf 0 _ rfl
  have g1 := hf 1 _ rfl
  simp [e9, e34] at g0 g1
  obtain ⟨s, h10, -, w10⟩ := DataW.trod_string Tryz.underlying9 g0
  obtain ⟨b, hb, hk⟩ := bits_read g1
  cases h10
  refine ⟨⟨s, b⟩, ?_, hk, w10⟩
  unfold Nv.cs
  unfold Bt.cs at hb
  rw [hb]
set_option maxRecDepth 20000 in
theorem slice_readN {fuel : Nat} {s0 : Option Addr} {len cap : Nat} {x : DataW H × List MemPlace} (h : DataW.trod enc Tryz.prog w base (fun _ => true) held fuel 23 [.slice s0 len cap] = some x) :
  ∃ l : List Nv, l.length = len ∧ Le w s0 l ∧ (∀ b ∈ l, Bk b.v) ∧ (∀ b ∈ l, b.nm.size ≤ maxLen) ∧ len ≤ maxLen := by
 have e36 : Tryz.prog.cellsOf 60 = 4 := by kernel_rfl
 rcases open_slice Tryz.underlying23 h with ⟨h0, -⟩ | ⟨a, len', cap', m, nn, D, Pl, hcs, hb, hl, hm, hmm, -, hx⟩
 ·simp at h0
  obtain ⟨rfl, rfl, rfl⟩ := h0
  exact ⟨[], rfl, Or.inl rfl, (fun n hn => nomatch hn), (fun n hn => nomatch hn), by decide⟩
 ·simp at hcs
  obtain ⟨rfl, rfl, rfl⟩ := hcs
  simp only [if_true] at hmm
  subst hmm
  have each : ∀ i, i < len → ∃ n : Nv, (∀ t u, n.cs[t]? = some u → w.cell? (a.add (i * 4 + t)) = some u) ∧ Bk n.v ∧ n.nm.size ≤ maxLen := by
   intro i hi
   obtain ⟨cs', h1, h2⟩ := hx i (by omega)
   obtain ⟨n, rfl, hn⟩ := named_read h2
   rw [e36] at h1
   obtain ⟨_, hlen, hcell⟩ := World.cells?_some h1
   refine ⟨n, fun t u hu => ?_, hn⟩
   have ht : t < 4 := (List.getElem?_eq_some_iff.1 hu).1
   have := hcell t ht
   rw [add_add] at this
   rw [this]; exact hu
  obtain ⟨N, hN⟩ := choose_lt each
  refine ⟨(List.range len).map N, by simp, ?_, ?_, ?_, by omega⟩
  ·by_cases h0 : len = 0
   ·left; rw [h0]; rfl
   ·right
    obtain ⟨g, o, sp⟩ := a
    have hsp : sp = none := by
     have := (hN 0 (by omega)).1 0 _ rfl
     cases sp with
     | none => rfl
     | some x => simp [World.cell?, Addr.add] at this; split at this <;> simp at this
    subst hsp
    have ead : ∀ j, (⟨g, o, none⟩ : Addr).add j = ⟨g, o + j, none⟩ := fun j => by by_cases hj0 : j = 0 <;> simp [Addr.add, hj0]
    have hc : ∀ (j : Nat) (x : Nv), ((List.range len).map N)[j]? = some x → ∀ t u, x.cs[t]? = some u → w.cell? ⟨g, o + j * 4 + t, none⟩ = some u := by
     intro j n hj t u hu
     have hjl : j < len := by have := (List.getElem?_eq_some_iff.1 hj).1; simpa using this
     simp [hjl] at hj
     subst hj
     have := (hN j hjl).1 t u hu
     rw [ead] at this
     rw [Nat.add_assoc]; exact this
    refine ⟨g, o, rfl, ?_, hc⟩
    have := hc 0 (N 0) (by rw [List.getElem?_map, List.getElem?_range (by omega)]; rfl) 0 _ rfl
    exact World.block_lt_of_cell? _ _ this
  ·intro n hn
   obtain ⟨i, hi, rfl⟩ := List.mem_map.1 hn
   exact (hN i (List.mem_range.1 hi)).2.1
  ·intro n hn
   obtain ⟨i, hi, rfl⟩ := List.mem_map.1 hn
   exact (hN i (List.mem_range.1 hi)).2.2
end
open Go.RowKit
structure Rg (w : World) (B g : Nat) (v : Value) (mo : Nat) (ns : List Nd) : Prop where
 hd : w.heap[g]? = some (.cells #[v, .int .i64 (mo : Int)] 31)
 row : w.ownsRow B 53 11 v ns.length (ns.flatMap Nd.cs)
 bg : B ≤ g
 most : mo ≤ 4096
 room : ns.length ≤ mo
theorem Rg.c0 {w : World} {B g mo : Nat} {v : Value} {ns : List Nd} (h : Rg w B g v mo ns) : w.cell? ⟨g, 0, none⟩ = some v := cell_of h.hd 0 rfl
theorem Rg.c1 {w : World} {B g mo : Nat} {v : Value} {ns : List Nd} (h : Rg w B g v mo ns) : w.cell? ⟨g, 1, none⟩ = some (.int .i64 (mo : Int)) := cell_of h.hd 1 rfl
theorem Rg.sl {w : World} {B g mo : Nat} {v : Value} {ns : List Nd} (h : Rg w B g v mo ns) : ∃ ad cap, v = .slice ad ns.length cap := by
 rcases h.row.2 with ⟨hv, hn⟩ | ⟨r, cap, cur, hv, _⟩
 ·exact ⟨none, 0, by rw [hv, hn]⟩
 ·exact ⟨_, cap, hv⟩
theorem Rg.len {w : World} {B g mo : Nat} {v : Value} {ns : List Nd} (h : Rg w B g v mo ns) : ns.length ≤ 4096 := Nat.le_trans h.room h.most
theorem Rg.lt {w : World} {B g mo : Nat} {v : Value} {ns : List Nd} (h : Rg w B g v mo ns) : g < w.heap.size := (Array.getElem?_eq_some_iff.1 h.hd).1
theorem Rg.kept {w w' : World} {B g mo : Nat} {v : Value} {ns : List Nd} (h : Rg w B g v mo ns) (hk : ∀ k, k < w.heap.size → w'.heap[k]? = w.heap[k]?) : Rg w' B g v mo ns :=
 ⟨(hk g h.lt).trans h.hd, row_kept h.row hk, h.bg, h.most, h.room⟩
theorem Rg.below {w w' : World} {B g mo : Nat} {v : Value} {ns : List Nd} (h : Rg w B g v mo ns) (hb : Below w.heap.size w w') : Rg w' B g v mo ns := h.kept hb.block
theorem at_yes {w : World} {B g mo : Nat} {v : Value} {ns : List Nd} (h : Rg w B g v mo ns) {i : Nat} {n : Nd} (hi : ns[i]? = some n) :
  Rt 45 #[.pointer (some ⟨g, 0, none⟩), .int .i64 ((i : Int) + 1)] w (.tuple #[.agg #[.int .i64 n.op, .int .i64 n.s, .int .i64 n.a, .int .i64 n.b, .int .i64 n.c, .int .i64 n.p, .int .i64 n.q, .int .i64 n.w, .int .u64 n.lo, .int .u64 n.hi, .string n.nm], .bool true]) := by
 have hlt : i < ns.length := (List.getElem?_eq_some_iff.1 hi).1
 have hlen := h.len
 have c0 := h.c0
 have hg := h.lt
 obtain ⟨r, cap, rfl, hBr, hrl, hc⟩ := row_all h.row (by omega)
 have hc := hc i n hi
 have d0 : w.cell? ⟨r, i * 11, none⟩ = some (.int .i64 n.op) := hc 0 _ rfl
 have d1 : w.cell? ⟨r, i * 11 + 1, none⟩ = some (.int .i64 n.s) := hc 1 _ rfl
 have d2 : w.cell? ⟨r, i * 11 + 2, none⟩ = some (.int .i64 n.a) := hc 2 _ rfl
 have d3 : w.cell? ⟨r, i * 11 + 3, none⟩ = some (.int .i64 n.b) := hc 3 _ rfl
 have d4 : w.cell? ⟨r, i * 11 + 4, none⟩ = some (.int .i64 n.c) := hc 4 _ rfl
 have d5 : w.cell? ⟨r, i * 11 + 5, none⟩ = some (.int .i64 n.p) := hc 5 _ rfl
 have d6 : w.cell? ⟨r, i * 11 + 6, none⟩ = some (.int .i64 n.q) := hc 6 _ rfl
 have d7 : w.cell? ⟨r, i * 11 + 7, none⟩ = some (.int .i64 n.w) := hc 7 _ rfl
 have d8 : w.cell? ⟨r, i * 11 + 8, none⟩ = some (.int .u64 n.lo) := hc 8 _ rfl
 have d9 : w.cell? ⟨r, i * 11 + 9, none⟩ = some (.int .u64 n.hi) := hc 9 _ rfl
 have d10 : w.cell? ⟨r, i * 11 + 10, none⟩ = some (.string n.nm) := hc 10 _ rfl
 have e1 := wrap_small (i := i) (by omega)
 have b1 : (i : Int) < (ns.length : Int) := by omega
 have g1 : ¬ (i : Int) + 1 < 1 := by omega
 have g2 : ¬ (ns.length : Int) < (i : Int) + 1 := by omega
 clear hc hi
 obtain ⟨N, hN⟩ : ∃ N, N = ns.length := ⟨_, rfl⟩
 rw [← hN] at c0 b1 hlt g2
 clear hN h hlen
 go_enter Tryz.func45, Tryz.ntmps45
 go_wp2_with fail
 refine bodyPost_ret (v := .tuple #[.agg #[.int .i64 n.op, .int .i64 n.s, .int .i64 n.a, .int .i64 n.b, .int .i64 n.c, .int .i64 n.p, .int .i64 n.q, .int .i64 n.w, .int .u64 n.lo, .int .u64 n.hi, .string n.nm], .bool true]) (by simp [results, Tryz.results45, go_sem]) rfl ?_
 exact ⟨rfl, by go_grown⟩
theorem at_no {w : World} {B g mo : Nat} {v : Value} {ns : List Nd} (h : Rg w B g v mo ns) {i : Int} (hi : hasB ns.length i = false) :
  Rt 45 #[.pointer (some ⟨g, 0, none⟩), .int .i64 i] w (.tuple #[.agg #[.int .i64 0, .int .i64 0, .int .i64 0, .int .i64 0, .int .i64 0, .int .i64 0, .int .i64 0, .int .i64 0, .int .u64 0, .int .u64 0, .string ⟨#[]⟩], .bool false]) := by
 have c0 := h.c0
 have hg := h.lt
 obtain ⟨ad, cap, rfl⟩ := h.sl
 have hx : i < 1 ∨ (¬ i < 1 ∧ (ns.length : Int) < i) := by
  by_cases h1 : i < 1
  ·exact Or.inl h1
  ·right
   refine ⟨h1, ?_⟩
   apply Classical.byContradiction
   intro h2
   have : hasB ns.length i = true := by simp [hasB]; omega
   rw [this] at hi; cases hi
 obtain ⟨N, hN⟩ : ∃ N, N = ns.length := ⟨_, rfl⟩
 rw [← hN] at c0 hx
 clear hN h hi
 rcases hx with h1 | ⟨h1, h2⟩
 all_goals
  go_enter Tryz.func45, Tryz.ntmps45
  go_wp2_with fail
  refine bodyPost_ret (v := .tuple #[.agg #[.int .i64 0, .int .i64 0, .int .i64 0, .int .i64 0, .int .i64 0, .int .i64 0, .int .i64 0, .int .i64 0, .int .u64 0, .int .u64 0, .string ⟨#[]⟩], .bool false]) (by simp [results, Tryz.results45, go_sem]) rfl ?_
  exact ⟨rfl, by go_grown⟩
open Go.RowKit
theorem rnew_any (most : Int) (w : World) :
  Calls Tryz.prog 24 #[.int .i64 most] w fun e w' => e = .returned (.pointer (some ⟨w.heap.size, 0, none⟩)) ∧ Below w.heap.size w w' ∧ Rg w' w.heap.size w.heap.size (.slice none 0 0) (roomOf most) [] := by
 have key : ∀ x : Int, x = (roomOf most : Int) → Rg (w.alloc (.cells #[.slice none 0 0, .int .i64 x] 31)) w.heap.size w.heap.size (.slice none 0 0) (roomOf most) [] := by
  rintro x rfl
  exact ⟨heap_alloc_new _ _, World.ownsRow_nil _ _ _ _, Nat.le_refl _, by unfold roomOf; omega, by simp⟩
 have HK : Hid _ := key
 clear key
 by_cases h1 : most < 1
 ·have e : Hid ((1 : Int) = (roomOf most : Int)) := by unfold Hid roomOf; omega
  go_enter Tryz.func24, Tryz.ntmps24
  go_wp2_with fail
  go_ret
  exact ⟨rfl, by go_grown, HK.out _ e.out⟩
 ·by_cases h2 : most ≤ 4096
  ·have e : Hid (most = (roomOf most : Int)) := by unfold Hid roomOf; omega
   go_enter Tryz.func24, Tryz.ntmps24
   go_wp2_with fail
   go_ret
   exact ⟨rfl, by go_grown, HK.out _ e.out⟩
  ·have e : Hid ((4096 : Int) = (roomOf most : Int)) := by unfold Hid roomOf; omega
   go_enter Tryz.func24, Tryz.ntmps24
   go_wp2_with fail
   go_ret
   exact ⟨rfl, by go_grown, HK.out _ e.out⟩
theorem varAt_first {ns : List Nd} {s : ByteArray} {k : Nat} {n : Nd} (hn : ns[k]? = some n) (h2 : n.op = 2) (hs : n.nm = s) (hb : ∀ (j : Nat) (m : Nd), j < k → ns[j]? = some m → ¬ (m.op = 2 ∧ m.nm = s)) : varAt ns s = (k : Int) + 1 := by
 obtain ⟨hk, e⟩ := List.getElem?_eq_some_iff.1 hn
 have hf : ns.findIdx? (fun m => decide (m.op = 2) && decide (m.nm = s)) = some k := by
  rw [List.findIdx?_eq_some_iff_getElem]
  refine ⟨hk, by simp [e, h2, hs], fun j hj => ?_⟩
  intro hq
  obtain ⟨h2', hjn⟩ : ns[j].op = 2 ∧ ns[j].nm = s := by simpa using hq
  exact hb j ns[j] hj (List.getElem?_eq_getElem (by omega)) ⟨h2', hjn⟩
 unfold varAt
 rw [hf]
theorem str_ne {a b : ByteArray} (h : ¬ a = b) (w : World) : (binOp .eql 9 (.string a) (.string b)).run Tryz.prog w = .ok (.bool false) w := by
 have h12 : ¬ a.data = b.data := fun e => h (Go.WideShapes.bytes_inj (by rw [e]))
 simp [go_sem, ByteArray.toList_eq, h12]
theorem str_eq (a : ByteArray) (w : World) : (binOp .eql 9 (.string a) (.string a)).run Tryz.prog w = .ok (.bool true) w := by simp [go_sem]
theorem rvar_any {w : World} {B g mo : Nat} {v : Value} {ns : List Nd} (h : Rg w B g v mo ns) (s : ByteArray) :
  Calls Tryz.prog 47 #[.pointer (some ⟨g, 0, none⟩), .string s] w fun e w' => e = .returned (.tuple #[.int .i64 (varAt ns s), .bool (!decide (varAt ns s = 0))]) ∧ w' = w := by
 have hlen := h.len
 have c0 := h.c0
 have HROW : Hid _ := h.row
 obtain ⟨ad, cap, rfl⟩ := h.sl
 obtain ⟨N, hN⟩ : ∃ N, N = ns.length := ⟨_, rfl⟩
 have HN : Hid _ := hN
 obtain ⟨R, hR⟩ : ∃ R, R = varAt ns s := ⟨_, rfl⟩
 have HR : Hid _ := hR
 rw [← hR]
 rw [← hN] at c0 hlen
 clear h hN hR
 go_enter Tryz.func47, Tryz.ntmps47
 go_wp2_with fail
 go_loop [6] (fun i => ∃ k : Nat, k ≤ N ∧ i = .int .i64 (k : Int) ∧ ∀ (j : Nat) (m : Nd), j < k → ns[j]? = some m → ¬ (m.op = 2 ∧ m.nm = s)) (fun i => N - (intOf i).toNat)
 case atStart => exact ⟨0, Nat.zero_le _, rfl, fun j m hj => by omega⟩
 case round =>
  obtain ⟨k, hk, rfl, hz⟩ := hrel
  have HZ : Hid _ := hz
  clear hz
  by_cases hlt : k < N
  ·obtain ⟨n, hn⟩ : ∃ n, ns[k]? = some n := ⟨_, List.getElem?_eq_getElem (by rw [← HN.out]; exact hlt)⟩
   obtain ⟨r, cap', hv, hBr, hrl, hc⟩ := row_all HROW.out (by rw [← HN.out]; omega)
   obtain ⟨rfl, -, rfl⟩ : ad = some ⟨r, 0, none⟩ ∧ True ∧ cap = cap' := by simpa using hv
   have d0 : w.cell? ⟨r, k * 11, none⟩ = some (.int .i64 n.op) := hc k n hn 0 _ rfl
   have d10 : w.cell? ⟨r, k * 11 + 10, none⟩ = some (.string n.nm) := hc k n hn 10 _ rfl
   have hltI : (k : Int) < (N : Int) := by omega
   have HNN : Hid _ := hn
   clear hc hn hv
   by_cases h2 : n.op = 2
   ·have z2 : (n.op == 2) = true := by simp [h2]
    by_cases h3 : n.nm = s
    ·have HV : Hid (R = (k : Int) + 1) := by unfold Hid; rw [HR.out]; exact varAt_first HNN.out h2 h3 HZ.out
     have h3a : (n.nm.toList == s.toList) = true := by rw [h3]; simp
     have h3b : n.nm.toList = s.toList := by rw [h3]
     have h3s : ∀ wx, (binOp .eql 9 (.string n.nm) (.string s)).run Tryz.prog wx = .ok (.bool true) wx := fun wx => by rw [h3]; exact str_eq _ _
     clear h2 h3
     go_wp2_with fail
     refine bodyPost_ret (v := .tuple #[.int .i64 ((k : Int) + 1), .bool true]) (by simp [results, Tryz.results47, go_sem]) rfl ?_
     refine ⟨?_, rfl⟩
     rw [HV.out, show (!decide ((k : Int) + 1 = 0)) = true by simp; omega]
    ·have h3s := str_ne h3
     have h3b : ¬ n.nm.toList = s.toList := fun e => h3 (Go.WideShapes.bytes_inj (by rw [ByteArray.toList_eq, ByteArray.toList_eq] at e; exact e))
     have h3a : (n.nm.toList == s.toList) = false := by simp [h3b]
     have HZ2 : Hid (∀ (j : Nat) (m : Nd), j < k + 1 → ns[j]? = some m → ¬ (m.op = 2 ∧ m.nm = s)) := fun j m hj hm => by
      by_cases e : j = k
      ·subst e
       have := HNN.out.symm.trans hm
       cases this
       exact fun x => h3 x.2
      ·exact HZ.out j m (by omega) hm
     clear h2 h3
     go_wp2_with fail
     go_round
     case rel => exact ⟨k + 1, by omega, by go_num, HZ2.out⟩
     case measure => simp [intOf]; omega
   ·have z2 : (n.op == 2) = false := by simp [h2]
    have HZ2 : Hid (∀ (j : Nat) (m : Nd), j < k + 1 → ns[j]? = some m → ¬ (m.op = 2 ∧ m.nm = s)) := fun j m hj hm => by
     by_cases e : j = k
     ·subst e
      have := HNN.out.symm.trans hm
      cases this
      exact fun x => h2 x.1
     ·exact HZ.out j m (by omega) hm
    clear h2
    go_wp2_with fail
    go_round
    case rel => exact ⟨k + 1, by omega, by go_num, HZ2.out⟩
    case measure => simp [intOf]; omega
  ·obtain rfl : k = N := by omega
   have hltI : ¬ (k : Int) < (k : Int) := by omega
   have HV : Hid (R = 0) := by
    unfold Hid
    rw [HR.out]
    refine varAt_none fun m hm h2 e => ?_
    obtain ⟨j, hj, rfl⟩ := List.getElem_of_mem hm
    exact HZ.out j _ (by rw [HN.out]; exact hj) (List.getElem?_eq_getElem hj) ⟨h2, e⟩
   go_wp2_with fail
   refine bodyPost_ret (v := .tuple #[.int .i64 0, .bool false]) (by simp [results, Tryz.results47, go_sem]) rfl ?_
   exact ⟨by rw [HV.out]; rfl, rfl⟩
open Go.RowKit
theorem info4 : ∃ i, Tryz.prog.info? 4 = some i ∧ i.zero = some (.bool false) ∧ i.size = 1 ∧ i.bytes = 1 :=
 by
 have h : (Tryz.prog.info? 4).map (fun i => (i.zero, i.size, i.bytes)) = some (some (.bool false), 1, 1) := by kernel_rfl
 obtain ⟨i, hi, e⟩ := Option.map_eq_some_iff.1 h
 simp only [Prod.mk.injEq] at e
 exact ⟨i, hi, e.1, e.2.1, e.2.2⟩
theorem make_bools (W : Nat) (hW : W ≤ 128) (w : World) :
  (Instr.makeSlice 93 (.int .i64 W) (.int .i64 W)).run Tryz.prog w = .ok (.slice (some ⟨w.heap.size, 0, none⟩) W W) (w.alloc (.cells (Array.replicate W (.bool false)) 4)) := by
 obtain ⟨i, hi, hz, hs, hb⟩ := info4
 have h := run_make (P := Tryz.prog) w 93 4 i (.bool false) Tryz.underlying93 hi hz .i64 .i64 W W (by omega) (by omega) (by rw [hb]; omega) (by omega)
 rw [h, hs]
 have e : madeCells (Value.bool false).cells (W * 1) = Array.replicate W (.bool false) := by
  apply Array.ext'
  rw [show (Value.bool false).cells = #[.bool false] from rfl, toList_madeCells_one]; simp
 simp only [Int.toNat_natCast, e]
def wdt (w : Int) : Nat := (w.tmod 128).natAbs + 1
def num (lo hi : Int) : Nat := lo.toNat + 2 ^ 64 * hi.toNat
open Go.RowKit
def nb : List Bool → Nat
 | [] => 0
 | b :: l => b.toNat + 2 * nb l
def bl (W n : Nat) : List Bool := (List.range W).map n.testBit
theorem bl_len (W n : Nat) : (bl W n).length = W := by simp [bl]
theorem bl_get {W n j : Nat} (h : j < W) : (bl W n)[j]? = some (n.testBit j) := by simp [bl, h]
def bv (l : List Bool) : List Value := l.map Value.bool
theorem bv_get (l : List Bool) (j : Nat) : (bv l)[j]? = l[j]?.map Value.bool := by simp [bv]
def Bs (w : World) (base : Nat) (v : Value) (l : List Bool) : Prop := w.ownsRow base 4 1 v l.length (bv l)
theorem Bs.mono {w : World} {b b' : Nat} {v : Value} {l : List Bool} (h : Bs w b v l) (hb : b' ≤ b) : Bs w b' v l := by
 refine ⟨h.1, ?_⟩
 rcases h.2 with h | ⟨g, cap, cur, h1, h2, r⟩
 ·exact Or.inl h
 ·exact Or.inr ⟨g, cap, cur, h1, Nat.le_trans hb h2, r⟩
theorem Bs.cell {w : World} {base g cap n : Nat} {l : List Bool} (h : Bs w base (.slice (some ⟨g, 0, none⟩) n cap) l) (hn : n = l.length) {j : Nat} {b : Bool} (hj : l[j]? = some b) : w.cell? ⟨g, j, none⟩ = some (.bool b) := by
 subst hn
 have hlt : j < l.length := (List.getElem?_eq_some_iff.1 hj).1
 rw [World.ownsRow.cellAt h j (by omega), bv_get, hj]; rfl
theorem Bs.frozen {w : World} {base g cap n : Nat} {l : List Bool} (h : Bs w base (.slice (some ⟨g, 0, none⟩) n cap) l) (hn : n = l.length) (j : Nat) : w.frozen? ⟨g, j, none⟩ = false := by
 subst hn; exact World.ownsRow.frozenAt h j
theorem Bs.store {w : World} {base g cap n : Nat} {l : List Bool} (h : Bs w base (.slice (some ⟨g, 0, none⟩) n cap) l) (hn : n = l.length) (j : Nat) (b : Bool) : Bs (w.setCell ⟨g, j, none⟩ (.bool b)) base (.slice (some ⟨g, 0, none⟩) n cap) (l.set j b) := by
 subst hn
 have := (World.ownsRow.stored h j (.bool b)).1
 unfold Bs bv
 rw [List.length_set, List.map_set]
 exact this
theorem Bs.lt {w : World} {base g cap n : Nat} {l : List Bool} (h : Bs w base (.slice (some ⟨g, 0, none⟩) n cap) l) : base ≤ g ∧ g < w.heap.size :=
 World.ownsRow.lt h g rfl
theorem Bs.made {w : World} {base : Nat} (W : Nat) (hb : base ≤ w.heap.size) (hW : W ≤ 1000) : Bs (w.alloc (.cells (Array.replicate W (.bool false)) 4)) base (.slice (some ⟨w.heap.size, 0, none⟩) W W) (List.replicate W false) := by
 have h := World.ownsRow_lit (base := base) (e := 4) (size := 1) w (Array.replicate W (.bool false)) W hb (by unfold maxLen; omega) (by simp)
 unfold Bs bv
 simpa using h
theorem part_set {W n k : Nat} {v : Bool} (hv : v = n.testBit k) : ((List.range W).map fun j => decide (j < k) && n.testBit j).set k v = (List.range W).map fun j => decide (j < k + 1) && n.testBit j := by
 subst hv
 apply List.ext_getElem?
 intro j
 rw [List.getElem?_set]
 by_cases hjk : k = j
 ·subst hjk
  by_cases h : k < W <;> simp [h]
 ·by_cases h : j < W
  ·have : decide (j < k + 1) = decide (j < k) := by by_cases h1 : j < k <;> simp [h1] <;> omega
   simp [hjk, h, this]
  ·simp [hjk, h]
theorem bits_own {W n : Nat} {WW lo hi : Int} (h2 : W ≤ 128) (hn : n < 2 ^ 128) (hw : WW = W) (hl : lo = LO n) (hh : hi = HI n) (w : World) :
  Calls Tryz.prog 50 #[.agg #[.int .i64 WW, .int .u64 lo, .int .u64 hi]] w fun e w' => ∃ g, e = .returned (.slice (some ⟨g, 0, none⟩) W W) ∧ Bs w' w.heap.size (.slice (some ⟨g, 0, none⟩) W W) (bl W n) ∧ Below w.heap.size w w' := by
 subst hw hl hh
 have hmk := make_bools W h2
 go_enter Tryz.func50, Tryz.ntmps50
 go_wp2_with fail
 go_loopw [4] (fun i wr => ∃ k : Nat, k ≤ W ∧ i = .int .i64 k ∧ (wr.cell? ⟨w.heap.size, 0, none⟩ = some (.int .i64 W) ∧ wr.cell? ⟨w.heap.size, 1, none⟩ = some (.int .u64 (LO n)) ∧ wr.cell? ⟨w.heap.size, 2, none⟩ = some (.int .u64 (HI n))) ∧ Bs wr (w.heap.size + 1) (.slice (some ⟨w.heap.size + 1, 0, none⟩) W W) ((List.range W).map fun j => decide (j < k) && n.testBit j) ∧ Below w.heap.size w wr) (fun i _ => W - (intOf i).toNat)
 case atStart =>
  refine ⟨0, Nat.zero_le _, rfl, ⟨?_, ?_, ?_⟩, ?_, ?_⟩
  ·simp [go_sem]
  ·simp [go_sem]
  ·simp [go_sem]
  ·have h := Bs.made (w := w.alloc (.cells #[.int .i64 W, .int .u64 (LO n), .int .u64 (HI n)] 34)) (base := w.heap.size + 1) W (by simp) (by omega)
   simp only [World.size_alloc] at h
   have e : (List.range W).map (fun j => decide (j < 0) && n.testBit j) = List.replicate W false := by
    apply List.ext_getElem?; intro j
    by_cases hj : j < W <;> simp [hj]
   rw [e]; exact h
  ·go_grown
 case round =>
  obtain ⟨k, hk, rfl, hc, hB, hbl⟩ := hrel
  have HB : Hid _ := hB
  by_cases hlt : k < W
  ·have hck : wr.cell? ⟨w.heap.size + 1, k, none⟩ = some (.bool false) := by
    have := Bs.cell hB (by simp) (j := k) (b := false) (by simp [hlt])
    exact this
   have hfr := Bs.frozen hB (by simp) k
   clear hB
   by_cases h64 : (k : Int) < 64
   ·have HV : Hid _ := bit_lo (n := n) (k := k) (by omega)
    go_wp2_with fail
    refine ⟨⟨k + 1, by omega, by go_num, ⟨?_, ?_, ?_⟩, ?_, ?_⟩, by simp [intOf]; omega⟩
    ·rw [World.cell?_setCell_other _ _ _ _ (by simp)]; exact hc.1
    ·rw [World.cell?_setCell_other _ _ _ _ (by simp)]; exact hc.2.1
    ·rw [World.cell?_setCell_other _ _ _ _ (by simp)]; exact hc.2.2
    ·rw [← part_set HV.out]; exact Bs.store HB.out (by simp) k _
    ·exact hbl.setCell (by simp) _
   ·have HV : Hid _ := bit_hi (k := k) hn (by omega)
    go_wp2_with fail
    refine ⟨⟨k + 1, by omega, by go_num, ⟨?_, ?_, ?_⟩, ?_, ?_⟩, by simp [intOf]; omega⟩
    ·rw [World.cell?_setCell_other _ _ _ _ (by simp)]; exact hc.1
    ·rw [World.cell?_setCell_other _ _ _ _ (by simp)]; exact hc.2.1
    ·rw [World.cell?_setCell_other _ _ _ _ (by simp)]; exact hc.2.2
    ·rw [← part_set HV.out]; exact Bs.store HB.out (by simp) k _
    ·exact hbl.setCell (by simp) _
  ·obtain rfl : k = W := by omega
   clear hB
   go_wp2_with fail
   go_ret
   refine ⟨_, rfl, ?_, hbl⟩
   have h := Bs.mono HB.out (b' := w.heap.size) (by omega)
   have e : (List.range k).map (fun j => decide (j < k) && n.testBit j) = bl k n := by
    apply List.ext_getElem?; intro j
    by_cases hj : j < k <;> simp [bl, hj]
   rw [e] at h; exact h
theorem word_at {W n g off cap : Nat} (h2 : W ≤ 128) (hn : n < 2 ^ 128) (w : World) (hcell : ∀ j, j < W → w.cell? ⟨g, off + j, none⟩ = some (.bool (n.testBit j))) (hg : g < w.heap.size) :
  Rt 49 #[.slice (some ⟨g, off, none⟩) W cap] w (.agg #[.int .i64 W, .int .u64 (LO (n % 2 ^ W)), .int .u64 (HI (n % 2 ^ W))]) := by
 have HC : Hid _ := hcell
 clear hcell
 go_enter Tryz.func49, Tryz.ntmps49
 go_wp2_with fail
 go_loopw [4] (fun i wr => ∃ k : Nat, k ≤ W ∧ i = .int .i64 k ∧ (wr.cell? ⟨w.heap.size + 1, 0, none⟩ = some (.int .i64 W) ∧ wr.cell? ⟨w.heap.size + 1, 1, none⟩ = some (.int .u64 (LO (n % 2 ^ k))) ∧ wr.cell? ⟨w.heap.size + 1, 2, none⟩ = some (.int .u64 (HI (n % 2 ^ k)))) ∧ (wr.cell? ⟨w.heap.size, 0, none⟩ = some (.int .i64 0) ∧ wr.cell? ⟨w.heap.size, 1, none⟩ = some (.int .u64 0) ∧ wr.cell? ⟨w.heap.size, 2, none⟩ = some (.int .u64 0)) ∧ (∀ j, wr.frozen? ⟨w.heap.size + 1, j, none⟩ = false) ∧ (∀ j, wr.frozen? ⟨w.heap.size, j, none⟩ = false) ∧ Below w.heap.size w wr) (fun i _ => W - (intOf i).toNat)
 case atStart =>
  refine ⟨0, Nat.zero_le _, rfl, ⟨?_, ?_, ?_⟩, ⟨?_, ?_, ?_⟩, ?_, ?_, ?_⟩
  ·simp [go_sem]
  ·simp [go_sem, Nat.mod_one, ← lo0]
  ·simp [go_sem, Nat.mod_one, ← hi0]
  ·simp [go_sem]
  ·simp [go_sem]
  ·simp [go_sem]
  ·intro j; simp [go_sem]
  ·intro j; simp [go_sem]
  ·go_grown
 case round =>
  obtain ⟨k, hk, rfl, hc, hr, hf1, hf0, hbl⟩ := hrel
  by_cases hlt : k < W
  ·have hck : wr.cell? ⟨g, off + k, none⟩ = some (.bool (n.testBit k)) := (hbl.cell (p := ⟨g, off + k, none⟩) hg).trans (HC.out k hlt)
   cases hb : n.testBit k
   ·rw [hb] at hck
    have HN : Hid _ := word_no hb
    clear hb
    by_cases h64 : (k : Int) < 64
    all_goals
     go_wp2_with fail
     refine ⟨⟨k + 1, by omega, by go_num, by rw [HN.out]; exact hc, hr, hf1, hf0, hbl⟩, by simp [intOf]; omega⟩
   ·rw [hb] at hck
    by_cases h64 : (k : Int) < 64
    ·have HN : Hid _ := or_lo (n := n) (k := k) (by omega) hb
     have HM : Hid _ := or_lo_hi (n := n) (k := k) (by omega) hb
     clear hb
     go_wp2_with fail
     go_region
     all_goals
      go_wp2_with fail
      refine ⟨⟨k + 1, by omega, by go_num, ⟨?_, ?_, ?_⟩, ⟨?_, ?_, ?_⟩, ?_, ?_, ?_⟩, by simp [intOf]; omega⟩
      ·exact (World.cell?_setCell_other _ _ _ _ (by simp)).trans hc.1
      ·exact (World.cell?_setCell_same _ _ _ hc.2.1).trans (by rw [HN.out])
      ·exact (World.cell?_setCell_other _ _ _ _ (by simp)).trans (by rw [hc.2.2, HM.out])
      ·exact (World.cell?_setCell_other _ _ _ _ (by simp)).trans hr.1
      ·exact (World.cell?_setCell_other _ _ _ _ (by simp)).trans hr.2.1
      ·exact (World.cell?_setCell_other _ _ _ _ (by simp)).trans hr.2.2
      ·exact fun j => (World.frozen?_setCell ..).trans (hf1 j)
      ·exact fun j => (World.frozen?_setCell ..).trans (hf0 j)
      ·exact (hbl.setCell (by simp) _).drew
    ·have HN : Hid _ := or_hi (n := n) (k := k) (by omega) (by omega) hn hb
     have HM : Hid _ := or_hi_lo (n := n) (k := k) (by omega) hb
     clear hb
     go_wp2_with fail
     go_region
     all_goals
      go_wp2_with fail
      refine ⟨⟨k + 1, by omega, by go_num, ⟨?_, ?_, ?_⟩, ⟨?_, ?_, ?_⟩, ?_, ?_, ?_⟩, by simp [intOf]; omega⟩
      ·exact (World.cell?_setCell_other _ _ _ _ (by simp)).trans hc.1
      ·exact (World.cell?_setCell_other _ _ _ _ (by simp)).trans (by rw [hc.2.1, HM.out])
      ·exact (World.cell?_setCell_same _ _ _ hc.2.2).trans (by rw [HN.out])
      ·exact (World.cell?_setCell_other _ _ _ _ (by simp)).trans hr.1
      ·exact (World.cell?_setCell_other _ _ _ _ (by simp)).trans hr.2.1
      ·exact (World.cell?_setCell_other _ _ _ _ (by simp)).trans hr.2.2
      ·exact fun j => (World.frozen?_setCell ..).trans (hf1 j)
      ·exact fun j => (World.frozen?_setCell ..).trans (hf0 j)
      ·exact (hbl.setCell (by simp) _).drew
  ·obtain rfl : k = W := by omega
   go_wp2_with fail
   refine bodyPost_ret (v := .agg #[.int .i64 k, .int .u64 (LO (n % 2 ^ k)), .int .u64 (HI (n % 2 ^ k))]) (by simp [results, Tryz.results49, go_sem, hr]) rfl ?_
   exact ⟨rfl, by go_grown⟩
end Go.Proofs.YtejljdbkocnhlaaGreat
