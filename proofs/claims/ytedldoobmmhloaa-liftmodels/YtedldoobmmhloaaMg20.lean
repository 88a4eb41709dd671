import Derived.Test.YtedldoobmmhloaaMg19
import Derived.Test.YtedldoobmmhloaaMg17
namespace Go.Proofs.Ytedldoobmmhloaa
set_option maxHeartbeats 12800000
set_option maxRecDepth 100000
open Go.RowKit
set_option linter.unusedSimpArgs false
set_option linter.unusedVariables false
theorem mkf (fn : Fn) (first cap : Array Value) (w : World) : (Instr.makeFunc fn first cap).run Try.prog w = .ok (.func fn first cap) w := rfl
theorem stf (a : Addr) (fn : Fn) (first cap : Array Value) (m : Mode) (w : World) : (store a (.func fn first cap) m).run Try.prog w = stored Try.prog w a (.func fn first cap) m := run_store Try.prog w a _ m rfl
theorem fld (x : Value) (hx : x.cells = #[x]) (w : World) : (Instr.field 95 (.agg #[x]) 0).run Try.prog w = .ok x w := by kernel_rfl
theorem mean_two {op p q : Int} (h1 : 12 ≤ op) (h2 : op ≤ 37) (w : World) :
  Calls Try.prog 54 #[.int .i64 op, .int .i64 p, .int .i64 q] w fun e w' => e = .returned (.agg #[.func (.func 75) #[] #[.pointer (some ⟨w.heap.size, 0, none⟩)]]) ∧ Below w.heap.size w w' ∧ w'.cell? ⟨w.heap.size, 0, none⟩ = some (.int .i64 op) ∧ w.heap.size < w'.heap.size := by
 have hmf := mkf
 have hsf := stf
 have z3 : (op == 3) = false := by simp; omega
 have z4 : (op == 4) = false := by simp; omega
 have z5 : (op == 5) = false := by simp; omega
 have z6 : (op == 6) = false := by simp; omega
 have z7 : (op == 7) = false := by simp; omega
 have z8 : (op == 8) = false := by simp; omega
 have z9 : (op == 9) = false := by simp; omega
 have z10 : (op == 10) = false := by simp; omega
 have z11 : (op == 11) = false := by simp; omega
 have z38 : (op == 38) = false := by simp; omega
 have z39 : (op == 39) = false := by simp; omega
 have z40 : (op == 40) = false := by simp; omega
 have z41 : (op == 41) = false := by simp; omega
 have z42 : (op == 42) = false := by simp; omega
 have z43 : (op == 43) = false := by simp; omega
 have z44 : (op == 44) = false := by simp; omega
 clear h1 h2
 go_enter Try.func54, Try.ntmps54
 go_wp2_with fail
 refine bodyPost_ret (v := .agg #[.func (.func 75) #[] #[.pointer (some ⟨w.heap.size, 0, none⟩)]]) (by simp [results, Try.results54, go_sem]) rfl ?_
 refine ⟨rfl, by go_grown, ?_, by simp; omega⟩
 refine (World.cell?_of_block ?_).trans (cell_of (heap_alloc_new w (.cells #[.int .i64 op] 3)) 0 rfl)
 first | exact (heap_alloc_old _ _ (by simp; omega)).trans ((heap_alloc_old _ _ (by simp; omega)).trans (heap_alloc_old _ _ (by simp))) | (simp; done)
theorem mean_ite {p q : Int} (w : World) :
  Calls Try.prog 54 #[.int .i64 9, .int .i64 p, .int .i64 q] w fun e w' => e = .returned (.agg #[.func (.func 62) #[] #[]]) ∧ Below w.heap.size w w' := by
 have hsf := stf
 go_enter Try.func54, Try.ntmps54
 go_wp2_with fail
 refine bodyPost_ret (v := .agg #[.func (.func 62) #[] #[]]) (by simp [results, Try.results54, go_sem]) rfl ?_
 exact ⟨rfl, by go_grown⟩
theorem vsort_any {w : World} {op p q : Int} {l : List Bt} {u : Value} {base : Nat} (h : Is' w base u (l.map sof)) (hl : l ≠ []) (h8 : l.length ≤ 8) :
  Calls Try.prog 38 #[.int .i64 op, .int .i64 p, .int .i64 q, u] w fun e w' => e = .returned (.tuple #[.int .i64 (srtF op p q (l.map sof)).1, .int .i64 (srtF op p q (l.map sof)).2]) ∧ Below w.heap.size w w' := by
 obtain ⟨r, cap, rfl, hb, hc, hLi⟩ := h.li (by simpa using hl)
 exact sort_any hLi (by rw [List.length_map]; omega) hc
theorem apply_err {w : World} {g o c : Nat} {l : List Bt} {op p q s er : Int} (h : Lb w g o l) (hg : g < w.heap.size) (hk : ∀ b ∈ l, Bk b) (hl : l.length ≤ 8) (hne : l ≠ []) (hs : srtF op p q (l.map sof) = (s, er)) (he : ¬ er = 0) :
  Calls Try.prog 51 #[.int .i64 op, .int .i64 p, .int .i64 q, .slice (some ⟨g, o, none⟩) l.length c] w fun e w' => e = .returned (.tuple #[.agg #[.int .i64 0, .int .u64 0, .int .u64 0], .int .i64 er]) ∧ Below w.heap.size w w' := by
 have HSO : Hid (∀ wx, Below w.heap.size w wx → Calls Try.prog 53 #[.slice (some ⟨g, o, none⟩) l.length c] wx fun e w' => ∃ u, e = .returned u ∧ Is' w' wx.heap.size u (l.map sof) ∧ Below wx.heap.size wx w') := fun wx hb => sorts_any (fun j b hj t u hu => by rw [hb.cell (p := ⟨g, o + j * 3 + t, none⟩) hg]; exact h j b hj t u hu) (Nat.lt_of_lt_of_le hg hb.size) hk hl
 have HVS : Hid (∀ wx u base, Is' wx base u (l.map sof) → Calls Try.prog 38 #[.int .i64 op, .int .i64 p, .int .i64 q, u] wx fun e w' => e = .returned (.tuple #[.int .i64 s, .int .i64 er]) ∧ Below wx.heap.size wx w') := fun wx u base hi => by
  have := vsort_any (op := op) (p := p) (q := q) hi hne hl
  rw [hs] at this; exact this
 have z1 : (er != 0) = true := by simp [he]
 obtain ⟨n, hn⟩ : ∃ n, n = l.length := ⟨_, rfl⟩
 rw [← hn] at HSO ⊢
 clear h hk hne hs he hn
 go_enter Try.func51, Try.ntmps51
 go_wp2_with fail
 refine Calls.mono (HSO.out _ (by go_grown)) ?_
 rintro e w1 ⟨u, rfl, hI, hb⟩
 have HI : Hid _ := hI
 have r0 : w1.cell? ⟨w.heap.size, 0, none⟩ = some (.int .i64 0) := by rw [hb.cell (p := ⟨w.heap.size, 0, none⟩) (by simp)]; simp
 have r1 : w1.cell? ⟨w.heap.size, 1, none⟩ = some (.int .u64 0) := by rw [hb.cell (p := ⟨w.heap.size, 1, none⟩) (by simp)]; simp
 have r2 : w1.cell? ⟨w.heap.size, 2, none⟩ = some (.int .u64 0) := by rw [hb.cell (p := ⟨w.heap.size, 2, none⟩) (by simp)]; simp
 have rf : ∀ j, w1.frozen? ⟨w.heap.size, j, none⟩ = false := fun j => by rw [hb.frozen (p := ⟨w.heap.size, j, none⟩) (by simp)]; simp
 have hB : Below w.heap.size w w1 := Below.trans (by go_grown) (hb.mono (by simp))
 have hs1 : w.heap.size < w1.heap.size := by have := hb.size; simp at this; omega
 clear hb hI
 go_wp2_with fail
 refine Calls.mono (HVS.out _ _ _ HI.out) ?_
 rintro e w2 ⟨rfl, hb⟩
 have t0 : w2.cell? ⟨w.heap.size, 0, none⟩ = some (.int .i64 0) := bel_cell hb hs1 r0
 have t1 : w2.cell? ⟨w.heap.size, 1, none⟩ = some (.int .u64 0) := bel_cell hb hs1 r1
 have t2 : w2.cell? ⟨w.heap.size, 2, none⟩ = some (.int .u64 0) := bel_cell hb hs1 r2
 have tf : ∀ j, w2.frozen? ⟨w.heap.size, j, none⟩ = false := fun j => by rw [hb.frozen (p := ⟨w.heap.size, j, none⟩) hs1]; exact rf j
 have hB2 : Below w.heap.size w w2 := hB.trans (hb.mono hB.size)
 clear hb r0 r1 r2 rf hB HI
 go_wp2_with fail
 refine bodyPost_ret (v := .tuple #[.agg #[.int .i64 0, .int .u64 0, .int .u64 0], .int .i64 er]) (by simp [results, Try.results51, go_sem, t0, t1, t2]) rfl ?_
 exact ⟨rfl, by go_grown⟩
theorem apply_two {w : World} {g o c : Nat} {a b r : Bt} {op p q s er : Int} (h1 : 12 ≤ op) (h2 : op ≤ 37) (h : Lb w g o [a, b]) (hg : g < w.heap.size) (hka : Bk a) (hkb : Bk b) (hs : srtF op p q [sof a, sof b] = (s, 0))
  (HT : Hid (∀ wx, Calls Try.prog 76 #[.int .i64 op, .agg #[.int .i64 a.w, .int .u64 a.lo, .int .u64 a.hi], .agg #[.int .i64 b.w, .int .u64 b.lo, .int .u64 b.hi]] wx fun e w' => e = .returned (.tuple #[.agg #[.int .i64 r.w, .int .u64 r.lo, .int .u64 r.hi], .int .i64 er]) ∧ Below wx.heap.size wx w')) :
  Calls Try.prog 51 #[.int .i64 op, .int .i64 p, .int .i64 q, .slice (some ⟨g, o, none⟩) 2 c] w fun e w' => e = .returned (.tuple #[.agg #[.int .i64 r.w, .int .u64 r.lo, .int .u64 r.hi], .int .i64 er]) ∧ Below w.heap.size w w' := by
 have hLb : ∀ wx, Below w.heap.size w wx → Lb wx g o [a, b] := fun wx hb j x hj t u hu => by rw [hb.cell (p := ⟨g, o + j * 3 + t, none⟩) hg]; exact h j x hj t u hu
 have HSO : Hid (∀ wx, Below w.heap.size w wx → Calls Try.prog 53 #[.slice (some ⟨g, o, none⟩) 2 c] wx fun e w' => ∃ u, e = .returned u ∧ Is' w' wx.heap.size u ([a, b].map sof) ∧ Below wx.heap.size wx w') := fun wx hb => sorts_any (l := [a, b]) (hLb wx hb) (Nat.lt_of_lt_of_le hg hb.size) (fun x hx => by
  rcases List.mem_cons.1 hx with rfl | hx
  ·exact hka
  ·rw [List.mem_singleton.1 hx]; exact hkb) (by simp)
 have HVS : Hid (∀ wx u base, Is' wx base u ([a, b].map sof) → Calls Try.prog 38 #[.int .i64 op, .int .i64 p, .int .i64 q, u] wx fun e w' => e = .returned (.tuple #[.int .i64 s, .int .i64 0]) ∧ Below wx.heap.size wx w') := fun wx u base hi => by
  have := vsort_any (op := op) (p := p) (q := q) hi (by simp) (by simp)
  rw [show [a, b].map sof = [sof a, sof b] from rfl, hs] at this; exact this
 have HME : Hid _ := fun wx => mean_two (p := p) (q := q) h1 h2 wx
 have HCL : Hid (∀ wx bo, Below w.heap.size w wx → wx.cell? ⟨bo, 0, none⟩ = some (.int .i64 op) → bo < wx.heap.size → Calls Try.prog 75 #[.slice (some ⟨g, o, none⟩) 2 c, .pointer (some ⟨bo, 0, none⟩)] wx fun e w' => e = .returned (.tuple #[.agg #[.int .i64 r.w, .int .u64 r.lo, .int .u64 r.hi], .int .i64 er]) ∧ Below wx.heap.size wx w') := fun wx bo hb hc hl => two_cl (hLb wx hb) (Nat.lt_of_lt_of_le hg hb.size) hc hl HT
 have hfd : ∀ wx bo, (Instr.field 95 (.agg #[.func (.func 75) #[] #[.pointer (some ⟨bo, 0, none⟩)]]) 0).run Try.prog wx = .ok (.func (.func 75) #[] #[.pointer (some ⟨bo, 0, none⟩)]) wx := fun wx bo => fld _ rfl wx
 clear h hka hkb hs h1 h2 hLb
 go_enter Try.func51, Try.ntmps51
 go_wp2_with fail
 refine Calls.mono (HSO.out _ (by go_grown)) ?_
 rintro e w1 ⟨u, rfl, hI, hb⟩
 have HI : Hid _ := hI
 have hB : Below w.heap.size w w1 := Below.trans (by go_grown) (hb.mono (by simp))
 have hr : w1.heap[w.heap.size]? = some (.cells #[.int .i64 0, .int .u64 0, .int .u64 0] 25) := (hb.block _ (by simp)).trans (heap_alloc_new w _)
 have HR : Hid _ := hr
 clear hb hI hr
 go_wp2_with fail
 refine Calls.mono (HVS.out _ _ _ HI.out) ?_
 rintro e w2 ⟨rfl, hb⟩
 have hB2 : Below w.heap.size w w2 := hB.trans (hb.mono hB.size)
 have HR2 : Hid _ := (hb.block _ (Array.getElem?_eq_some_iff.1 HR.out).1).trans HR.out
 clear hb HI HR hB
 go_wp2_with fail
 refine Calls.mono (HME.out _) ?_
 rintro e w3 ⟨rfl, hb, hcell, hlt⟩
 have hB3 : Below w.heap.size w w3 := hB2.trans (hb.mono hB2.size)
 have HR3 : Hid _ := (hb.block _ (Array.getElem?_eq_some_iff.1 HR2.out).1).trans HR2.out
 have HCE : Hid _ := hcell
 clear hb HR2 hcell hB2
 go_wp2_with fail
 refine Calls.mono (HCL.out _ _ hB3 HCE.out hlt) ?_
 rintro e w4 ⟨rfl, hb⟩
 have hB4 : Below w.heap.size w w4 := hB3.trans (hb.mono hB3.size)
 have hr4 : w4.heap[w.heap.size]? = _ := (hb.block _ (Array.getElem?_eq_some_iff.1 HR3.out).1).trans HR3.out
 have t0 : w4.cell? ⟨w.heap.size, 0, none⟩ = some (.int .i64 0) := cell_of hr4 0 rfl
 have t1 : w4.cell? ⟨w.heap.size, 1, none⟩ = some (.int .u64 0) := cell_of hr4 1 rfl
 have t2 : w4.cell? ⟨w.heap.size, 2, none⟩ = some (.int .u64 0) := cell_of hr4 2 rfl
 have tf : ∀ j, w4.frozen? ⟨w.heap.size, j, none⟩ = false := fun j => by simp [World.frozen?, hr4]
 clear hb HR3 hr4 hB3
 go_wp2_with fail
 refine bodyPost_ret (v := .tuple #[.agg #[.int .i64 r.w, .int .u64 r.lo, .int .u64 r.hi], .int .i64 er]) (by simp [results, Try.results51, go_sem, t0, t1, t2]) rfl ?_
 exact ⟨rfl, by go_grown⟩
def eqT (a b : Bt) : Bool := decide (a.w = b.w) && decide (a.lo = b.lo) && decide (a.hi = b.hi)
theorem eq2 (a b : Bt) (w : World) : (binOp .eql 25 (.agg #[.int .i64 a.w, .int .u64 a.lo, .int .u64 a.hi]) (.agg #[.int .i64 b.w, .int .u64 b.lo, .int .u64 b.hi])).run Try.prog w = .ok (.bool (eqT a b)) w := by
 unfold eqT
 by_cases h1 : a.w = b.w
 ·by_cases h2 : a.lo = b.lo
  ·by_cases h3 : a.hi = b.hi <;> simp [go_sem, h1, h2, h3]
  ·simp [go_sem, h1, h2]
 ·simp [go_sem, h1]
def bT (b : Bool) : Bt := ⟨0, if b then 1 else 0, 0⟩
theorem apply_ite {w : World} {g o c : Nat} {a b d : Bt} {p q s : Int} (h : Lb w g o [a, b, d]) (hg : g < w.heap.size) (hka : Bk a) (hkb : Bk b) (hkd : Bk d) (hs : srtF 9 p q [sof a, sof b, sof d] = (s, 0)) :
  Calls Try.prog 51 #[.int .i64 9, .int .i64 p, .int .i64 q, .slice (some ⟨g, o, none⟩) 3 c] w fun e w' => e = .returned (.tuple #[.agg #[.int .i64 (if tru a then b else d).w, .int .u64 (if tru a then b else d).lo, .int .u64 (if tru a then b else d).hi], .int .i64 0]) ∧ Below w.heap.size w w' := by
 have hLb : ∀ wx, Below w.heap.size w wx → Lb wx g o [a, b, d] := fun wx hb j x hj t u hu => by rw [hb.cell (p := ⟨g, o + j * 3 + t, none⟩) hg]; exact h j x hj t u hu
 have HSO : Hid (∀ wx, Below w.heap.size w wx → Calls Try.prog 53 #[.slice (some ⟨g, o, none⟩) 3 c] wx fun e w' => ∃ u, e = .returned u ∧ Is' w' wx.heap.size u ([a, b, d].map sof) ∧ Below wx.heap.size wx w') := fun wx hb => sorts_any (l := [a, b, d]) (hLb wx hb) (Nat.lt_of_lt_of_le hg hb.size) (fun x hx => by
  rcases List.mem_cons.1 hx with rfl | hx
  ·exact hka
  ·rcases List.mem_cons.1 hx with rfl | hx
   ·exact hkb
   ·rw [List.mem_singleton.1 hx]; exact hkd) (by simp)
 have HVS : Hid (∀ wx u base, Is' wx base u ([a, b, d].map sof) → Calls Try.prog 38 #[.int .i64 9, .int .i64 p, .int .i64 q, u] wx fun e w' => e = .returned (.tuple #[.int .i64 s, .int .i64 0]) ∧ Below wx.heap.size wx w') := fun wx u base hi => by
  have := vsort_any (op := 9) (p := p) (q := q) hi (by simp) (by simp)
  rw [show [a, b, d].map sof = [sof a, sof b, sof d] from rfl, hs] at this; exact this
 have HME : Hid _ := fun wx => mean_ite (p := p) (q := q) wx
 obtain ⟨r, hr⟩ : ∃ r, r = (if tru a then b else d) := ⟨_, rfl⟩
 have HCL : Hid (∀ wx, Below w.heap.size w wx → Calls Try.prog 62 #[.slice (some ⟨g, o, none⟩) 3 c] wx fun e w' => e = .returned (.tuple #[.agg #[.int .i64 r.w, .int .u64 r.lo, .int .u64 r.hi], .int .i64 0]) ∧ Below wx.heap.size wx w') := fun wx hb => by rw [hr]; exact choose_any (hLb wx hb) (Nat.lt_of_lt_of_le hg hb.size)
 have hfd : ∀ wx, (Instr.field 95 (.agg #[.func (.func 62) #[] #[]]) 0).run Try.prog wx = .ok (.func (.func 62) #[] #[]) wx := fun wx => fld _ rfl wx
 rw [← hr]
 clear h hka hkb hkd hs hLb hr
 go_enter Try.func51, Try.ntmps51
 go_wp2_with fail
 refine Calls.mono (HSO.out _ (by go_grown)) ?_
 rintro e w1 ⟨u, rfl, hI, hb⟩
 have HI : Hid _ := hI
 have hB : Below w.heap.size w w1 := Below.trans (by go_grown) (hb.mono (by simp))
 have hr : w1.heap[w.heap.size]? = some (.cells #[.int .i64 0, .int .u64 0, .int .u64 0] 25) := (hb.block _ (by simp)).trans (heap_alloc_new w _)
 have HR : Hid _ := hr
 clear hb hI hr
 go_wp2_with fail
 refine Calls.mono (HVS.out _ _ _ HI.out) ?_
 rintro e w2 ⟨rfl, hb⟩
 have hB2 : Below w.heap.size w w2 := hB.trans (hb.mono hB.size)
 have HR2 : Hid _ := (hb.block _ (Array.getElem?_eq_some_iff.1 HR.out).1).trans HR.out
 clear hb HI HR hB
 go_wp2_with fail
 refine Calls.mono (HME.out _) ?_
 rintro e w3 ⟨rfl, hb⟩
 have hB3 : Below w.heap.size w w3 := hB2.trans (hb.mono hB2.size)
 have HR3 : Hid _ := (hb.block _ (Array.getElem?_eq_some_iff.1 HR2.out).1).trans HR2.out
 clear hb HR2 hB2
 go_wp2_with fail
 refine Calls.mono (HCL.out _ hB3) ?_
 rintro e w4 ⟨rfl, hb⟩
 have hB4 : Below w.heap.size w w4 := hB3.trans (hb.mono hB3.size)
 have hr4 : w4.heap[w.heap.size]? = _ := (hb.block _ (Array.getElem?_eq_some_iff.1 HR3.out).1).trans HR3.out
 have t0 : w4.cell? ⟨w.heap.size, 0, none⟩ = some (.int .i64 0) := cell_of hr4 0 rfl
 have t1 : w4.cell? ⟨w.heap.size, 1, none⟩ = some (.int .u64 0) := cell_of hr4 1 rfl
 have t2 : w4.cell? ⟨w.heap.size, 2, none⟩ = some (.int .u64 0) := cell_of hr4 2 rfl
 have tf : ∀ j, w4.frozen? ⟨w.heap.size, j, none⟩ = false := fun j => by simp [World.frozen?, hr4]
 clear hb HR3 hr4 hB3
 go_wp2_with fail
 refine bodyPost_ret (v := .tuple #[.agg #[.int .i64 r.w, .int .u64 r.lo, .int .u64 r.hi], .int .i64 0]) (by simp [results, Try.results51, go_sem, t0, t1, t2]) rfl ?_
 exact ⟨rfl, by go_grown⟩
theorem same_any {w : World} {g o cc : Nat} {a b : Bt} (h : Lb w g o [a, b]) (hg : g < w.heap.size) :
  Calls Try.prog 61 #[.slice (some ⟨g, o, none⟩) 2 cc] w fun e w' => e = .returned (.tuple #[.agg #[.int .i64 (bT (eqT a b)).w, .int .u64 (bT (eqT a b)).lo, .int .u64 (bT (eqT a b)).hi], .int .i64 0]) ∧ Below w.heap.size w w' := by
 have a0 : w.cell? ⟨g, o, none⟩ = some (.int .i64 a.w) := h 0 a rfl 0 _ rfl
 have a1 : w.cell? ⟨g, o + 1, none⟩ = some (.int .u64 a.lo) := h 0 a rfl 1 _ rfl
 have a2 : w.cell? ⟨g, o + 2, none⟩ = some (.int .u64 a.hi) := h 0 a rfl 2 _ rfl
 have b0 : w.cell? ⟨g, o + 3, none⟩ = some (.int .i64 b.w) := h 1 b rfl 0 _ rfl
 have b1 : w.cell? ⟨g, o + 4, none⟩ = some (.int .u64 b.lo) := h 1 b rfl 1 _ rfl
 have b2 : w.cell? ⟨g, o + 5, none⟩ = some (.int .u64 b.hi) := h 1 b rfl 2 _ rfl
 have heq := eq2 a b
 obtain ⟨y, hy⟩ : ∃ y, y = eqT a b := ⟨_, rfl⟩
 rw [← hy] at heq ⊢
 obtain ⟨L, hL⟩ : ∃ L : Int, L = if y then 1 else 0 := ⟨_, rfl⟩
 have HB : Hid (∀ wx, Calls Try.prog 33 #[.bool y] wx fun e w' => e = .returned (.agg #[.int .i64 0, .int .u64 L, .int .u64 0]) ∧ Below wx.heap.size wx w') := fun wx => by rw [hL]; exact bool_any y wx
 show Calls Try.prog 61 #[.slice (some ⟨g, o, none⟩) 2 cc] w fun e w' => e = .returned (.tuple #[.agg #[.int .i64 0, .int .u64 (if y then 1 else 0), .int .u64 0], .int .i64 0]) ∧ Below w.heap.size w w'
 rw [← hL]
 clear h hy hL
 go_enter Try.func61, Try.ntmps61
 go_wp2_with fail
 go_region_with ((go_at_call 33; refine Calls.mono (HB.out _) ?_; rintro e w1 ⟨rfl, hb⟩; have hB : Below w.heap.size w w1 := Below.trans (by go_grown) (hb.mono (by first | (simp; done) | (simp; omega) | omega)); have qa0 : w1.cell? ⟨g, o, none⟩ = some (.int .i64 a.w) := bel_cell hB hg a0; have qa1 : w1.cell? ⟨g, o + 1, none⟩ = some (.int .u64 a.lo) := bel_cell hB hg a1; have qa2 : w1.cell? ⟨g, o + 2, none⟩ = some (.int .u64 a.hi) := bel_cell hB hg a2; have qb0 : w1.cell? ⟨g, o + 3, none⟩ = some (.int .i64 b.w) := bel_cell hB hg b0; have qb1 : w1.cell? ⟨g, o + 4, none⟩ = some (.int .u64 b.lo) := bel_cell hB hg b1; have qb2 : w1.cell? ⟨g, o + 5, none⟩ = some (.int .u64 b.hi) := bel_cell hB hg b2; have r0 : w1.cell? ⟨w.heap.size, 0, none⟩ = some (.int .i64 0) := (by rw [hb.cell (p := ⟨w.heap.size, 0, none⟩) (by first | (simp; done) | (simp; omega) | omega)]; first | (simp [go_sem]; done) | assumption); have r1 : w1.cell? ⟨w.heap.size, 1, none⟩ = some (.int .u64 0) := (by rw [hb.cell (p := ⟨w.heap.size, 1, none⟩) (by first | (simp; done) | (simp; omega) | omega)]; first | (simp [go_sem]; done) | assumption); have r2 : w1.cell? ⟨w.heap.size, 2, none⟩ = some (.int .u64 0) := (by rw [hb.cell (p := ⟨w.heap.size, 2, none⟩) (by first | (simp; done) | (simp; omega) | omega)]; first | (simp [go_sem]; done) | assumption); have rf : ∀ j, w1.frozen? ⟨w.heap.size, j, none⟩ = false := (fun j => by rw [hb.frozen (p := ⟨w.heap.size, j, none⟩) (by first | (simp; done) | (simp; omega) | omega)]; first | (simp [go_sem]; done) | apply_assumption); have hsz : w.heap.size < w1.heap.size := (by have := hb.size; first | omega | (simp at this; omega)); clear hb))
 all_goals
  go_wp2_with fail
  refine bodyPost_ret (v := .tuple #[.agg #[.int .i64 0, .int .u64 L, .int .u64 0], .int .i64 0]) (by simp [results, Try.results61, go_sem, r0, r1, r2]) rfl ?_
  exact ⟨rfl, by go_grown⟩
theorem f_and (x y : Bool) (w : World) : Calls Try.prog 57 #[.bool x, .bool y] w fun e w' => e = .returned (.bool (x && y)) ∧ w' = w := by
 cases x
 ·go_enter Try.func57, Try.ntmps57
  go_wp2_with fail
  go_ret
  exact ⟨rfl, rfl⟩
 ·go_enter Try.func57, Try.ntmps57
  go_wp2_with fail
  go_ret
  exact ⟨by simp, rfl⟩
theorem f_or (x y : Bool) (w : World) : Calls Try.prog 58 #[.bool x, .bool y] w fun e w' => e = .returned (.bool (x || y)) ∧ w' = w := by
 cases x
 ·go_enter Try.func58, Try.ntmps58
  go_wp2_with fail
  go_ret
  exact ⟨by simp, rfl⟩
 ·go_enter Try.func58, Try.ntmps58
  go_wp2_with fail
  go_ret
  exact ⟨rfl, rfl⟩
theorem f_xor (x y : Bool) (w : World) : Calls Try.prog 59 #[.bool x, .bool y] w fun e w' => e = .returned (.bool (x != y)) ∧ w' = w := by
 go_enter Try.func59, Try.ntmps59
 go_wp2_with fail
 go_ret
 exact ⟨rfl, rfl⟩
def Bt.val (b : Bt) : Value := .agg #[.int .i64 b.w, .int .u64 b.lo, .int .u64 b.hi]
def zBt : Bt := ⟨0, 0, 0⟩
def bmL (M : List (Int × Bt)) : List (Value × Value) := M.map fun p => (.int .i64 p.1, p.2.val)
def getM (M : List (Int × Bt)) (k : Int) : Option Bt := (M.find? fun p => decide (p.1 = k)).map (·.2)
structure Bm (w : World) (b : Nat) (M : List (Int × Bt)) : Prop where
 mp : Mp w 3 b (bmL M)
 once : (M.map (·.1)).Nodup
theorem intUnder : Try.prog.underlying 3 = some (.int .i64) := by kernel_rfl
theorem intLaw : Go.Maps.Keyed Try.prog 3 := Go.Maps.int_keyed intUnder
theorem bmUnder : Try.prog.underlying 63 = some (.map 3 25) := by kernel_rfl
theorem zeroBt (w : World) : (zeroValue 25).run Try.prog w = .ok zBt.val w := by kernel_rfl
theorem intKey {k : Int} (h : w64 k) : keyOf Try.prog 3 (.int .i64 k) = some (.int .i64 k) := Go.Maps.keyOf_int_mk intUnder (wf64 h)
theorem Mp.lookK {w : World} {k e t : TypeId} {b : Nat} {L : List (Value × Value)} (h : Mp w k b L) (K : Go.Maps.Keyed Try.prog k) (ht : Try.prog.underlying t = some (.map k e)) {z : Value} (hz : (zeroValue e).run Try.prog w = .ok z w)
  {key : Value} {kl : Lit} (hkey : keyOf Try.prog k key = some kl) :
  ((Instr.lookup t (.map (some b)) key true).run Try.prog w = .ok (.tuple #[z, .bool false]) w ∧ ∀ p ∈ L, p.1 ≠ key) ∨
  ∃ p, p ∈ L ∧ p.1 = key ∧ (Instr.lookup t (.map (some b)) key true).run Try.prog w = .ok (.tuple #[p.2, .bool true]) w := by
 obtain ⟨es, cl, hb, rfl, hk⟩ := h
 have hes : ∀ x ∈ es.toList, ∃ l, keyOf Try.prog k x.key = some l := fun x hx => hk (x.key, x.val) (List.mem_map.2 ⟨x, hx, rfl⟩)
 rcases K.find w hkey es.toList hes with ⟨h1, h2⟩ | ⟨j, e0, h1, h2, h3⟩
 ·refine Or.inl ⟨by simp [Instr.lookup, run_underlying ht, MapKept.run_getObj_map hb, K.check w _ hkey, h1, hz, Result.andThen], fun p hp => ?_⟩
  obtain ⟨x, hx, rfl⟩ := List.mem_map.1 hp
  exact h2 x hx
 ·exact Or.inr ⟨(e0.key, e0.val), List.mem_map.2 ⟨e0, List.mem_of_getElem? h2, rfl⟩, h3, by simp [Instr.lookup, run_underlying ht, MapKept.run_getObj_map hb, K.check w _ hkey, h1, Result.andThen]⟩
theorem Mp.storeK {w : World} {k e t : TypeId} {b : Nat} {L : List (Value × Value)} (h : Mp w k b L) (K : Go.Maps.Keyed Try.prog k) (ht : Try.prog.underlying t = some (.map k e))
  {key val : Value} {kl : Lit} (hkey : keyOf Try.prog k key = some kl) (hno : ∀ p ∈ L, p.1 ≠ key) :
  ∃ w', (Instr.mapUpdate t (.map (some b)) key val).run Try.prog w = .ok () w' ∧ Mp w' k b (L ++ [(key, val)]) ∧ w.grownBy w' (some b) ∧ w'.heap.size = w.heap.size := by
 obtain ⟨es, cl, hb, rfl, hk⟩ := h
 have hes : ∀ x ∈ es.toList, ∃ l, keyOf Try.prog k x.key = some l := fun x hx => hk (x.key, x.val) (List.mem_map.2 ⟨x, hx, rfl⟩)
 have hlt : b < w.heap.size := (Array.getElem?_eq_some_iff.1 hb).1
 rcases K.find w hkey es.toList hes with ⟨h1, h2⟩ | ⟨j, e0, h1, h2, h3⟩
 ·refine ⟨ChangeMaps.setBlock w b (.map (es.push ⟨key, val, cl⟩) (cl + 1)), by simp [Instr.mapUpdate, run_underlying ht, MapKept.run_getObj_map hb, K.check w false hkey, h1, MapKept.run_setObj_map _ hb, Result.andThen, ChangeMaps.setBlock], ⟨es.push ⟨key, val, cl⟩, cl + 1, by simp [ChangeMaps.setBlock, hlt], by simp, ?_⟩, ⟨rfl, rfl, rfl, by simp [ChangeMaps.setBlock], fun i _ hi => ?_⟩, by simp [ChangeMaps.setBlock]⟩
  ·intro p hp
   rcases List.mem_append.1 hp with hp | hp
   ·exact hk p hp
   ·obtain rfl := List.mem_singleton.1 hp
    exact ⟨_, hkey⟩
  ·have : b ≠ i := fun e => hi (by rw [e])
   simp [ChangeMaps.setBlock, this]
 ·exact absurd h3 (hno (e0.key, e0.val) (List.mem_map.2 ⟨e0, List.mem_of_getElem? h2, rfl⟩))
theorem Mp.look1 {w : World} {k e t : TypeId} {b : Nat} {L : List (Value × Value)} (h : Mp w k b L) (K : Go.Maps.Keyed Try.prog k) (ht : Try.prog.underlying t = some (.map k e)) {z : Value} (hz : (zeroValue e).run Try.prog w = .ok z w)
  {key : Value} {kl : Lit} (hkey : keyOf Try.prog k key = some kl) :
  ((Instr.lookup t (.map (some b)) key false).run Try.prog w = .ok z w ∧ ∀ p ∈ L, p.1 ≠ key) ∨
  ∃ p, p ∈ L ∧ p.1 = key ∧ (Instr.lookup t (.map (some b)) key false).run Try.prog w = .ok p.2 w := by
 obtain ⟨es, cl, hb, rfl, hk⟩ := h
 have hes : ∀ x ∈ es.toList, ∃ l, keyOf Try.prog k x.key = some l := fun x hx => hk (x.key, x.val) (List.mem_map.2 ⟨x, hx, rfl⟩)
 rcases K.find w hkey es.toList hes with ⟨h1, h2⟩ | ⟨j, e0, h1, h2, h3⟩
 ·refine Or.inl ⟨by simp [Instr.lookup, run_underlying ht, MapKept.run_getObj_map hb, K.check w _ hkey, h1, hz, Result.andThen], fun p hp => ?_⟩
  obtain ⟨x, hx, rfl⟩ := List.mem_map.1 hp
  exact h2 x hx
 ·exact Or.inr ⟨(e0.key, e0.val), List.mem_map.2 ⟨e0, List.mem_of_getElem? h2, rfl⟩, h3, by simp [Instr.lookup, run_underlying ht, MapKept.run_getObj_map hb, K.check w _ hkey, h1, Result.andThen]⟩
theorem getM_none {M : List (Int × Bt)} {k : Int} (h : getM M k = none) : ∀ p ∈ bmL M, p.1 ≠ .int .i64 k := by
 intro p hp e
 obtain ⟨x, hx, rfl⟩ := List.mem_map.1 hp
 have hk : x.1 = k := by simpa using e
 unfold getM at h
 rw [Option.map_eq_none_iff, List.find?_eq_none] at h
 exact h x hx (by simp [hk])
theorem getM_some {M : List (Int × Bt)} {k : Int} {v : Bt} (h : getM M k = some v) (hn : (M.map (·.1)).Nodup) : (.int .i64 k, v.val) ∈ bmL M ∧ ∀ p ∈ bmL M, p.1 = .int .i64 k → p.2 = v.val := by
 unfold getM at h
 obtain ⟨x, hx, rfl⟩ := Option.map_eq_some_iff.1 h
 have hk : x.1 = k := by simpa using List.find?_some hx
 have hm := List.mem_of_find?_eq_some hx
 refine ⟨List.mem_map.2 ⟨x, hm, by rw [← hk]⟩, fun p hp e => ?_⟩
 obtain ⟨y, hy, rfl⟩ := List.mem_map.1 hp
 have hy1 : y.1 = k := by simpa using e
 have : y = x := by
  have hpw := List.pairwise_map.1 hn
  rcases List.mem_iff_getElem.1 hy with ⟨i, hi, ei⟩
  rcases List.mem_iff_getElem.1 hm with ⟨j, hj, ej⟩
  by_cases hij : i = j
  ·subst hij; rw [← ei, ← ej]
  ·exfalso
   rcases Nat.lt_or_gt_of_ne hij with hl | hl
   ·exact List.pairwise_iff_getElem.1 hpw i j hi hj hl (by rw [ei, ej, hy1, hk])
   ·exact List.pairwise_iff_getElem.1 hpw j i hj hi hl (by rw [ei, ej, hy1, hk])
 rw [this]
theorem Bm.look {w : World} {b : Nat} {M : List (Int × Bt)} (h : Bm w b M) {k : Int} (hk : w64 k) : (Instr.lookup 63 (.map (some b)) (.int .i64 k) true).run Try.prog w = .ok (.tuple #[((getM M k).getD zBt).val, .bool (getM M k).isSome]) w := by
 cases e : getM M k with
 | none =>
  rcases h.mp.lookK intLaw bmUnder (zeroBt w) (intKey hk) with ⟨hr, _⟩ | ⟨p, hp, he, _⟩
  ·exact hr
  ·exact absurd he (getM_none e p hp)
 | some v =>
  obtain ⟨h1, h2⟩ := getM_some e h.once
  rcases h.mp.lookK intLaw bmUnder (zeroBt w) (intKey hk) with ⟨_, hn⟩ | ⟨p, hp, he, hr⟩
  ·exact absurd rfl (hn _ h1)
  ·rw [hr, h2 p hp he]; rfl
theorem Bm.look1 {w : World} {b : Nat} {M : List (Int × Bt)} (h : Bm w b M) {k : Int} (hk : w64 k) : (Instr.lookup 63 (.map (some b)) (.int .i64 k) false).run Try.prog w = .ok ((getM M k).getD zBt).val w := by
 cases e : getM M k with
 | none =>
  rcases h.mp.look1 intLaw bmUnder (zeroBt w) (intKey hk) with ⟨hr, _⟩ | ⟨p, hp, he, _⟩
  ·exact hr
  ·exact absurd he (getM_none e p hp)
 | some v =>
  obtain ⟨h1, h2⟩ := getM_some e h.once
  rcases h.mp.look1 intLaw bmUnder (zeroBt w) (intKey hk) with ⟨_, hn⟩ | ⟨p, hp, he, hr⟩
  ·exact absurd rfl (hn _ h1)
  ·rw [hr, h2 p hp he]; rfl
theorem Bm.kept {w w' : World} {b : Nat} {M : List (Int × Bt)} (h : Bm w b M) (hb : w'.heap[b]? = w.heap[b]?) : Bm w' b M := ⟨h.mp.kept hb, h.once⟩
theorem Bm.put {w : World} {b : Nat} {M : List (Int × Bt)} (h : Bm w b M) {k : Int} (hk : w64 k) (v : Bt) (hno : getM M k = none) :
  ∃ w', (Instr.mapUpdate 63 (.map (some b)) (.int .i64 k) v.val).run Try.prog w = .ok () w' ∧ Bm w' b (M ++ [(k, v)]) ∧ w.grownBy w' (some b) ∧ w'.heap.size = w.heap.size := by
 obtain ⟨w', hr, h1, h2, h3⟩ := h.mp.storeK (val := v.val) intLaw bmUnder (intKey hk) (getM_none hno)
 refine ⟨w', hr, ⟨by unfold bmL; rw [List.map_append]; exact h1, ?_⟩, h2, h3⟩
 rw [List.map_append, List.nodup_append]
 refine ⟨h.once, by simp, fun a ha c hc => ?_⟩
 obtain rfl : c = k := by simpa using hc
 obtain ⟨x, hx, rfl⟩ := List.mem_map.1 ha
 intro e
 exact getM_none hno (.int .i64 x.1, x.2.val) (List.mem_map.2 ⟨x, hx, rfl⟩) (by rw [e])
theorem Bm.made (w : World) : Bm (w.alloc (.map #[] 0)) w.heap.size [] := ⟨Mp.made w _, by simp⟩
end Go.Proofs.Ytedldoobmmhloaa
