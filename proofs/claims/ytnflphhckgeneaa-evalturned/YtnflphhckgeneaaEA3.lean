/- Contracts (values of terms): an operator is done. -/
import Derived.Test.YtnflphhckgeneaaMg17
namespace Go.Proofs.Ytnflphhckgeneaa
open Go.RowKit
set_option linter.unusedSimpArgs false
set_option linter.unusedVariables false

theorem mkf (fn : Fn) (first cap : Array Value) (w : World) : (Instr.makeFunc fn first cap).run Try.prog w = .ok (.func fn first cap) w := rfl
theorem stf (a : Addr) (fn : Fn) (first cap : Array Value) (m : Mode) (w : World) : (store a (.func fn first cap) m).run Try.prog w = stored Try.prog w a (.func fn first cap) m := run_store Try.prog w a _ m rfl
theorem fld (x : Value) (hx : x.cells = #[x]) (w : World) : (Instr.field 50 (.agg #[x]) 0).run Try.prog w = .ok x w := by kernel_rfl
set_option maxRecDepth 20000 in
set_option maxHeartbeats 3200000 in
theorem mean_two {op p q : Int} (h1 : 12 ≤ op) (h2 : op ≤ 37) (w : World) :
    Calls Try.prog 14 #[.int .i64 op, .int .i64 p, .int .i64 q] w fun e w' => e = .returned (.agg #[.func (.func 49) #[] #[.pointer (some ⟨w.heap.size, 0, none⟩)]]) ∧ Below w.heap.size w w' ∧ w'.cell? ⟨w.heap.size, 0, none⟩ = some (.int .i64 op) ∧ w.heap.size < w'.heap.size := by
  have hmf := mkf
  have hsf := stf
  have z3 : (op == 3) = false := by simp; omega
  have z4 : (op == 4) = false := by simp; omega
  have z5 : (op == 5) = false := by simp; omega
  have z6 : (op == 6) = false := by simp; omega
  have z7 : (op == 7) = false := by simp; omega
  have z8 : (op == 8) = false := by simp; omega
  have z9 : (op == 9) = false := by simp; omega
  have z10 : (op == 10) = false := by simp; omega
  have z11 : (op == 11) = false := by simp; omega
  have z38 : (op == 38) = false := by simp; omega
  have z39 : (op == 39) = false := by simp; omega
  have z40 : (op == 40) = false := by simp; omega
  have z41 : (op == 41) = false := by simp; omega
  have z42 : (op == 42) = false := by simp; omega
  have z43 : (op == 43) = false := by simp; omega
  have z44 : (op == 44) = false := by simp; omega
  clear h1 h2
  go_enter Try.func14, Try.ntmps14
  go_wp2_with fail
  refine bodyPost_ret (v := .agg #[.func (.func 49) #[] #[.pointer (some ⟨w.heap.size, 0, none⟩)]]) (by simp [results, Try.results14, go_sem]) rfl ?_
  refine ⟨rfl, by go_grown, ?_, by simp; omega⟩
  refine (World.cell?_of_block ?_).trans (cell_of (heap_alloc_new w (.cells #[.int .i64 op] 3)) 0 rfl)
  first | exact (heap_alloc_old _ _ (by simp; omega)).trans ((heap_alloc_old _ _ (by simp; omega)).trans (heap_alloc_old _ _ (by simp))) | (simp; done)
set_option maxRecDepth 20000 in
set_option maxHeartbeats 3200000 in
theorem mean_ite {p q : Int} (w : World) :
    Calls Try.prog 14 #[.int .i64 9, .int .i64 p, .int .i64 q] w fun e w' => e = .returned (.agg #[.func (.func 36) #[] #[]]) ∧ Below w.heap.size w w' := by
  have hsf := stf
  go_enter Try.func14, Try.ntmps14
  go_wp2_with fail
  refine bodyPost_ret (v := .agg #[.func (.func 36) #[] #[]]) (by simp [results, Try.results14, go_sem]) rfl ?_
  exact ⟨rfl, by go_grown⟩

/-- The sort of an operator's answer, by its values. -/
theorem vsort_any {w : World} {op p q : Int} {l : List Bt} {u : Value} {base : Nat} (h : Is' w base u (l.map sof)) (hl : l ≠ []) (h8 : l.length ≤ 8) :
    Calls Try.prog 12 #[.int .i64 op, .int .i64 p, .int .i64 q, u] w fun e w' => e = .returned (.tuple #[.int .i64 (srtF op p q (l.map sof)).1, .int .i64 (srtF op p q (l.map sof)).2]) ∧ Below w.heap.size w w' := by
  obtain ⟨r, cap, rfl, hb, hc, hLi⟩ := h.li (by simpa using hl)
  exact sort_any hLi (by rw [List.length_map]; omega) hc

set_option maxRecDepth 20000 in
set_option maxHeartbeats 6400000 in
theorem apply_err {w : World} {g o c : Nat} {l : List Bt} {op p q s er : Int} (h : Lb w g o l) (hg : g < w.heap.size) (hk : ∀ b ∈ l, Bk b) (hl : l.length ≤ 8) (hne : l ≠ []) (hs : srtF op p q (l.map sof) = (s, er)) (he : ¬ er = 0) :
    Calls Try.prog 5 #[.int .i64 op, .int .i64 p, .int .i64 q, .slice (some ⟨g, o, none⟩) l.length c] w fun e w' => e = .returned (.tuple #[.agg #[.int .i64 0, .int .u64 0, .int .u64 0], .int .i64 er]) ∧ Below w.heap.size w w' := by
  have HSO : Hid (∀ wx, Below w.heap.size w wx → Calls Try.prog 13 #[.slice (some ⟨g, o, none⟩) l.length c] wx fun e w' => ∃ u, e = .returned u ∧ Is' w' wx.heap.size u (l.map sof) ∧ Below wx.heap.size wx w') := fun wx hb => sorts_any (fun j b hj t u hu => by rw [hb.cell (p := ⟨g, o + j * 3 + t, none⟩) hg]; exact h j b hj t u hu) (Nat.lt_of_lt_of_le hg hb.size) hk hl
  have HVS : Hid (∀ wx u base, Is' wx base u (l.map sof) → Calls Try.prog 12 #[.int .i64 op, .int .i64 p, .int .i64 q, u] wx fun e w' => e = .returned (.tuple #[.int .i64 s, .int .i64 er]) ∧ Below wx.heap.size wx w') := fun wx u base hi => by
    have := vsort_any (op := op) (p := p) (q := q) hi hne hl
    rw [hs] at this; exact this
  have z1 : (er != 0) = true := by simp [he]
  obtain ⟨n, hn⟩ : ∃ n, n = l.length := ⟨_, rfl⟩
  rw [← hn] at HSO ⊢
  clear h hk hne hs he hn
  go_enter Try.func5, Try.ntmps5
  go_wp2_with fail
  refine Calls.mono (HSO.out _ (by go_grown)) ?_
  rintro e w1 ⟨u, rfl, hI, hb⟩
  have HI : Hid _ := hI
  have r0 : w1.cell? ⟨w.heap.size, 0, none⟩ = some (.int .i64 0) := by rw [hb.cell (p := ⟨w.heap.size, 0, none⟩) (by simp)]; simp
  have r1 : w1.cell? ⟨w.heap.size, 1, none⟩ = some (.int .u64 0) := by rw [hb.cell (p := ⟨w.heap.size, 1, none⟩) (by simp)]; simp
  have r2 : w1.cell? ⟨w.heap.size, 2, none⟩ = some (.int .u64 0) := by rw [hb.cell (p := ⟨w.heap.size, 2, none⟩) (by simp)]; simp
  have rf : ∀ j, w1.frozen? ⟨w.heap.size, j, none⟩ = false := fun j => by rw [hb.frozen (p := ⟨w.heap.size, j, none⟩) (by simp)]; simp
  have hB : Below w.heap.size w w1 := Below.trans (by go_grown) (hb.mono (by simp))
  have hs1 : w.heap.size < w1.heap.size := by have := hb.size; simp at this; omega
  clear hb hI
  go_wp2_with fail
  refine Calls.mono (HVS.out _ _ _ HI.out) ?_
  rintro e w2 ⟨rfl, hb⟩
  have t0 : w2.cell? ⟨w.heap.size, 0, none⟩ = some (.int .i64 0) := bel_cell hb hs1 r0
  have t1 : w2.cell? ⟨w.heap.size, 1, none⟩ = some (.int .u64 0) := bel_cell hb hs1 r1
  have t2 : w2.cell? ⟨w.heap.size, 2, none⟩ = some (.int .u64 0) := bel_cell hb hs1 r2
  have tf : ∀ j, w2.frozen? ⟨w.heap.size, j, none⟩ = false := fun j => by rw [hb.frozen (p := ⟨w.heap.size, j, none⟩) hs1]; exact rf j
  have hB2 : Below w.heap.size w w2 := hB.trans (hb.mono hB.size)
  clear hb r0 r1 r2 rf hB HI
  go_wp2_with fail
  refine bodyPost_ret (v := .tuple #[.agg #[.int .i64 0, .int .u64 0, .int .u64 0], .int .i64 er]) (by simp [results, Try.results5, go_sem, t0, t1, t2]) rfl ?_
  exact ⟨rfl, by go_grown⟩

set_option maxRecDepth 20000 in
set_option maxHeartbeats 6400000 in
theorem apply_two {w : World} {g o c : Nat} {a b r : Bt} {op p q s er : Int} (h1 : 12 ≤ op) (h2 : op ≤ 37) (h : Lb w g o [a, b]) (hg : g < w.heap.size) (hka : Bk a) (hkb : Bk b) (hs : srtF op p q [sof a, sof b] = (s, 0))
    (HT : Hid (∀ wx, Calls Try.prog 50 #[.int .i64 op, .agg #[.int .i64 a.w, .int .u64 a.lo, .int .u64 a.hi], .agg #[.int .i64 b.w, .int .u64 b.lo, .int .u64 b.hi]] wx fun e w' => e = .returned (.tuple #[.agg #[.int .i64 r.w, .int .u64 r.lo, .int .u64 r.hi], .int .i64 er]) ∧ Below wx.heap.size wx w')) :
    Calls Try.prog 5 #[.int .i64 op, .int .i64 p, .int .i64 q, .slice (some ⟨g, o, none⟩) 2 c] w fun e w' => e = .returned (.tuple #[.agg #[.int .i64 r.w, .int .u64 r.lo, .int .u64 r.hi], .int .i64 er]) ∧ Below w.heap.size w w' := by
  have hLb : ∀ wx, Below w.heap.size w wx → Lb wx g o [a, b] := fun wx hb j x hj t u hu => by rw [hb.cell (p := ⟨g, o + j * 3 + t, none⟩) hg]; exact h j x hj t u hu
  have HSO : Hid (∀ wx, Below w.heap.size w wx → Calls Try.prog 13 #[.slice (some ⟨g, o, none⟩) 2 c] wx fun e w' => ∃ u, e = .returned u ∧ Is' w' wx.heap.size u ([a, b].map sof) ∧ Below wx.heap.size wx w') := fun wx hb => sorts_any (l := [a, b]) (hLb wx hb) (Nat.lt_of_lt_of_le hg hb.size) (fun x hx => by
    rcases List.mem_cons.1 hx with rfl | hx
    · exact hka
    · rw [List.mem_singleton.1 hx]; exact hkb) (by simp)
  have HVS : Hid (∀ wx u base, Is' wx base u ([a, b].map sof) → Calls Try.prog 12 #[.int .i64 op, .int .i64 p, .int .i64 q, u] wx fun e w' => e = .returned (.tuple #[.int .i64 s, .int .i64 0]) ∧ Below wx.heap.size wx w') := fun wx u base hi => by
    have := vsort_any (op := op) (p := p) (q := q) hi (by simp) (by simp)
    rw [show [a, b].map sof = [sof a, sof b] from rfl, hs] at this; exact this
  have HME : Hid _ := fun wx => mean_two (p := p) (q := q) h1 h2 wx
  have HCL : Hid (∀ wx bo, Below w.heap.size w wx → wx.cell? ⟨bo, 0, none⟩ = some (.int .i64 op) → bo < wx.heap.size → Calls Try.prog 49 #[.slice (some ⟨g, o, none⟩) 2 c, .pointer (some ⟨bo, 0, none⟩)] wx fun e w' => e = .returned (.tuple #[.agg #[.int .i64 r.w, .int .u64 r.lo, .int .u64 r.hi], .int .i64 er]) ∧ Below wx.heap.size wx w') := fun wx bo hb hc hl => two_cl (hLb wx hb) (Nat.lt_of_lt_of_le hg hb.size) hc hl HT
  have hfd : ∀ wx bo, (Instr.field 50 (.agg #[.func (.func 49) #[] #[.pointer (some ⟨bo, 0, none⟩)]]) 0).run Try.prog wx = .ok (.func (.func 49) #[] #[.pointer (some ⟨bo, 0, none⟩)]) wx := fun wx bo => fld _ rfl wx
  clear h hka hkb hs h1 h2 hLb
  go_enter Try.func5, Try.ntmps5
  go_wp2_with fail
  refine Calls.mono (HSO.out _ (by go_grown)) ?_
  rintro e w1 ⟨u, rfl, hI, hb⟩
  have HI : Hid _ := hI
  have hB : Below w.heap.size w w1 := Below.trans (by go_grown) (hb.mono (by simp))
  have hr : w1.heap[w.heap.size]? = some (.cells #[.int .i64 0, .int .u64 0, .int .u64 0] 24) := (hb.block _ (by simp)).trans (heap_alloc_new w _)
  have HR : Hid _ := hr
  clear hb hI hr
  go_wp2_with fail
  refine Calls.mono (HVS.out _ _ _ HI.out) ?_
  rintro e w2 ⟨rfl, hb⟩
  have hB2 : Below w.heap.size w w2 := hB.trans (hb.mono hB.size)
  have HR2 : Hid _ := (hb.block _ (Array.getElem?_eq_some_iff.1 HR.out).1).trans HR.out
  clear hb HI HR hB
  go_wp2_with fail
  refine Calls.mono (HME.out _) ?_
  rintro e w3 ⟨rfl, hb, hcell, hlt⟩
  have hB3 : Below w.heap.size w w3 := hB2.trans (hb.mono hB2.size)
  have HR3 : Hid _ := (hb.block _ (Array.getElem?_eq_some_iff.1 HR2.out).1).trans HR2.out
  have HCE : Hid _ := hcell
  clear hb HR2 hcell hB2
  go_wp2_with fail
  refine Calls.mono (HCL.out _ _ hB3 HCE.out hlt) ?_
  rintro e w4 ⟨rfl, hb⟩
  have hB4 : Below w.heap.size w w4 := hB3.trans (hb.mono hB3.size)
  have hr4 : w4.heap[w.heap.size]? = _ := (hb.block _ (Array.getElem?_eq_some_iff.1 HR3.out).1).trans HR3.out
  have t0 : w4.cell? ⟨w.heap.size, 0, none⟩ = some (.int .i64 0) := cell_of hr4 0 rfl
  have t1 : w4.cell? ⟨w.heap.size, 1, none⟩ = some (.int .u64 0) := cell_of hr4 1 rfl
  have t2 : w4.cell? ⟨w.heap.size, 2, none⟩ = some (.int .u64 0) := cell_of hr4 2 rfl
  have tf : ∀ j, w4.frozen? ⟨w.heap.size, j, none⟩ = false := fun j => by simp [World.frozen?, hr4]
  clear hb HR3 hr4 hB3
  go_wp2_with fail
  refine bodyPost_ret (v := .tuple #[.agg #[.int .i64 r.w, .int .u64 r.lo, .int .u64 r.hi], .int .i64 er]) (by simp [results, Try.results5, go_sem, t0, t1, t2]) rfl ?_
  exact ⟨rfl, by go_grown⟩
end Go.Proofs.Ytnflphhckgeneaa
