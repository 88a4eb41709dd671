/- Contracts (values of terms): Apply of bits turned round and repeated. (Made by a script.) -/
import Derived.Test.YtnflphhckgeneaaGreatEA26
import Derived.Test.YtnflphhckgeneaaGreatEB1
import Derived.Test.YtnflphhckgeneaaGreatEB2
import Derived.Test.YtnflphhckgeneaaGreatMg31
import Derived.Test.YtnflphhckgeneaaGreatEB4
import Derived.Test.YtnflphhckgeneaaGreatMg43
import Derived.Test.YtnflphhckgeneaaGreatEA27
import Derived.Test.YtnflphhckgeneaaGreatEA28
namespace Go.Proofs.YtnflphhckgeneaaGreat
set_option maxHeartbeats 12800000
set_option maxRecDepth 100000
open Go.RowKit
set_option linter.unusedSimpArgs false
set_option linter.unusedVariables false

theorem mean_42 {p q : Int} (w : World) :
    Calls Tryz.prog 39 #[.int .i64 42, .int .i64 p, .int .i64 q] w fun e w' => e = .returned (.agg #[.func (.func 82) #[] #[.pointer (some ⟨w.heap.size + 1, 0, none⟩), .pointer (some ⟨w.heap.size, 0, none⟩)]]) ∧ Below w.heap.size w w' ∧ w.heap.size + 3 < w'.heap.size ∧ w'.cell? ⟨w.heap.size + 1, 0, none⟩ = some (.int .i64 p) ∧ w'.cell? ⟨w.heap.size, 0, none⟩ = some (.int .i64 42) := by
  have hmf := mkf
  have hsf := stf
  go_enter Tryz.func39, Tryz.ntmps39
  go_wp2_with fail
  refine bodyPost_ret (v := .agg #[.func (.func 82) #[] #[.pointer (some ⟨w.heap.size + 1, 0, none⟩), .pointer (some ⟨w.heap.size, 0, none⟩)]]) (by simp [results, Tryz.results39, go_sem]) rfl ?_
  refine ⟨rfl, by go_grown, (by first | (simp; done) | (simp; omega)), ?_, ?_⟩
  · have hn := heap_alloc_new (w.alloc (.cells #[.int .i64 42] 3)) (.cells #[.int .i64 p] 3)
    rw [size_alloc'] at hn
    refine (World.cell?_of_block ?_).trans (cell_of hn 0 rfl)
    exact (heap_alloc_old _ _ (by first | (simp; done) | (simp; omega))).trans (heap_alloc_old _ _ (by simp))
  · refine (World.cell?_of_block ?_).trans (cell_of (heap_alloc_new w (.cells #[.int .i64 42] 3)) 0 rfl)
    exact (heap_alloc_old _ _ (by first | (simp; done) | (simp; omega))).trans ((heap_alloc_old _ _ (by first | (simp; done) | (simp; omega))).trans (heap_alloc_old _ _ (by simp)))

theorem apply_42 {w : World} {g o c : Nat} {a r : Bt} {p q s er : Int} (h : Lb w g o [a]) (hg : g < w.heap.size) (hka : Bk a) (hs : srtF 42 p q [sof a] = (s, 0))
    (HT : Hid (∀ wx, Rt 83 #[.agg #[.int .i64 a.w, .int .u64 a.lo, .int .u64 a.hi], .int .i64 p, .bool true] wx (.tuple #[.agg #[.int .i64 r.w, .int .u64 r.lo, .int .u64 r.hi], .int .i64 er]))) :
    Rt 15 #[.int .i64 42, .int .i64 p, .int .i64 q, .slice (some ⟨g, o, none⟩) 1 c] w (.tuple #[.agg #[.int .i64 r.w, .int .u64 r.lo, .int .u64 r.hi], .int .i64 er]) := by
  have hLb : ∀ wx, Below w.heap.size w wx → Lb wx g o [a] := fun wx hb j x hj t u hu => by rw [hb.cell (p := ⟨g, o + j * 3 + t, none⟩) hg]; exact h j x hj t u hu
  have HSO : Hid (∀ wx, Below w.heap.size w wx → Calls Tryz.prog 38 #[.slice (some ⟨g, o, none⟩) 1 c] wx fun e w' => ∃ u, e = .returned u ∧ Is' w' wx.heap.size u ([a].map sof) ∧ Below wx.heap.size wx w') := fun wx hb => sorts_any (l := [a]) (hLb wx hb) (Nat.lt_of_lt_of_le hg hb.size) (fun x hx => by rw [List.mem_singleton.1 hx]; exact hka) (by simp)
  have HVS : Hid (∀ wx u base, Is' wx base u ([a].map sof) → Rt 37 #[.int .i64 42, .int .i64 p, .int .i64 q, u] wx (.tuple #[.int .i64 s, .int .i64 0])) := fun wx u base hi => by
    have := vsort_any (op := 42) (p := p) (q := q) hi (by simp) (by simp)
    rw [show [a].map sof = [sof a] from rfl, hs] at this; exact this
  have HME : Hid _ := fun wx => mean_42 (p := p) (q := q) wx
  have HCL : Hid (∀ wx bo0 bo1, Below w.heap.size w wx → wx.cell? ⟨bo0, 0, none⟩ = some (.int .i64 p) → bo0 < wx.heap.size → wx.cell? ⟨bo1, 0, none⟩ = some (.int .i64 42) → bo1 < wx.heap.size → Rt 82 #[.slice (some ⟨g, o, none⟩) 1 c, .pointer (some ⟨bo0, 0, none⟩), .pointer (some ⟨bo1, 0, none⟩)] wx (.tuple #[.agg #[.int .i64 r.w, .int .u64 r.lo, .int .u64 r.hi], .int .i64 er])) := fun wx bo0 bo1 hb hc0 hl0 hc1 hl1 => cl_9 (hLb wx hb) (Nat.lt_of_lt_of_le hg hb.size) hc0 hl0 hc1 hl1 rfl HT
  have hfd : ∀ wx bo0 bo1, (Instr.field 85 (.agg #[.func (.func 82) #[] #[.pointer (some ⟨bo0, 0, none⟩), .pointer (some ⟨bo1, 0, none⟩)]]) 0).run Tryz.prog wx = .ok (.func (.func 82) #[] #[.pointer (some ⟨bo0, 0, none⟩), .pointer (some ⟨bo1, 0, none⟩)]) wx := fun wx bo0 bo1 => fld _ rfl wx
  clear h hka hs hLb
  go_enter Tryz.func15, Tryz.ntmps15
  go_wp2_with fail
  refine Calls.mono (HSO.out _ (by go_grown)) ?_
  rintro e w1 ⟨u, rfl, hI, hb⟩
  have HI : Hid _ := hI
  have hB : Below w.heap.size w w1 := Below.trans (by go_grown) (hb.mono (by simp))
  have hr : w1.heap[w.heap.size]? = some (.cells #[.int .i64 0, .int .u64 0, .int .u64 0] 34) := (hb.block _ (by simp)).trans (heap_alloc_new w _)
  have HR : Hid _ := hr
  clear hb hI hr
  go_wp2_with fail
  refine Calls.mono (HVS.out _ _ _ HI.out) ?_
  rintro e w2 ⟨rfl, hb⟩
  have hB2 : Below w.heap.size w w2 := hB.trans (hb.mono hB.size)
  have HR2 : Hid _ := (hb.block _ (Array.getElem?_eq_some_iff.1 HR.out).1).trans HR.out
  clear hb HI HR hB
  go_wp2_with fail
  refine Calls.mono (HME.out _) ?_
  rintro e w3 ⟨rfl, hb, hsz, hc0, hc1⟩
  have hB3 : Below w.heap.size w w3 := hB2.trans (hb.mono hB2.size)
  have HR3 : Hid _ := (hb.block _ (Array.getElem?_eq_some_iff.1 HR2.out).1).trans HR2.out
  have HC0 : Hid _ := hc0
  have HC1 : Hid _ := hc1
  clear hc0 hc1
  clear hb HR2 hB2
  go_wp2_with fail
  refine Calls.mono (HCL.out _ _ _ hB3 HC0.out (by omega) HC1.out (by omega)) ?_
  rintro e w4 ⟨rfl, hb⟩
  have hB4 : Below w.heap.size w w4 := hB3.trans (hb.mono hB3.size)
  have hr4 : w4.heap[w.heap.size]? = _ := (hb.block _ (Array.getElem?_eq_some_iff.1 HR3.out).1).trans HR3.out
  have t0 : w4.cell? ⟨w.heap.size, 0, none⟩ = some (.int .i64 0) := cell_of hr4 0 rfl
  have t1 : w4.cell? ⟨w.heap.size, 1, none⟩ = some (.int .u64 0) := cell_of hr4 1 rfl
  have t2 : w4.cell? ⟨w.heap.size, 2, none⟩ = some (.int .u64 0) := cell_of hr4 2 rfl
  have tf : ∀ j, w4.frozen? ⟨w.heap.size, j, none⟩ = false := fun j => by simp [World.frozen?, hr4]
  clear hb HR3 hr4 hB3
  go_wp2_with fail
  refine bodyPost_ret (v := .tuple #[.agg #[.int .i64 r.w, .int .u64 r.lo, .int .u64 r.hi], .int .i64 er]) (by simp [results, Tryz.results15, go_sem, t0, t1, t2]) rfl ?_
  exact ⟨rfl, by go_grown⟩

theorem mean_43 {p q : Int} (w : World) :
    Calls Tryz.prog 39 #[.int .i64 43, .int .i64 p, .int .i64 q] w fun e w' => e = .returned (.agg #[.func (.func 82) #[] #[.pointer (some ⟨w.heap.size + 1, 0, none⟩), .pointer (some ⟨w.heap.size, 0, none⟩)]]) ∧ Below w.heap.size w w' ∧ w.heap.size + 3 < w'.heap.size ∧ w'.cell? ⟨w.heap.size + 1, 0, none⟩ = some (.int .i64 p) ∧ w'.cell? ⟨w.heap.size, 0, none⟩ = some (.int .i64 43) := by
  have hmf := mkf
  have hsf := stf
  go_enter Tryz.func39, Tryz.ntmps39
  go_wp2_with fail
  refine bodyPost_ret (v := .agg #[.func (.func 82) #[] #[.pointer (some ⟨w.heap.size + 1, 0, none⟩), .pointer (some ⟨w.heap.size, 0, none⟩)]]) (by simp [results, Tryz.results39, go_sem]) rfl ?_
  refine ⟨rfl, by go_grown, (by first | (simp; done) | (simp; omega)), ?_, ?_⟩
  · have hn := heap_alloc_new (w.alloc (.cells #[.int .i64 43] 3)) (.cells #[.int .i64 p] 3)
    rw [size_alloc'] at hn
    refine (World.cell?_of_block ?_).trans (cell_of hn 0 rfl)
    exact (heap_alloc_old _ _ (by first | (simp; done) | (simp; omega))).trans (heap_alloc_old _ _ (by simp))
  · refine (World.cell?_of_block ?_).trans (cell_of (heap_alloc_new w (.cells #[.int .i64 43] 3)) 0 rfl)
    exact (heap_alloc_old _ _ (by first | (simp; done) | (simp; omega))).trans ((heap_alloc_old _ _ (by first | (simp; done) | (simp; omega))).trans (heap_alloc_old _ _ (by simp)))

theorem apply_43 {w : World} {g o c : Nat} {a r : Bt} {p q s er : Int} (h : Lb w g o [a]) (hg : g < w.heap.size) (hka : Bk a) (hs : srtF 43 p q [sof a] = (s, 0))
    (HT : Hid (∀ wx, Rt 83 #[.agg #[.int .i64 a.w, .int .u64 a.lo, .int .u64 a.hi], .int .i64 p, .bool false] wx (.tuple #[.agg #[.int .i64 r.w, .int .u64 r.lo, .int .u64 r.hi], .int .i64 er]))) :
    Rt 15 #[.int .i64 43, .int .i64 p, .int .i64 q, .slice (some ⟨g, o, none⟩) 1 c] w (.tuple #[.agg #[.int .i64 r.w, .int .u64 r.lo, .int .u64 r.hi], .int .i64 er]) := by
  have hLb : ∀ wx, Below w.heap.size w wx → Lb wx g o [a] := fun wx hb j x hj t u hu => by rw [hb.cell (p := ⟨g, o + j * 3 + t, none⟩) hg]; exact h j x hj t u hu
  have HSO : Hid (∀ wx, Below w.heap.size w wx → Calls Tryz.prog 38 #[.slice (some ⟨g, o, none⟩) 1 c] wx fun e w' => ∃ u, e = .returned u ∧ Is' w' wx.heap.size u ([a].map sof) ∧ Below wx.heap.size wx w') := fun wx hb => sorts_any (l := [a]) (hLb wx hb) (Nat.lt_of_lt_of_le hg hb.size) (fun x hx => by rw [List.mem_singleton.1 hx]; exact hka) (by simp)
  have HVS : Hid (∀ wx u base, Is' wx base u ([a].map sof) → Rt 37 #[.int .i64 43, .int .i64 p, .int .i64 q, u] wx (.tuple #[.int .i64 s, .int .i64 0])) := fun wx u base hi => by
    have := vsort_any (op := 43) (p := p) (q := q) hi (by simp) (by simp)
    rw [show [a].map sof = [sof a] from rfl, hs] at this; exact this
  have HME : Hid _ := fun wx => mean_43 (p := p) (q := q) wx
  have HCL : Hid (∀ wx bo0 bo1, Below w.heap.size w wx → wx.cell? ⟨bo0, 0, none⟩ = some (.int .i64 p) → bo0 < wx.heap.size → wx.cell? ⟨bo1, 0, none⟩ = some (.int .i64 43) → bo1 < wx.heap.size → Rt 82 #[.slice (some ⟨g, o, none⟩) 1 c, .pointer (some ⟨bo0, 0, none⟩), .pointer (some ⟨bo1, 0, none⟩)] wx (.tuple #[.agg #[.int .i64 r.w, .int .u64 r.lo, .int .u64 r.hi], .int .i64 er])) := fun wx bo0 bo1 hb hc0 hl0 hc1 hl1 => cl_9 (hLb wx hb) (Nat.lt_of_lt_of_le hg hb.size) hc0 hl0 hc1 hl1 rfl HT
  have hfd : ∀ wx bo0 bo1, (Instr.field 85 (.agg #[.func (.func 82) #[] #[.pointer (some ⟨bo0, 0, none⟩), .pointer (some ⟨bo1, 0, none⟩)]]) 0).run Tryz.prog wx = .ok (.func (.func 82) #[] #[.pointer (some ⟨bo0, 0, none⟩), .pointer (some ⟨bo1, 0, none⟩)]) wx := fun wx bo0 bo1 => fld _ rfl wx
  clear h hka hs hLb
  go_enter Tryz.func15, Tryz.ntmps15
  go_wp2_with fail
  refine Calls.mono (HSO.out _ (by go_grown)) ?_
  rintro e w1 ⟨u, rfl, hI, hb⟩
  have HI : Hid _ := hI
  have hB : Below w.heap.size w w1 := Below.trans (by go_grown) (hb.mono (by simp))
  have hr : w1.heap[w.heap.size]? = some (.cells #[.int .i64 0, .int .u64 0, .int .u64 0] 34) := (hb.block _ (by simp)).trans (heap_alloc_new w _)
  have HR : Hid _ := hr
  clear hb hI hr
  go_wp2_with fail
  refine Calls.mono (HVS.out _ _ _ HI.out) ?_
  rintro e w2 ⟨rfl, hb⟩
  have hB2 : Below w.heap.size w w2 := hB.trans (hb.mono hB.size)
  have HR2 : Hid _ := (hb.block _ (Array.getElem?_eq_some_iff.1 HR.out).1).trans HR.out
  clear hb HI HR hB
  go_wp2_with fail
  refine Calls.mono (HME.out _) ?_
  rintro e w3 ⟨rfl, hb, hsz, hc0, hc1⟩
  have hB3 : Below w.heap.size w w3 := hB2.trans (hb.mono hB2.size)
  have HR3 : Hid _ := (hb.block _ (Array.getElem?_eq_some_iff.1 HR2.out).1).trans HR2.out
  have HC0 : Hid _ := hc0
  have HC1 : Hid _ := hc1
  clear hc0 hc1
  clear hb HR2 hB2
  go_wp2_with fail
  refine Calls.mono (HCL.out _ _ _ hB3 HC0.out (by omega) HC1.out (by omega)) ?_
  rintro e w4 ⟨rfl, hb⟩
  have hB4 : Below w.heap.size w w4 := hB3.trans (hb.mono hB3.size)
  have hr4 : w4.heap[w.heap.size]? = _ := (hb.block _ (Array.getElem?_eq_some_iff.1 HR3.out).1).trans HR3.out
  have t0 : w4.cell? ⟨w.heap.size, 0, none⟩ = some (.int .i64 0) := cell_of hr4 0 rfl
  have t1 : w4.cell? ⟨w.heap.size, 1, none⟩ = some (.int .u64 0) := cell_of hr4 1 rfl
  have t2 : w4.cell? ⟨w.heap.size, 2, none⟩ = some (.int .u64 0) := cell_of hr4 2 rfl
  have tf : ∀ j, w4.frozen? ⟨w.heap.size, j, none⟩ = false := fun j => by simp [World.frozen?, hr4]
  clear hb HR3 hr4 hB3
  go_wp2_with fail
  refine bodyPost_ret (v := .tuple #[.agg #[.int .i64 r.w, .int .u64 r.lo, .int .u64 r.hi], .int .i64 er]) (by simp [results, Tryz.results15, go_sem, t0, t1, t2]) rfl ?_
  exact ⟨rfl, by go_grown⟩

theorem mean_44 {p q : Int} (w : World) :
    Calls Tryz.prog 39 #[.int .i64 44, .int .i64 p, .int .i64 q] w fun e w' => e = .returned (.agg #[.func (.func 84) #[] #[.pointer (some ⟨w.heap.size + 1, 0, none⟩)]]) ∧ Below w.heap.size w w' ∧ w.heap.size + 3 < w'.heap.size ∧ w'.cell? ⟨w.heap.size + 1, 0, none⟩ = some (.int .i64 p) := by
  have hmf := mkf
  have hsf := stf
  go_enter Tryz.func39, Tryz.ntmps39
  go_wp2_with fail
  refine bodyPost_ret (v := .agg #[.func (.func 84) #[] #[.pointer (some ⟨w.heap.size + 1, 0, none⟩)]]) (by simp [results, Tryz.results39, go_sem]) rfl ?_
  refine ⟨rfl, by go_grown, (by first | (simp; done) | (simp; omega)), ?_⟩
  · have hn := heap_alloc_new (w.alloc (.cells #[.int .i64 44] 3)) (.cells #[.int .i64 p] 3)
    rw [size_alloc'] at hn
    refine (World.cell?_of_block ?_).trans (cell_of hn 0 rfl)
    exact (heap_alloc_old _ _ (by first | (simp; done) | (simp; omega))).trans (heap_alloc_old _ _ (by simp))

theorem apply_44 {w : World} {g o c : Nat} {a r : Bt} {p q s er : Int} (h : Lb w g o [a]) (hg : g < w.heap.size) (hka : Bk a) (hs : srtF 44 p q [sof a] = (s, 0))
    (HT : Hid (∀ wx, Rt 85 #[.agg #[.int .i64 a.w, .int .u64 a.lo, .int .u64 a.hi], .int .i64 p] wx (.tuple #[.agg #[.int .i64 r.w, .int .u64 r.lo, .int .u64 r.hi], .int .i64 er]))) :
    Rt 15 #[.int .i64 44, .int .i64 p, .int .i64 q, .slice (some ⟨g, o, none⟩) 1 c] w (.tuple #[.agg #[.int .i64 r.w, .int .u64 r.lo, .int .u64 r.hi], .int .i64 er]) := by
  have hLb : ∀ wx, Below w.heap.size w wx → Lb wx g o [a] := fun wx hb j x hj t u hu => by rw [hb.cell (p := ⟨g, o + j * 3 + t, none⟩) hg]; exact h j x hj t u hu
  have HSO : Hid (∀ wx, Below w.heap.size w wx → Calls Tryz.prog 38 #[.slice (some ⟨g, o, none⟩) 1 c] wx fun e w' => ∃ u, e = .returned u ∧ Is' w' wx.heap.size u ([a].map sof) ∧ Below wx.heap.size wx w') := fun wx hb => sorts_any (l := [a]) (hLb wx hb) (Nat.lt_of_lt_of_le hg hb.size) (fun x hx => by rw [List.mem_singleton.1 hx]; exact hka) (by simp)
  have HVS : Hid (∀ wx u base, Is' wx base u ([a].map sof) → Rt 37 #[.int .i64 44, .int .i64 p, .int .i64 q, u] wx (.tuple #[.int .i64 s, .int .i64 0])) := fun wx u base hi => by
    have := vsort_any (op := 44) (p := p) (q := q) hi (by simp) (by simp)
    rw [show [a].map sof = [sof a] from rfl, hs] at this; exact this
  have HME : Hid _ := fun wx => mean_44 (p := p) (q := q) wx
  have HCL : Hid (∀ wx bo0, Below w.heap.size w wx → wx.cell? ⟨bo0, 0, none⟩ = some (.int .i64 p) → bo0 < wx.heap.size → Rt 84 #[.slice (some ⟨g, o, none⟩) 1 c, .pointer (some ⟨bo0, 0, none⟩)] wx (.tuple #[.agg #[.int .i64 r.w, .int .u64 r.lo, .int .u64 r.hi], .int .i64 er])) := fun wx bo0 hb hc0 hl0 => cl_10 (hLb wx hb) (Nat.lt_of_lt_of_le hg hb.size) hc0 hl0 HT
  have hfd : ∀ wx bo0, (Instr.field 85 (.agg #[.func (.func 84) #[] #[.pointer (some ⟨bo0, 0, none⟩)]]) 0).run Tryz.prog wx = .ok (.func (.func 84) #[] #[.pointer (some ⟨bo0, 0, none⟩)]) wx := fun wx bo0 => fld _ rfl wx
  clear h hka hs hLb
  go_enter Tryz.func15, Tryz.ntmps15
  go_wp2_with fail
  refine Calls.mono (HSO.out _ (by go_grown)) ?_
  rintro e w1 ⟨u, rfl, hI, hb⟩
  have HI : Hid _ := hI
  have hB : Below w.heap.size w w1 := Below.trans (by go_grown) (hb.mono (by simp))
  have hr : w1.heap[w.heap.size]? = some (.cells #[.int .i64 0, .int .u64 0, .int .u64 0] 34) := (hb.block _ (by simp)).trans (heap_alloc_new w _)
  have HR : Hid _ := hr
  clear hb hI hr
  go_wp2_with fail
  refine Calls.mono (HVS.out _ _ _ HI.out) ?_
  rintro e w2 ⟨rfl, hb⟩
  have hB2 : Below w.heap.size w w2 := hB.trans (hb.mono hB.size)
  have HR2 : Hid _ := (hb.block _ (Array.getElem?_eq_some_iff.1 HR.out).1).trans HR.out
  clear hb HI HR hB
  go_wp2_with fail
  refine Calls.mono (HME.out _) ?_
  rintro e w3 ⟨rfl, hb, hsz, hc0⟩
  have hB3 : Below w.heap.size w w3 := hB2.trans (hb.mono hB2.size)
  have HR3 : Hid _ := (hb.block _ (Array.getElem?_eq_some_iff.1 HR2.out).1).trans HR2.out
  have HC0 : Hid _ := hc0
  clear hc0
  clear hb HR2 hB2
  go_wp2_with fail
  refine Calls.mono (HCL.out _ _ hB3 HC0.out (by omega)) ?_
  rintro e w4 ⟨rfl, hb⟩
  have hB4 : Below w.heap.size w w4 := hB3.trans (hb.mono hB3.size)
  have hr4 : w4.heap[w.heap.size]? = _ := (hb.block _ (Array.getElem?_eq_some_iff.1 HR3.out).1).trans HR3.out
  have t0 : w4.cell? ⟨w.heap.size, 0, none⟩ = some (.int .i64 0) := cell_of hr4 0 rfl
  have t1 : w4.cell? ⟨w.heap.size, 1, none⟩ = some (.int .u64 0) := cell_of hr4 1 rfl
  have t2 : w4.cell? ⟨w.heap.size, 2, none⟩ = some (.int .u64 0) := cell_of hr4 2 rfl
  have tf : ∀ j, w4.frozen? ⟨w.heap.size, j, none⟩ = false := fun j => by simp [World.frozen?, hr4]
  clear hb HR3 hr4 hB3
  go_wp2_with fail
  refine bodyPost_ret (v := .tuple #[.agg #[.int .i64 r.w, .int .u64 r.lo, .int .u64 r.hi], .int .i64 er]) (by simp [results, Tryz.results15, go_sem, t0, t1, t2]) rfl ?_
  exact ⟨rfl, by go_grown⟩

/-- The program's Apply answers this. -/
def ApP (op p q : Int) (l : List Bt) (r : Bt) (er : Int) : Prop := ∀ wx gb o c, Lb wx gb o l → gb < wx.heap.size → Rt 15 #[.int .i64 op, .int .i64 p, .int .i64 q, .slice (some ⟨gb, o, none⟩) l.length c] wx (.tuple #[.agg #[.int .i64 r.w, .int .u64 r.lo, .int .u64 r.hi], .int .i64 er])
/-- The document's Apply answers this. -/
def ApD (op p q : Int) (l : List Bt) (r : Bt) (er : Int) : Prop := ∀ wx gb o c, Lb wx gb o l → gb < wx.heap.size → Rt 16 #[.int .i64 op, .int .i64 p, .int .i64 q, .slice (some ⟨gb, o, none⟩) l.length c] wx (.tuple #[.agg #[.int .i64 r.w, .int .u64 r.lo, .int .u64 r.hi], .int .i64 er])
/-- The document's meaning is this. -/
def MnD (op p q : Int) (l : List Bt) (r : Bt) : Prop := ∀ wx gb o c, Lb wx gb o l → gb < wx.heap.size → Rt 31 #[.int .i64 op, .int .i64 p, .int .i64 q, .slice (some ⟨gb, o, none⟩) l.length c] wx (.agg #[.int .i64 r.w, .int .u64 r.lo, .int .u64 r.hi])
theorem Lb.below {w wx : World} {g o : Nat} {l : List Bt} (h : Lb w g o l) (hg : g < w.heap.size) (hb : Below w.heap.size w wx) : Lb wx g o l := fun j x hj t u hu => bel_cell hb hg (h j x hj t u hu)
theorem sof_right {l : List Bt} (h : allr l) : l.map sof = l.map (·.w) := List.map_congr_left fun b hb => by unfold sof; rw [if_pos (h b hb)]
theorem srt_err {op p q : Int} {l : List Int} (h : 1 ≤ ari op) : ¬ (srtF op p q l).2 = 32 := by
  unfold srtF
  rw [if_neg (by omega)]
  split
  · split <;> simp
  · simp
theorem srt_take {op p q : Int} {l : List Int} (h : 1 ≤ ari op) : srtF op p q (l.take 4) = srtF op p q l := by
  by_cases h4 : l.length ≤ 4
  · rw [List.take_of_length_le h4]
  · have h3 : ari op ≤ 3 := by unfold ari; repeat' split <;> omega
    unfold srtF
    rw [if_neg (show ¬ ari op < 1 by omega), if_neg (fun q => by have := q.1; rw [List.length_take] at this; omega), if_neg (show ¬ ari op < 1 by omega), if_neg (fun q => by have := q.1; omega)]
theorem srt_wrong {op p q : Int} {l : List Bt} (h : 1 ≤ ari op) (hn : ¬ allr l) : srtF op p q (l.map sof) = (0, 30) := by
  have hf : fitB op p q (l.map sof) = false := by
    have : (l.map sof).all srt = false := by
      rw [List.all_eq_false]
      have : ∃ b ∈ l, ¬ rgt b.w b.lo b.hi = true := by
        apply Classical.byContradiction
        intro hc
        exact hn fun b hb => Classical.byContradiction fun hr => hc ⟨b, hb, hr⟩
      obtain ⟨b, hb, hr⟩ := this
      exact ⟨sof b, List.mem_map.2 ⟨b, hb, rfl⟩, by unfold sof; rw [if_neg hr]; decide⟩
    unfold fitB
    rw [this]; rfl
  unfold srtF
  rw [if_neg (by omega), if_neg (fun q => by rw [hf] at q; cases q.2)]
theorem srt_ok {op p q s : Int} {l : List Int} (h : srtF op p q l = (s, 0)) : (l.length : Int) = ari op ∧ fitB op p q l = true ∧ ans op p q l ≤ 128 := by
  unfold srtF at h
  split at h
  · cases h
  · split at h
    · rename_i hc
      split at h
      · rename_i ha; exact ⟨hc.1, hc.2, ha⟩
      · cases h
    · cases h
theorem pair_of {op p q s : Int} {l : List Bt} {r : Bt} (hk : ∀ b ∈ l, Bk b) (hl : l.length ≤ 8) (hne : l ≠ []) (h1 : 1 ≤ ari op) (hr : allr l) (hs : srtF op p q (l.map sof) = (s, 0)) (hD : MnD op p q l r) : ApD op p q l r 0 := by
  intro wx gb o c h hg
  refine dap_any (s := s) (e := 0) h hg hk hl hne ?_ (Or.inr (Or.inr (Or.inr ⟨rfl, hr, rfl, fun wy hb => hD wy gb o c (h.below hg hb) (Nat.lt_of_lt_of_le hg hb.size)⟩)))
  rw [List.map_take, srt_take h1, ← sof_right hr]; exact hs
theorem bool_is {b : Bt} (h : sof b = 0) : b = ⟨0, 0, 0⟩ ∨ b = ⟨0, 1, 0⟩ := by
  have hs : b.w = 0 ∧ rgt b.w b.lo b.hi = true := by
    unfold sof at h
    split at h
    · rename_i hr; exact ⟨h, hr⟩
    · omega
  obtain ⟨h0, hr⟩ := hs
  unfold rgt at hr
  rw [h0] at hr
  simp at hr
  obtain ⟨bw, bl, bh⟩ := b
  simp only at h0 hr
  subst h0
  rcases hr with ⟨rfl, rfl⟩ | ⟨rfl, rfl⟩
  · exact Or.inl rfl
  · exact Or.inr rfl
theorem list1 {α : Type} {l : List α} (h : l.length = 1) : ∃ a, l = [a] := by
  match l, h with
  | [a], _ => exact ⟨a, rfl⟩
theorem list2 {α : Type} {l : List α} (h : l.length = 2) : ∃ a b, l = [a, b] := by
  match l, h with
  | [a, b], _ => exact ⟨a, b, rfl⟩
theorem list3 {α : Type} {l : List α} (h : l.length = 3) : ∃ a b c, l = [a, b, c] := by
  match l, h with
  | [a, b, c], _ => exact ⟨a, b, c, rfl⟩
theorem mul_small {W : Nat} {p : Int} (h1 : 1 ≤ W) (hp : 1 ≤ p) (h : (W : Int) * min p 129 ≤ 128) : W * p.toNat ≤ 128 := by
  by_cases h9 : p ≤ 129
  · rw [show min p 129 = p by omega] at h
    have e : ((W * p.toNat : Nat) : Int) = (W : Int) * p := by rw [Int.natCast_mul, Int.toNat_of_nonneg (by omega)]
    omega
  · rw [show min p 129 = 129 by omega] at h
    omega
theorem pr_3 {p q s : Int} {l : List Bt} (hk : ∀ b ∈ l, Bk b) (hl : l.length = 1) (hs : srtF 3 p q (l.map sof) = (s, 0)) : ∃ r, ApP 3 p q l r 0 ∧ MnD 3 p q l r := by
  obtain ⟨a, rfl⟩ := list1 hl
  have ha := hk a (by simp)
  have hf := (srt_ok hs).2.1
  simp [fitB, opf, alk, nft, srt] at hf
  have s1 : sof a = 0 := by omega
  have hs' : srtF 3 p q [sof a] = (s, 0) := hs
  refine ⟨bT (!tru a), fun wx gb o c h hg => apply_3 h hg ha hs', fun wx gb o c h hg => ?_⟩
  have hd : (!dtr a) = (!tru a) := by rcases bool_is s1 with rfl | rfl <;> decide
  have h1 := dm_3 (cc := c) (p := p) (q := q) h hg
  rw [hd] at h1
  exact h1
theorem pr_4 {p q s : Int} {l : List Bt} (hk : ∀ b ∈ l, Bk b) (hl : l.length = 2) (hs : srtF 4 p q (l.map sof) = (s, 0)) : ∃ r, ApP 4 p q l r 0 ∧ MnD 4 p q l r := by
  obtain ⟨a, b, rfl⟩ := list2 hl
  have ha := hk a (by simp)
  have hb := hk b (by simp)
  have hf := (srt_ok hs).2.1
  simp [fitB, opf, alk, nft, srt] at hf
  have s1 : sof a = 0 := by omega
  have s2 : sof b = 0 := by omega
  have hs' : srtF 4 p q [sof a, sof b] = (s, 0) := hs
  refine ⟨bT (tru a && tru b), fun wx gb o c h hg => apply_and h hg ha hb hs', fun wx gb o c h hg => ?_⟩
  have hd : (dtr a && dtr b) = (tru a && tru b) := by
    rcases bool_is s1 with rfl | rfl <;> rcases bool_is s2 with rfl | rfl <;> decide
  have h1 := dm_4 (cc := c) (p := p) (q := q) h hg
  rw [hd] at h1
  exact h1
theorem pr_5 {p q s : Int} {l : List Bt} (hk : ∀ b ∈ l, Bk b) (hl : l.length = 2) (hs : srtF 5 p q (l.map sof) = (s, 0)) : ∃ r, ApP 5 p q l r 0 ∧ MnD 5 p q l r := by
  obtain ⟨a, b, rfl⟩ := list2 hl
  have ha := hk a (by simp)
  have hb := hk b (by simp)
  have hf := (srt_ok hs).2.1
  simp [fitB, opf, alk, nft, srt] at hf
  have s1 : sof a = 0 := by omega
  have s2 : sof b = 0 := by omega
  have hs' : srtF 5 p q [sof a, sof b] = (s, 0) := hs
  refine ⟨bT (tru a || tru b), fun wx gb o c h hg => apply_or h hg ha hb hs', fun wx gb o c h hg => ?_⟩
  have hd : (dtr a || dtr b) = (tru a || tru b) := by
    rcases bool_is s1 with rfl | rfl <;> rcases bool_is s2 with rfl | rfl <;> decide
  have h1 := dm_5 (cc := c) (p := p) (q := q) h hg
  rw [hd] at h1
  exact h1
theorem pr_7 {p q s : Int} {l : List Bt} (hk : ∀ b ∈ l, Bk b) (hl : l.length = 2) (hs : srtF 7 p q (l.map sof) = (s, 0)) : ∃ r, ApP 7 p q l r 0 ∧ MnD 7 p q l r := by
  obtain ⟨a, b, rfl⟩ := list2 hl
  have ha := hk a (by simp)
  have hb := hk b (by simp)
  have hf := (srt_ok hs).2.1
  simp [fitB, opf, alk, nft, srt] at hf
  have s1 : sof a = 0 := by omega
  have s2 : sof b = 0 := by omega
  have hs' : srtF 7 p q [sof a, sof b] = (s, 0) := hs
  refine ⟨bT (!tru a || tru b), fun wx gb o c h hg => apply_imp h hg ha hb hs', fun wx gb o c h hg => ?_⟩
  have hd : (!dtr a || dtr b) = (!tru a || tru b) := by
    rcases bool_is s1 with rfl | rfl <;> rcases bool_is s2 with rfl | rfl <;> decide
  have h1 := dm_7 (cc := c) (p := p) (q := q) h hg
  rw [hd] at h1
  exact h1
theorem pr_6 {p q s : Int} {l : List Bt} (hk : ∀ b ∈ l, Bk b) (hl : l.length = 2) (hs : srtF 6 p q (l.map sof) = (s, 0)) : ∃ r, ApP 6 p q l r 0 ∧ MnD 6 p q l r := by
  obtain ⟨a, b, rfl⟩ := list2 hl
  have ha := hk a (by simp)
  have hb := hk b (by simp)
  have hf := (srt_ok hs).2.1
  simp [fitB, opf, alk, nft, srt] at hf
  have s1 : sof a = 0 := by omega
  have s2 : sof b = 0 := by omega
  have hs' : srtF 6 p q [sof a, sof b] = (s, 0) := hs
  refine ⟨bT (tru a != tru b), fun wx gb o c h hg => apply_xor h hg ha hb hs', fun wx gb o c h hg => ?_⟩
  have hd : (!eqT a b) = (tru a != tru b) := by
    rcases bool_is s1 with rfl | rfl <;> rcases bool_is s2 with rfl | rfl <;> decide
  have h1 := dm_6 (cc := c) (p := p) (q := q) (r := bT (!eqT a b)) h hg (fun wy => dbool (!eqT a b) wy)
  rw [hd] at h1
  exact h1
theorem pr_8 {p q s : Int} {l : List Bt} (hk : ∀ b ∈ l, Bk b) (hl : l.length = 2) (hs : srtF 8 p q (l.map sof) = (s, 0)) : ∃ r, ApP 8 p q l r 0 ∧ MnD 8 p q l r := by
  obtain ⟨a, b, rfl⟩ := list2 hl
  have ha := hk a (by simp)
  have hb := hk b (by simp)
  have hs' : srtF 8 p q [sof a, sof b] = (s, 0) := hs
  exact ⟨bT (eqT a b), fun wx gb o c h hg => apply_eq h hg ha hb hs', fun wx gb o c h hg => dm_8 (r := bT (eqT a b)) h hg (fun wy => dbool (eqT a b) wy)⟩
theorem pr_9 {p q s : Int} {l : List Bt} (hk : ∀ b ∈ l, Bk b) (hl : l.length = 3) (hs : srtF 9 p q (l.map sof) = (s, 0)) : ∃ r, ApP 9 p q l r 0 ∧ MnD 9 p q l r := by
  obtain ⟨a, b, d, rfl⟩ := list3 hl
  have ha := hk a (by simp)
  have hb := hk b (by simp)
  have hd := hk d (by simp)
  have hf := (srt_ok hs).2.1
  simp [fitB, opf, alk, nft, srt] at hf
  have s1 : sof a = 0 := by omega
  have hs' : srtF 9 p q [sof a, sof b, sof d] = (s, 0) := hs
  refine ⟨if tru a then b else d, fun wx gb o c h hg => apply_ite h hg ha hb hd hs', fun wx gb o c h hg => ?_⟩
  have he : dtr a = tru a := by rcases bool_is s1 with rfl | rfl <;> decide
  have h1 := dm_9 (cc := c) (p := p) (q := q) h hg
  rw [he] at h1
  exact h1
theorem pr_10 {p q s : Int} {l : List Bt} (hk : ∀ b ∈ l, Bk b) (hl : l.length = 1) (hs : srtF 10 p q (l.map sof) = (s, 0)) : ∃ r, ApP 10 p q l r 0 ∧ MnD 10 p q l r := by
  obtain ⟨a, rfl⟩ := list1 hl
  have ha := hk a (by simp)
  obtain ⟨-, hf, han⟩ := srt_ok hs
  simp [fitB, opf, alk, nft, srt] at hf
  simp [ans] at han
  have s1 : 1 ≤ sof a := by omega
  have hs' : srtF 10 p q [sof a] = (s, 0) := hs
  obtain ⟨W, n, h1, h2, hn, hW, hsW⟩ := word_is ha s1
  obtain ⟨r, c1, c2⟩ : ∃ r, Both _ _ _ r := one_fit10 h1 h2 hn
  subst hW
  exact ⟨r, fun wx gb o c h hg => apply_10 h hg ha hs' c1, fun wx gb o c h hg => dm_10 h hg c2⟩
theorem pr_11 {p q s : Int} {l : List Bt} (hk : ∀ b ∈ l, Bk b) (hl : l.length = 1) (hs : srtF 11 p q (l.map sof) = (s, 0)) : ∃ r, ApP 11 p q l r 0 ∧ MnD 11 p q l r := by
  obtain ⟨a, rfl⟩ := list1 hl
  have ha := hk a (by simp)
  obtain ⟨-, hf, han⟩ := srt_ok hs
  simp [fitB, opf, alk, nft, srt] at hf
  simp [ans] at han
  have s1 : 1 ≤ sof a := by omega
  have hs' : srtF 11 p q [sof a] = (s, 0) := hs
  obtain ⟨W, n, h1, h2, hn, hW, hsW⟩ := word_is ha s1
  obtain ⟨r, c1, c2⟩ : ∃ r, Both _ _ _ r := one_fit11 h1 h2 hn
  subst hW
  exact ⟨r, fun wx gb o c h hg => apply_11 h hg ha hs' c1, fun wx gb o c h hg => dm_11 h hg c2⟩
theorem pr_39 {p q s : Int} {l : List Bt} (hk : ∀ b ∈ l, Bk b) (hl : l.length = 1) (hs : srtF 39 p q (l.map sof) = (s, 0)) : ∃ r, ApP 39 p q l r 0 ∧ MnD 39 p q l r := by
  obtain ⟨a, rfl⟩ := list1 hl
  have ha := hk a (by simp)
  obtain ⟨-, hf, han⟩ := srt_ok hs
  simp [fitB, opf, alk, nft, srt] at hf
  simp [ans] at han
  have s1 : 1 ≤ sof a := by omega
  have hs' : srtF 39 p q [sof a] = (s, 0) := hs
  obtain ⟨W, n, h1, h2, hn, hW, hsW⟩ := word_is ha s1
  obtain ⟨r, c1, c2⟩ : ∃ r, Both _ _ _ r := extract_fit (i := p) (j := q) h1 h2 hn (by omega)
  subst hW
  exact ⟨r, fun wx gb o c h hg => apply_39 h hg ha hs' c1, fun wx gb o c h hg => dm_39 h hg c2⟩
theorem pr_40 {p q s : Int} {l : List Bt} (hk : ∀ b ∈ l, Bk b) (hl : l.length = 1) (hs : srtF 40 p q (l.map sof) = (s, 0)) : ∃ r, ApP 40 p q l r 0 ∧ MnD 40 p q l r := by
  obtain ⟨a, rfl⟩ := list1 hl
  have ha := hk a (by simp)
  obtain ⟨-, hf, han⟩ := srt_ok hs
  simp [fitB, opf, alk, nft, srt] at hf
  simp [ans] at han
  have s1 : 1 ≤ sof a := by omega
  have hs' : srtF 40 p q [sof a] = (s, 0) := hs
  obtain ⟨W, n, h1, h2, hn, hW, hsW⟩ := word_is ha s1
  obtain ⟨r, c1, c2⟩ : ∃ r, Both _ _ _ r := extend_fit (i := p) false h1 h2 hn (by omega) (by omega)
  subst hW
  exact ⟨r, fun wx gb o c h hg => apply_40 h hg ha hs' c1, fun wx gb o c h hg => dm_40 h hg c2⟩
theorem pr_41 {p q s : Int} {l : List Bt} (hk : ∀ b ∈ l, Bk b) (hl : l.length = 1) (hs : srtF 41 p q (l.map sof) = (s, 0)) : ∃ r, ApP 41 p q l r 0 ∧ MnD 41 p q l r := by
  obtain ⟨a, rfl⟩ := list1 hl
  have ha := hk a (by simp)
  obtain ⟨-, hf, han⟩ := srt_ok hs
  simp [fitB, opf, alk, nft, srt] at hf
  simp [ans] at han
  have s1 : 1 ≤ sof a := by omega
  have hs' : srtF 41 p q [sof a] = (s, 0) := hs
  obtain ⟨W, n, h1, h2, hn, hW, hsW⟩ := word_is ha s1
  obtain ⟨r, c1, c2⟩ : ∃ r, Both _ _ _ r := extend_fit (i := p) true h1 h2 hn (by omega) (by omega)
  subst hW
  exact ⟨r, fun wx gb o c h hg => apply_41 h hg ha hs' c1, fun wx gb o c h hg => dm_41 h hg c2⟩
theorem pr_42 {p q s : Int} {l : List Bt} (hk : ∀ b ∈ l, Bk b) (hl : l.length = 1) (hs : srtF 42 p q (l.map sof) = (s, 0)) (hp64 : p < 9223372036854775808) : ∃ r, ApP 42 p q l r 0 ∧ MnD 42 p q l r := by
  obtain ⟨a, rfl⟩ := list1 hl
  have ha := hk a (by simp)
  obtain ⟨-, hf, han⟩ := srt_ok hs
  simp [fitB, opf, alk, nft, srt] at hf
  simp [ans] at han
  have s1 : 1 ≤ sof a := by omega
  have hs' : srtF 42 p q [sof a] = (s, 0) := hs
  obtain ⟨W, n, h1, h2, hn, hW, hsW⟩ := word_is ha s1
  obtain ⟨r, c1, c2⟩ : ∃ r, Both _ _ _ r := rotate_fit (i := p) true h1 h2 hn (by omega) hp64
  subst hW
  exact ⟨r, fun wx gb o c h hg => apply_42 h hg ha hs' c1, fun wx gb o c h hg => dm_42 h hg c2⟩
theorem pr_43 {p q s : Int} {l : List Bt} (hk : ∀ b ∈ l, Bk b) (hl : l.length = 1) (hs : srtF 43 p q (l.map sof) = (s, 0)) (hp64 : p < 9223372036854775808) : ∃ r, ApP 43 p q l r 0 ∧ MnD 43 p q l r := by
  obtain ⟨a, rfl⟩ := list1 hl
  have ha := hk a (by simp)
  obtain ⟨-, hf, han⟩ := srt_ok hs
  simp [fitB, opf, alk, nft, srt] at hf
  simp [ans] at han
  have s1 : 1 ≤ sof a := by omega
  have hs' : srtF 43 p q [sof a] = (s, 0) := hs
  obtain ⟨W, n, h1, h2, hn, hW, hsW⟩ := word_is ha s1
  obtain ⟨r, c1, c2⟩ : ∃ r, Both _ _ _ r := rotate_fit (i := p) false h1 h2 hn (by omega) hp64
  subst hW
  exact ⟨r, fun wx gb o c h hg => apply_43 h hg ha hs' c1, fun wx gb o c h hg => dm_43 h hg c2⟩
theorem pr_44 {p q s : Int} {l : List Bt} (hk : ∀ b ∈ l, Bk b) (hl : l.length = 1) (hs : srtF 44 p q (l.map sof) = (s, 0)) : ∃ r, ApP 44 p q l r 0 ∧ MnD 44 p q l r := by
  obtain ⟨a, rfl⟩ := list1 hl
  have ha := hk a (by simp)
  obtain ⟨-, hf, han⟩ := srt_ok hs
  simp [fitB, opf, alk, nft, srt] at hf
  simp [ans] at han
  have s1 : 1 ≤ sof a := by omega
  have hs' : srtF 44 p q [sof a] = (s, 0) := hs
  obtain ⟨W, n, h1, h2, hn, hW, hsW⟩ := word_is ha s1
  obtain ⟨r, c1, c2⟩ : ∃ r, Both _ _ _ r := repeat_fit (i := p) h1 h2 hn (by omega) (mul_small h1 hf.2.1 (by rw [← hsW]; exact han))
  subst hW
  exact ⟨r, fun wx gb o c h hg => apply_44 h hg ha hs' c1, fun wx gb o c h hg => dm_44 h hg c2⟩
theorem pr_38 {p q s : Int} {l : List Bt} (hk : ∀ b ∈ l, Bk b) (hl : l.length = 2) (hs : srtF 38 p q (l.map sof) = (s, 0)) : ∃ r, ApP 38 p q l r 0 ∧ MnD 38 p q l r := by
  obtain ⟨a, b, rfl⟩ := list2 hl
  have ha := hk a (by simp)
  have hb := hk b (by simp)
  obtain ⟨-, hf, han⟩ := srt_ok hs
  simp [fitB, opf, alk, nft, srt] at hf
  simp [ans] at han
  have s1 : 1 ≤ sof a := by omega
  have s2 : 1 ≤ sof b := by omega
  have hs' : srtF 38 p q [sof a, sof b] = (s, 0) := hs
  obtain ⟨W, n, h1, h2, hn, hW, hsW⟩ := word_is ha s1
  obtain ⟨V, m, k1, k2, hm, hV, hsV⟩ := word_is hb s2
  obtain ⟨r, c1, c2⟩ : ∃ r, Both _ _ _ r := concat_fit h1 h2 hn k1 k2 hm (by omega)
  subst hW hV
  exact ⟨r, fun wx gb o c h hg => apply_38 h hg ha hb hs' c1, fun wx gb o c h hg => dm_38 h hg c2⟩
theorem pr_two {op p q s : Int} {l : List Bt} (hk : ∀ b ∈ l, Bk b) (hl : l.length = 2) (hs : srtF op p q (l.map sof) = (s, 0)) (o1 : 12 ≤ op) (o2 : op ≤ 37) : ∃ r, ApP op p q l r 0 ∧ MnD op p q l r := by
  obtain ⟨a, b, rfl⟩ := list2 hl
  have ha := hk a (by simp)
  have hb := hk b (by simp)
  obtain ⟨-, hf, han⟩ := srt_ok hs
  have hopf : opf op [sof a, sof b] = (!decide (sof a = 0) && alk [sof a, sof b]) := by
    unfold opf
    rw [if_neg (by omega), if_neg (by omega), if_neg (by omega), if_neg (by omega)]; rfl
  have hf' : ([sof a, sof b].all srt && opf op [sof a, sof b] && nft op p q (sof a)) = true := hf
  rw [hopf] at hf'
  simp [alk, srt] at hf'
  have s1 : 1 ≤ sof a := by omega
  have s2 : 1 ≤ sof b := by omega
  have hs' : srtF op p q [sof a, sof b] = (s, 0) := hs
  obtain ⟨W, n, h1, h2, hn, hW, hsW⟩ := word_is ha s1
  obtain ⟨V, m, k1, k2, hm, hV, hsV⟩ := word_is hb s2
  obtain rfl : V = W := by omega
  obtain ⟨r, c1, c2⟩ : ∃ r, Both _ _ _ r := two_fit h1 h2 hn hm o1 o2
  subst hW hV
  exact ⟨r, fun wx gb o c h hg => apply_two o1 o2 h hg ha hb hs' c1, fun wx gb o c h hg => dm_two o1 o2 h hg c2⟩
theorem pr_all {op p q s : Int} {l : List Bt} (hk : ∀ b ∈ l, Bk b) (hp64 : p < 9223372036854775808) (h1 : 1 ≤ ari op) (hs : srtF op p q (l.map sof) = (s, 0)) : ∃ r, ApP op p q l r 0 ∧ MnD op p q l r := by
  have hlen := (srt_ok hs).1
  rw [List.length_map] at hlen
  have hr := ari_range h1
  by_cases ho : 12 ≤ op ∧ op ≤ 37
  · have e : ari op = 2 := by unfold ari; rw [if_neg (by omega), if_neg (by omega), if_neg (by omega), if_neg (by omega)]
    exact pr_two hk (by omega) hs ho.1 ho.2
  · have hx : op = 3 ∨ op = 4 ∨ op = 5 ∨ op = 6 ∨ op = 7 ∨ op = 8 ∨ op = 9 ∨ op = 10 ∨ op = 11 ∨ op = 38 ∨ op = 39 ∨ op = 40 ∨ op = 41 ∨ op = 42 ∨ op = 43 ∨ op = 44 := by omega
    rcases hx with rfl | rfl | rfl | rfl | rfl | rfl | rfl | rfl | rfl | rfl | rfl | rfl | rfl | rfl | rfl | rfl
    · exact pr_3 hk (by rw [show ari 3 = 1 by decide] at hlen; omega) hs
    · exact pr_4 hk (by rw [show ari 4 = 2 by decide] at hlen; omega) hs
    · exact pr_5 hk (by rw [show ari 5 = 2 by decide] at hlen; omega) hs
    · exact pr_6 hk (by rw [show ari 6 = 2 by decide] at hlen; omega) hs
    · exact pr_7 hk (by rw [show ari 7 = 2 by decide] at hlen; omega) hs
    · exact pr_8 hk (by rw [show ari 8 = 2 by decide] at hlen; omega) hs
    · exact pr_9 hk (by rw [show ari 9 = 3 by decide] at hlen; omega) hs
    · exact pr_10 hk (by rw [show ari 10 = 1 by decide] at hlen; omega) hs
    · exact pr_11 hk (by rw [show ari 11 = 1 by decide] at hlen; omega) hs
    · exact pr_38 hk (by rw [show ari 38 = 2 by decide] at hlen; omega) hs
    · exact pr_39 hk (by rw [show ari 39 = 1 by decide] at hlen; omega) hs
    · exact pr_40 hk (by rw [show ari 40 = 1 by decide] at hlen; omega) hs
    · exact pr_41 hk (by rw [show ari 41 = 1 by decide] at hlen; omega) hs
    · exact pr_42 hk (by rw [show ari 42 = 1 by decide] at hlen; omega) hs hp64
    · exact pr_43 hk (by rw [show ari 43 = 1 by decide] at hlen; omega) hs hp64
    · exact pr_44 hk (by rw [show ari 44 = 1 by decide] at hlen; omega) hs
/-- Whatever is handed in (but nothing): both answer the same. -/
theorem apply_pair {op p q : Int} {l : List Bt} (hk : ∀ b ∈ l, Bk b) (hl : l.length ≤ 8) (hne : l ≠ []) (hp64 : p < 9223372036854775808) : ∃ r er, ApP op p q l r er ∧ ApD op p q l r er := by
  by_cases hA : ari op < 1
  · have e : ∀ m, srtF op p q m = (0, 32) := fun m => by unfold srtF; rw [if_pos hA]
    exact ⟨zBt, 32, fun wx gb o c h hg => apply_err h hg hk hl hne (e _) (by decide), fun wx gb o c h hg => dap_any h hg hk hl hne (e _) (Or.inl ⟨rfl, rfl, rfl⟩)⟩
  · have h1 : 1 ≤ ari op := by omega
    by_cases hr : allr l
    · obtain ⟨s, e, hse⟩ : ∃ s e, srtF op p q (l.map sof) = (s, e) := ⟨_, _, rfl⟩
      by_cases he : e = 0
      · subst he
        obtain ⟨r, c1, c2⟩ := pr_all hk hp64 h1 hse
        exact ⟨r, 0, c1, pair_of hk hl hne h1 hr hse c2⟩
      · have e32 : ¬ e = 32 := by have := srt_err (p := p) (q := q) (l := l.map sof) h1; rw [hse] at this; exact this
        refine ⟨zBt, e, fun wx gb o c h hg => apply_err h hg hk hl hne hse he, fun wx gb o c h hg => dap_any (s := s) (e := e) h hg hk hl hne ?_ (Or.inr (Or.inr (Or.inl ⟨e32, he, hr, rfl, rfl⟩)))⟩
        rw [List.map_take, srt_take h1, ← sof_right hr]; exact hse
    · have hse := srt_wrong (p := p) (q := q) h1 hr
      obtain ⟨s, e, hde⟩ : ∃ s e, srtF op p q ((l.take 4).map (·.w)) = (s, e) := ⟨_, _, rfl⟩
      have e32 : ¬ e = 32 := by have := srt_err (p := p) (q := q) (l := (l.take 4).map (·.w)) h1; rw [hde] at this; exact this
      exact ⟨zBt, 30, fun wx gb o c h hg => apply_err h hg hk hl hne hse (by decide), fun wx gb o c h hg => dap_any h hg hk hl hne hde (Or.inr (Or.inl ⟨e32, hr, rfl, rfl⟩))⟩
end Go.Proofs.YtnflphhckgeneaaGreat
