/- Contracts (values of terms): a choice, a comparison, truths. -/
import Derived.Test.YtnflphhckgeneaaEA3
namespace Go.Proofs.Ytnflphhckgeneaa
open Go.RowKit
set_option linter.unusedSimpArgs false
set_option linter.unusedVariables false

/-- Two values alike. -/
def eqT (a b : Bt) : Bool := decide (a.w = b.w) && decide (a.lo = b.lo) && decide (a.hi = b.hi)
theorem eq2 (a b : Bt) (w : World) : (binOp .eql 24 (.agg #[.int .i64 a.w, .int .u64 a.lo, .int .u64 a.hi]) (.agg #[.int .i64 b.w, .int .u64 b.lo, .int .u64 b.hi])).run Try.prog w = .ok (.bool (eqT a b)) w := by
  unfold eqT
  by_cases h1 : a.w = b.w
  · by_cases h2 : a.lo = b.lo
    · by_cases h3 : a.hi = b.hi <;> simp [go_sem, h1, h2, h3]
    · simp [go_sem, h1, h2]
  · simp [go_sem, h1]
/-- A truth as a value. -/
def bT (b : Bool) : Bt := ⟨0, if b then 1 else 0, 0⟩

set_option maxRecDepth 20000 in
set_option maxHeartbeats 6400000 in
theorem apply_ite {w : World} {g o c : Nat} {a b d : Bt} {p q s : Int} (h : Lb w g o [a, b, d]) (hg : g < w.heap.size) (hka : Bk a) (hkb : Bk b) (hkd : Bk d) (hs : srtF 9 p q [sof a, sof b, sof d] = (s, 0)) :
    Calls Try.prog 5 #[.int .i64 9, .int .i64 p, .int .i64 q, .slice (some ⟨g, o, none⟩) 3 c] w fun e w' => e = .returned (.tuple #[.agg #[.int .i64 (if tru a then b else d).w, .int .u64 (if tru a then b else d).lo, .int .u64 (if tru a then b else d).hi], .int .i64 0]) ∧ Below w.heap.size w w' := by
  have hLb : ∀ wx, Below w.heap.size w wx → Lb wx g o [a, b, d] := fun wx hb j x hj t u hu => by rw [hb.cell (p := ⟨g, o + j * 3 + t, none⟩) hg]; exact h j x hj t u hu
  have HSO : Hid (∀ wx, Below w.heap.size w wx → Calls Try.prog 13 #[.slice (some ⟨g, o, none⟩) 3 c] wx fun e w' => ∃ u, e = .returned u ∧ Is' w' wx.heap.size u ([a, b, d].map sof) ∧ Below wx.heap.size wx w') := fun wx hb => sorts_any (l := [a, b, d]) (hLb wx hb) (Nat.lt_of_lt_of_le hg hb.size) (fun x hx => by
    rcases List.mem_cons.1 hx with rfl | hx
    · exact hka
    · rcases List.mem_cons.1 hx with rfl | hx
      · exact hkb
      · rw [List.mem_singleton.1 hx]; exact hkd) (by simp)
  have HVS : Hid (∀ wx u base, Is' wx base u ([a, b, d].map sof) → Calls Try.prog 12 #[.int .i64 9, .int .i64 p, .int .i64 q, u] wx fun e w' => e = .returned (.tuple #[.int .i64 s, .int .i64 0]) ∧ Below wx.heap.size wx w') := fun wx u base hi => by
    have := vsort_any (op := 9) (p := p) (q := q) hi (by simp) (by simp)
    rw [show [a, b, d].map sof = [sof a, sof b, sof d] from rfl, hs] at this; exact this
  have HME : Hid _ := fun wx => mean_ite (p := p) (q := q) wx
  obtain ⟨r, hr⟩ : ∃ r, r = (if tru a then b else d) := ⟨_, rfl⟩
  have HCL : Hid (∀ wx, Below w.heap.size w wx → Calls Try.prog 36 #[.slice (some ⟨g, o, none⟩) 3 c] wx fun e w' => e = .returned (.tuple #[.agg #[.int .i64 r.w, .int .u64 r.lo, .int .u64 r.hi], .int .i64 0]) ∧ Below wx.heap.size wx w') := fun wx hb => by rw [hr]; exact choose_any (hLb wx hb) (Nat.lt_of_lt_of_le hg hb.size)
  have hfd : ∀ wx, (Instr.field 50 (.agg #[.func (.func 36) #[] #[]]) 0).run Try.prog wx = .ok (.func (.func 36) #[] #[]) wx := fun wx => fld _ rfl wx
  rw [← hr]
  clear h hka hkb hkd hs hLb hr
  go_enter Try.func5, Try.ntmps5
  go_wp2_with fail
  refine Calls.mono (HSO.out _ (by go_grown)) ?_
  rintro e w1 ⟨u, rfl, hI, hb⟩
  have HI : Hid _ := hI
  have hB : Below w.heap.size w w1 := Below.trans (by go_grown) (hb.mono (by simp))
  have hr : w1.heap[w.heap.size]? = some (.cells #[.int .i64 0, .int .u64 0, .int .u64 0] 24) := (hb.block _ (by simp)).trans (heap_alloc_new w _)
  have HR : Hid _ := hr
  clear hb hI hr
  go_wp2_with fail
  refine Calls.mono (HVS.out _ _ _ HI.out) ?_
  rintro e w2 ⟨rfl, hb⟩
  have hB2 : Below w.heap.size w w2 := hB.trans (hb.mono hB.size)
  have HR2 : Hid _ := (hb.block _ (Array.getElem?_eq_some_iff.1 HR.out).1).trans HR.out
  clear hb HI HR hB
  go_wp2_with fail
  refine Calls.mono (HME.out _) ?_
  rintro e w3 ⟨rfl, hb⟩
  have hB3 : Below w.heap.size w w3 := hB2.trans (hb.mono hB2.size)
  have HR3 : Hid _ := (hb.block _ (Array.getElem?_eq_some_iff.1 HR2.out).1).trans HR2.out
  clear hb HR2 hB2
  go_wp2_with fail
  refine Calls.mono (HCL.out _ hB3) ?_
  rintro e w4 ⟨rfl, hb⟩
  have hB4 : Below w.heap.size w w4 := hB3.trans (hb.mono hB3.size)
  have hr4 : w4.heap[w.heap.size]? = _ := (hb.block _ (Array.getElem?_eq_some_iff.1 HR3.out).1).trans HR3.out
  have t0 : w4.cell? ⟨w.heap.size, 0, none⟩ = some (.int .i64 0) := cell_of hr4 0 rfl
  have t1 : w4.cell? ⟨w.heap.size, 1, none⟩ = some (.int .u64 0) := cell_of hr4 1 rfl
  have t2 : w4.cell? ⟨w.heap.size, 2, none⟩ = some (.int .u64 0) := cell_of hr4 2 rfl
  have tf : ∀ j, w4.frozen? ⟨w.heap.size, j, none⟩ = false := fun j => by simp [World.frozen?, hr4]
  clear hb HR3 hr4 hB3
  go_wp2_with fail
  refine bodyPost_ret (v := .tuple #[.agg #[.int .i64 r.w, .int .u64 r.lo, .int .u64 r.hi], .int .i64 0]) (by simp [results, Try.results5, go_sem, t0, t1, t2]) rfl ?_
  exact ⟨rfl, by go_grown⟩

set_option maxRecDepth 20000 in
set_option maxHeartbeats 6400000 in
theorem same_any {w : World} {g o cc : Nat} {a b : Bt} (h : Lb w g o [a, b]) (hg : g < w.heap.size) :
    Calls Try.prog 35 #[.slice (some ⟨g, o, none⟩) 2 cc] w fun e w' => e = .returned (.tuple #[.agg #[.int .i64 (bT (eqT a b)).w, .int .u64 (bT (eqT a b)).lo, .int .u64 (bT (eqT a b)).hi], .int .i64 0]) ∧ Below w.heap.size w w' := by
  have a0 : w.cell? ⟨g, o, none⟩ = some (.int .i64 a.w) := h 0 a rfl 0 _ rfl
  have a1 : w.cell? ⟨g, o + 1, none⟩ = some (.int .u64 a.lo) := h 0 a rfl 1 _ rfl
  have a2 : w.cell? ⟨g, o + 2, none⟩ = some (.int .u64 a.hi) := h 0 a rfl 2 _ rfl
  have b0 : w.cell? ⟨g, o + 3, none⟩ = some (.int .i64 b.w) := h 1 b rfl 0 _ rfl
  have b1 : w.cell? ⟨g, o + 4, none⟩ = some (.int .u64 b.lo) := h 1 b rfl 1 _ rfl
  have b2 : w.cell? ⟨g, o + 5, none⟩ = some (.int .u64 b.hi) := h 1 b rfl 2 _ rfl
  have heq := eq2 a b
  obtain ⟨y, hy⟩ : ∃ y, y = eqT a b := ⟨_, rfl⟩
  rw [← hy] at heq ⊢
  obtain ⟨L, hL⟩ : ∃ L : Int, L = if y then 1 else 0 := ⟨_, rfl⟩
  have HB : Hid (∀ wx, Calls Try.prog 61 #[.bool y] wx fun e w' => e = .returned (.agg #[.int .i64 0, .int .u64 L, .int .u64 0]) ∧ Below wx.heap.size wx w') := fun wx => by rw [hL]; exact bool_any y wx
  show Calls Try.prog 35 #[.slice (some ⟨g, o, none⟩) 2 cc] w fun e w' => e = .returned (.tuple #[.agg #[.int .i64 0, .int .u64 (if y then 1 else 0), .int .u64 0], .int .i64 0]) ∧ Below w.heap.size w w'
  rw [← hL]
  clear h hy hL
  go_enter Try.func35, Try.ntmps35
  go_wp2_with fail
  go_region_with ((go_at_call 61; refine Calls.mono (HB.out _) ?_; rintro e w1 ⟨rfl, hb⟩; have hB : Below w.heap.size w w1 := Below.trans (by go_grown) (hb.mono (by first | (simp; done) | (simp; omega) | omega)); have qa0 : w1.cell? ⟨g, o, none⟩ = some (.int .i64 a.w) := bel_cell hB hg a0; have qa1 : w1.cell? ⟨g, o + 1, none⟩ = some (.int .u64 a.lo) := bel_cell hB hg a1; have qa2 : w1.cell? ⟨g, o + 2, none⟩ = some (.int .u64 a.hi) := bel_cell hB hg a2; have qb0 : w1.cell? ⟨g, o + 3, none⟩ = some (.int .i64 b.w) := bel_cell hB hg b0; have qb1 : w1.cell? ⟨g, o + 4, none⟩ = some (.int .u64 b.lo) := bel_cell hB hg b1; have qb2 : w1.cell? ⟨g, o + 5, none⟩ = some (.int .u64 b.hi) := bel_cell hB hg b2; have r0 : w1.cell? ⟨w.heap.size, 0, none⟩ = some (.int .i64 0) := (by rw [hb.cell (p := ⟨w.heap.size, 0, none⟩) (by first | (simp; done) | (simp; omega) | omega)]; first | (simp [go_sem]; done) | assumption); have r1 : w1.cell? ⟨w.heap.size, 1, none⟩ = some (.int .u64 0) := (by rw [hb.cell (p := ⟨w.heap.size, 1, none⟩) (by first | (simp; done) | (simp; omega) | omega)]; first | (simp [go_sem]; done) | assumption); have r2 : w1.cell? ⟨w.heap.size, 2, none⟩ = some (.int .u64 0) := (by rw [hb.cell (p := ⟨w.heap.size, 2, none⟩) (by first | (simp; done) | (simp; omega) | omega)]; first | (simp [go_sem]; done) | assumption); have rf : ∀ j, w1.frozen? ⟨w.heap.size, j, none⟩ = false := (fun j => by rw [hb.frozen (p := ⟨w.heap.size, j, none⟩) (by first | (simp; done) | (simp; omega) | omega)]; first | (simp [go_sem]; done) | apply_assumption); have hsz : w.heap.size < w1.heap.size := (by have := hb.size; first | omega | (simp at this; omega)); clear hb))
  all_goals
    go_wp2_with fail
    refine bodyPost_ret (v := .tuple #[.agg #[.int .i64 0, .int .u64 L, .int .u64 0], .int .i64 0]) (by simp [results, Try.results35, go_sem, r0, r1, r2]) rfl ?_
    exact ⟨rfl, by go_grown⟩

theorem f_and (x y : Bool) (w : World) : Calls Try.prog 31 #[.bool x, .bool y] w fun e w' => e = .returned (.bool (x && y)) ∧ w' = w := by
  cases x
  · go_enter Try.func31, Try.ntmps31
    go_wp2_with fail
    go_ret
    exact ⟨rfl, rfl⟩
  · go_enter Try.func31, Try.ntmps31
    go_wp2_with fail
    go_ret
    exact ⟨by simp, rfl⟩
theorem f_or (x y : Bool) (w : World) : Calls Try.prog 32 #[.bool x, .bool y] w fun e w' => e = .returned (.bool (x || y)) ∧ w' = w := by
  cases x
  · go_enter Try.func32, Try.ntmps32
    go_wp2_with fail
    go_ret
    exact ⟨by simp, rfl⟩
  · go_enter Try.func32, Try.ntmps32
    go_wp2_with fail
    go_ret
    exact ⟨rfl, rfl⟩
theorem f_xor (x y : Bool) (w : World) : Calls Try.prog 33 #[.bool x, .bool y] w fun e w' => e = .returned (.bool (x != y)) ∧ w' = w := by
  go_enter Try.func33, Try.ntmps33
  go_wp2_with fail
  go_ret
  exact ⟨rfl, rfl⟩

end Go.Proofs.Ytnflphhckgeneaa
