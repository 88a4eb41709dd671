/- Contracts (dd): numbers of one piece. -/
import Derived.Test.YtkmkmgnfolpphaaDoorDE17
namespace Go.Proofs.YtkmkmgnfolpphaaDoor
open Go.RowKit
set_option linter.unusedSimpArgs false
set_option linter.unusedVariables false

/-- v is a slice of one number. -/
structure Um (w : World) (v : Value) (x : Int) : Prop where
  ex : ∃ r o c, v = .slice (some ⟨r, o, none⟩) 1 c ∧ r < w.heap.size ∧ w.cell? ⟨r, o, none⟩ = some (.int .u64 x)
theorem Um.bel {w w' : World} {v : Value} {x : Int} (h : Um w v x) (hb : Below w.heap.size w w') : Um w' v x := by
  obtain ⟨r, o, c, e, h1, h2⟩ := h.ex
  exact ⟨r, o, c, e, Nat.lt_of_lt_of_le h1 hb.size, by rw [hb.cell (p := ⟨r, o, none⟩) h1]; exact h2⟩
/-- .. of the call's own. -/
structure Un (w : World) (B : Nat) (v : Value) (x : Int) : Prop where
  ex : ∃ r, v = .slice (some ⟨r, 0, none⟩) 1 1 ∧ B ≤ r ∧ r < w.heap.size ∧ w.cell? ⟨r, 0, none⟩ = some (.int .u64 x) ∧ w.frozen? ⟨r, 0, none⟩ = false
theorem Un.um {w : World} {B : Nat} {v : Value} {x : Int} (h : Un w B v x) : Um w v x := by
  obtain ⟨r, e, h1, h2, h3, -⟩ := h.ex
  exact ⟨r, 0, 1, e, h2, h3⟩
theorem infoU : (Tryd.prog.info? 102).map (fun i => (i.zero, i.size, i.bytes)) = some (some (.int .u64 0), 1, 8) := by kernel_rfl
theorem underDec : Tryd.prog.underlying 87 = some (.slice 102) := by kernel_rfl
theorem made1 : (madeCells #[Value.int .u64 0] 1) = #[Value.int .u64 0] := by kernel_rfl
theorem make1 (wx : World) : (Instr.makeSlice 87 (.int .i64 1) (.int .i64 1)).run Tryd.prog wx = .ok (.slice (some ⟨wx.heap.size, 0, none⟩) 1 1) (wx.alloc (.cells #[.int .u64 0] 102)) := by
  have := run_make_row' (P := Tryd.prog) 87 102 (.int .u64 0) 8 underDec infoU rfl .i64 .i64 1 (by decide) (by decide) wx
  rw [made1] at this
  exact this
set_option maxRecDepth 20000 in
set_option maxHeartbeats 1600000 in
theorem sum1 {w : World} {u v : Value} {x y : Int} (hu : Um w u x) (hv : Um w v y) (hx : 0 ≤ x) (hy : 0 ≤ y) (hs : x + y < 1000000000000000000) :
    Calls Tryd.prog 62 #[u, v] w fun e w' => ∃ t, e = .returned t ∧ Un w' w.heap.size t (x + y) ∧ Below w.heap.size w w' := by
  obtain ⟨ru, ou, cu, rfl, hru, hcu⟩ := hu.ex
  obtain ⟨rv, ov, cv, rfl, hrv, hcv⟩ := hv.ex
  have hmk := make1
  have HCU : Hid (w.cell? ⟨ru, ou, none⟩ = _) := hcu
  have HCV : Hid (w.cell? ⟨rv, ov, none⟩ = _) := hcv
  have e1 : IntKind.u64.wrap (x + y) = x + y := by rw [IntKind.wrap_u64]; omega
  have e3 : (x + y).tdiv 1000000000000000000 = 0 := Int.tdiv_eq_zero_of_lt (by omega) hs
  have e4 : (x + y).tmod 1000000000000000000 = x + y := Int.tmod_eq_of_lt (by omega) hs
  clear hu hv hcu hcv
  go_enter Tryd.func62, Tryd.ntmps62
  go_wp2_with fail
  go_loopw [13, 6] (fun i c wr => ∃ (k : Nat) (z : Int), k ≤ 1 ∧ i = .int .i64 (k : Int) ∧ c = .int .u64 0 ∧ Hid (k = 1 → z = x + y) ∧ wr.cell? ⟨w.heap.size, 0, none⟩ = some (.int .u64 z) ∧ wr.frozen? ⟨w.heap.size, 0, none⟩ = false ∧ w.heap.size < wr.heap.size ∧ Below w.heap.size w wr) (fun i c wr => 1 - (intOf i).toNat)
  case atStart => exact ⟨0, 0, by omega, rfl, rfl, (fun h => by omega), by simp, by simp, by simp, by go_grown⟩
  case round =>
    obtain ⟨k, z, hk, rfl, rfl, hz, hc0, hf0, hsz, hB⟩ := hrel
    have cu2 : wr.cell? ⟨ru, ou, none⟩ = some (.int .u64 x) := bel_cell hB hru HCU.out
    have cv2 : wr.cell? ⟨rv, ov, none⟩ = some (.int .u64 y) := bel_cell hB hrv HCV.out
    have n1 : ru ≠ w.heap.size := by omega
    have n2 : rv ≠ w.heap.size := by omega
    obtain rfl | rfl : k = 0 ∨ k = 1 := by omega
    · have b0 : (((0 : Nat) : Int)) < 1 := by decide
      go_wp2_with fail
      go_region
      all_goals
        go_wp2_with fail
        exact ⟨⟨1, x + y, by omega, by go_num, rfl, fun _ => rfl, World.cell?_setCell_same _ _ _ (World.cell?_setCell_same _ _ _ hc0), by simp [hf0], by simp; omega, by go_grown⟩, by simp [intOf]⟩
    · have b0 : ¬ (((1 : Nat) : Int)) < 1 := by decide
      have HZ : Hid (z = x + y) := hz.out rfl
      go_wp2_with fail
      go_ret
      exact ⟨_, rfl, ⟨_, rfl, Nat.le_refl _, hsz, by rw [hc0, HZ.out], hf0⟩, hB⟩
set_option maxRecDepth 20000 in
set_option maxHeartbeats 1600000 in
theorem mean1 {w : World} {u v : Value} {x y m : Int} (hu : Um w u x) (hv : Um w v y) (hx : 0 ≤ x) (hy : 0 ≤ y) (hs : x + y < 1000000000000000000) (hm : x + y = 2 * m) :
    Calls Tryd.prog 51 #[u, v] w fun e w' => ∃ t, e = .returned t ∧ Un w' w.heap.size t m ∧ Below w.heap.size w w' := by
  have HS : Hid _ := sum1 hu hv hx hy hs
  obtain ⟨z, hz⟩ : ∃ z, z = x + y := ⟨_, rfl⟩
  rw [← hz] at HS hs hm
  have hm0 : 0 ≤ m := by omega
  have e1 : IntKind.u64.wrap z = z := by rw [IntKind.wrap_u64]; omega
  have e3 : z.tmod 2 = 0 := by rw [hm]; simp
  have e4 : z.tdiv 2 = m := by rw [hm]; simp
  have hz0 : 0 ≤ z := by omega
  have e5 : IntKind.u64.wrap m = m := by rw [IntKind.wrap_u64]; omega
  clear hu hv hx hy hm hz
  go_enter Tryd.func51, Tryd.ntmps51
  go_wp2_with fail
  refine Calls.mono HS.out ?_
  rintro e w1 ⟨t, rfl, hun, hb1⟩
  obtain ⟨r, rfl, hr1, hr2, hr3, hr4⟩ := hun.ex
  have HB1 : Hid _ := hb1
  clear hun hb1
  go_wp2_with fail
  go_loopw [7, 6] (fun i c wr => ∃ (k : Int) (q : Int), -1 ≤ k ∧ k ≤ 0 ∧ i = .int .i64 k ∧ c = .int .u64 0 ∧ Hid ((k = 0 → q = z) ∧ (k = -1 → q = m)) ∧ wr.cell? ⟨r, 0, none⟩ = some (.int .u64 q) ∧ wr.frozen? ⟨r, 0, none⟩ = false ∧ r < wr.heap.size ∧ Below w.heap.size w wr) (fun i c wr => (intOf i + 1).toNat)
  case atStart => exact ⟨0, z, by omega, by omega, rfl, rfl, ⟨fun _ => rfl, fun h => by omega⟩, hr3, hr4, hr2, HB1.out⟩
  case round =>
    obtain ⟨k, q, hk1, hk2, rfl, rfl, hq, hc0, hf0, hsz, hB⟩ := hrel
    obtain rfl | rfl : k = 0 ∨ k = -1 := by omega
    · have hqz : q = z := hq.out.1 rfl
      rw [hqz] at hc0
      clear hqz
      go_wp2_with fail
      exact ⟨⟨-1, m, by omega, by omega, rfl, rfl, ⟨fun h => by omega, fun _ => rfl⟩, World.cell?_setCell_same _ _ _ (World.cell?_setCell_same _ _ _ hc0), by simp [hf0], by simp; omega, by go_grown⟩, by simp [intOf]⟩
    · have HQ : Hid (q = m) := hq.out.2 rfl
      go_wp2_with fail
      go_ret
      exact ⟨_, rfl, ⟨_, rfl, hr1, hsz, by rw [hc0, HQ.out], hf0⟩, hB⟩
set_option maxRecDepth 20000 in
set_option maxHeartbeats 1600000 in
theorem pow1 (n : Nat) (hn : n ≤ 58) (w : World) :
    Calls Tryd.prog 50 #[.int .i64 (n : Int)] w fun e w' => ∃ t, e = .returned t ∧ Un w' w.heap.size t (2 ^ n : Nat) ∧ Below w.heap.size w w' := by
  have hmk := make1
  have e1 : ((n : Int)).tdiv 59 = 0 := Int.tdiv_eq_zero_of_lt (by omega) (by omega)
  have HS : Hid (∀ wx u (k : Nat), k ≤ 57 → Um wx u (2 ^ k : Nat) → Calls Tryd.prog 62 #[u, u] wx fun e w' => ∃ t, e = .returned t ∧ Un w' wx.heap.size t (2 ^ (k + 1) : Nat) ∧ Below wx.heap.size wx w') := fun wx u k hk hu => by
    have hp : (2 ^ k : Nat) ≤ 2 ^ 57 := Nat.pow_le_pow_right (by decide) hk
    have hp2 : (2 ^ 57 : Nat) = 144115188075855872 := by decide
    rw [hp2] at hp
    rw [Nat.pow_succ]
    generalize 2 ^ k = Q at hp hu ⊢
    have h := sum1 hu hu (by omega) (by omega) (by omega)
    rw [show (Q : Int) + (Q : Int) = ((Q * 2 : Nat) : Int) by omega] at h
    exact h
  go_enter Tryd.func50, Tryd.ntmps50
  go_wp2_with fail
  go_loopw [11, 3] (fun i d wr => ∃ (k : Nat), k ≤ n ∧ i = .int .i64 (k : Int) ∧ Hid (Un wr w.heap.size d (2 ^ k : Nat)) ∧ Below w.heap.size w wr) (fun i d wr => n - (intOf i).toNat)
  case atStart => exact ⟨0, by omega, rfl, ⟨w.heap.size, rfl, Nat.le_refl _, by simp, by simp, by simp⟩, by go_grown⟩
  case round =>
    obtain ⟨k, hk, rfl, hd, hB⟩ := hrel
    obtain ⟨d, hdd⟩ : ∃ d, d = u3 := ⟨_, rfl⟩
    rw [← hdd] at hd ⊢
    clear hdd
    by_cases hlt : k < n
    · have hltI : (k : Int) < (n : Int) := by omega
      have hsz := hB.size
      go_wp2_with fail
      refine Calls.mono (HS.out wr d k (by omega) hd.out.um) ?_
      rintro e w1 ⟨t, rfl, hun, hb1⟩
      have HUN : Hid (Un w1 w.heap.size t (2 ^ (k + 1) : Nat)) := by
        obtain ⟨r, q1, q2, q3, q4, q5⟩ := hun.ex
        exact ⟨r, q1, by omega, q3, q4, q5⟩
      have HB1 : Hid (Below w.heap.size w w1) := hB.trans (hb1.mono hsz)
      clear hun hb1
      go_wp2_with fail
      exact ⟨⟨k + 1, by omega, by go_num, HUN.out, HB1.out⟩, by simp [intOf]; omega⟩
    · obtain rfl : k = n := by omega
      have hltI : ¬ (k : Int) < (k : Int) := by omega
      go_wp2_with fail
      go_ret
      exact ⟨d, rfl, hd.out, hB⟩
end Go.Proofs.YtkmkmgnfolpphaaDoor
