/- Contracts (the laws): places; tables. · Contracts (the laws): tables of variables and of choices. -/
import Derived.Test.YtkmkmgnfolpphaaDoorDE24
namespace Go.Proofs.YtkmkmgnfolpphaaDoor
open Go.RowKit
set_option linter.unusedSimpArgs false
set_option linter.unusedVariables false

theorem place_emod {k n : Int} (hn : 0 < n) : k % n = if k.tmod n < 0 then k.tmod n + n else k.tmod n := by
  rw [Int.tmod_eq_emod]
  have h1 := Int.emod_nonneg k (by omega : n ≠ 0)
  have h2 := Int.emod_lt_of_pos k hn
  have e : (n.natAbs : Int) = n := by omega
  split
  · rw [if_neg (by omega)]; omega
  · next hq =>
    have : ¬ n ∣ k := fun h => hq (Or.inr h)
    have h3 : k % n ≠ 0 := fun h => this (Int.dvd_of_emod_eq_zero h)
    rw [if_pos (by omega)]; omega
theorem tmod_rng {k n : Int} (hn : 0 < n) : -n ≤ k.tmod n ∧ k.tmod n < n := by
  have h1 := place_emod (k := k) hn
  have h2 := Int.emod_nonneg k (by omega : n ≠ 0)
  have h3 := Int.emod_lt_of_pos k hn
  split at h1 <;> omega
set_option maxHeartbeats 1600000 in
theorem place_any {k n : Int} (hn : 0 < n) (hn2 : n ≤ 1000000000) (w : World) :
    Calls Tryd.prog 20 #[.int .i64 k, .int .i64 n] w fun e w' => e = .returned (.int .i64 (k % n)) ∧ w' = w := by
  have hp := place_emod (k := k) hn
  obtain ⟨r1, r2⟩ := tmod_rng (k := k) hn
  obtain ⟨T, hT⟩ : ∃ T, T = k.tmod n := ⟨_, rfl⟩
  obtain ⟨R, hR⟩ : ∃ R, R = k % n := ⟨_, rfl⟩
  rw [← hR]
  rw [← hT, ← hR] at hp
  rw [← hT] at r1 r2
  have z : ¬ n = 0 := by omega
  have eT : k.tmod n = T := hT.symm
  have eW : wrap64 T = T := by unfold wrap64; omega
  by_cases hneg : T < 0
  · rw [if_pos hneg] at hp
    have HR : Hid _ := hp
    clear hp hT hR
    go_enter Tryd.func20, Tryd.ntmps20
    go_wp2_with fail
    go_ret
    exact ⟨by rw [HR.out]; rfl, rfl⟩
  · rw [if_neg hneg] at hp
    have HR : Hid _ := hp
    clear hp hT hR
    go_enter Tryd.func20, Tryd.ntmps20
    go_wp2_with fail
    go_ret
    exact ⟨by rw [HR.out]; rfl, rfl⟩
theorem and_one (l : Nat) (h : l < 1000000) : bits .and .i64 (l : Int) 1 = ((l % 2 : Nat) : Int) := by
  have h1 : bits .and .i64 (l : Int) 1 = IntKind.i64.wrap (((BitVec.ofInt 64 (l : Int) &&& BitVec.ofInt 64 1).toNat : Nat) : Int) := rfl
  rw [h1, IntKind.wrap_i64, BitVec.toNat_and, show (BitVec.ofInt 64 1).toNat = 1 from rfl, Nat.and_one_is_mod, BitVec.toNat_ofInt]
  have e64 : ((2 ^ 64 : Nat) : Int) = 18446744073709551616 := rfl
  rw [e64]
  omega
/-- The j-th bit of n. -/
def bt (n j : Nat) : Bool := bits .and .i64 ((n : Int) / 2 ^ min j 64) 1 == 1
theorem bt_eq {n : Nat} (hn : n < 1000000) (j : Nat) : bt n j = n.testBit j := by
  unfold bt
  have h1 : ((n : Int) / 2 ^ min j 64) = ((n / 2 ^ min j 64 : Nat) : Int) := by simp
  have h2 : n / 2 ^ min j 64 < 1000000 := Nat.lt_of_le_of_lt (Nat.div_le_self _ _) hn
  rw [h1, and_one _ h2, Nat.testBit_eq_decide_div_mod_eq]
  have h3 : n / 2 ^ min j 64 = n / 2 ^ j := by
    by_cases hj : j ≤ 64
    · rw [Nat.min_eq_left hj]
    · rw [Nat.min_eq_right (by omega), Nat.div_eq_of_lt (Nat.lt_trans hn (by decide)), Nat.div_eq_of_lt (Nat.lt_of_lt_of_le (Nat.lt_trans hn (show 1000000 < 2 ^ 64 by decide)) (Nat.pow_le_pow_right (by decide) (by omega)))]
  rw [h3]
  rcases Nat.mod_two_eq_zero_or_one (n / 2 ^ j) with e | e <;> rw [e] <;> rfl

def N2 (n : Nat) : Nat := 2 ^ n
theorem n2_le {n : Nat} (h : n ≤ 7) : N2 n ≤ 128 ∧ 1 ≤ N2 n := ⟨by unfold N2; exact Nat.le_trans (Nat.pow_le_pow_right (by decide) h) (by decide), Nat.one_le_two_pow⟩
theorem two_pow {n : Nat} (h : n ≤ 7) : wrap64 ((2 : Int) ^ n) = (N2 n : Int) := by
  have e : (2 : Int) ^ n = (N2 n : Int) := by unfold N2; simp
  have := (n2_le h).1
  rw [e]
  unfold wrap64
  omega
/-- A slice of truths that was made. -/
structure Tn (w w' : World) (v : Value) (l : List Bool) : Prop where
  ex : ∃ r, v = .slice (some ⟨r, 0, none⟩) l.length l.length
  bo : Bo w' w.heap.size v l
  bel : Below w.heap.size w w'
theorem fill_set {f : Nat → Bool} {k N : Nat} (hk : k < N) : (((List.range k).map f ++ List.replicate (N - k) false).set k (f k)) = (List.range (k + 1)).map f ++ List.replicate (N - (k + 1)) false := by
  rw [List.set_append_right _ _ (by simp), List.length_map, List.length_range, Nat.sub_self, show N - k = (N - (k + 1)) + 1 by omega, List.replicate_succ, List.set_cons_zero, List.range_succ, List.map_append, List.append_assoc]
  rfl
theorem fill_len {f : Nat → Bool} {k N : Nat} (hk : k ≤ N) : ((List.range k).map f ++ List.replicate (N - k) false).length = N := by simp; omega
theorem fill_end {f : Nat → Bool} {N : Nat} : (List.range N).map f ++ List.replicate (N - N) false = (List.range N).map f := by simp
set_option maxRecDepth 20000 in
set_option maxHeartbeats 3200000 in
theorem tconst_any {n : Nat} (hn : n ≤ 7) (b : Bool) (w : World) :
    Calls Tryd.prog 31 #[.int .i64 (n : Int), .bool b] w fun e w' => ∃ u, e = .returned u ∧ Tn w w' u ((List.range (N2 n)).map fun _ => b) := by
  obtain ⟨q1, q2⟩ := n2_le hn
  have eP := two_pow hn
  obtain ⟨N, hN⟩ : ∃ N, N = N2 n := ⟨_, rfl⟩
  rw [← hN] at q1 q2 eP ⊢
  have hmk : ∀ wx, (Instr.makeSlice 34 (.int .i64 (N : Int)) (.int .i64 (N : Int))).run Tryd.prog wx = .ok (.slice (some ⟨wx.heap.size, 0, none⟩) N N) (wx.alloc (.cells (madeCells #[.bool false] N) 4)) := fun wx => run_make_row' (P := Tryd.prog) 34 4 (.bool false) 1 (by kernel_rfl) infoBool rfl .i64 .i64 N (by omega) (by omega) wx
  have HMB : Hid _ := Bo.made w (n := N) (by omega)
  clear hN
  go_enter Tryd.func31, Tryd.ntmps31
  go_wp2_with fail
  go_loopw [6] (fun i wr => ∃ k : Nat, k ≤ N ∧ i = .int .i64 (k : Int) ∧ Hid (Below w.heap.size w wr ∧ Bo wr w.heap.size (.slice (some ⟨w.heap.size, 0, none⟩) N N) ((List.range k).map (fun _ => b) ++ List.replicate (N - k) false))) (fun i wr => N - (intOf i).toNat)
  case atStart => exact ⟨0, Nat.zero_le _, rfl, by go_grown, by simpa using HMB.out⟩
  case round =>
    obtain ⟨k, hk, rfl, hH⟩ := hrel
    by_cases hlt : k < N
    · obtain ⟨c1, c2, c3⟩ := hH.out.2.put (j := k) (by rw [fill_len hk]; exact hlt)
      have HB := (c3 b).1
      rw [fill_set (f := fun _ => b) hlt] at HB
      have HB2 : Hid _ := HB
      have HB3 : Hid _ := hH.out.1.trans (c3 b).2
      have hltI : (k : Int) < (N : Int) := by omega
      have hsz := hH.out.1.size
      have hsz2 := (hH.out.2.lt).2.1
      clear c3 HB
      go_wp2_with fail
      refine ⟨⟨k + 1, by omega, by go_num, HB3.out, HB2.out⟩, by simp [intOf]; omega⟩
    · obtain rfl : k = N := by omega
      go_wp2_with fail
      go_ret
      have h2 := hH.out.2
      rw [fill_end] at h2
      exact ⟨_, rfl, ⟨_, by simp; rfl⟩, h2, hH.out.1⟩
end Go.Proofs.YtkmkmgnfolpphaaDoor
namespace Go.Proofs.YtkmkmgnfolpphaaDoor
open Go.RowKit

set_option maxRecDepth 20000 in
set_option maxHeartbeats 3200000 in
theorem tof_any {n i : Nat} (hn : n ≤ 7) (hi : i ≤ 7) (w : World) :
    Calls Tryd.prog 33 #[.int .i64 (n : Int), .int .i64 (i : Int)] w fun e w' => ∃ u, e = .returned u ∧ Tn w w' u ((List.range (N2 n)).map fun k => bt k i) := by
  obtain ⟨q1, q2⟩ := n2_le hn
  have eP := two_pow hn
  obtain ⟨N, hN⟩ : ∃ N, N = N2 n := ⟨_, rfl⟩
  rw [← hN] at q1 q2 eP ⊢
  have hmk : ∀ wx, (Instr.makeSlice 34 (.int .i64 (N : Int)) (.int .i64 (N : Int))).run Tryd.prog wx = .ok (.slice (some ⟨wx.heap.size, 0, none⟩) N N) (wx.alloc (.cells (madeCells #[.bool false] N) 4)) := fun wx => run_make_row' (P := Tryd.prog) 34 4 (.bool false) 1 (by kernel_rfl) infoBool rfl .i64 .i64 N (by omega) (by omega) wx
  have HMB : Hid _ := Bo.made w (n := N) (by omega)
  clear hN
  go_enter Tryd.func33, Tryd.ntmps33
  go_wp2_with fail
  go_loopw [6] (fun x wr => ∃ k : Nat, k ≤ N ∧ x = .int .i64 (k : Int) ∧ Hid (Below w.heap.size w wr ∧ Bo wr w.heap.size (.slice (some ⟨w.heap.size, 0, none⟩) N N) ((List.range k).map (fun j => bt j i) ++ List.replicate (N - k) false))) (fun x wr => N - (intOf x).toNat)
  case atStart => exact ⟨0, Nat.zero_le _, rfl, by go_grown, by simpa using HMB.out⟩
  case round =>
    obtain ⟨k, hk, rfl, hH⟩ := hrel
    by_cases hlt : k < N
    · obtain ⟨c1, c2, c3⟩ := hH.out.2.put (j := k) (by rw [fill_len hk]; exact hlt)
      have HB := (c3 (bt k i)).1
      rw [fill_set (f := fun j => bt j i) hlt] at HB
      have hb3 := hH.out.1.trans (c3 (bt k i)).2
      have e : bt k i = (bits BinOp.and IntKind.i64 ((k : Int) / 2 ^ i) 1 == 1) := by unfold bt; rw [Nat.min_eq_left (by omega)]
      rw [e] at HB hb3
      have HB2 : Hid _ := HB
      have HB3 : Hid _ := hb3
      have hltI : (k : Int) < (N : Int) := by omega
      have hsz := hH.out.1.size
      have hsz2 := (hH.out.2.lt).2.1
      clear c3 HB e hb3
      go_wp2_with fail
      refine ⟨⟨k + 1, by omega, by go_num, HB3.out, HB2.out⟩, by simp [intOf]; omega⟩
    · obtain rfl : k = N := by omega
      go_wp2_with fail
      go_ret
      have h2 := hH.out.2
      rw [fill_end] at h2
      exact ⟨_, rfl, ⟨_, by simp; rfl⟩, h2, hH.out.1⟩
theorem Bz.at' {w w' : World} {v : Value} {l : List Bool} (h : Bz w v l) (hb : Below w.heap.size w w') {j : Nat} (hj : j < l.length) : ∃ r o c, v = .slice (some ⟨r, o, none⟩) l.length c ∧ r < w.heap.size ∧ w'.cell? ⟨r, o + j, none⟩ = some (.bool (l.getD j false)) := by
  obtain ⟨a, c, e, h2⟩ := h.ex
  rcases h2 with h2 | ⟨r, o, h3, h4, h5⟩
  · rw [h2] at hj; simp at hj
  · exact ⟨r, o, c, by rw [e, h3], h4, by rw [hb.cell (p := ⟨r, o + j, none⟩) h4]; exact h5 j hj⟩
/-- The table of a choice. -/
def iteT (f g h : List Bool) : List Bool := (List.range f.length).map fun k => if f.getD k false then g.getD k false else h.getD k false
set_option maxRecDepth 20000 in
set_option maxHeartbeats 6400000 in
theorem tite_any {w : World} {u v z : Value} {f g h : List Bool} (hu : Bz w u f) (hv : Bz w v g) (hz : Bz w z h) (hf : f.length ≤ 128) (hg : g.length = f.length) (hh : h.length = f.length) :
    Calls Tryd.prog 35 #[u, v, z] w fun e w' => ∃ u, e = .returned u ∧ Tn w w' u (iteT f g h) := by
  have HU : Hid _ := hu
  have HV : Hid _ := hv
  have HZ : Hid _ := hz
  obtain ⟨a1, c1, rfl, -⟩ := hu.ex
  obtain ⟨a2, c2, rfl, -⟩ := hv.ex
  obtain ⟨a3, c3, rfl, -⟩ := hz.ex
  rw [hg] at HV ⊢
  rw [hh] at HZ ⊢
  have HG : Hid _ := hg
  have HH : Hid _ := hh
  unfold iteT
  obtain ⟨T, hT⟩ : ∃ T : Nat → Bool, T = fun k => if f.getD k false then g.getD k false else h.getD k false := ⟨_, rfl⟩
  rw [← hT]
  have HT : Hid _ := hT
  obtain ⟨N, hN⟩ : ∃ N, N = f.length := ⟨_, rfl⟩
  rw [← hN] at hf HU HV HZ HG HH ⊢
  have HN : Hid _ := hN
  have hmk : ∀ wx, (Instr.makeSlice 34 (.int .i64 (N : Int)) (.int .i64 (N : Int))).run Tryd.prog wx = .ok (.slice (some ⟨wx.heap.size, 0, none⟩) N N) (wx.alloc (.cells (madeCells #[.bool false] N) 4)) := fun wx => run_make_row' (P := Tryd.prog) 34 4 (.bool false) 1 (by kernel_rfl) infoBool rfl .i64 .i64 N (by omega) (by omega) wx
  have HMB : Hid _ := Bo.made w (n := N) (by omega)
  clear hN hT hg hh hu hv hz
  go_enter Tryd.func35, Tryd.ntmps35
  go_wp2_with fail
  go_loopw [8] (fun x wr => ∃ k : Nat, k ≤ N ∧ x = .int .i64 (k : Int) ∧ Hid (Below w.heap.size w wr ∧ Bo wr w.heap.size (.slice (some ⟨w.heap.size, 0, none⟩) N N) ((List.range k).map T ++ List.replicate (N - k) false))) (fun x wr => N - (intOf x).toNat)
  case atStart => exact ⟨0, Nat.zero_le _, rfl, by go_grown, by simpa using HMB.out⟩
  case round =>
    obtain ⟨k, hk, rfl, hH⟩ := hrel
    by_cases hlt : k < N
    · obtain ⟨c1', c2', c3'⟩ := hH.out.2.put (j := k) (by rw [fill_len hk]; exact hlt)
      have HB := (c3' (T k)).1
      rw [fill_set (f := T) hlt] at HB
      have HB2 : Hid _ := HB
      have HB3 : Hid _ := hH.out.1.trans (c3' (T k)).2
      have hltI : (k : Int) < (N : Int) := by omega
      have hsz := hH.out.1.size
      have hsz2 := (hH.out.2.lt).2.1
      obtain ⟨r1, o1, k1, e1, l1, d1⟩ := HU.out.at' hH.out.1 (j := k) (by rw [← HN.out]; exact hlt)
      obtain ⟨r2, o2, k2, e2, l2, d2⟩ := HV.out.at' hH.out.1 (j := k) (by rw [HG.out]; exact hlt)
      obtain ⟨r3, o3, k3, e3, l3, d3⟩ := HZ.out.at' hH.out.1 (j := k) (by rw [HH.out]; exact hlt)
      injection e1 with e1 _ _
      injection e2 with e2 _ _
      injection e3 with e3 _ _
      subst e1 e2 e3
      have hTk : T k = if f.getD k false then g.getD k false else h.getD k false := by rw [HT.out]
      clear c3' HB
      cases hfk : f.getD k false
      · rw [hfk] at d1
        rw [hfk, if_neg (by decide)] at hTk
        rw [← hTk] at d3
        clear d2
        obtain ⟨y, hy⟩ : ∃ y, y = T k := ⟨_, rfl⟩
        rw [← hy] at d3 HB2 HB3
        clear hy hTk hfk
        go_wp2_with fail
        refine ⟨⟨k + 1, by omega, by go_num, HB3.out, HB2.out⟩, by simp [intOf]; omega⟩
      · rw [hfk] at d1
        rw [hfk, if_pos rfl] at hTk
        rw [← hTk] at d2
        clear d3
        obtain ⟨y, hy⟩ : ∃ y, y = T k := ⟨_, rfl⟩
        rw [← hy] at d2 HB2 HB3
        clear hy hTk hfk
        go_wp2_with fail
        refine ⟨⟨k + 1, by omega, by go_num, HB3.out, HB2.out⟩, by simp [intOf]; omega⟩
    · obtain rfl : k = N := by omega
      go_wp2_with fail
      go_ret
      have h2 := hH.out.2
      rw [fill_end] at h2
      exact ⟨_, rfl, ⟨_, by simp; rfl⟩, h2, hH.out.1⟩
end Go.Proofs.YtkmkmgnfolpphaaDoor
