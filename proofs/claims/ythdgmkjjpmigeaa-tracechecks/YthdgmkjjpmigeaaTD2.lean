/- Contracts (the document's clauses): resolve. -/
import Derived.Test.YthdgmkjjpmigeaaTD1
namespace Go.Proofs.Ythdgmkjjpmigeaa
open Go.RowKit
set_option linter.unusedSimpArgs false
set_option linter.unusedVariables false

/-- The literals of c whose opposites d has. -/
def clsh (d c : List Int) : List Int := c.filter fun x => decide (-x ∈ d)
/-- What resolve answers. -/
def resD (c d : List Int) : Option (List Int) :=
  if (clsh d c).length = 1 then some (setF (c.filter (fun y => decide (y ≠ (clsh d c).getLastD 0)) ++ d.filter (fun y => decide (y ≠ -(clsh d c).getLastD 0)))) else none
def clK (d c : List Int) (k : Nat) : List Int := clsh d (c.take k)
def fiK (c : List Int) (x : Int) (k : Nat) : List Int := (c.take k).filter fun y => decide (y ≠ x)
theorem clK_end (d c : List Int) : clK d c c.length = clsh d c := by unfold clK; rw [List.take_length]
theorem fiK_end (c : List Int) (x : Int) : fiK c x c.length = c.filter (fun y => decide (y ≠ x)) := by unfold fiK; rw [List.take_length]
theorem clK_yes {d c : List Int} {k : Nat} {x : Int} (h : c[k]? = some x) (hx : -x ∈ d) : clK d c (k + 1) = clK d c k ++ [x] := by
  unfold clK clsh; rw [List.take_add_one, h, List.filter_append]; simp [hx]
theorem clK_no {d c : List Int} {k : Nat} {x : Int} (h : c[k]? = some x) (hx : ¬ -x ∈ d) : clK d c (k + 1) = clK d c k := by
  unfold clK clsh; rw [List.take_add_one, h, List.filter_append]; simp [hx]
theorem fiK_yes {c : List Int} {k : Nat} {x y : Int} (h : c[k]? = some y) (hx : y ≠ x) : fiK c x (k + 1) = fiK c x k ++ [y] := by
  unfold fiK; rw [List.take_add_one, h, List.filter_append]; simp [hx]
theorem fiK_no {c : List Int} {k : Nat} {x y : Int} (h : c[k]? = some y) (hx : y = x) : fiK c x (k + 1) = fiK c x k := by
  unfold fiK; rw [List.take_add_one, h, List.filter_append]; simp [hx]
theorem clK_len (d c : List Int) (k : Nat) : (clK d c k).length ≤ k := by
  unfold clK clsh; have := List.length_filter_le (fun x => decide (-x ∈ d)) (c.take k); rw [List.length_take] at this; omega
theorem fiK_len (c : List Int) (x : Int) (k : Nat) : (fiK c x k).length ≤ k := by
  unfold fiK; have := List.length_filter_le (fun y => decide (y ≠ x)) (c.take k); rw [List.length_take] at this; omega
theorem IsSl.nil : IsSl (.slice none 0 0) := ⟨⟨_, _, _, rfl⟩⟩
theorem Is'.isl {w : World} {B : Nat} {v : Value} {l : List Int} (h : Is' w B v l) : IsSl v := by
  obtain ⟨a, m, k, e, -⟩ := own_sl h
  exact ⟨⟨a, m, k, e⟩⟩
theorem clsh_in {d c : List Int} {x : Int} (hx : x ∈ clsh d c) : x ∈ c := (List.mem_filter.1 hx).1
set_option maxRecDepth 20000 in
set_option maxHeartbeats 12800000 in
theorem resolve_any {w : World} {u v : Value} {c d : List Int} (hu : Sr w u c) (hv : Sr w v d) (hc : ∀ x ∈ c, okZ x = true) (hd : ∀ x ∈ d, okZ x = true) (hcl : c.length ≤ 10000) (hdl : d.length ≤ 10000) :
    Calls Try.prog 44 #[u, v] w fun ev w' => ∃ u', ev = .returned (.tuple #[u', .bool (resD c d).isSome]) ∧ IsSl u' ∧ (∀ r, resD c d = some r → Is' w' w.heap.size u' r) ∧ Below w.heap.size w w' := by
  obtain ⟨tj, hj0, hj1, hj2, hj3⟩ := info_any infoInt
  have HJ : Hid _ := (⟨hj0, hj1, hj2, hj3⟩ : Try.prog.info? 3 = some tj ∧ tj.zero = _ ∧ tj.size = 1 ∧ tj.bytes = 8)
  clear hj0 hj1 hj2 hj3
  obtain ⟨Z, hZ⟩ : ∃ Z, Z = resD c d := ⟨_, rfl⟩
  rw [← hZ]
  have HZ : Hid (Z = resD c d) := hZ
  have HU : Hid _ := hu
  have HV : Hid _ := hv
  have HOK : Hid ((∀ x ∈ c, okZ x = true) ∧ ∀ x ∈ d, okZ x = true) := ⟨hc, hd⟩
  have HHA : Hid (∀ x, Calls Try.prog 28 #[v, .int .i64 x] w fun e w' => e = .returned (.bool (decide (x ∈ d))) ∧ w' = w) := fun x => rhas_any hv (by omega) x
  obtain ⟨au, cu, rfl⟩ := hu.out
  obtain ⟨av, cv, rfl⟩ := hv.out
  obtain ⟨m, hm⟩ : ∃ m, m = c.length := ⟨_, rfl⟩
  obtain ⟨n, hn⟩ : ∃ m, m = d.length := ⟨_, rfl⟩
  rw [← hm] at HU hcl ⊢
  rw [← hn] at HV hdl HHA ⊢
  have HM : Hid (m = c.length ∧ n = d.length) := ⟨hm, hn⟩
  clear hu hv hc hd hm hn hZ
  go_enter Try.func44, Try.ntmps44
  go_wp2_with fail
  go_loopw [6, 7, 8] (fun x q i wr => ∃ (k : Nat) (X : Int) (Q : Nat), k ≤ m ∧ i = .int .i64 (k : Int) ∧ x = .int .i64 X ∧ q = .int .i64 (Q : Int) ∧ Q ≤ k ∧ Hid (X = (clK d c k).getLastD 0 ∧ Q = (clK d c k).length) ∧ w = wr) (fun x q i wr => m - (intOf i).toNat)
  case atStart => exact ⟨0, 0, 0, Nat.zero_le _, rfl, rfl, rfl, Nat.le_refl _, ⟨rfl, rfl⟩, rfl⟩
  case round =>
    obtain ⟨k, X, Q, hk, rfl, rfl, rfl, hQ, hH, rfl⟩ := hrel
    by_cases hkm : k < m
    · obtain ⟨x, hxk⟩ : ∃ x, c[k]? = some x := ⟨_, List.getElem?_eq_getElem (by rw [← HM.out.1]; exact hkm)⟩
      obtain ⟨r, o, rfl, dx⟩ := HU.out.at' (Below.refl _ _) (k := k) (by rw [← HM.out.1]; exact hkm)
      rw [getD_at hxk] at dx
      have hro : r < w.heap.size := World.block_lt_of_cell? _ _ dx
      obtain ⟨hx0, hx1, hx2⟩ := okZ_b (HOK.out.1 x (List.mem_of_getElem? hxk))
      have hwn : wrap64 (-x) = -x := by unfold wrap64; omega
      have hkI : (k : Int) < (m : Int) := by omega
      have HA : Hid _ := HHA.out (-x)
      by_cases hz : -x ∈ d
      · have HY : Hid (clK d c (k + 1) = clK d c k ++ [x]) := clK_yes hxk hz
        rw [show decide (-x ∈ d) = true from decide_eq_true hz] at HA
        clear hz hxk
        go_wp2_with fail
        refine Calls.mono HA.out ?_
        rintro ev w2 ⟨rfl, hw2⟩
        subst hw2
        go_wp2_with fail
        exact ⟨⟨k + 1, x, Q + 1, by omega, by go_num, rfl, by go_num, by omega, ⟨by rw [HY.out]; simp, by rw [HY.out, List.length_append, hH.out.2]; rfl⟩, by first | rfl | trivial⟩, by simp [intOf]; omega⟩
      · have HY : Hid (clK d c (k + 1) = clK d c k) := clK_no hxk hz
        rw [show decide (-x ∈ d) = false from decide_eq_false hz] at HA
        clear hz hxk
        go_wp2_with fail
        refine Calls.mono HA.out ?_
        rintro ev w2 ⟨rfl, hw2⟩
        subst hw2
        go_wp2_with fail
        exact ⟨⟨k + 1, X, Q, by omega, by go_num, rfl, rfl, by omega, by rw [HY.out]; exact hH.out, by first | rfl | trivial⟩, by simp [intOf]; omega⟩
    · obtain rfl : k = m := by omega
      have hkI : ¬ (k : Int) < (k : Int) := by omega
      have hH2 := hH.out
      rw [HM.out.1, clK_end] at hH2
      have HH : Hid (X = (clsh d c).getLastD 0 ∧ Q = (clsh d c).length) := hH2
      clear hH2 hH
      by_cases hq1 : Q = 1
      rotate_left
      · have HZN : Hid (Z = none) := by unfold Hid; rw [HZ.out]; unfold resD; rw [if_neg (by rw [← HH.out.2]; exact hq1)]
        have hqb : ((Q : Int) == 1) = false := by simp; omega
        have hqc : ((Q : Int) != 1) = true := by simp; omega
        go_wp2_with fail
        go_ret2
        rw [HZN.out]
        exact ⟨_, rfl, IsSl.nil, (fun r hr => by cases hr), Below.refl _ _⟩
      subst hq1
      obtain ⟨ALL, hALL⟩ : ∃ A, A = c.filter (fun y => decide (y ≠ X)) ++ d.filter (fun y => decide (y ≠ -X)) := ⟨_, rfl⟩
      have HZS : Hid (Z = some (setF ALL)) := by
        unfold Hid; rw [HZ.out, hALL]; unfold resD; rw [if_pos HH.out.2.symm, ← HH.out.1]
      have HAO : Hid (ALL.all okZ = true ∧ ALL.length ≤ 20000) := by
        refine ⟨?_, ?_⟩
        · rw [List.all_eq_true, hALL]
          intro y hy
          rcases List.mem_append.1 hy with e | e
          · exact HOK.out.1 y (List.mem_filter.1 e).1
          · exact HOK.out.2 y (List.mem_filter.1 e).1
        · rw [hALL, List.length_append]
          have h1 := List.length_filter_le (fun y => decide (y ≠ X)) c
          have h2 := List.length_filter_le (fun y => decide (y ≠ -X)) d
          have := HM.out
          omega
      have HXB : -2147483647 ≤ X ∧ X ≤ 2147483647 := by
        have h1 := HH.out.2
        obtain ⟨y, hy⟩ := List.length_eq_one_iff.1 h1.symm
        have h2 : X = y := by rw [HH.out.1, hy]; rfl
        have h3 := okZ_b (HOK.out.1 y (clsh_in (d := d) (by rw [hy]; simp)))
        omega
      obtain ⟨hX1, hX2⟩ := HXB
      have HALL : Hid (ALL = fiK c X c.length ++ fiK d (-X) d.length) := by unfold Hid; rw [hALL, fiK_end, fiK_end]
      have hwX : wrap64 (-X) = -X := by unfold wrap64; omega
      clear hALL
      go_wp2_with fail
      go_loopw [9, 10] (fun q i wr => ∃ j : Nat, j ≤ k ∧ i = .int .i64 (j : Int) ∧ Hid (Is' wr w.heap.size q (fiK c X j) ∧ Below w.heap.size w wr)) (fun q i wr => k - (intOf i).toNat)
      case atStart => exact ⟨0, Nat.zero_le _, rfl, World.ownsRow_nil _ _ _ _, Below.refl _ _⟩
      case round =>
        obtain ⟨j, hj, rfl, hJ⟩ := hrel
        obtain ⟨s, hss⟩ : ∃ s, s = u9 := ⟨_, rfl⟩
        rw [← hss] at hJ ⊢
        clear hss
        have hz1 := hJ.out.2.size
        by_cases hlt2 : j < k
        · have hltJ : (j : Int) < (k : Int) := by omega
          obtain ⟨x, hx⟩ : ∃ x, c[j]? = some x := ⟨_, List.getElem?_eq_getElem (by rw [← HM.out.1]; exact hlt2)⟩
          obtain ⟨r', o', rfl, hcx⟩ := HU.out.at' hJ.out.2 (k := j) (by rw [← HM.out.1]; exact hlt2)
          rw [getD_at hx] at hcx
          have hro2 : r' < wr.heap.size := World.block_lt_of_cell? _ _ hcx
          by_cases hxX : x = X
          · have HY : Hid (fiK c X (j + 1) = fiK c X j) := fiK_no hx hxX
            subst hxX
            have hxb : (x != x) = false := by simp
            clear hx
            go_wp2_with fail
            exact ⟨⟨j + 1, by omega, by go_num, by rw [HY.out]; exact hJ.out.1, hJ.out.2⟩, by simp [intOf]; omega⟩
          · have HY : Hid (fiK c X (j + 1) = fiK c X j ++ [x]) := fiK_yes hx hxX
            have hxb : (x == X) = false := by simp [hxX]
            have hxc : (x != X) = true := by simp [hxX]
            obtain ⟨ns, hns⟩ : ∃ n, n = (fiK c X j).length := ⟨_, rfl⟩
            have hnsk : ns ≤ 10000 := by have := fiK_len c X j; omega
            have HNS : Hid (wr.ownsRow w.heap.size 3 1 s ns ((fiK c X j).map (Value.int .i64))) := by unfold Hid; rw [hns]; exact hJ.out.1
            have HNSL : Hid (ns = (fiK c X j).length) := hns
            clear hx hns
            go_wp2_with (at_builtin; refine wpList_append_own_at _ rfl _ _ 51 rfl w.heap.size 3 tj _ 1 8 underInts HJ.out.1 HJ.out.2.1 HJ.out.2.2.1 HJ.out.2.2.2 rfl (by decide) _ ns _ rfl (row_kept HNS.out (fun _ hq => heap_alloc_old _ _ hq)) ⟨wr.heap.size, 0, none⟩ 1 1 [_] rfl rfl (cell_one_new _ _ _) (fun u hu => by rw [List.mem_singleton.1 hu]; rfl) (by unfold maxLen; omega) (by omega) (by simp; omega) ?_; intro v1 w3 hown hgrow hnil hat)
            have hI3 : Is' w3 w.heap.size v1 (fiK c X j ++ [x]) := by unfold Is'; rw [List.length_append, List.map_append, ← HNSL.out]; exact hown
            have hb3 : Below w.heap.size w w3 := low_grown hJ.out.2 (by omega) hgrow (fun q e => (World.ownsRow.lt HNS.out q e).1)
            exact ⟨⟨j + 1, by omega, by go_num, by rw [HY.out]; exact hI3, hb3⟩, by simp [intOf]; omega⟩
        · obtain rfl : j = k := by omega
          have hltJ : ¬ (j : Int) < (j : Int) := by omega
          have hJ2 := hJ.out
          rw [HM.out.1] at hJ2
          obtain ⟨FC, hFC⟩ : ∃ F, F = fiK c X c.length := ⟨_, rfl⟩
          rw [← hFC] at hJ2
          have HAL2 : Hid (ALL = FC ++ fiK d (-X) d.length) := by unfold Hid; rw [HALL.out, hFC]
          have hFCl : FC.length ≤ 10000 := by rw [hFC]; have := fiK_len c X c.length; have := HM.out.1; omega
          have HS2 : Hid (Is' wr w.heap.size s FC ∧ Below w.heap.size w wr) := hJ2
          obtain ⟨w4, hw4⟩ : ∃ w4, w4 = wr := ⟨_, rfl⟩
          subst hw4
          clear hJ2 hJ hFC
          go_wp2_with fail
          go_loopw [9, 11] (fun q i wr => ∃ t : Nat, t ≤ n ∧ i = .int .i64 (t : Int) ∧ Hid (Is' wr w.heap.size q (FC ++ fiK d (-X) t) ∧ Below w.heap.size w wr)) (fun q i wr => n - (intOf i).toNat)
          case atStart => exact ⟨0, Nat.zero_le _, rfl, by rw [show fiK d (-X) 0 = [] from rfl, List.append_nil]; exact HS2.out.1, HS2.out.2⟩
          case round =>
            obtain ⟨t, ht, rfl, hT⟩ := hrel
            obtain ⟨s2, hss⟩ : ∃ s, s = u9 := ⟨_, rfl⟩
            rw [← hss] at hT ⊢
            clear hss
            have hz2 := hT.out.2.size
            by_cases hlt3 : t < n
            · have hltT : (t : Int) < (n : Int) := by omega
              obtain ⟨x, hx⟩ : ∃ x, d[t]? = some x := ⟨_, List.getElem?_eq_getElem (by rw [← HM.out.2]; exact hlt3)⟩
              obtain ⟨r', o', rfl, hcx⟩ := HV.out.at' hT.out.2 (k := t) (by rw [← HM.out.2]; exact hlt3)
              rw [getD_at hx] at hcx
              have hro2 : r' < wr.heap.size := World.block_lt_of_cell? _ _ hcx
              by_cases hxX : x = -X
              · have HY : Hid (fiK d (-X) (t + 1) = fiK d (-X) t) := fiK_no hx hxX
                subst hxX
                have hxb : (-X != -X) = false := by simp
                clear hx
                go_wp2_with fail
                exact ⟨⟨t + 1, by omega, by go_num, by rw [HY.out]; exact hT.out.1, hT.out.2⟩, by simp [intOf]; omega⟩
              · have HY : Hid (fiK d (-X) (t + 1) = fiK d (-X) t ++ [x]) := fiK_yes hx hxX
                have hxb : (x == -X) = false := by simp [hxX]
                have hxc : (x != -X) = true := by simp [hxX]
                obtain ⟨ns, hns⟩ : ∃ n, n = (FC ++ fiK d (-X) t).length := ⟨_, rfl⟩
                have hnsk : ns ≤ 20000 := by have := fiK_len d (-X) t; rw [List.length_append] at hns; omega
                have HNS : Hid (wr.ownsRow w.heap.size 3 1 s2 ns ((FC ++ fiK d (-X) t).map (Value.int .i64))) := by unfold Hid; rw [hns]; exact hT.out.1
                have HNSL : Hid (ns = (FC ++ fiK d (-X) t).length) := hns
                clear hx hns
                go_wp2_with (at_builtin; refine wpList_append_own_at _ rfl _ _ 51 rfl w.heap.size 3 tj _ 1 8 underInts HJ.out.1 HJ.out.2.1 HJ.out.2.2.1 HJ.out.2.2.2 rfl (by decide) _ ns _ rfl (row_kept HNS.out (fun _ hq => heap_alloc_old _ _ hq)) ⟨wr.heap.size, 0, none⟩ 1 1 [_] rfl rfl (cell_one_new _ _ _) (fun u hu => by rw [List.mem_singleton.1 hu]; rfl) (by unfold maxLen; omega) (by omega) (by simp; omega) ?_; intro v1 w3 hown hgrow hnil hat)
                have hI3 : Is' w3 w.heap.size v1 ((FC ++ fiK d (-X) t) ++ [x]) := by unfold Is'; rw [List.length_append (bs := [x]), List.map_append (l₂ := [x]), ← HNSL.out]; exact hown
                have hb3 : Below w.heap.size w w3 := low_grown hT.out.2 (by omega) hgrow (fun q e => (World.ownsRow.lt HNS.out q e).1)
                exact ⟨⟨t + 1, by omega, by go_num, by rw [HY.out, ← List.append_assoc]; exact hI3, hb3⟩, by simp [intOf]; omega⟩
            · obtain rfl : t = n := by omega
              have hltT : ¬ (t : Int) < (t : Int) := by omega
              have hT2 := hT.out
              rw [HM.out.2, ← HAL2.out] at hT2
              have HST : Hid _ := set12_any hT2.1.sr (by have := HAO.out.2; omega)
              rw [HAO.out.1] at HST
              have HB5 : Hid (Below w.heap.size w wr) := hT2.2
              clear hT2 hT
              go_wp2_with fail
              refine Calls.mono HST.out ?_
              rintro ev w6 ⟨u6, rfl, hI6, hb6⟩
              have HI6 : Hid (Is' w6 w.heap.size u6 (setF ALL)) := own_mono hI6 HB5.out.size
              have HB6 : Hid (Below w.heap.size w w6) := below_step HB5.out hb6
              clear hI6 hb6
              go_wp2_with fail
              go_ret2
              rw [HZS.out]
              exact ⟨_, rfl, HI6.out.isl, (fun r hr => by injection hr with hr; rw [← hr]; exact HI6.out), HB6.out⟩
end Go.Proofs.Ythdgmkjjpmigeaa
