/- TraceNames: the walk. -/
import Derived.Test.YthdgmkjjpmigeabTP7
import Derived.Test.YthdgmkjjpmigeabTV2
import Derived.Lib.MinMax
namespace Go.Proofs.Ythdgmkjjpmigeab
open Go.RowKit
set_option linter.unusedSimpArgs false
set_option linter.unusedVariables false

theorem place_emod {k n : Int} (hn : 0 < n) : k % n = if k.tmod n < 0 then k.tmod n + n else k.tmod n := by
  rw [Int.tmod_eq_emod]
  have h1 := Int.emod_nonneg k (by omega : n ≠ 0)
  have h2 := Int.emod_lt_of_pos k hn
  have e : (n.natAbs : Int) = n := by omega
  split
  · rw [if_neg (by omega)]; omega
  · next hq =>
    have : ¬ n ∣ k := fun h => hq (Or.inr h)
    have h3 : k % n ≠ 0 := fun h => this (Int.dvd_of_emod_eq_zero h)
    rw [if_pos (by omega)]; omega
theorem tmod_rng {k n : Int} (hn : 0 < n) : -n ≤ k.tmod n ∧ k.tmod n < n := by
  have h1 := place_emod (k := k) hn
  have h2 := Int.emod_nonneg k (by omega : n ≠ 0)
  have h3 := Int.emod_lt_of_pos k hn
  split at h1 <;> omega
set_option maxHeartbeats 1600000 in
theorem place_any {k n : Int} (hn : 0 < n) (hn2 : n ≤ 1000000000) (w : World) :
    Calls Try.prog 5 #[.int .i64 k, .int .i64 n] w fun e w' => e = .returned (.int .i64 (k % n)) ∧ w' = w := by
  have hp := place_emod (k := k) hn
  obtain ⟨r1, r2⟩ := tmod_rng (k := k) hn
  obtain ⟨T, hT⟩ : ∃ T, T = k.tmod n := ⟨_, rfl⟩
  obtain ⟨R, hR⟩ : ∃ R, R = k % n := ⟨_, rfl⟩
  rw [← hR]
  rw [← hT, ← hR] at hp
  rw [← hT] at r1 r2
  have z : ¬ n = 0 := by omega
  have eT : k.tmod n = T := hT.symm
  have eW : IntKind.i64.wrap T = T := by rw [IntKind.wrap_i64]; omega
  by_cases hneg : T < 0
  · rw [if_pos hneg] at hp
    have HR : Hid _ := hp
    clear hp hT hR
    go_enter Try.func5, Try.ntmps5
    go_wp2_with fail
    go_ret
    exact ⟨by rw [HR.out]; rfl, rfl⟩
  · rw [if_neg hneg] at hp
    have HR : Hid _ := hp
    clear hp hT hR
    go_enter Try.func5, Try.ntmps5
    go_wp2_with fail
    go_ret
    exact ⟨by rw [HR.out]; rfl, rfl⟩

/-- Whether the v-th variable (from 0 on) is turned. -/
def tnB (t : Int) (v : Nat) : Bool := bits .and .i64 (t / 2 ^ v) 1 == 1
def roF (t : Int) (a : Nat) (F : List Int) (j : Nat) : List Int := (F.take j).map (rho (tnB t) a)
def roG (t : Int) (a : Nat) (L : List (List Int)) (k : Nat) : List (List Int) := (L.take k).map fun F => F.map (rho (tnB t) a)
theorem roF_end (t : Int) (a : Nat) (F : List Int) : roF t a F F.length = F.map (rho (tnB t) a) := by unfold roF; rw [List.take_length]
theorem roG_end (t : Int) (a : Nat) (L : List (List Int)) : roG t a L L.length = L.map fun F => F.map (rho (tnB t) a) := by unfold roG; rw [List.take_length]
theorem roF_len (t : Int) (a : Nat) (F : List Int) (j : Nat) : (roF t a F j).length ≤ j := by unfold roF; rw [List.length_map, List.length_take]; omega
theorem roG_len (t : Int) (a : Nat) (L : List (List Int)) (j : Nat) : (roG t a L j).length ≤ j := by unfold roG; rw [List.length_map, List.length_take]; omega
theorem roF_step {t : Int} {a : Nat} {F : List Int} {j : Nat} {x : Int} (h : F[j]? = some x) : roF t a F (j + 1) = roF t a F j ++ [rho (tnB t) a x] := by unfold roF; rw [List.take_add_one, h]; simp
theorem roG_step {t : Int} {a : Nat} {L : List (List Int)} {j : Nat} {F : List Int} (h : L[j]? = some F) : roG t a L (j + 1) = roG t a L j ++ [F.map (rho (tnB t) a)] := by unfold roG; rw [List.take_add_one, h]; simp
theorem rho_pos (T : Nat → Bool) (a d : Nat) : rho T a ((d : Int) + 1) = if T d then -((d : Int) + 1 + (a : Int)) else (d : Int) + 1 + (a : Int) := by
  unfold rho
  rw [show ((d : Int) + 1).natAbs - 1 = d by omega, decide_eq_false (by omega), show (((d : Int) + 1).natAbs : Int) = (d : Int) + 1 by omega]
  cases T d <;> simp
theorem rho_neg (T : Nat → Bool) (a d : Nat) : rho T a (-((d : Int) + 1)) = if T d then (d : Int) + 1 + (a : Int) else -((d : Int) + 1 + (a : Int)) := by
  unfold rho
  rw [show (-((d : Int) + 1)).natAbs - 1 = d by omega, decide_eq_true (by omega), show ((-((d : Int) + 1)).natAbs : Int) = (d : Int) + 1 by omega]
  cases T d <;> simp
set_option maxRecDepth 20000 in
set_option maxHeartbeats 25600000 in
theorem names_law (T A : Int) (W : World) {u0 u1 : Value} {G L : List (List Int)} (h0 : Lr W u0 G) (e0 : ∀ c ∈ G, ∀ y ∈ c, w64 y) (b0 : Bl G) (h1 : Lr W u1 L) (_e1 : ∀ c ∈ L, ∀ y ∈ c, w64 y) (b1 : Bl L) (_wT : (Lit.int .i64 T).wf = true) (_wA : (Lit.int .i64 A).wf = true) :
    Calls Try.prog 3 #[u0, u1, .int .i64 T, .int .i64 A] W fun ev w' => ev = .returned (.bool true) ∧ Below W.heap.size W w' := by
  obtain ⟨ti, ht0, hz0, hz1, hz2⟩ := info_any infoList
  have HI : Hid _ := (⟨ht0, hz0, hz1, hz2⟩ : Try.prog.info? 27 = some ti ∧ ti.zero = _ ∧ ti.size = 1 ∧ ti.bytes = 24)
  obtain ⟨tj, hj0, hj1, hj2, hj3⟩ := info_any infoInt
  have HJ : Hid _ := (⟨hj0, hj1, hj2, hj3⟩ : Try.prog.info? 3 = some tj ∧ tj.zero = _ ∧ tj.size = 1 ∧ tj.bytes = 8)
  clear ht0 hz0 hz1 hz2 hj0 hj1 hj2 hj3
  obtain ⟨a0, c0, rfl⟩ := h0.out
  obtain ⟨a2, c2, rfl⟩ := h1.out
  obtain ⟨g, hg⟩ : ∃ n, n = G.length := ⟨_, rfl⟩
  obtain ⟨n, hn⟩ : ∃ n, n = L.length := ⟨_, rfl⟩
  rw [← hg] at h0 ⊢
  rw [← hn] at h1 ⊢
  have HG : Hid (Lr W (.slice a0 g c0) G) := h0
  have HL : Hid (Lr W (.slice a2 n c2) L) := h1
  have HNG : Hid (g = G.length ∧ n = L.length) := ⟨hg, hn⟩
  have HBB : Hid (Bl G ∧ Bl L) := ⟨b0, b1⟩
  have HW : Hid (∀ c ∈ G, ∀ y ∈ c, w64 y) := e0
  obtain ⟨ad, had⟩ : ∃ ad : Nat, A % 1000 = (ad : Int) := ⟨(A % 1000).toNat, by omega⟩
  have hadb : ad < 1000 := by omega
  have HPL : Hid (∀ wx, Calls Try.prog 5 #[.int .i64 A, .int .i64 1000] wx fun e w' => e = .returned (.int .i64 (ad : Int)) ∧ w' = wx) := fun wx => by
    have := place_any (k := A) (n := 1000) (by decide) (by decide) wx
    rw [had] at this
    exact this
  clear h0 h1 hg hn b0 b1 e0 _e1 had _wT _wA
  go_enter Try.func3, Try.ntmps3
  go_wp2_with fail
  refine Calls.mono (known_any W) ?_
  rintro ev w1 ⟨rfl, hb1⟩
  have HB1 : Hid (Below W.heap.size W w1) := hb1
  clear hb1
  go_wp2_with fail
  refine Calls.mono (HPL.out w1) ?_
  rintro ev w2 ⟨rfl, hw2⟩
  subst hw2
  go_wp2_with fail
  refine Calls.mono (light_any (HG.out.below HB1.out) (HL.out.below HB1.out) HBB.out.1.1 HBB.out.1.2 HBB.out.2.1 HBB.out.2.2) ?_
  rintro ev w3 ⟨bo, rfl, hbo, hw3⟩
  subst hw3
  cases bo with
  | false =>
    clear hbo
    go_wp2_with fail
    go_ret
    exact ⟨rfl, HB1.out⟩
  | true =>
  have HLG : Hid (lgt G ∧ lgt L) := hbo rfl
  clear hbo
  go_wp2_with fail
  refine Calls.mono (vars_any (HG.out.below HB1.out) HBB.out.1.1 HBB.out.1.2 HW.out (M := 60) (by omega) (by omega)) ?_
  rintro ev w4 ⟨N, rfl, hN0, hN1, hN2, hw4⟩
  subst hw4
  have HN2 : Hid (N ≤ 60 → ∀ c ∈ G, ∀ y ∈ c, -N ≤ y ∧ y ≤ N) := hN2
  clear hN2
  by_cases hN9 : 60 < N
  · have hNd : decide (60 < N) = true := decide_eq_true hN9
    go_wp2_with fail
    go_ret
    exact ⟨rfl, HB1.out⟩
  have hNd : decide (60 < N) = false := decide_eq_false hN9
  have HGN : Hid (∀ c ∈ G, ∀ y ∈ c, -60 ≤ y ∧ y ≤ 60) := fun c hc y hy => by have := HN2.out (by omega) c hc y hy; omega
  have hgb : g ≤ 200 := by have := HLG.out.1.2; rw [HNG.out.1]; exact this
  have hnb : n ≤ 200 := by have := HLG.out.2.2; rw [HNG.out.2]; exact this
  go_wp2_with fail
  clear hNd hN0 hN1 hN9 HN2
  go_loopw [9, 10] (fun q i wr => ∃ k : Nat, k ≤ g ∧ i = .int .i64 (k : Int) ∧ Hid (Ga 27 wr w4.heap.size q (roG T ad G k) ∧ Below w4.heap.size w4 wr ∧ ∀ c ∈ G.take k, (0 : Int) ∉ c)) (fun q i wr => g - (intOf i).toNat)
  case atStart => exact ⟨0, Nat.zero_le _, rfl, Ga.nil _ _ _, Below.refl _ _, (by intro c hc; simp at hc)⟩
  case round =>
    obtain ⟨k, hk, rfl, hH⟩ := hrel
    obtain ⟨q, hqq⟩ : ∃ q, q = u9 := ⟨_, rfl⟩
    rw [← hqq] at hH ⊢
    clear hqq
    have hz0 := hH.out.2.1.size
    obtain ⟨aq, cq, hq⟩ := hH.out.1.sl
    by_cases hlt : k < g
    · have hltI : (k : Int) < (g : Int) := by omega
      obtain ⟨F, hx⟩ : ∃ x, G[k]? = some x := ⟨_, List.getElem?_eq_getElem (by rw [← HNG.out.1]; exact hlt)⟩
      have hxl := HLG.out.1.len F (List.mem_of_getElem? hx)
      have HFI : Hid (∀ x ∈ F, -60 ≤ x ∧ x ≤ 60) := HGN.out F (List.mem_of_getElem? hx)
      obtain ⟨r, o, u, rfl, hcu, hSr⟩ := ((HG.out.below HB1.out).below hH.out.2.1).at' hx
      have hro : r < wr.heap.size := World.block_lt_of_cell? _ _ hcu
      have HTK : Hid (roG T ad G (k + 1) = roG T ad G k ++ [F.map (rho (tnB T) ad)]) := roG_step hx
      have HTG : Hid (G.take (k + 1) = G.take k ++ [F]) := by unfold Hid; rw [List.take_add_one, hx]; rfl
      obtain ⟨nq, hnq⟩ : ∃ n, n = (roG T ad G k).length := ⟨_, rfl⟩
      have hnqk : nq ≤ 100000 := by have := roG_len T ad G k; omega
      rw [← hnq] at hq
      have HQ0 : Hid (q = .slice aq nq cq) := hq
      clear hq
      have HNQ : Hid _ := hnq
      obtain ⟨au, nu, cu, hue, hnu⟩ := hSr.sl
      subst hue
      have HSR : Hid (Sr wr (.slice au nu cu) F) := hSr
      have HNU : Hid (nu = F.length) := hnu
      have hnub : nu ≤ 1000 := by rw [HNU.out]; exact hxl
      obtain ⟨w7, hw7⟩ : ∃ w7, w7 = wr := ⟨_, rfl⟩
      subst hw7
      clear hSr hx hnq hnu hxl
      go_wp2_with fail
      go_loopw [11, 12] (fun s i wr => ∃ j : Nat, j ≤ nu ∧ i = .int .i64 (j : Int) ∧ Hid (Is' wr w7.heap.size s (roF T ad F j) ∧ Below w7.heap.size w7 wr ∧ (0 : Int) ∉ F.take j)) (fun s i wr => nu - (intOf i).toNat)
      case atStart => exact ⟨0, Nat.zero_le _, rfl, World.ownsRow_nil _ _ _ _, Below.refl _ _, (by simp)⟩
      case round =>
        obtain ⟨j, hj, rfl, hJ⟩ := hrel
        obtain ⟨s, hss⟩ : ∃ s, s = u11 := ⟨_, rfl⟩
        rw [← hss] at hJ ⊢
        clear hss
        have hz1 := hJ.out.2.1.size
        have hcu1 : wr.cell? ⟨r, o + k, none⟩ = some (.slice au nu cu) := keep_cell hJ.out.2.1 hcu
        have hro1 : r < wr.heap.size := by omega
        by_cases hlt2 : j < nu
        · have hltJ : (j : Int) < (nu : Int) := by omega
          obtain ⟨x, hx⟩ : ∃ x, F[j]? = some x := ⟨_, List.getElem?_eq_getElem (by rw [← HNU.out]; exact hlt2)⟩
          obtain ⟨hxb1, hxb2⟩ := HFI.out x (List.mem_of_getElem? hx)
          obtain ⟨r', o', rfl, hcx⟩ := HSR.out.at' hJ.out.2.1 (k := j) (by rw [← HNU.out]; exact hlt2)
          rw [getD_at hx] at hcx
          have hro2 : r' < wr.heap.size := World.block_lt_of_cell? _ _ hcx
          have HTJ : Hid (roF T ad F (j + 1) = roF T ad F j ++ [rho (tnB T) ad x]) := roF_step hx
          have HTF : Hid (F.take (j + 1) = F.take j ++ [x]) := by unfold Hid; rw [List.take_add_one, hx]; rfl
          obtain ⟨ns, hns⟩ : ∃ n, n = (roF T ad F j).length := ⟨_, rfl⟩
          have hnsk : ns ≤ 1000 := by have := roF_len T ad F j; omega
          have HNS : Hid (wr.ownsRow w7.heap.size 3 1 s ns ((roF T ad F j).map (Value.int .i64))) := by unfold Hid; rw [hns]; exact hJ.out.1
          have HNSL : Hid (ns = (roF T ad F j).length) := hns
          clear hx hns
          by_cases hx0 : x = 0
          · subst hx0
            have hmx : max (0 : Int) (-0) = 0 := by omega
            go_wp2_with fail
            go_ret
            exact ⟨rfl, below_step HB1.out (below_step hH.out.2.1 hJ.out.2.1)⟩
          have hxb : (x == 0) = false := by simp [hx0]
          have HZ1 : Hid ((0 : Int) ∉ F.take (j + 1)) := by
            unfold Hid; rw [HTF.out, List.mem_append, List.mem_singleton]
            rintro (e | e)
            · exact hJ.out.2.2 e
            · exact hx0 e.symm
          rcases (show 0 < x ∨ x < 0 by omega) with hpos | hneg
          · obtain ⟨d, rfl⟩ : ∃ d : Nat, x = (d : Int) + 1 := ⟨(x - 1).toNat, by omega⟩
            have hmx : max ((d : Int) + 1) (-((d : Int) + 1)) = (d : Int) + 1 := by omega
            have hd0 : decide ((d : Int) + 1 < 0) = false := decide_eq_false (by omega)
            have HRO : Hid _ := rho_pos (tnB T) ad d
            cases hT : tnB T d with
            | true =>
              have HV : Hid (rho (tnB T) ad ((d : Int) + 1) = -((d : Int) + 1 + (ad : Int))) := by unfold Hid; rw [HRO.out, hT]; rfl
              unfold tnB at hT
              go_wp2_with (at_builtin; refine wpList_append_own_at _ rfl _ _ 27 rfl w7.heap.size 3 tj _ 1 8 underInts HJ.out.1 HJ.out.2.1 HJ.out.2.2.1 HJ.out.2.2.2 rfl (by decide) _ ns _ rfl (row_kept HNS.out (fun _ hq => heap_alloc_old _ _ hq)) ⟨wr.heap.size, 0, none⟩ 1 1 [_] rfl rfl (cell_one_new _ _ _) (fun u hu => by rw [List.mem_singleton.1 hu]; rfl) (by unfold maxLen; omega) (by omega) (by simp; omega) ?_; intro v1 w3 hown hgrow hnil hat)
              have hI3 : Is' w3 w7.heap.size v1 (roF T ad F j ++ [rho (tnB T) ad ((d : Int) + 1)]) := by unfold Is'; rw [List.length_append, List.map_append, ← HNSL.out, HV.out]; exact hown
              have hb3 : Below w7.heap.size w7 w3 := low_grown hJ.out.2.1 (by omega) hgrow (fun q e => (World.ownsRow.lt HNS.out q e).1)
              exact ⟨⟨j + 1, by omega, by go_num, by rw [HTJ.out]; exact hI3, hb3, HZ1.out⟩, by simp [intOf]; omega⟩
            | false =>
              have HV : Hid (rho (tnB T) ad ((d : Int) + 1) = (d : Int) + 1 + (ad : Int)) := by unfold Hid; rw [HRO.out, hT]; rfl
              unfold tnB at hT
              go_wp2_with (at_builtin; refine wpList_append_own_at _ rfl _ _ 27 rfl w7.heap.size 3 tj _ 1 8 underInts HJ.out.1 HJ.out.2.1 HJ.out.2.2.1 HJ.out.2.2.2 rfl (by decide) _ ns _ rfl (row_kept HNS.out (fun _ hq => heap_alloc_old _ _ hq)) ⟨wr.heap.size, 0, none⟩ 1 1 [_] rfl rfl (cell_one_new _ _ _) (fun u hu => by rw [List.mem_singleton.1 hu]; rfl) (by unfold maxLen; omega) (by omega) (by simp; omega) ?_; intro v1 w3 hown hgrow hnil hat)
              have hI3 : Is' w3 w7.heap.size v1 (roF T ad F j ++ [rho (tnB T) ad ((d : Int) + 1)]) := by unfold Is'; rw [List.length_append, List.map_append, ← HNSL.out, HV.out]; exact hown
              have hb3 : Below w7.heap.size w7 w3 := low_grown hJ.out.2.1 (by omega) hgrow (fun q e => (World.ownsRow.lt HNS.out q e).1)
              exact ⟨⟨j + 1, by omega, by go_num, by rw [HTJ.out]; exact hI3, hb3, HZ1.out⟩, by simp [intOf]; omega⟩
          · obtain ⟨d, rfl⟩ : ∃ d : Nat, x = -((d : Int) + 1) := ⟨(-x - 1).toNat, by omega⟩
            have hmx : max (-((d : Int) + 1)) ((d : Int) + 1) = (d : Int) + 1 := by omega
            have hd0 : decide (-((d : Int) + 1) < 0) = true := decide_eq_true (by omega)
            have HRO : Hid _ := rho_neg (tnB T) ad d
            cases hT : tnB T d with
            | true =>
              have HV : Hid (rho (tnB T) ad (-((d : Int) + 1)) = (d : Int) + 1 + (ad : Int)) := by unfold Hid; rw [HRO.out, hT]; rfl
              unfold tnB at hT
              go_wp2_with (at_builtin; refine wpList_append_own_at _ rfl _ _ 27 rfl w7.heap.size 3 tj _ 1 8 underInts HJ.out.1 HJ.out.2.1 HJ.out.2.2.1 HJ.out.2.2.2 rfl (by decide) _ ns _ rfl (row_kept HNS.out (fun _ hq => heap_alloc_old _ _ hq)) ⟨wr.heap.size, 0, none⟩ 1 1 [_] rfl rfl (cell_one_new _ _ _) (fun u hu => by rw [List.mem_singleton.1 hu]; rfl) (by unfold maxLen; omega) (by omega) (by simp; omega) ?_; intro v1 w3 hown hgrow hnil hat)
              have hI3 : Is' w3 w7.heap.size v1 (roF T ad F j ++ [rho (tnB T) ad (-((d : Int) + 1))]) := by unfold Is'; rw [List.length_append, List.map_append, ← HNSL.out, HV.out]; exact hown
              have hb3 : Below w7.heap.size w7 w3 := low_grown hJ.out.2.1 (by omega) hgrow (fun q e => (World.ownsRow.lt HNS.out q e).1)
              exact ⟨⟨j + 1, by omega, by go_num, by rw [HTJ.out]; exact hI3, hb3, HZ1.out⟩, by simp [intOf]; omega⟩
            | false =>
              have HV : Hid (rho (tnB T) ad (-((d : Int) + 1)) = -((d : Int) + 1 + (ad : Int))) := by unfold Hid; rw [HRO.out, hT]; rfl
              unfold tnB at hT
              go_wp2_with (at_builtin; refine wpList_append_own_at _ rfl _ _ 27 rfl w7.heap.size 3 tj _ 1 8 underInts HJ.out.1 HJ.out.2.1 HJ.out.2.2.1 HJ.out.2.2.2 rfl (by decide) _ ns _ rfl (row_kept HNS.out (fun _ hq => heap_alloc_old _ _ hq)) ⟨wr.heap.size, 0, none⟩ 1 1 [_] rfl rfl (cell_one_new _ _ _) (fun u hu => by rw [List.mem_singleton.1 hu]; rfl) (by unfold maxLen; omega) (by omega) (by simp; omega) ?_; intro v1 w3 hown hgrow hnil hat)
              have hI3 : Is' w3 w7.heap.size v1 (roF T ad F j ++ [rho (tnB T) ad (-((d : Int) + 1))]) := by unfold Is'; rw [List.length_append, List.map_append, ← HNSL.out, HV.out]; exact hown
              have hb3 : Below w7.heap.size w7 w3 := low_grown hJ.out.2.1 (by omega) hgrow (fun q e => (World.ownsRow.lt HNS.out q e).1)
              exact ⟨⟨j + 1, by omega, by go_num, by rw [HTJ.out]; exact hI3, hb3, HZ1.out⟩, by simp [intOf]; omega⟩
        · obtain rfl : j = nu := by omega
          have hltJ : ¬ (j : Int) < (j : Int) := by omega
          have hJ2 := hJ.out
          rw [HNU.out, roF_end, List.take_length] at hJ2
          have HU3 : Hid (Sf wr (own q) s (F.map (rho (tnB T) ad))) := hJ2.1.sf fun r hr => (hH.out.1.low r hr).2
          have HG3 : Hid (Ga 27 wr w4.heap.size q (roG T ad G k)) := hH.out.1.below hJ.out.2.1
          have HB3 : Hid (Below w4.heap.size w4 wr) := below_step hH.out.2.1 hJ.out.2.1
          have HZ2 : Hid (∀ c ∈ G.take (k + 1), (0 : Int) ∉ c) := by
            unfold Hid; rw [HTG.out]
            intro c hc
            rcases List.mem_append.1 hc with e | e
            · exact hH.out.2.2 c e
            · rw [List.mem_singleton.1 e]; exact hJ2.2.2
          obtain ⟨a3, n3, k3, hv3, -⟩ := own_sl hJ2.1
          subst hv3
          have hq : q = .slice aq nq cq := HQ0.out
          clear HQ0
          subst hq
          obtain ⟨us, hus, husl, hu3⟩ := HG3.out.ex
          have HUX : Hid (∀ (i : Nat) u c, us[i]? = some u → (roG T ad G k)[i]? = some c → Sf wr (own (.slice aq nq cq)) u c) := hu3
          have HUS : Hid (wr.ownsRow w4.heap.size 27 1 (.slice aq nq cq) nq us ∧ us.length = nq) := by
            have e1 : us.length = nq := by rw [husl, HNQ.out]
            exact ⟨by rw [← e1]; exact e1 ▸ hus, e1⟩
          have hz3 := HB3.out.size
          clear hus husl hu3 hJ2 hJ
          go_wp2_with (at_builtin; refine wpList_append_own_at _ rfl _ _ 22 rfl w4.heap.size 27 ti (.slice none 0 0) 1 24 underLists HI.out.1 HI.out.2.1 HI.out.2.2.1 HI.out.2.2.2 rfl (by decide) (.slice aq nq cq) nq us rfl (row_kept HUS.out.1 (fun _ hq => heap_alloc_old _ _ hq)) ⟨wr.heap.size, 0, none⟩ 1 1 [.slice a3 n3 k3] rfl rfl (cell_one_new _ _ _) (by intro y hy; rw [List.mem_singleton.1 hy]; rfl) (by unfold maxLen; omega) (by omega) (by rw [size_alloc']; omega) ?_; intro v4 w5 hown hgrow hnil hat)
          have hG4 : Ga 27 w5 w4.heap.size v4 (roG T ad G k ++ [F.map (rho (tnB T) ad)]) := Ga.app (by rw [HUS.out.2, HNQ.out]) HUX.out HU3.out hgrow (by rw [HUS.out.2]; exact hown) hat
          have hb4 : Below w4.heap.size w4 w5 := low_grown HB3.out (by omega) hgrow (fun q e => (HUS.out.1.lt q e).1)
          refine ⟨⟨k + 1, by omega, by go_num, by rw [HTK.out]; exact hG4, hb4, HZ2.out⟩, by simp [intOf]; omega⟩
    · obtain rfl : k = g := by omega
      have hltI : ¬ (k : Int) < (k : Int) := by omega
      have hH2 := hH.out
      rw [HNG.out.1, roG_end, List.take_length] at hH2
      obtain ⟨MV, hMV⟩ : ∃ MV, MV = G.map fun F => F.map (rho (tnB T) ad) := ⟨_, rfl⟩
      rw [← hMV] at hH2
      have HQ : Hid (Lr wr q MV) := hH2.1.lr
      have HB7 : Hid (Below W.heap.size W wr) := below_step HB1.out hH2.2.1
      have HMS : Hid (MV.length + (MV.map List.length).sum ≤ 1000) := by unfold Hid; rw [hMV, map_sums]; exact HLG.out.1.sum
      have HEN : Hid (∀ L, endF MV L = endF G L) := fun L => by
        rw [hMV]
        exact endF_im (rho_rn (tnB T) (by omega)) (map_im fun c hc x hx => ⟨fun e => hH2.2.2 c hc (by rw [← e]; exact hx), HGN.out c hc x hx⟩) L
      clear hH2 hH hMV hq
      go_wp2_with fail
      refine Calls.mono (steps_any (HL.out.below HB7.out) (by have := HLG.out.2.2; omega) (fun x hx => by have := HLG.out.2.len x hx; omega)) ?_
      rintro ev w8 ⟨v8, rfl, hG8, hb8⟩
      have HS8 : Hid (Lr w8 v8 L) := hG8.lr
      have HQ8 : Hid (Lr w8 q MV) := HQ.out.below hb8
      have HB8 : Hid (Below W.heap.size W w8) := below_step HB7.out hb8
      clear hG8 hb8 HQ
      go_wp2_with fail
      refine Calls.mono (encode_any HS8.out (by have := HLG.out.2.sum; omega)) ?_
      rintro ev w9 ⟨v9, rfl, hV9, hb9⟩
      have HV9 : Hid (Br w9 v9 (encF L).1) := hV9
      have HQ9 : Hid (Lr w9 q MV) := HQ8.out.below hb9
      have HB9 : Hid (Below W.heap.size W w9) := below_step HB8.out hb9
      obtain ⟨f, hf⟩ : ∃ e, e = (encF L).2 := ⟨_, rfl⟩
      rw [← hf]
      have HF : Hid (f = (encF L).2) := hf
      clear hV9 hb9 HB8 HS8 hf HQ8
      by_cases hf : f = 0
      · subst hf
        have hLs := HLG.out.2.sum
        obtain ⟨was, hwas⟩ : ∃ e, e = endF G L := ⟨_, rfl⟩
        have HC1 : Hid _ := chk_k (HG.out.below HB9.out) HV9.out (by have := HLG.out.1.sum; omega) (enc_len hLs) (e := was) (by rw [chk_enc (by omega) HF.out.symm, hwas])
        have HC2 : Hid (∀ wx, Below w9.heap.size w9 wx → Calls Try.prog 10 #[q, v9] wx fun ev w' => ev = .returned (.int .i64 was) ∧ Below wx.heap.size wx w') := fun wx hb =>
          chk_k (HQ9.out.below hb) (HV9.out.below hb) (by have := HMS.out; omega) (enc_len hLs) (e := was) (by rw [chk_enc (by omega) HF.out.symm, HEN.out, hwas])
        have hww : (was == was) = true := by simp
        clear hwas hLs
        go_wp2_with fail
        refine Calls.mono HC1.out ?_
        rintro ev w10 ⟨rfl, hb10⟩
        have HBX : Hid (Below w9.heap.size w9 w10) := hb10
        clear hb10
        go_wp2_with fail
        refine Calls.mono (HC2.out w10 HBX.out) ?_
        rintro ev w11 ⟨rfl, hb11⟩
        have HB12 : Hid (Below W.heap.size W w11) := below_step (below_step HB9.out HBX.out) hb11
        clear hb11
        go_wp2_with fail
        refine bodyPost_ret (results_tmp rfl _ _ _) rfl ?_
        exact ⟨rfl, HB12.out⟩
      · have hfb : (f == 0) = false := by simp [hf]
        have hfc : (f != 0) = true := by simp [hf]
        go_wp2_with fail
        refine bodyPost_ret (results_tmp rfl _ _ _) rfl ?_
        exact ⟨rfl, HB9.out⟩
end Go.Proofs.Ythdgmkjjpmigeab
