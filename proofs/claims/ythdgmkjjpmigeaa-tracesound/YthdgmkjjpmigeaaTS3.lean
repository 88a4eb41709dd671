/- TraceSound: the walk. -/
import Derived.Test.YthdgmkjjpmigeaaTV2
import Derived.Test.YthdgmkjjpmigeaaTP5
namespace Go.Proofs.Ythdgmkjjpmigeaa
open Go.RowKit
set_option linter.unusedSimpArgs false
set_option linter.unusedVariables false

theorem Br.sl' {w : World} {v : Value} {l : List Int} (h : Br w v l) : ∃ a m k, v = .slice a m k ∧ Hid (m = l.length) := by
  obtain ⟨a, c, e, -⟩ := h.out
  exact ⟨a, _, c, e, rfl⟩
set_option maxRecDepth 20000 in
set_option maxHeartbeats 25600000 in
theorem sound_law (W : World) {u0 u1 u2 : Value} {G L : List (List Int)} {b : List Int} (h0 : Lr W u0 G) (e0 : ∀ c ∈ G, ∀ y ∈ c, w64 y) (b0 : Bl G) (h1 : Lr W u1 L) (e1 : ∀ c ∈ L, ∀ y ∈ c, w64 y) (b1 : Bl L) (h2 : Br W u2 b) :
    Calls Try.prog 6 #[u0, u1, u2] W fun ev w' => ev = .returned (.bool true) ∧ Below W.heap.size W w' := by
  obtain ⟨a0, c0, rfl⟩ := h0.out
  obtain ⟨a1, c1, rfl⟩ := h1.out
  obtain ⟨a2, nb, c2, rfl, hnb⟩ := h2.sl'
  obtain ⟨g, hg⟩ : ∃ n, n = G.length := ⟨_, rfl⟩
  obtain ⟨n, hn⟩ : ∃ n, n = L.length := ⟨_, rfl⟩
  rw [← hg] at h0 ⊢
  rw [← hn] at h1 ⊢
  have HG : Hid (Lr W (.slice a0 g c0) G) := h0
  have HL : Hid (Lr W (.slice a1 n c1) L) := h1
  have HV : Hid (Br W (.slice a2 nb c2) b) := h2
  have HNB : Hid (nb = b.length) := hnb
  have HNG : Hid (g = G.length ∧ n = L.length) := ⟨hg, hn⟩
  have HBB : Hid (Bl G ∧ Bl L) := ⟨b0, b1⟩
  have HW : Hid ((∀ c ∈ G, ∀ y ∈ c, w64 y) ∧ ∀ c ∈ L, ∀ y ∈ c, w64 y) := ⟨e0, e1⟩
  clear h0 h1 h2 hg hn b0 b1 e0 e1 hnb
  go_enter Try.func6, Try.ntmps6
  go_wp2_with fail
  refine Calls.mono (known_any W) ?_
  rintro ev w1 ⟨rfl, hb1⟩
  have HB1 : Hid (Below W.heap.size W w1) := hb1
  clear hb1
  go_wp2_with fail
  refine Calls.mono (vars_any (HG.out.below HB1.out) HBB.out.1.1 HBB.out.1.2 HW.out.1 (M := 9) (by omega) (by omega)) ?_
  rintro ev w2 ⟨N, rfl, hN0, hN1, hN2, hw2⟩
  subst hw2
  have HN2 : Hid (N ≤ 9 → ∀ c ∈ G, ∀ y ∈ c, -N ≤ y ∧ y ≤ N) := hN2
  clear hN2
  go_wp2_with fail
  refine Calls.mono (light_any (HG.out.below HB1.out) (HL.out.below HB1.out) HBB.out.1.1 HBB.out.1.2 HBB.out.2.1 HBB.out.2.2) ?_
  rintro ev w3 ⟨bo, rfl, hbo, hw3⟩
  subst hw3
  cases bo with
  | false =>
    clear hbo
    go_wp2_with fail
    go_ret
    exact ⟨rfl, HB1.out⟩
  | true =>
  have HLG : Hid (lgt G ∧ lgt L) := hbo rfl
  clear hbo
  by_cases hbl : 6000 < nb
  · have hblI : (6000 : Int) < (nb : Int) := by omega
    go_wp2_with fail
    go_ret
    exact ⟨rfl, HB1.out⟩
  have hblI : ¬ (6000 : Int) < (nb : Int) := by omega
  by_cases hN9 : 9 < N
  · have hNd : decide (9 < N) = true := decide_eq_true hN9
    go_wp2_with fail
    go_ret
    exact ⟨rfl, HB1.out⟩
  have hNd : decide (9 < N) = false := decide_eq_false hN9
  have HGN : Hid (∀ c ∈ G, ∀ y ∈ c, -N ≤ y ∧ y ≤ N) := HN2.out (by omega)
  have hgb : g ≤ 200 := by have := HLG.out.1.2; rw [HNG.out.1]; exact this
  have hnb : n ≤ 200 := by have := HLG.out.2.2; rw [HNG.out.2]; exact this
  obtain ⟨m, rfl⟩ : ∃ m : Nat, N = (m : Int) := ⟨N.toNat, by omega⟩
  have hm9 : m ≤ 9 := by omega
  clear hN0 hN1 hN9 HN2
  go_wp2_with fail
  clear hNd hblI
  go_loopw [8] (fun i wr => ∃ k : Nat, k ≤ g ∧ i = .int .i64 (k : Int) ∧ Hid (∀ c ∈ G.take k, (0 : Int) ∉ c) ∧ w3 = wr) (fun i wr => g - (intOf i).toNat)
  case atStart => exact ⟨0, Nat.zero_le _, rfl, (by intro c hc; simp at hc), rfl⟩
  case round =>
    obtain ⟨k, hk, rfl, hH, rfl⟩ := hrel
    by_cases hkm : k < g
    · obtain ⟨x, hxk⟩ : ∃ x, G[k]? = some x := ⟨_, List.getElem?_eq_getElem (by rw [← HNG.out.1]; exact hkm)⟩
      obtain ⟨r, o, u, rfl, dx, hcu⟩ := (HG.out.below HB1.out).at' hxk
      have hro : r < w3.heap.size := World.block_lt_of_cell? _ _ dx
      have HHA : Hid _ := rhas_any hcu (by have := HLG.out.1.len x (List.mem_of_getElem? hxk); omega) 0
      have HTK : Hid (G.take (k + 1) = G.take k ++ [x]) := by unfold Hid; rw [List.take_add_one, hxk]; rfl
      obtain ⟨au, mu, cu, rfl, -⟩ := hcu.sl
      have hkI : (k : Int) < (g : Int) := by omega
      clear hxk hcu
      by_cases hz : (0 : Int) ∈ x
      · rw [show decide ((0 : Int) ∈ x) = true from decide_eq_true hz] at HHA
        go_wp2_with fail
        refine Calls.mono HHA.out ?_
        rintro ev w4 ⟨rfl, hw4⟩
        subst hw4
        go_wp2_with fail
        go_ret
        exact ⟨rfl, HB1.out⟩
      · rw [show decide ((0 : Int) ∈ x) = false from decide_eq_false hz] at HHA
        have HE : Hid (∀ c ∈ G.take (k + 1), (0 : Int) ∉ c) := by
          unfold Hid; rw [HTK.out]
          intro c hc
          rcases List.mem_append.1 hc with e | e
          · exact hH.out c e
          · rw [List.mem_singleton.1 e]; exact hz
        clear hz
        go_wp2_with fail
        refine Calls.mono HHA.out ?_
        rintro ev w4 ⟨rfl, hw4⟩
        subst hw4
        go_wp2_with fail
        exact ⟨⟨k + 1, by omega, by go_num, HE.out, by first | rfl | trivial⟩, by simp [intOf]; omega⟩
    · obtain rfl : k = g := by omega
      have hkI : ¬ (k : Int) < (k : Int) := by omega
      have HZ : Hid (∀ c ∈ G, okC c ∧ c.length ≤ 1000) := by
        have h1 := hH.out
        rw [HNG.out.1, List.take_length] at h1
        intro c hc
        refine ⟨fun x hx => ⟨fun e => h1 c hc (by rw [← e]; exact hx), ?_⟩, HLG.out.1.len c hc⟩
        have := HGN.out c hc x hx
        omega
      have HOK : Hid (∀ d, Dc G.flatten d → okC d ∧ d.length ≤ 1000) := by
        intro d hd
        refine ⟨fun x hx => ?_, ?_⟩
        · obtain ⟨c, hc, hxc⟩ := List.mem_flatten.1 (hd.sub x hx)
          exact (HZ.out c hc).1 x hxc
        · have h1 := hd.len
          rw [List.length_flatten] at h1
          have h2 := HLG.out.1.sum
          omega
      clear hH
      have HCK : Hid _ := check_any (HG.out.below HB1.out) (HV.out.below HB1.out) (by have := HLG.out.1.sum; omega) (by rw [← HNB.out]; omega)
      have HCS : Hid (chkF G b = 0 → canF m G = false) := fun h => chk_sound h m
      obtain ⟨e, he⟩ : ∃ e, e = chkF G b := ⟨_, rfl⟩
      rw [← he] at HCK HCS
      clear he
      by_cases he : e = 0
      · subst he
        go_wp2_with fail
        refine Calls.mono HCK.out ?_
        rintro ev w4 ⟨rfl, hb4⟩
        have HB4 : Hid (Below W.heap.size W w4) := below_step HB1.out hb4
        have HCA : Hid _ := can_any (HG.out.below HB4.out) HZ.out (by rw [← HNG.out.1]; omega) (m := m) (by omega)
        rw [HCS.out (by first | trivial | rfl)] at HCA
        clear hb4 HCK HB1
        go_wp2_with fail
        refine Calls.mono HCA.out ?_
        rintro ev w5 ⟨rfl, hb5⟩
        have HB5 : Hid (Below W.heap.size W w5) := below_step HB4.out hb5
        clear hb5 HB4 HCA
        go_wp2_with fail
        refine Calls.mono (steps_any (HL.out.below HB5.out) (by have := HLG.out.2.2; omega) (fun x hx => by have := HLG.out.2.len x hx; omega)) ?_
        rintro ev w6 ⟨v6, rfl, hG6, hb6⟩
        have HS6 : Hid (Lr w6 v6 L) := hG6.lr
        have HB6 : Hid (Below W.heap.size W w6) := below_step HB5.out hb6
        have HDR : Hid _ := derive_any (HG.out.below HB6.out) HS6.out (by have := HLG.out.1.sum; omega) (by have := HLG.out.2.2; omega) (fun x hx => ⟨by have := HLG.out.2.len x hx; omega, HW.out.2 x hx⟩)
        clear hG6 hb6 HB5
        cases hdl : derL G [] L with
        | none =>
          have hdf : derF G L = ([], 121) := by unfold derF; rw [hdl]
          rw [hdf] at HDR
          clear hdl hdf
          go_wp2_with fail
          refine Calls.mono HDR.out ?_
          rintro ev w7 ⟨v7, rfl, hX7, hb7⟩
          have HB7 : Hid (Below W.heap.size W w7) := below_step HB6.out hb7
          obtain ⟨a7, c7, hv7⟩ := hX7.slice' (n := 0) rfl
          subst hv7
          clear hX7 hb7
          go_wp2_with fail
          go_ret
          exact ⟨rfl, HB7.out⟩
        | some D =>
          have hdf : derF G L = (D, 0) := by unfold derF; rw [hdl]
          rw [hdf] at HDR
          have HDL : Hid (D.length = n) := by unfold Hid; rw [HNG.out.2]; have := (derL_pre hdl).2.1; simpa using this
          have HDC : Hid (∀ d ∈ D, Dc G.flatten d) := derL_dc (fun d hd => by simp at hd) hdl
          have HEN : Hid (∀ d ∈ D, entF m G d) := fun d hd n' _ ha => derL_true (List.all_eq_true.1 ha) (fun d hd => by simp at hd) hdl d hd
          clear hdl hdf
          go_wp2_with fail
          refine Calls.mono HDR.out ?_
          rintro ev w7 ⟨v7, rfl, hX7, hb7⟩
          have HB7 : Hid (Below W.heap.size W w7) := below_step HB6.out hb7
          have HX7 : Hid (Lr w7 v7 D) := hX7
          obtain ⟨a7, c7, hv7⟩ := hX7.slice' (n := n) HDL.out
          subst hv7
          clear hX7 hb7 HDR HB6 HS6
          go_wp2_with fail
          go_loopw [11] (fun i wr => ∃ k : Nat, k ≤ n ∧ i = .int .i64 (k : Int) ∧ Hid (Below w7.heap.size w7 wr)) (fun i wr => n - (intOf i).toNat)
          case atStart => exact ⟨0, Nat.zero_le _, rfl, Below.refl _ _⟩
          case round =>
            obtain ⟨j, hj, rfl, hJ⟩ := hrel
            by_cases hjn : j < n
            · obtain ⟨d, hd⟩ : ∃ d, D[j]? = some d := ⟨_, List.getElem?_eq_getElem (by rw [HDL.out]; exact hjn)⟩
              obtain ⟨r, o, u, rfl, dx, hcu⟩ := (HX7.out.below hJ.out).at' hd
              have hro : r < wr.heap.size := World.block_lt_of_cell? _ _ dx
              have hdm := List.mem_of_getElem? hd
              have HBZ : Hid (Below W.heap.size W wr) := below_step HB7.out hJ.out
              have HET : Hid _ := entails_any (HG.out.below HBZ.out) hcu HZ.out (by rw [← HNG.out.1]; omega) (HOK.out d (HDC.out d hdm)).1 (HOK.out d (HDC.out d hdm)).2 (m := m) (by omega) (HEN.out d hdm)
              obtain ⟨au, mu, cu, rfl, -⟩ := hcu.sl
              have hjI : (j : Int) < (n : Int) := by omega
              clear hd hcu hdm
              go_wp2_with fail
              refine Calls.mono HET.out ?_
              rintro ev w8 ⟨rfl, hb8⟩
              have HB8 : Hid (Below w7.heap.size w7 w8) := below_step hJ.out hb8
              clear hb8
              go_wp2_with fail
              exact ⟨⟨j + 1, by omega, by go_num, HB8.out⟩, by simp [intOf]; omega⟩
            · obtain rfl : j = n := by omega
              have hjI : ¬ (j : Int) < (j : Int) := by omega
              go_wp2_with fail
              go_ret
              exact ⟨rfl, below_step HB7.out hJ.out⟩
      · have heb : (e == 0) = false := by simp [he]
        have hec : (e != 0) = true := by simp [he]
        go_wp2_with fail
        refine Calls.mono HCK.out ?_
        rintro ev w5 ⟨rfl, hb5⟩
        have HB5 : Hid (Below W.heap.size W w5) := below_step HB1.out hb5
        clear hb5 HCK HB1
        go_wp2_with fail
        refine Calls.mono (steps_any (HL.out.below HB5.out) (by have := HLG.out.2.2; omega) (fun x hx => by have := HLG.out.2.len x hx; omega)) ?_
        rintro ev w6 ⟨v6, rfl, hG6, hb6⟩
        have HS6 : Hid (Lr w6 v6 L) := hG6.lr
        have HB6 : Hid (Below W.heap.size W w6) := below_step HB5.out hb6
        have HDR : Hid _ := derive_any (HG.out.below HB6.out) HS6.out (by have := HLG.out.1.sum; omega) (by have := HLG.out.2.2; omega) (fun x hx => ⟨by have := HLG.out.2.len x hx; omega, HW.out.2 x hx⟩)
        clear hG6 hb6 HB5
        cases hdl : derL G [] L with
        | none =>
          have hdf : derF G L = ([], 121) := by unfold derF; rw [hdl]
          rw [hdf] at HDR
          clear hdl hdf
          go_wp2_with fail
          refine Calls.mono HDR.out ?_
          rintro ev w7 ⟨v7, rfl, hX7, hb7⟩
          have HB7 : Hid (Below W.heap.size W w7) := below_step HB6.out hb7
          obtain ⟨a7, c7, hv7⟩ := hX7.slice' (n := 0) rfl
          subst hv7
          clear hX7 hb7
          go_wp2_with fail
          go_ret
          exact ⟨rfl, HB7.out⟩
        | some D =>
          have hdf : derF G L = (D, 0) := by unfold derF; rw [hdl]
          rw [hdf] at HDR
          have HDL : Hid (D.length = n) := by unfold Hid; rw [HNG.out.2]; have := (derL_pre hdl).2.1; simpa using this
          have HDC : Hid (∀ d ∈ D, Dc G.flatten d) := derL_dc (fun d hd => by simp at hd) hdl
          have HEN : Hid (∀ d ∈ D, entF m G d) := fun d hd n' _ ha => derL_true (List.all_eq_true.1 ha) (fun d hd => by simp at hd) hdl d hd
          clear hdl hdf
          go_wp2_with fail
          refine Calls.mono HDR.out ?_
          rintro ev w7 ⟨v7, rfl, hX7, hb7⟩
          have HB7 : Hid (Below W.heap.size W w7) := below_step HB6.out hb7
          have HX7 : Hid (Lr w7 v7 D) := hX7
          obtain ⟨a7, c7, hv7⟩ := hX7.slice' (n := n) HDL.out
          subst hv7
          clear hX7 hb7 HDR HB6 HS6
          go_wp2_with fail
          go_loopw [11] (fun i wr => ∃ k : Nat, k ≤ n ∧ i = .int .i64 (k : Int) ∧ Hid (Below w7.heap.size w7 wr)) (fun i wr => n - (intOf i).toNat)
          case atStart => exact ⟨0, Nat.zero_le _, rfl, Below.refl _ _⟩
          case round =>
            obtain ⟨j, hj, rfl, hJ⟩ := hrel
            by_cases hjn : j < n
            · obtain ⟨d, hd⟩ : ∃ d, D[j]? = some d := ⟨_, List.getElem?_eq_getElem (by rw [HDL.out]; exact hjn)⟩
              obtain ⟨r, o, u, rfl, dx, hcu⟩ := (HX7.out.below hJ.out).at' hd
              have hro : r < wr.heap.size := World.block_lt_of_cell? _ _ dx
              have hdm := List.mem_of_getElem? hd
              have HBZ : Hid (Below W.heap.size W wr) := below_step HB7.out hJ.out
              have HET : Hid _ := entails_any (HG.out.below HBZ.out) hcu HZ.out (by rw [← HNG.out.1]; omega) (HOK.out d (HDC.out d hdm)).1 (HOK.out d (HDC.out d hdm)).2 (m := m) (by omega) (HEN.out d hdm)
              obtain ⟨au, mu, cu, rfl, -⟩ := hcu.sl
              have hjI : (j : Int) < (n : Int) := by omega
              clear hd hcu hdm
              go_wp2_with fail
              refine Calls.mono HET.out ?_
              rintro ev w8 ⟨rfl, hb8⟩
              have HB8 : Hid (Below w7.heap.size w7 w8) := below_step hJ.out hb8
              clear hb8
              go_wp2_with fail
              exact ⟨⟨j + 1, by omega, by go_num, HB8.out⟩, by simp [intOf]; omega⟩
            · obtain rfl : j = n := by omega
              have hjI : ¬ (j : Int) < (j : Int) := by omega
              go_wp2_with fail
              go_ret
              exact ⟨rfl, below_step HB7.out hJ.out⟩
end Go.Proofs.Ythdgmkjjpmigeaa
