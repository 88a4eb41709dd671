/- TraceChecks: the walk. -/
import Derived.Test.YthdgmkjjpmigeaaTC2
import Derived.Test.YthdgmkjjpmigeaaTS1
import Derived.Test.YthdgmkjjpmigeaaTK3
namespace Go.Proofs.Ythdgmkjjpmigeaa
open Go.RowKit
set_option linter.unusedSimpArgs false
set_option linter.unusedVariables false

theorem bytes_k7 {w : World} {u v : Value} {b : List Int} (h : Br w u b) (h' : Br w v b) (hl : b.length ≤ 1000000) :
    Calls Try.prog 17 #[u, v] w fun e w' => e = .returned (.bool true) ∧ Below w.heap.size w w' := by
  have := bytes_sr h h' hl hl
  rw [show decide (b = b) = true from by simp] at this
  exact this
theorem Br.sl7 {w : World} {v : Value} {l : List Int} (h : Br w v l) : ∃ a m k, v = .slice a m k ∧ Hid (m = l.length) := by
  obtain ⟨a, c, e, -⟩ := h.out
  exact ⟨a, _, c, e, rfl⟩
theorem trm_len {G : List (List Int)} {b : List Int} (hb : b.length ≤ 6000) : (trmF G b).1.length ≤ 1000000 := by
  unfold trmF
  split
  · simp
  · next h =>
    have h0 : (rfF G b).2 = 0 := Decidable.of_not_not h
    obtain ⟨-, -, hD⟩ := rfF_ahd h0
    have h1 := kpS_sum G.length (rfF G b).1 (nedS G.length (rfF G b).1 (rfF G b).1.length) (rfF G b).1.length (Nat.le_refl _)
    have h2 := sum_le (C := (rfF G b).1) (rfF G b).1.length
    have h3 := decF_len b
    rw [← hD] at h3
    unfold encF
    split
    · simp
    · simp only [List.length_append, be4_len, flatb_len]
      have : hd.length = 4 := rfl
      omega
set_option maxRecDepth 20000 in
set_option maxHeartbeats 25600000 in
theorem checks_law (W : World) {u0 u1 : Value} {G : List (List Int)} {b : List Int} (h0 : Lr W u0 G) (_e0 : ∀ c ∈ G, ∀ y ∈ c, w64 y) (b0 : Bl G) (h1 : Br W u1 b) :
    Calls Try.prog 5 #[u0, u1] W fun ev w' => ev = .returned (.bool true) ∧ Below W.heap.size W w' := by
  obtain ⟨a0, c0, rfl⟩ := h0.out
  obtain ⟨a1, nb, c1, rfl, hnb⟩ := h1.sl7
  obtain ⟨g, hg⟩ : ∃ n, n = G.length := ⟨_, rfl⟩
  rw [← hg] at h0 ⊢
  have HG : Hid (Lr W (.slice a0 g c0) G) := h0
  have HV : Hid (Br W (.slice a1 nb c1) b) := h1
  have HNB : Hid (nb = b.length) := hnb
  have HBB : Hid (Bl G) := b0
  clear h0 h1 hg b0 _e0 hnb
  go_enter Try.func5, Try.ntmps5
  go_wp2_with fail
  refine Calls.mono (known_any W) ?_
  rintro ev w1 ⟨rfl, hb1⟩
  have HB1 : Hid (Below W.heap.size W w1) := hb1
  clear hb1
  go_wp2_with fail
  refine Calls.mono (light_any (HG.out.below HB1.out) (Lr.nil w1) HBB.out.1 HBB.out.2 (by decide) (fun x hx => by simp at hx)) ?_
  rintro ev w2 ⟨bo, rfl, hbo, hw2⟩
  subst hw2
  cases bo with
  | false =>
    clear hbo
    go_wp2_with fail
    go_ret
    exact ⟨rfl, HB1.out⟩
  | true =>
  have HLG : Hid (lgt G) := (hbo rfl).1
  clear hbo
  by_cases hbl : 6000 < nb
  · have hblI : (6000 : Int) < (nb : Int) := by omega
    go_wp2_with fail
    go_ret
    exact ⟨rfl, HB1.out⟩
  have hblI : ¬ (6000 : Int) < (nb : Int) := by omega
  have HBL : Hid (b.length ≤ 6000) := by unfold Hid; rw [← HNB.out]; omega
  have HGS : Hid (G.length + (G.map List.length).sum ≤ 2000) := by have := HLG.out.sum; unfold Hid; omega
  go_wp2_with fail
  refine Calls.mono (copyBytes_any (HV.out.below HB1.out) (by have := HBL.out; omega)) ?_
  rintro ev w3 ⟨v3, rfl, hI3, hb3⟩
  have HI3 : Hid (Br w3 v3 b) := hI3.br
  have HB3 : Hid (Below W.heap.size W w3) := below_step HB1.out hb3
  clear hI3 hb3 HB1 hblI
  obtain ⟨Y, hY⟩ : ∃ Y, Y = trmF G b := ⟨_, rfl⟩
  obtain ⟨K, hK⟩ : ∃ K, K = chkF G b := ⟨_, rfl⟩
  have HTR : Hid _ := trim_any (HG.out.below HB3.out) HI3.out HGS.out HBL.out
  have HRT : Hid (∀ wx, Below W.heap.size W wx → Calls Try.prog 24 #[.slice a0 g c0, .slice a1 nb c1] wx fun ev w' => ∃ v', ev = .returned (.tuple #[v', .int .i64 Y.2]) ∧ Br w' v' Y.1 ∧ Below wx.heap.size wx w') := by
    intro wx hb; rw [hY]
    exact rtrim_any (HG.out.below hb) (HV.out.below hb) HGS.out HBL.out
  have HRC : Hid (∀ wx, Below W.heap.size W wx → Calls Try.prog 26 #[.slice a0 g c0, .slice a1 nb c1] wx fun ev w' => ev = .returned (.int .i64 K) ∧ Below wx.heap.size wx w') := by
    intro wx hb; rw [hK]
    exact rcheck_any (HG.out.below hb) (HV.out.below hb) HGS.out HBL.out
  have HPC : Hid (∀ wx, Below W.heap.size W wx → Br wx v3 b → Calls Try.prog 25 #[.slice a0 g c0, v3] wx fun ev w' => ev = .returned (.int .i64 K) ∧ Below wx.heap.size wx w') := by
    intro wx hb hi; rw [hK]
    exact check_any (HG.out.below hb) hi HGS.out HBL.out
  have HYL : Hid (Y.1.length ≤ 1000000) := by unfold Hid; rw [hY]; exact trm_len HBL.out
  rw [← hY] at HTR
  clear hY hK
  obtain ⟨tb, te⟩ := Y
  go_wp2_with fail
  refine Calls.mono HTR.out ?_
  rintro ev w4 ⟨v4, rfl, hX4, hb4⟩
  have HX4 : Hid (Br w4 v4 tb) := hX4
  have HI4 : Hid (Br w4 v3 b) := HI3.out.below hb4
  have HB4 : Hid (Below W.heap.size W w4) := below_step HB3.out hb4
  clear hX4 hb4 HI3 HB3 HTR
  go_wp2_with fail
  refine Calls.mono (HRT.out w4 HB4.out) ?_
  rintro ev w5 ⟨v5, rfl, hY5, hb5⟩
  have HY5 : Hid (Br w5 v5 tb) := hY5
  have HX5 : Hid (Br w5 v4 tb) := HX4.out.below hb5
  have HI5 : Hid (Br w5 v3 b) := HI4.out.below hb5
  have HB5 : Hid (Below W.heap.size W w5) := below_step HB4.out hb5
  clear hY5 hb5 HX4 HI4 HB4 HRT
  have he1 : (te == te) = true := by simp
  have hk1 : (K == K) = true := by simp
  go_wp2_with fail
  refine Calls.mono (HPC.out w5 HB5.out HI5.out) ?_
  rintro ev w6 ⟨rfl, hb6⟩
  have HY6 : Hid (Br w6 v5 tb) := HY5.out.below hb6
  have HX6 : Hid (Br w6 v4 tb) := HX5.out.below hb6
  have HI6 : Hid (Br w6 v3 b) := HI5.out.below hb6
  have HB6 : Hid (Below W.heap.size W w6) := below_step HB5.out hb6
  clear hb6 HX5 HI5 HB5 HY5 HPC
  go_wp2_with fail
  refine Calls.mono (HRC.out w6 HB6.out) ?_
  rintro ev w7 ⟨rfl, hb7⟩
  have HY7 : Hid (Br w7 v5 tb) := HY6.out.below hb7
  have HX7 : Hid (Br w7 v4 tb) := HX6.out.below hb7
  have HI7 : Hid (Br w7 v3 b) := HI6.out.below hb7
  have HB7 : Hid (Below W.heap.size W w7) := below_step HB6.out hb7
  clear hb7 HX6 HI6 HB6 HY6 HRC
  go_wp2_with fail
  refine Calls.mono (bytes_k7 HX7.out HY7.out (by have h9 : tb.length ≤ 1000000 := HYL.out; omega)) ?_
  rintro ev w8 ⟨rfl, hb8⟩
  have HI8 : Hid (Br w8 v3 b) := HI7.out.below hb8
  have HB8 : Hid (Below W.heap.size W w8) := below_step HB7.out hb8
  clear hb8 HX7 HI7 HB7 HY7
  go_wp2_with fail
  refine Calls.mono (bytes_k7 HI8.out (HV.out.below HB8.out) (by have := HBL.out; omega)) ?_
  rintro ev w9 ⟨rfl, hb9⟩
  have HB9 : Hid (Below W.heap.size W w9) := below_step HB8.out hb9
  clear hb9
  go_wp2_with fail
  refine bodyPost_ret (results_tmp rfl _ _ _) rfl ?_
  exact ⟨rfl, HB9.out⟩
end Go.Proofs.Ythdgmkjjpmigeaa
