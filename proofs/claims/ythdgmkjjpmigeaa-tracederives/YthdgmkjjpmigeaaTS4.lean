/- TraceDerives: the walk. -/
import Derived.Test.YthdgmkjjpmigeaaTD3
namespace Go.Proofs.Ythdgmkjjpmigeaa
open Go.RowKit
set_option linter.unusedSimpArgs false
set_option linter.unusedVariables false

theorem lists_k {w : World} {u v : Value} {C : List (List Int)} (h : Lr w u C) (h' : Lr w v C) (hl : C.length ≤ 1000000) (hc : ∀ x ∈ C, x.length ≤ 1000000) :
    Calls Try.prog 18 #[u, v] w fun e w' => e = .returned (.bool true) ∧ Below w.heap.size w w' := by
  have := lists_same h h' hl hl hc hc
  rw [show decide (C = C) = true from by simp] at this
  exact this
theorem derF_size {G L : List (List Int)} (gG : G.length + (G.map List.length).sum ≤ 2000) : ∀ x ∈ (derF G L).1, x.length ≤ 2000 := by
  intro x hx
  unfold derF at hx
  cases h : derL G [] L with
  | none => rw [h] at hx; simp at hx
  | some D =>
    rw [h] at hx
    have hd := derL_dc (fun d hd => by simp at hd) h x hx
    have h1 := hd.len
    rw [List.length_flatten] at h1
    omega
set_option maxRecDepth 20000 in
set_option maxHeartbeats 25600000 in
theorem derives_law (W : World) {u0 u1 : Value} {G L : List (List Int)} (h0 : Lr W u0 G) (_e0 : ∀ c ∈ G, ∀ y ∈ c, w64 y) (b0 : Bl G) (h1 : Lr W u1 L) (e1 : ∀ c ∈ L, ∀ y ∈ c, w64 y) (b1 : Bl L) :
    Calls Try.prog 4 #[u0, u1] W fun ev w' => ev = .returned (.bool true) ∧ Below W.heap.size W w' := by
  obtain ⟨a0, c0, rfl⟩ := h0.out
  obtain ⟨a1, c1, rfl⟩ := h1.out
  obtain ⟨g, hg⟩ : ∃ n, n = G.length := ⟨_, rfl⟩
  obtain ⟨n, hn⟩ : ∃ n, n = L.length := ⟨_, rfl⟩
  rw [← hg] at h0 ⊢
  rw [← hn] at h1 ⊢
  have HG : Hid (Lr W (.slice a0 g c0) G) := h0
  have HL : Hid (Lr W (.slice a1 n c1) L) := h1
  have HNG : Hid (g = G.length ∧ n = L.length) := ⟨hg, hn⟩
  have HBB : Hid (Bl G ∧ Bl L) := ⟨b0, b1⟩
  have HW : Hid (∀ c ∈ L, ∀ y ∈ c, w64 y) := e1
  clear h0 h1 hg hn b0 b1 _e0 e1
  go_enter Try.func4, Try.ntmps4
  go_wp2_with fail
  refine Calls.mono (known_any W) ?_
  rintro ev w1 ⟨rfl, hb1⟩
  have HB1 : Hid (Below W.heap.size W w1) := hb1
  clear hb1
  go_wp2_with fail
  refine Calls.mono (light_any (HG.out.below HB1.out) (HL.out.below HB1.out) HBB.out.1.1 HBB.out.1.2 HBB.out.2.1 HBB.out.2.2) ?_
  rintro ev w2 ⟨bo, rfl, hbo, hw2⟩
  subst hw2
  cases bo with
  | false =>
    clear hbo
    go_wp2_with fail
    go_ret
    exact ⟨rfl, HB1.out⟩
  | true =>
  have HLG : Hid (lgt G ∧ lgt L) := hbo rfl
  have HGL : Hid (∀ x ∈ G, x.length ≤ 1000000) := fun x hx => by have := HLG.out.1.len x hx; omega
  have HGS : Hid (G.length ≤ 200 ∧ G.length + (G.map List.length).sum ≤ 2000) := ⟨HLG.out.1.2, by have := HLG.out.1.sum; omega⟩
  have HLL : Hid (∀ x ∈ L, x.length ≤ 2000 ∧ ∀ y ∈ x, w64 y) := fun x hx => ⟨by have := HLG.out.2.len x hx; omega, HW.out x hx⟩
  clear hbo
  go_wp2_with fail
  refine Calls.mono (copyLists_any (HG.out.below HB1.out) (by have := HGS.out.1; omega) HGL.out) ?_
  rintro ev w3 ⟨v3, rfl, hG3, hb3⟩
  have HI3 : Hid (Lr w3 v3 G) := hG3.lr
  have HB3 : Hid (Below W.heap.size W w3) := below_step HB1.out hb3
  obtain ⟨a3, c3, hv3⟩ := HI3.out.slice' (n := g) HNG.out.1.symm
  subst hv3
  clear hG3 hb3 HB1
  go_wp2_with fail
  refine Calls.mono (steps_any (HL.out.below HB3.out) (by have := HLG.out.2.2; omega) (fun x hx => by have := HLG.out.2.len x hx; omega)) ?_
  rintro ev w4 ⟨v4, rfl, hG4, hb4⟩
  have HS4 : Hid (Lr w4 v4 L) := hG4.lr
  have HI4 : Hid (Lr w4 (.slice a3 g c3) G) := HI3.out.below hb4
  have HB4 : Hid (Below W.heap.size W w4) := below_step HB3.out hb4
  clear hG4 hb4 HB3 HI3
  obtain ⟨Y, hY⟩ : ∃ Y, Y = derF G L := ⟨_, rfl⟩
  have HDE : Hid _ := derive_any HI4.out HS4.out HGS.out.2 (by have := HLG.out.2.2; omega) HLL.out
  have HDS : Hid (Y.1.length ≤ 2000 ∧ ∀ x ∈ Y.1, x.length ≤ 2000) := by
    unfold Hid; rw [hY]; exact ⟨by have := derF_le G L; have := HLG.out.2.2; omega, derF_size HGS.out.2⟩
  have HRD : Hid (∀ wx, Below W.heap.size W wx → Calls Try.prog 22 #[.slice a0 g c0, .slice a1 n c1] wx fun ev w' => ∃ v', ev = .returned (.tuple #[v', .int .i64 Y.2]) ∧ Lr w' v' Y.1 ∧ Below wx.heap.size wx w') := by
    intro wx hb; rw [hY]
    exact rderive_any (HG.out.below hb) (HL.out.below hb) HGS.out.2 (by have := HLG.out.2.2; omega) HLL.out
  rw [← hY] at HDE
  clear hY
  obtain ⟨YL, ye⟩ := Y
  go_wp2_with fail
  refine Calls.mono HDE.out ?_
  rintro ev w5 ⟨v5, rfl, hX5, hb5⟩
  have HX5 : Hid (Lr w5 v5 YL) := hX5
  have HI5 : Hid (Lr w5 (.slice a3 g c3) G) := HI4.out.below hb5
  have HB5 : Hid (Below W.heap.size W w5) := below_step HB4.out hb5
  clear hX5 hb5 HB4 HI4 HS4 HDE
  go_wp2_with fail
  refine Calls.mono (HRD.out w5 HB5.out) ?_
  rintro ev w6 ⟨v6, rfl, hX6, hb6⟩
  have HY6 : Hid (Lr w6 v6 YL) := hX6
  have HX6 : Hid (Lr w6 v5 YL) := HX5.out.below hb6
  have HI6 : Hid (Lr w6 (.slice a3 g c3) G) := HI5.out.below hb6
  have HB6 : Hid (Below W.heap.size W w6) := below_step HB5.out hb6
  clear hX6 hb6 HB5 HI5 HX5 HRD
  have hye : (ye == ye) = true := by simp
  go_wp2_with fail
  refine Calls.mono (lists_k HX6.out HY6.out (by have h9 : YL.length ≤ 2000 := HDS.out.1; omega) (fun x hx => by have h9 : x.length ≤ 2000 := HDS.out.2 x hx; omega)) ?_
  rintro ev w7 ⟨rfl, hb7⟩
  have HI7 : Hid (Lr w7 (.slice a3 g c3) G) := HI6.out.below hb7
  have HB7 : Hid (Below W.heap.size W w7) := below_step HB6.out hb7
  clear hb7
  go_wp2_with fail
  refine Calls.mono (lists_k HI7.out (HG.out.below HB7.out) (by have := HGS.out.1; omega) HGL.out) ?_
  rintro ev w8 ⟨rfl, hb8⟩
  have HB8 : Hid (Below W.heap.size W w8) := below_step HB7.out hb8
  clear hb8
  go_wp2_with fail
  refine bodyPost_ret (results_tmp rfl _ _ _) rfl ?_
  exact ⟨rfl, HB8.out⟩
end Go.Proofs.Ythdgmkjjpmigeaa
