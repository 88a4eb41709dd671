/- The chapter's examples hold (aig). -/
import Derived.Test.YtdmochghcmeebaaAG10
import Derived.Test.YtdmochghcmeebaaAG12
namespace Go.Proofs.Ytdmochghcmeebaa
open Go.RowKit
set_option linter.unusedSimpArgs false
set_option linter.unusedVariables false

/-- A graph whose blocks lie from B on. -/
def GB (w : World) (B g mo : Nat) (ks : List Kd) : Prop := Gr w (fun k => B ≤ k) g mo ks
theorem GB.below {w w' : World} {B g mo : Nat} {ks : List Kd} (h : GB w B g mo ks) (hb : Below w.heap.size w w') : GB w' B g mo ks := Gr.below h hb
theorem Did.low {w w' : World} {B g mo : Nat} {r : Ans} {e : Ending} (h : Did w (fun k => B ≤ k) g mo r e w') (hB : B ≤ w.heap.size) : e = .returned (.tuple #[.int .i64 r.1, .int .i64 r.2.1]) ∧ GB w' B g mo r.2.2 ∧ Below B w w' := by
  obtain ⟨he, F', hG, hC⟩ := h
  refine ⟨he, hG.mono fun k hk => ?_, hC.below (fun k hk => hk) hB⟩
  rcases hC.foot k hk with h | ⟨h, _⟩
  · exact h
  · omega
theorem Bz_new (w : World) (a b : Bool) : Bz (w.alloc (.cells #[.bool a, .bool b] 4)) (.slice (some ⟨w.heap.size, 0, none⟩) 2 2) [a, b] := by
  refine ⟨_, 2, rfl, Or.inr ⟨w.heap.size, 0, rfl, fun j hj => ?_⟩⟩
  have : j = 0 ∨ j = 1 := by simp at hj; omega
  rcases this with rfl | rfl <;> simp [go_sem]
theorem Rl_two (w : World) (a b : Int) : Rl (w.alloc (.cells #[.int .i64 a, .int .i64 b] 3)) w.heap.size (.slice (some ⟨w.heap.size, 0, none⟩) 2 2) [a, b] := ⟨_, 2, rfl, Nat.le_refl _, by simp, Or.inr ⟨w.heap.size, rfl, Nat.le_refl _, Li_two w a b _⟩⟩
theorem Rl_three (w : World) (a b c : Int) : Rl (w.alloc (.cells #[.int .i64 a, .int .i64 b, .int .i64 c] 3)) w.heap.size (.slice (some ⟨w.heap.size, 0, none⟩) 3 3) [a, b, c] := ⟨_, 3, rfl, Nat.le_refl _, by simp, Or.inr ⟨w.heap.size, rfl, Nat.le_refl _, Li_three w a b c _⟩⟩
def K3 : List Kd := [(0, 0), (0, 0), (0, 0)]
def K4 : List Kd := K3 ++ [(2, 4)]
def K5 : List Kd := K4 ++ [(3, 5)]
def K8 : List Kd := K5 ++ [(2, 5), (3, 4), (11, 13)]
theorem r50 : roomOf 50 = 50 := by decide
theorem e1 : inpF 50 [(0, 0)] = (2, 0, [(0, 0), (0, 0)]) := by decide
theorem e2 : inpF 50 [(0, 0), (0, 0)] = (4, 0, K3) := by decide
theorem e3 : andF 50 K3 4 2 = (6, 0, K4) := by decide
theorem e4 : andF 50 K4 2 3 = (0, 0, K4) := by decide
theorem e5 : orF 50 K4 2 4 = (9, 0, K5) := by decide
theorem e6 : xorF 50 K5 2 4 = (15, 0, K8) := by decide
theorem e7 : andF 50 K8 2 99 = (0, 80, K8) := by decide
theorem e8 : evF K8 15 [true, false] = (true, 0) := by decide
theorem e9 : kidF K8 3 = (2, 4, true) := by decide
theorem e10 : insL K8 = [2, 4] := by decide
theorem e11 : coneL K8 9 = [1, 2, 4] := by decide
theorem s64 (a : Int) (h : 0 ≤ a) (h2 : a ≤ 1000) : w64 a := ⟨by omega, by omega⟩

set_option maxRecDepth 20000 in
set_option maxHeartbeats 12800000 in
theorem known_any (w : World) :
    Calls Try.prog 7 #[] w fun e w' => e = .returned (.bool true) ∧ Below w.heap.size w w' := by
  go_enter Try.func7, Try.ntmps7
  go_wp2_with fail
  refine (gnew_any 50 _).mono ?_
  rintro e w1 ⟨rfl, hb1, -, hG⟩
  have HG1 : Hid (GB w1 w.heap.size (w.heap.size + 2) 50 [(0, 0)]) := by rw [r50] at hG; exact Gr.mono hG (fun k hk => hk.1)
  have hs1 := hb1.size
  clear hG
  go_wp2_with fail
  refine (inp_any HG1.out).mono ?_
  intro e w2 hd
  obtain ⟨rfl, hG, hb⟩ := hd.low hs1
  rw [e1] at hG ⊢
  have HG2 : Hid (GB w2 w.heap.size (w.heap.size + 2) 50 [(0, 0), (0, 0)]) := hG
  have hb2 : Below w.heap.size w w2 := hb1.trans hb
  have hs2 := hb2.size
  clear hG hb hd HG1 hb1 hs1
  dsimp only
  go_wp2_with fail
  refine (inp_any HG2.out).mono ?_
  intro e w3 hd
  obtain ⟨rfl, hG, hb⟩ := hd.low hs2
  rw [e2] at hG ⊢
  have HG3 : Hid (GB w3 w.heap.size (w.heap.size + 2) 50 K3) := hG
  have hb3 : Below w.heap.size w w3 := hb2.trans hb
  have hs3 := hb3.size
  clear hG hb hd HG2 hb2 hs2
  dsimp only
  go_wp2_with fail
  refine (and_any HG3.out 4 2).mono ?_
  intro e w4 hd
  obtain ⟨rfl, hG, hb⟩ := hd.low hs3
  rw [e3] at hG ⊢
  have HG4 : Hid (GB w4 w.heap.size (w.heap.size + 2) 50 K4) := hG
  have hb4 : Below w.heap.size w w4 := hb3.trans hb
  have hs4 := hb4.size
  clear hG hb hd HG3 hb3 hs3
  dsimp only
  go_wp2_with fail
  refine (and_any HG4.out 2 3).mono ?_
  intro e w5 hd
  obtain ⟨rfl, hG, hb⟩ := hd.low hs4
  rw [e4] at hG ⊢
  have HG5 : Hid (GB w5 w.heap.size (w.heap.size + 2) 50 K4) := hG
  have hb5 : Below w.heap.size w w5 := hb4.trans hb
  have hs5 := hb5.size
  clear hG hb hd HG4 hb4 hs4
  dsimp only
  go_wp2_with fail
  refine (or_any HG5.out (s64 2 (by decide) (by decide)) (s64 4 (by decide) (by decide))).mono ?_
  intro e w6 hd
  obtain ⟨rfl, hG, hb⟩ := hd.low hs5
  rw [e5] at hG ⊢
  have HG6 : Hid (GB w6 w.heap.size (w.heap.size + 2) 50 K5) := hG
  have hb6 : Below w.heap.size w w6 := hb5.trans hb
  have hs6 := hb6.size
  clear hG hb hd HG5 hb5 hs5
  dsimp only
  go_wp2_with fail
  refine (xor_any HG6.out (s64 2 (by decide) (by decide)) (s64 4 (by decide) (by decide))).mono ?_
  intro e w7 hd
  obtain ⟨rfl, hG, hb⟩ := hd.low hs6
  rw [e6] at hG ⊢
  have HG7 : Hid (GB w7 w.heap.size (w.heap.size + 2) 50 K8) := hG
  have hb7 : Below w.heap.size w w7 := hb6.trans hb
  have hs7 := hb7.size
  clear hG hb hd HG6 hb6 hs6
  dsimp only
  go_wp2_with fail
  refine (and_any HG7.out 2 99).mono ?_
  intro e w8 hd
  obtain ⟨rfl, hG, hb⟩ := hd.low hs7
  rw [e7] at hG ⊢
  have HG8 : Hid (GB w8 w.heap.size (w.heap.size + 2) 50 K8) := hG
  have hb8 : Below w.heap.size w w8 := hb7.trans hb
  have hs8 := hb8.size
  clear hG hb hd HG7 hb7 hs7
  dsimp only
  go_wp2_with fail
  refine (eval_any (Gr.below HG8.out (by go_grown)) 15 (Bz_new w8 true false)).mono ?_
  rintro e w9 ⟨rfl, hb⟩
  rw [e8]
  have hbx : Below w8.heap.size w8 w9 := Below.trans (by go_grown) (hb.mono (by simp))
  have HG9 : Hid _ := GB.below HG8.out hbx
  have hb9 : Below w.heap.size w w9 := hb8.trans (hbx.mono hs8)
  have hs9 := hb9.size
  clear hb hbx HG8 hb8 hs8
  dsimp only
  go_wp2_with fail
  refine (kids_any HG9.out 3).mono ?_
  rintro e w10 ⟨rfl, hb⟩
  rw [e9]
  have HG10 : Hid _ := GB.below HG9.out hb
  have hb10 : Below w.heap.size w w10 := hb9.trans (hb.mono hs9)
  have hs10 := hb10.size
  clear hb HG9 hb9 hs9
  dsimp only
  go_wp2_with fail
  refine (nodes_any HG10.out).mono ?_
  rintro e wz ⟨rfl, hw⟩
  rw [hw, show ((K8.length : Int) - 1) = 7 from rfl]
  clear hw wz
  go_wp2_with fail
  refine (inputs_any HG10.out).mono ?_
  rintro e w11 ⟨u1, rfl, hI, hb⟩
  rw [e10] at hI
  have HR1 : Hid _ := Is'.rl hI (by simp)
  have HG11 : Hid _ := GB.below HG10.out hb
  have hb11 : Below w.heap.size w w11 := hb10.trans (hb.mono hs10)
  have hs11 := hb11.size
  clear hb HG10 hb10 hs10 hI
  go_wp2_with fail
  refine (ints_same (Rl.below HR1.out (by go_grown)) (Rl_two w11 2 4)).mono ?_
  rintro e w12 ⟨rfl, hb⟩
  have hbx : Below w11.heap.size w11 w12 := Below.trans (by go_grown) (hb.mono (by simp))
  have HG12 : Hid _ := GB.below HG11.out hbx
  have hb12 : Below w.heap.size w w12 := hb11.trans (hbx.mono hs11)
  have hs12 := hb12.size
  clear hb hbx HG11 hb11 hs11
  go_wp2_with fail
  refine (cone_any HG12.out 9).mono ?_
  rintro e w13 ⟨u2, rfl, hR, hb⟩
  rw [e11] at hR
  have HR2 : Hid _ := hR
  have hb13 : Below w.heap.size w w13 := hb12.trans (hb.mono hs12)
  have hs13 := hb13.size
  clear hb HG12 hb12 hs12 hR HR1
  go_wp2_with fail
  refine (ints_same (Rl.below HR2.out (by go_grown)) (Rl_three w13 1 2 4)).mono ?_
  rintro e w14 ⟨rfl, hb⟩
  have hbx : Below w13.heap.size w13 w14 := Below.trans (by go_grown) (hb.mono (by simp))
  have hb14 : Below w.heap.size w w14 := hb13.trans (hbx.mono hs13)
  clear hb hbx HR2
  go_wp2_with fail
  go_ret
  exact ⟨rfl, hb14⟩
end Go.Proofs.Ytdmochghcmeebaa
