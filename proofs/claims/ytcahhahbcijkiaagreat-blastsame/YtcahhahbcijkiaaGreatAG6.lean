import Derived.Test.YtcahhahbcijkiaaGreatMg16
namespace Go.Proofs.YtcahhahbcijkiaaGreat.Ag
set_option maxHeartbeats 12800000
set_option maxRecDepth 100000
open Go.RowKit
set_option linter.unusedSimpArgs false
set_option linter.unusedVariables false
theorem both_any {w : World} {F : Nat → Prop} {g mo : Nat} {ks : List Kd} (h : Gr w F g mo ks) {k0 : Kd} (hk : 2 ≤ k0.1 ∧ k0.1 < k0.2 ∧ k0.2 < 2 * ks.length ∧ ¬ (k0.2 = k0.1 + 1 ∧ k0.1 % 2 = 0)) :
  Calls Tryz.prog 185 #[.pointer (some ⟨g, 0, none⟩), kval k0] w (Did w F g mo (bothF mo ks k0)) := by
 have hl := h.len
 have hk0 : k0 ≠ (0, 0) := fun e => by rw [e] at hk; simp at hk
 unfold bothF
 cases hf : ks.findIdx? (fun l => decide (l = k0)) with
 | some i =>
  refine (both_old h hk0 (find_some hf) (by omega) (by omega)).mono ?_
  rintro e w' ⟨rfl, hb⟩
  exact ⟨rfl, F, h.below hb, Ch.of_below F hb⟩
 | none =>
  dsimp only
  by_cases hr : ks.length = mo + 1
  ·rw [if_pos hr]
   refine (both_full h (find_none hf) hr (by omega) (by omega)).mono ?_
   rintro e w' ⟨rfl, hb⟩
   exact ⟨rfl, F, h.below hb, Ch.of_below F hb⟩
  ·rw [if_neg hr]
   refine (both_new h hk0 (find_none hf) (h.inv.snoc fun _ => ⟨hk, find_none hf⟩) (by omega) (by omega) (by omega)).mono ?_
   rintro e w' ⟨rfl, F', hG, hC⟩
   exact ⟨rfl, F', hG, hC⟩
theorem Li_two (w : World) (a b : Int) (t : TypeId) : Li (w.alloc (.cells #[.int .i64 a, .int .i64 b] t)) w.heap.size 0 [a, b] := by
 intro j hj
 have : j = 0 ∨ j = 1 := by simp at hj; omega
 rcases this with rfl | rfl <;> simp [go_sem]
theorem Li_one (w : World) (a : Int) (t : TypeId) : Li (w.alloc (.cells #[.int .i64 a] t)) w.heap.size 0 [a] := by
 intro j hj
 have : j = 0 := by simp at hj; omega
 subst this; simp [go_sem]
theorem and_no {w : World} {F : Nat → Prop} {g mo : Nat} {ks : List Kd} (h : Gr w F g mo ks) {a b : Int} (hv : (litB ks.length a && litB ks.length b) = false) :
  Rt 151 #[.pointer (some ⟨g, 0, none⟩), .int .i64 a, .int .i64 b] w (.tuple #[.int .i64 0, .int .i64 80]) := by
 have HH : Hid (∀ (wx : World) q, Below w.heap.size w wx → Li wx q 0 [a, b] → Rt 42 #[.pointer (some ⟨g, 0, none⟩), .slice (some ⟨q, 0, none⟩) 2 2] wx (.bool false)) := fun wx q hb hl => by
  have := has_any (h.below hb) (c := 2) hl (by simp)
  rw [show [a, b].all (litB ks.length) = (litB ks.length a && litB ks.length b) by simp, hv] at this
  exact this
 clear h hv
 go_enter Tryz.func151, Tryz.ntmps151
 go_wp2_with fail
 refine (HH.out _ _ (by go_grown) (Li_two w a b _)).mono ?_
 rintro e w1 ⟨rfl, hb⟩
 have hb1 : Below w.heap.size w w1 := Below.trans (by go_grown) (hb.mono (by simp))
 clear hb
 go_wp2_with fail
 refine bodyPost_ret (v := .tuple #[.int .i64 0, .int .i64 80]) (by simp [results, Tryz.results151, go_sem]) rfl ?_
 exact ⟨rfl, hb1⟩
theorem and_lt1 {w : World} {F : Nat → Prop} {g mo : Nat} {ks : List Kd} (h : Gr w F g mo ks) {b : Nat} (hv : (litB ks.length 0 && litB ks.length b) = true) (hlt : 0 < b) :
  Rt 151 #[.pointer (some ⟨g, 0, none⟩), .int .i64 (0 : Int), .int .i64 (b : Int)] w (.tuple #[.int .i64 0, .int .i64 0]) := by
 have HH : Hid (∀ (wx : World) q, Below w.heap.size w wx → Li wx q 0 [(0 : Int), (b : Int)] → Rt 42 #[.pointer (some ⟨g, 0, none⟩), .slice (some ⟨q, 0, none⟩) 2 2] wx (.bool true)) := fun wx q hb hl => by
  have := has_any (h.below hb) (c := 2) hl (by simp)
  rw [show [(0 : Int), (b : Int)].all (litB ks.length) = (litB ks.length 0 && litB ks.length b) by simp, hv] at this
  exact this
 have hlen := h.len
 have hv' : (0 : Int) < 2 * (ks.length : Int) ∧ (b : Int) < 2 * (ks.length : Int) := by
  simp [litB] at hv
  omega
 have HT : Hid (∀ wx, Calls Tryz.prog 184 #[.int .i64 (0 : Int)] wx fun e w' => e = .returned (.int .i64 (tu (0 : Int))) ∧ w' = wx) := fun wx => turn_any (by omega) (by omega) wx
 have m1 : ¬ (b : Int) < (0 : Int) := by omega
 have m2 : (0 : Int) < (b : Int) := by omega
 obtain ⟨T, eT⟩ : ∃ T, T = tu (0 : Int) := ⟨_, rfl⟩
 rw [← eT] at HT 
 clear h hv eT 
 go_enter Tryz.func151, Tryz.ntmps151
 go_wp2_with fail
 refine (HH.out _ _ (by go_grown) (Li_two w 0 b _)).mono ?_
 rintro e w1 ⟨rfl, hb⟩
 have hb1 : Below w.heap.size w w1 := Below.trans (by go_grown) (hb.mono (by simp))
 clear hb HH
 go_wp2_with fail
 refine bodyPost_ret (v := .tuple #[.int .i64 0, .int .i64 0]) (by simp [results, Tryz.results151, go_sem]) rfl ?_
 exact ⟨rfl, hb1⟩
theorem and_lt2 {w : World} {F : Nat → Prop} {g mo : Nat} {ks : List Kd} (h : Gr w F g mo ks) {a b : Nat} (hv : (litB ks.length a && litB ks.length b) = true) (hlt : a < b) (h0 : a ≠ 0) (hT : (b : Int) = tu (a : Int)) :
  Rt 151 #[.pointer (some ⟨g, 0, none⟩), .int .i64 (a : Int), .int .i64 (b : Int)] w (.tuple #[.int .i64 0, .int .i64 0]) := by
 have HH : Hid (∀ (wx : World) q, Below w.heap.size w wx → Li wx q 0 [(a : Int), (b : Int)] → Rt 42 #[.pointer (some ⟨g, 0, none⟩), .slice (some ⟨q, 0, none⟩) 2 2] wx (.bool true)) := fun wx q hb hl => by
  have := has_any (h.below hb) (c := 2) hl (by simp)
  rw [show [(a : Int), (b : Int)].all (litB ks.length) = (litB ks.length a && litB ks.length b) by simp, hv] at this
  exact this
 have hlen := h.len
 have hv' : (a : Int) < 2 * (ks.length : Int) ∧ (b : Int) < 2 * (ks.length : Int) := by
  simp [litB] at hv
  omega
 have HT : Hid (∀ wx, Calls Tryz.prog 184 #[.int .i64 (a : Int)] wx fun e w' => e = .returned (.int .i64 (tu (a : Int))) ∧ w' = wx) := fun wx => turn_any (by omega) (by omega) wx
 have z1 : ((a : Int) == 0) = false := by simp; omega
 have z2 : ((b : Int) == tu (a : Int)) = true := by simp; omega
 have m1 : ¬ (b : Int) < (a : Int) := by omega
 have m2 : (a : Int) < (b : Int) := by omega
 obtain ⟨T, eT⟩ : ∃ T, T = tu (a : Int) := ⟨_, rfl⟩
 rw [← eT] at HT z2
 clear h hv eT hT
 go_enter Tryz.func151, Tryz.ntmps151
 go_wp2_with fail
 refine (HH.out _ _ (by go_grown) (Li_two w a b _)).mono ?_
 rintro e w1 ⟨rfl, hb⟩
 have hb1 : Below w.heap.size w w1 := Below.trans (by go_grown) (hb.mono (by simp))
 clear hb HH
 go_wp2_with fail
 refine (HT.out _).mono ?_
 rintro e wz ⟨rfl, hw⟩
 rw [hw]
 clear hw wz
 go_wp2_with fail
 refine bodyPost_ret (v := .tuple #[.int .i64 0, .int .i64 0]) (by simp [results, Tryz.results151, go_sem]) rfl ?_
 exact ⟨rfl, hb1⟩
theorem and_lt3 {w : World} {F : Nat → Prop} {g mo : Nat} {ks : List Kd} (h : Gr w F g mo ks) {b : Nat} (hv : (litB ks.length 1 && litB ks.length b) = true) (hlt : 1 < b) (hT : (b : Int) ≠ tu (1 : Int)) :
  Rt 151 #[.pointer (some ⟨g, 0, none⟩), .int .i64 (1 : Int), .int .i64 (b : Int)] w (.tuple #[.int .i64 (b : Int), .int .i64 0]) := by
 have HH : Hid (∀ (wx : World) q, Below w.heap.size w wx → Li wx q 0 [(1 : Int), (b : Int)] → Rt 42 #[.pointer (some ⟨g, 0, none⟩), .slice (some ⟨q, 0, none⟩) 2 2] wx (.bool true)) := fun wx q hb hl => by
  have := has_any (h.below hb) (c := 2) hl (by simp)
  rw [show [(1 : Int), (b : Int)].all (litB ks.length) = (litB ks.length 1 && litB ks.length b) by simp, hv] at this
  exact this
 have hlen := h.len
 have hv' : (1 : Int) < 2 * (ks.length : Int) ∧ (b : Int) < 2 * (ks.length : Int) := by
  simp [litB] at hv
  omega
 have HT : Hid (∀ wx, Calls Tryz.prog 184 #[.int .i64 (1 : Int)] wx fun e w' => e = .returned (.int .i64 (tu (1 : Int))) ∧ w' = wx) := fun wx => turn_any (by omega) (by omega) wx
 have z2 : ((b : Int) == tu (1 : Int)) = false := by simp; omega
 have m1 : ¬ (b : Int) < (1 : Int) := by omega
 have m2 : (1 : Int) < (b : Int) := by omega
 obtain ⟨T, eT⟩ : ∃ T, T = tu (1 : Int) := ⟨_, rfl⟩
 rw [← eT] at HT z2
 clear h hv eT hT
 go_enter Tryz.func151, Tryz.ntmps151
 go_wp2_with fail
 refine (HH.out _ _ (by go_grown) (Li_two w 1 b _)).mono ?_
 rintro e w1 ⟨rfl, hb⟩
 have hb1 : Below w.heap.size w w1 := Below.trans (by go_grown) (hb.mono (by simp))
 clear hb HH
 go_wp2_with fail
 refine (HT.out _).mono ?_
 rintro e wz ⟨rfl, hw⟩
 rw [hw]
 clear hw wz
 go_wp2_with fail
 refine bodyPost_ret (v := .tuple #[.int .i64 (b : Int), .int .i64 0]) (by simp [results, Tryz.results151, go_sem]) rfl ?_
 exact ⟨rfl, hb1⟩
theorem and_lt5 {w : World} {F : Nat → Prop} {g mo : Nat} {ks : List Kd} (h : Gr w F g mo ks) {a b : Nat} (hv : (litB ks.length a && litB ks.length b) = true) (hlt : a < b) (h0 : 2 ≤ a) (hT : (b : Int) ≠ tu (a : Int)) :
  Calls Tryz.prog 151 #[.pointer (some ⟨g, 0, none⟩), .int .i64 (a : Int), .int .i64 (b : Int)] w (Did w F g mo (bothF mo ks (a, b))) := by
 have HH : Hid (∀ (wx : World) q, Below w.heap.size w wx → Li wx q 0 [(a : Int), (b : Int)] → Rt 42 #[.pointer (some ⟨g, 0, none⟩), .slice (some ⟨q, 0, none⟩) 2 2] wx (.bool true)) := fun wx q hb hl => by
  have := has_any (h.below hb) (c := 2) hl (by simp)
  rw [show [(a : Int), (b : Int)].all (litB ks.length) = (litB ks.length a && litB ks.length b) by simp, hv] at this
  exact this
 have hlen := h.len
 have hv' : (a : Int) < 2 * (ks.length : Int) ∧ (b : Int) < 2 * (ks.length : Int) := by
  simp [litB] at hv
  omega
 have HT : Hid (∀ wx, Calls Tryz.prog 184 #[.int .i64 (a : Int)] wx fun e w' => e = .returned (.int .i64 (tu (a : Int))) ∧ w' = wx) := fun wx => turn_any (by omega) (by omega) wx
 have HB : Hid (∀ wx, Below w.heap.size w wx → Calls Tryz.prog 185 #[.pointer (some ⟨g, 0, none⟩), .agg #[.int .i64 (a : Int), .int .i64 (b : Int)]] wx (Did wx F g mo (bothF mo ks (a, b)))) := fun wx hb => both_any (h.below hb) (k0 := (a, b)) (by unfold tu at hT; omega)
 have z1 : ((a : Int) == 0) = false := by simp; omega
 have z2 : ((b : Int) == tu (a : Int)) = false := by simp; omega
 have z3 : ((a : Int) == 1) = false := by simp; omega
 have z4 : ((a : Int) == (b : Int)) = false := by simp; omega
 have m1 : ¬ (b : Int) < (a : Int) := by omega
 have m2 : (a : Int) < (b : Int) := by omega
 obtain ⟨T, eT⟩ : ∃ T, T = tu (a : Int) := ⟨_, rfl⟩
 rw [← eT] at HT z2
 clear h hv eT hT
 go_enter Tryz.func151, Tryz.ntmps151
 go_wp2_with fail
 refine (HH.out _ _ (by go_grown) (Li_two w a b _)).mono ?_
 rintro e w1 ⟨rfl, hb⟩
 have hb1 : Below w.heap.size w w1 := Below.trans (by go_grown) (hb.mono (by simp))
 clear hb HH
 go_wp2_with fail
 refine (HT.out _).mono ?_
 rintro e wz ⟨rfl, hw⟩
 rw [hw]
 clear hw wz
 go_wp2_with fail
 refine (HB.out _ hb1).mono ?_
 rintro e w2 ⟨rfl, F', hG, hC⟩
 have HG2 : Hid _ := hG
 have HC2 : Hid _ := hC
 obtain ⟨R, hR⟩ : ∃ R, R = bothF mo ks (a, b) := ⟨_, rfl⟩
 rw [← hR] at HG2 ⊢
 have HR : Hid _ := hR
 clear hG hC hR HB
 go_wp2_with fail
 refine bodyPost_ret (v := .tuple #[.int .i64 R.1, .int .i64 R.2.1]) (by simp [results, Tryz.results151, go_sem]) rfl ?_
 rw [← HR.out]
 exact ⟨rfl, F', HG2.out, Ch.trans (Ch.of_below F hb1) HC2.out⟩
theorem and_gt1 {w : World} {F : Nat → Prop} {g mo : Nat} {ks : List Kd} (h : Gr w F g mo ks) {a : Nat} (hv : (litB ks.length a && litB ks.length 0) = true) (hlt : 0 < a) :
  Rt 151 #[.pointer (some ⟨g, 0, none⟩), .int .i64 (a : Int), .int .i64 (0 : Int)] w (.tuple #[.int .i64 0, .int .i64 0]) := by
 have HH : Hid (∀ (wx : World) q, Below w.heap.size w wx → Li wx q 0 [(a : Int), (0 : Int)] → Rt 42 #[.pointer (some ⟨g, 0, none⟩), .slice (some ⟨q, 0, none⟩) 2 2] wx (.bool true)) := fun wx q hb hl => by
  have := has_any (h.below hb) (c := 2) hl (by simp)
  rw [show [(a : Int), (0 : Int)].all (litB ks.length) = (litB ks.length a && litB ks.length 0) by simp, hv] at this
  exact this
 have hlen := h.len
 have hv' : (a : Int) < 2 * (ks.length : Int) ∧ (0 : Int) < 2 * (ks.length : Int) := by
  simp [litB] at hv
  omega
 have HT : Hid (∀ wx, Calls Tryz.prog 184 #[.int .i64 (0 : Int)] wx fun e w' => e = .returned (.int .i64 (tu (0 : Int))) ∧ w' = wx) := fun wx => turn_any (by omega) (by omega) wx
 have m1 : ¬ (a : Int) < (0 : Int) := by omega
 have m2 : (0 : Int) < (a : Int) := by omega
 obtain ⟨T, eT⟩ : ∃ T, T = tu (0 : Int) := ⟨_, rfl⟩
 rw [← eT] at HT 
 clear h hv eT 
 go_enter Tryz.func151, Tryz.ntmps151
 go_wp2_with fail
 refine (HH.out _ _ (by go_grown) (Li_two w a 0 _)).mono ?_
 rintro e w1 ⟨rfl, hb⟩
 have hb1 : Below w.heap.size w w1 := Below.trans (by go_grown) (hb.mono (by simp))
 clear hb HH
 go_wp2_with fail
 refine bodyPost_ret (v := .tuple #[.int .i64 0, .int .i64 0]) (by simp [results, Tryz.results151, go_sem]) rfl ?_
 exact ⟨rfl, hb1⟩
theorem and_gt2 {w : World} {F : Nat → Prop} {g mo : Nat} {ks : List Kd} (h : Gr w F g mo ks) {a b : Nat} (hv : (litB ks.length a && litB ks.length b) = true) (hlt : b < a) (h0 : b ≠ 0) (hT : (a : Int) = tu (b : Int)) :
  Rt 151 #[.pointer (some ⟨g, 0, none⟩), .int .i64 (a : Int), .int .i64 (b : Int)] w (.tuple #[.int .i64 0, .int .i64 0]) := by
 have HH : Hid (∀ (wx : World) q, Below w.heap.size w wx → Li wx q 0 [(a : Int), (b : Int)] → Rt 42 #[.pointer (some ⟨g, 0, none⟩), .slice (some ⟨q, 0, none⟩) 2 2] wx (.bool true)) := fun wx q hb hl => by
  have := has_any (h.below hb) (c := 2) hl (by simp)
  rw [show [(a : Int), (b : Int)].all (litB ks.length) = (litB ks.length a && litB ks.length b) by simp, hv] at this
  exact this
 have hlen := h.len
 have hv' : (a : Int) < 2 * (ks.length : Int) ∧ (b : Int) < 2 * (ks.length : Int) := by
  simp [litB] at hv
  omega
 have HT : Hid (∀ wx, Calls Tryz.prog 184 #[.int .i64 (b : Int)] wx fun e w' => e = .returned (.int .i64 (tu (b : Int))) ∧ w' = wx) := fun wx => turn_any (by omega) (by omega) wx
 have z1 : ((b : Int) == 0) = false := by simp; omega
 have z2 : ((a : Int) == tu (b : Int)) = true := by simp; omega
 have m1 : ¬ (a : Int) < (b : Int) := by omega
 have m2 : (b : Int) < (a : Int) := by omega
 obtain ⟨T, eT⟩ : ∃ T, T = tu (b : Int) := ⟨_, rfl⟩
 rw [← eT] at HT z2
 clear h hv eT hT
 go_enter Tryz.func151, Tryz.ntmps151
 go_wp2_with fail
 refine (HH.out _ _ (by go_grown) (Li_two w a b _)).mono ?_
 rintro e w1 ⟨rfl, hb⟩
 have hb1 : Below w.heap.size w w1 := Below.trans (by go_grown) (hb.mono (by simp))
 clear hb HH
 go_wp2_with fail
 refine (HT.out _).mono ?_
 rintro e wz ⟨rfl, hw⟩
 rw [hw]
 clear hw wz
 go_wp2_with fail
 refine bodyPost_ret (v := .tuple #[.int .i64 0, .int .i64 0]) (by simp [results, Tryz.results151, go_sem]) rfl ?_
 exact ⟨rfl, hb1⟩
theorem and_gt3 {w : World} {F : Nat → Prop} {g mo : Nat} {ks : List Kd} (h : Gr w F g mo ks) {a : Nat} (hv : (litB ks.length a && litB ks.length 1) = true) (hlt : 1 < a) (hT : (a : Int) ≠ tu (1 : Int)) :
  Rt 151 #[.pointer (some ⟨g, 0, none⟩), .int .i64 (a : Int), .int .i64 (1 : Int)] w (.tuple #[.int .i64 (a : Int), .int .i64 0]) := by
 have HH : Hid (∀ (wx : World) q, Below w.heap.size w wx → Li wx q 0 [(a : Int), (1 : Int)] → Rt 42 #[.pointer (some ⟨g, 0, none⟩), .slice (some ⟨q, 0, none⟩) 2 2] wx (.bool true)) := fun wx q hb hl => by
  have := has_any (h.below hb) (c := 2) hl (by simp)
  rw [show [(a : Int), (1 : Int)].all (litB ks.length) = (litB ks.length a && litB ks.length 1) by simp, hv] at this
  exact this
 have hlen := h.len
 have hv' : (a : Int) < 2 * (ks.length : Int) ∧ (1 : Int) < 2 * (ks.length : Int) := by
  simp [litB] at hv
  omega
 have HT : Hid (∀ wx, Calls Tryz.prog 184 #[.int .i64 (1 : Int)] wx fun e w' => e = .returned (.int .i64 (tu (1 : Int))) ∧ w' = wx) := fun wx => turn_any (by omega) (by omega) wx
 have z2 : ((a : Int) == tu (1 : Int)) = false := by simp; omega
 have m1 : ¬ (a : Int) < (1 : Int) := by omega
 have m2 : (1 : Int) < (a : Int) := by omega
 obtain ⟨T, eT⟩ : ∃ T, T = tu (1 : Int) := ⟨_, rfl⟩
 rw [← eT] at HT z2
 clear h hv eT hT
 go_enter Tryz.func151, Tryz.ntmps151
 go_wp2_with fail
 refine (HH.out _ _ (by go_grown) (Li_two w a 1 _)).mono ?_
 rintro e w1 ⟨rfl, hb⟩
 have hb1 : Below w.heap.size w w1 := Below.trans (by go_grown) (hb.mono (by simp))
 clear hb HH
 go_wp2_with fail
 refine (HT.out _).mono ?_
 rintro e wz ⟨rfl, hw⟩
 rw [hw]
 clear hw wz
 go_wp2_with fail
 refine bodyPost_ret (v := .tuple #[.int .i64 (a : Int), .int .i64 0]) (by simp [results, Tryz.results151, go_sem]) rfl ?_
 exact ⟨rfl, hb1⟩
theorem and_gt5 {w : World} {F : Nat → Prop} {g mo : Nat} {ks : List Kd} (h : Gr w F g mo ks) {a b : Nat} (hv : (litB ks.length a && litB ks.length b) = true) (hlt : b < a) (h0 : 2 ≤ b) (hT : (a : Int) ≠ tu (b : Int)) :
  Calls Tryz.prog 151 #[.pointer (some ⟨g, 0, none⟩), .int .i64 (a : Int), .int .i64 (b : Int)] w (Did w F g mo (bothF mo ks (b, a))) := by
 have HH : Hid (∀ (wx : World) q, Below w.heap.size w wx → Li wx q 0 [(a : Int), (b : Int)] → Rt 42 #[.pointer (some ⟨g, 0, none⟩), .slice (some ⟨q, 0, none⟩) 2 2] wx (.bool true)) := fun wx q hb hl => by
  have := has_any (h.below hb) (c := 2) hl (by simp)
  rw [show [(a : Int), (b : Int)].all (litB ks.length) = (litB ks.length a && litB ks.length b) by simp, hv] at this
  exact this
 have hlen := h.len
 have hv' : (a : Int) < 2 * (ks.length : Int) ∧ (b : Int) < 2 * (ks.length : Int) := by
  simp [litB] at hv
  omega
 have HT : Hid (∀ wx, Calls Tryz.prog 184 #[.int .i64 (b : Int)] wx fun e w' => e = .returned (.int .i64 (tu (b : Int))) ∧ w' = wx) := fun wx => turn_any (by omega) (by omega) wx
 have HB : Hid (∀ wx, Below w.heap.size w wx → Calls Tryz.prog 185 #[.pointer (some ⟨g, 0, none⟩), .agg #[.int .i64 (b : Int), .int .i64 (a : Int)]] wx (Did wx F g mo (bothF mo ks (b, a)))) := fun wx hb => both_any (h.below hb) (k0 := (b, a)) (by unfold tu at hT; omega)
 have z1 : ((b : Int) == 0) = false := by simp; omega
 have z2 : ((a : Int) == tu (b : Int)) = false := by simp; omega
 have z3 : ((b : Int) == 1) = false := by simp; omega
 have z4 : ((b : Int) == (a : Int)) = false := by simp; omega
 have m1 : ¬ (a : Int) < (b : Int) := by omega
 have m2 : (b : Int) < (a : Int) := by omega
 obtain ⟨T, eT⟩ : ∃ T, T = tu (b : Int) := ⟨_, rfl⟩
 rw [← eT] at HT z2
 clear h hv eT hT
 go_enter Tryz.func151, Tryz.ntmps151
 go_wp2_with fail
 refine (HH.out _ _ (by go_grown) (Li_two w a b _)).mono ?_
 rintro e w1 ⟨rfl, hb⟩
 have hb1 : Below w.heap.size w w1 := Below.trans (by go_grown) (hb.mono (by simp))
 clear hb HH
 go_wp2_with fail
 refine (HT.out _).mono ?_
 rintro e wz ⟨rfl, hw⟩
 rw [hw]
 clear hw wz
 go_wp2_with fail
 refine (HB.out _ hb1).mono ?_
 rintro e w2 ⟨rfl, F', hG, hC⟩
 have HG2 : Hid _ := hG
 have HC2 : Hid _ := hC
 obtain ⟨R, hR⟩ : ∃ R, R = bothF mo ks (b, a) := ⟨_, rfl⟩
 rw [← hR] at HG2 ⊢
 have HR : Hid _ := hR
 clear hG hC hR HB
 go_wp2_with fail
 refine bodyPost_ret (v := .tuple #[.int .i64 R.1, .int .i64 R.2.1]) (by simp [results, Tryz.results151, go_sem]) rfl ?_
 rw [← HR.out]
 exact ⟨rfl, F', HG2.out, Ch.trans (Ch.of_below F hb1) HC2.out⟩
theorem and_eq1 {w : World} {F : Nat → Prop} {g mo : Nat} {ks : List Kd} (h : Gr w F g mo ks)  (hv : (litB ks.length 0 && litB ks.length 0) = true) :
  Rt 151 #[.pointer (some ⟨g, 0, none⟩), .int .i64 (0 : Int), .int .i64 (0 : Int)] w (.tuple #[.int .i64 0, .int .i64 0]) := by
 have HH : Hid (∀ (wx : World) q, Below w.heap.size w wx → Li wx q 0 [(0 : Int), (0 : Int)] → Rt 42 #[.pointer (some ⟨g, 0, none⟩), .slice (some ⟨q, 0, none⟩) 2 2] wx (.bool true)) := fun wx q hb hl => by
  have := has_any (h.below hb) (c := 2) hl (by simp)
  rw [show [(0 : Int), (0 : Int)].all (litB ks.length) = (litB ks.length 0 && litB ks.length 0) by simp, hv] at this
  exact this
 have hlen := h.len
 have hv' : (0 : Int) < 2 * (ks.length : Int) ∧ (0 : Int) < 2 * (ks.length : Int) := by
  simp [litB] at hv
  omega
 have HT : Hid (∀ wx, Calls Tryz.prog 184 #[.int .i64 (0 : Int)] wx fun e w' => e = .returned (.int .i64 (tu (0 : Int))) ∧ w' = wx) := fun wx => turn_any (by omega) (by omega) wx
 obtain ⟨T, eT⟩ : ∃ T, T = tu (0 : Int) := ⟨_, rfl⟩
 rw [← eT] at HT 
 clear h hv eT 
 go_enter Tryz.func151, Tryz.ntmps151
 go_wp2_with fail
 refine (HH.out _ _ (by go_grown) (Li_two w 0 0 _)).mono ?_
 rintro e w1 ⟨rfl, hb⟩
 have hb1 : Below w.heap.size w w1 := Below.trans (by go_grown) (hb.mono (by simp))
 clear hb HH
 go_wp2_with fail
 refine bodyPost_ret (v := .tuple #[.int .i64 0, .int .i64 0]) (by simp [results, Tryz.results151, go_sem]) rfl ?_
 exact ⟨rfl, hb1⟩
theorem and_eq3 {w : World} {F : Nat → Prop} {g mo : Nat} {ks : List Kd} (h : Gr w F g mo ks)  (hv : (litB ks.length 1 && litB ks.length 1) = true) :
  Rt 151 #[.pointer (some ⟨g, 0, none⟩), .int .i64 (1 : Int), .int .i64 (1 : Int)] w (.tuple #[.int .i64 (1 : Int), .int .i64 0]) := by
 have HH : Hid (∀ (wx : World) q, Below w.heap.size w wx → Li wx q 0 [(1 : Int), (1 : Int)] → Rt 42 #[.pointer (some ⟨g, 0, none⟩), .slice (some ⟨q, 0, none⟩) 2 2] wx (.bool true)) := fun wx q hb hl => by
  have := has_any (h.below hb) (c := 2) hl (by simp)
  rw [show [(1 : Int), (1 : Int)].all (litB ks.length) = (litB ks.length 1 && litB ks.length 1) by simp, hv] at this
  exact this
 have hlen := h.len
 have hv' : (1 : Int) < 2 * (ks.length : Int) ∧ (1 : Int) < 2 * (ks.length : Int) := by
  simp [litB] at hv
  omega
 have HT : Hid (∀ wx, Calls Tryz.prog 184 #[.int .i64 (1 : Int)] wx fun e w' => e = .returned (.int .i64 (tu (1 : Int))) ∧ w' = wx) := fun wx => turn_any (by omega) (by omega) wx
 have z2 : ((1 : Int) == tu (1 : Int)) = false := by simp; unfold tu; omega
 obtain ⟨T, eT⟩ : ∃ T, T = tu (1 : Int) := ⟨_, rfl⟩
 rw [← eT] at HT z2
 clear h hv eT 
 go_enter Tryz.func151, Tryz.ntmps151
 go_wp2_with fail
 refine (HH.out _ _ (by go_grown) (Li_two w 1 1 _)).mono ?_
 rintro e w1 ⟨rfl, hb⟩
 have hb1 : Below w.heap.size w w1 := Below.trans (by go_grown) (hb.mono (by simp))
 clear hb HH
 go_wp2_with fail
 refine (HT.out _).mono ?_
 rintro e wz ⟨rfl, hw⟩
 rw [hw]
 clear hw wz
 go_wp2_with fail
 refine bodyPost_ret (v := .tuple #[.int .i64 (1 : Int), .int .i64 0]) (by simp [results, Tryz.results151, go_sem]) rfl ?_
 exact ⟨rfl, hb1⟩
theorem and_eq4 {w : World} {F : Nat → Prop} {g mo : Nat} {ks : List Kd} (h : Gr w F g mo ks) {a : Nat} (hv : (litB ks.length a && litB ks.length a) = true) (h0 : 2 ≤ a) :
  Rt 151 #[.pointer (some ⟨g, 0, none⟩), .int .i64 (a : Int), .int .i64 (a : Int)] w (.tuple #[.int .i64 (a : Int), .int .i64 0]) := by
 have HH : Hid (∀ (wx : World) q, Below w.heap.size w wx → Li wx q 0 [(a : Int), (a : Int)] → Rt 42 #[.pointer (some ⟨g, 0, none⟩), .slice (some ⟨q, 0, none⟩) 2 2] wx (.bool true)) := fun wx q hb hl => by
  have := has_any (h.below hb) (c := 2) hl (by simp)
  rw [show [(a : Int), (a : Int)].all (litB ks.length) = (litB ks.length a && litB ks.length a) by simp, hv] at this
  exact this
 have hlen := h.len
 have hv' : (a : Int) < 2 * (ks.length : Int) ∧ (a : Int) < 2 * (ks.length : Int) := by
  simp [litB] at hv
  omega
 have HT : Hid (∀ wx, Calls Tryz.prog 184 #[.int .i64 (a : Int)] wx fun e w' => e = .returned (.int .i64 (tu (a : Int))) ∧ w' = wx) := fun wx => turn_any (by omega) (by omega) wx
 have z1 : ((a : Int) == 0) = false := by simp; omega
 have z2 : ((a : Int) == tu (a : Int)) = false := by simp; unfold tu; omega
 have z3 : ((a : Int) == 1) = false := by simp; omega
 have z4 : ((a : Int) == (a : Int)) = true := by simp
 obtain ⟨T, eT⟩ : ∃ T, T = tu (a : Int) := ⟨_, rfl⟩
 rw [← eT] at HT z2
 clear h hv eT 
 go_enter Tryz.func151, Tryz.ntmps151
 go_wp2_with fail
 refine (HH.out _ _ (by go_grown) (Li_two w a a _)).mono ?_
 rintro e w1 ⟨rfl, hb⟩
 have hb1 : Below w.heap.size w w1 := Below.trans (by go_grown) (hb.mono (by simp))
 clear hb HH
 go_wp2_with fail
 refine (HT.out _).mono ?_
 rintro e wz ⟨rfl, hw⟩
 rw [hw]
 clear hw wz
 go_wp2_with fail
 refine bodyPost_ret (v := .tuple #[.int .i64 (a : Int), .int .i64 0]) (by simp [results, Tryz.results151, go_sem]) rfl ?_
 exact ⟨rfl, hb1⟩
theorem Did.of_below {w w' : World} {F : Nat → Prop} {g mo : Nat} {ks : List Kd} {l er : Int} {e : Ending} (h : Gr w F g mo ks) (hb : e = .returned (.tuple #[.int .i64 l, .int .i64 er]) ∧ Below w.heap.size w w') : Did w F g mo (l, er, ks) e w' := ⟨hb.1, F, h.below hb.2, Ch.of_below F hb.2⟩
theorem and_any {w : World} {F : Nat → Prop} {g mo : Nat} {ks : List Kd} (h : Gr w F g mo ks) (a b : Int) :
  Calls Tryz.prog 151 #[.pointer (some ⟨g, 0, none⟩), .int .i64 a, .int .i64 b] w (Did w F g mo (andF mo ks a b)) := by
 unfold andF
 cases hv : (litB ks.length a && litB ks.length b)
 ·rw [if_neg (by decide)]
  exact (and_no h hv).mono fun e w' hb => Did.of_below h hb
 ·rw [if_pos rfl]
  have hv' : 0 ≤ a ∧ 0 ≤ b := by
   simp [litB] at hv
   omega
  obtain ⟨A, rfl⟩ : ∃ A : Nat, a = (A : Int) := ⟨a.toNat, by omega⟩
  obtain ⟨B, rfl⟩ : ∃ B : Nat, b = (B : Int) := ⟨b.toNat, by omega⟩
  rcases Nat.lt_trichotomy A B with hlt | rfl | hlt
  ·rw [show min (A : Int) (B : Int) = A by omega, show max (A : Int) (B : Int) = B by omega, Int.toNat_natCast, Int.toNat_natCast]
   by_cases h0 : A = 0
   ·rw [if_pos (Or.inl (by omega))]
    subst h0; rw [show ((0 : Nat) : Int) = 0 from rfl] at hv ⊢; exact (and_lt1 h hv hlt).mono fun e w' hb => Did.of_below h hb
   ·by_cases hT : (B : Int) = tu (A : Int)
    ·rw [if_pos (Or.inr hT)]
     exact (and_lt2 h hv hlt h0 hT).mono fun e w' hb => Did.of_below h hb
    ·rw [if_neg (by omega)]
     by_cases h1 : A = 1
     ·rw [if_pos (by omega)]
      subst h1; rw [show ((1 : Nat) : Int) = 1 from rfl] at hv hT ⊢; exact (and_lt3 h hv hlt hT).mono fun e w' hb => Did.of_below h hb
     ·rw [if_neg (by omega)]
      exact and_lt5 h hv hlt (by omega) hT
  ·rw [show min (A : Int) (A : Int) = A by omega, show max (A : Int) (A : Int) = A by omega]
   by_cases h0 : A = 0
   ·rw [if_pos (Or.inl (by omega))]
    subst h0; rw [show ((0 : Nat) : Int) = 0 from rfl] at hv ⊢; exact (and_eq1 h hv).mono fun e w' hb => Did.of_below h hb
   ·rw [if_neg (by unfold tu; omega), if_pos (Or.inr rfl)]
    by_cases h1 : A = 1
    ·subst h1; rw [show ((1 : Nat) : Int) = 1 from rfl] at hv ⊢; exact (and_eq3 h hv).mono fun e w' hb => Did.of_below h hb
    ·exact (and_eq4 h hv (by omega)).mono fun e w' hb => Did.of_below h hb
  ·rw [show min (A : Int) (B : Int) = B by omega, show max (A : Int) (B : Int) = A by omega, Int.toNat_natCast, Int.toNat_natCast]
   by_cases h0 : B = 0
   ·rw [if_pos (Or.inl (by omega))]
    subst h0; rw [show ((0 : Nat) : Int) = 0 from rfl] at hv ⊢; exact (and_gt1 h hv hlt).mono fun e w' hb => Did.of_below h hb
   ·by_cases hT : (A : Int) = tu (B : Int)
    ·rw [if_pos (Or.inr hT)]
     exact (and_gt2 h hv hlt h0 hT).mono fun e w' hb => Did.of_below h hb
    ·rw [if_neg (by omega)]
     by_cases h1 : B = 1
     ·rw [if_pos (by omega)]
      subst h1; rw [show ((1 : Nat) : Int) = 1 from rfl] at hv hT ⊢; exact (and_gt3 h hv hlt hT).mono fun e w' hb => Did.of_below h hb
     ·rw [if_neg (by omega)]
      exact and_gt5 h hv hlt (by omega) hT
end Go.Proofs.YtcahhahbcijkiaaGreat.Ag
