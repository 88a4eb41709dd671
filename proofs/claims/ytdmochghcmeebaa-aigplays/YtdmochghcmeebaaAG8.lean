/- Contracts (aig): steps of a script. -/
import Derived.Test.YtdmochghcmeebaaAG7
namespace Go.Proofs.Ytdmochghcmeebaa
open Go.RowKit
set_option linter.unusedSimpArgs false
set_option linter.unusedVariables false

theorem place_emod {k n : Int} (hn : 0 < n) : k % n = if k.tmod n < 0 then k.tmod n + n else k.tmod n := by
  rw [Int.tmod_eq_emod]
  have h1 := Int.emod_nonneg k (by omega : n ≠ 0)
  have h2 := Int.emod_lt_of_pos k hn
  have e : (n.natAbs : Int) = n := by omega
  split
  · rw [if_neg (by omega)]; omega
  · next hq =>
    have : ¬ n ∣ k := fun h => hq (Or.inr h)
    have h3 : k % n ≠ 0 := fun h => this (Int.dvd_of_emod_eq_zero h)
    rw [if_pos (by omega)]; omega
theorem tmod_rng {k n : Int} (hn : 0 < n) : -n ≤ k.tmod n ∧ k.tmod n < n := by
  have h1 := place_emod (k := k) hn
  have h2 := Int.emod_nonneg k (by omega : n ≠ 0)
  have h3 := Int.emod_lt_of_pos k hn
  split at h1 <;> omega
set_option maxHeartbeats 1600000 in
theorem place_any {k n : Int} (hn : 0 < n) (hn2 : n ≤ 1000000000) (w : World) :
    Calls Try.prog 23 #[.int .i64 k, .int .i64 n] w fun e w' => e = .returned (.int .i64 (k % n)) ∧ w' = w := by
  have hp := place_emod (k := k) hn
  obtain ⟨r1, r2⟩ := tmod_rng (k := k) hn
  obtain ⟨T, hT⟩ : ∃ T, T = k.tmod n := ⟨_, rfl⟩
  obtain ⟨R, hR⟩ : ∃ R, R = k % n := ⟨_, rfl⟩
  rw [← hR]
  rw [← hT, ← hR] at hp
  rw [← hT] at r1 r2
  have z : ¬ n = 0 := by omega
  have eT : k.tmod n = T := hT.symm
  have eW : wrap64 T = T := by unfold wrap64; omega
  by_cases hneg : T < 0
  · rw [if_pos hneg] at hp
    have HR : Hid _ := hp
    clear hp hT hR
    go_enter Try.func23, Try.ntmps23
    go_wp2_with fail
    go_ret
    exact ⟨by rw [HR.out]; rfl, rfl⟩
  · rw [if_neg hneg] at hp
    have HR : Hid _ := hp
    clear hp hT hR
    go_enter Try.func23, Try.ntmps23
    go_wp2_with fail
    go_ret
    exact ⟨by rw [HR.out]; rfl, rfl⟩

/-- A step. -/
structure St where
  what : Int
  a : Int
  b : Int
  c : Int
  near : Bool
def St.cs (s : St) : List Value := [.int .i64 s.what, .int .i64 s.a, .int .i64 s.b, .int .i64 s.c, .bool s.near]
/-- Its literals in a graph of N nodes (node 0 counted). -/
def liF (s : St) (N : Nat) : Int × Int × Int := if s.near then (s.a % (2 * (N : Int)), s.b % (2 * (N : Int)), s.c % (2 * (N : Int))) else (s.a, s.b, s.c)
set_option maxHeartbeats 1600000 in
theorem lits_any (s : St) {N : Nat} (h0 : 0 < N) (hN : N ≤ 40000) (w : World) :
    Calls Try.prog 10 #[.agg #[.int .i64 s.what, .int .i64 s.a, .int .i64 s.b, .int .i64 s.c, .bool s.near], .int .i64 ((N : Int) - 1)] w fun e w' => e = .returned (.tuple #[.int .i64 (liF s N).1, .int .i64 (liF s N).2.1, .int .i64 (liF s N).2.2]) ∧ Below w.heap.size w w' := by
  obtain ⟨what, a, b, c, near⟩ := s
  dsimp only
  cases near
  · have e : liF ⟨what, a, b, c, false⟩ N = (a, b, c) := rfl
    rw [e]
    clear e
    go_enter Try.func10, Try.ntmps10
    go_wp2_with fail
    go_quiet (fail)
    go_wp2_with fail
    refine bodyPost_ret (v := .tuple #[.int .i64 a, .int .i64 b, .int .i64 c]) (by simp [results, Try.results10, go_sem]) rfl ?_
    exact ⟨rfl, below_drewN (by go_grown) _⟩
  · obtain ⟨M, hM⟩ : ∃ M, M = 2 * (N : Int) := ⟨_, rfl⟩
    have e : liF ⟨what, a, b, c, true⟩ N = (a % M, b % M, c % M) := by rw [hM]; rfl
    rw [e]
    have H : Hid (∀ k wx, Calls Try.prog 23 #[.int .i64 k, .int .i64 M] wx fun e w' => e = .returned (.int .i64 (k % M)) ∧ w' = wx) := fun k wx => place_any (by omega) (by omega) wx
    have e1 : wrap64 (2 * ((N : Int) - 1)) = 2 * ((N : Int) - 1) := by unfold wrap64; omega
    have e2 : 2 * ((N : Int) - 1) + 2 = M := by omega
    have e3 : wrap64 M = M := by unfold wrap64; omega
    obtain ⟨A, hA⟩ : ∃ A, A = a % M := ⟨_, rfl⟩
    obtain ⟨B, hB⟩ : ∃ B, B = b % M := ⟨_, rfl⟩
    obtain ⟨C, hC⟩ : ∃ C, C = c % M := ⟨_, rfl⟩
    have HA : Hid (∀ wx, Calls Try.prog 23 #[.int .i64 a, .int .i64 M] wx fun e w' => e = .returned (.int .i64 A) ∧ w' = wx) := by unfold Hid; rw [hA]; exact H.out a
    have HB : Hid (∀ wx, Calls Try.prog 23 #[.int .i64 b, .int .i64 M] wx fun e w' => e = .returned (.int .i64 B) ∧ w' = wx) := by unfold Hid; rw [hB]; exact H.out b
    have HC : Hid (∀ wx, Calls Try.prog 23 #[.int .i64 c, .int .i64 M] wx fun e w' => e = .returned (.int .i64 C) ∧ w' = wx) := by unfold Hid; rw [hC]; exact H.out c
    rw [← hA, ← hB, ← hC]
    clear e hM hA hB hC H
    go_enter Try.func10, Try.ntmps10
    go_wp2_with fail
    go_quiet ((first | (go_at_call_of 23 (Value.int .i64 a); refine Calls.quiet_of_same (HA.out _)) | (go_at_call_of 23 (Value.int .i64 b); refine Calls.quiet_of_same (HB.out _)) | (go_at_call_of 23 (Value.int .i64 c); refine Calls.quiet_of_same (HC.out _))))
    go_wp2_with fail
    refine bodyPost_ret (v := .tuple #[.int .i64 A, .int .i64 B, .int .i64 C]) (by simp [results, Try.results10, go_sem]) rfl ?_
    exact ⟨rfl, below_drewN (by go_grown) _⟩

theorem inp_any {w : World} {F : Nat → Prop} {g mo : Nat} {ks : List Kd} (h : Gr w F g mo ks) :
    Calls Try.prog 28 #[.pointer (some ⟨g, 0, none⟩)] w (Did w F g mo (inpF mo ks)) := by
  have hl := h.len
  unfold inpF
  by_cases hr : ks.length = mo + 1
  · rw [if_pos hr]
    exact (inp_full h hr).mono fun e w' hb => Did.of_below h hb
  · rw [if_neg hr]
    exact (inp_new h (by omega)).mono fun e w' hb => hb
/-- What a step does. -/
def doF (mo : Nat) (ks : List Kd) (what a b c : Int) : Ans :=
  if what = 0 then inpF mo ks
  else if what = 1 ∨ what = 2 ∨ what = 3 then andF mo ks a b
  else if what = 4 then orF mo ks a b
  else if what = 5 then xorF mo ks a b
  else if what = 6 then muxF mo ks c a b
  else (0, 0, ks)
set_option maxHeartbeats 6400000 in
theorem does_any {w : World} {F : Nat → Prop} {g mo : Nat} {ks : List Kd} (h : Gr w F g mo ks) {what a b c : Int} (ha : w64 a) (hb : w64 b) (hc : w64 c) :
    Calls Try.prog 11 #[.pointer (some ⟨g, 0, none⟩), .int .i64 what, .int .i64 a, .int .i64 b, .int .i64 c] w (Did w F g mo (doF mo ks what a b c)) := by
  have HI : Hid _ := inp_any h
  have HA : Hid _ := and_any h a b
  have HO : Hid _ := or_any h ha hb
  have HX : Hid _ := xor_any h ha hb
  have HM : Hid _ := mux_any h hc ha hb
  have HG : Hid _ := h
  clear h ha hb hc
  unfold doF
  by_cases h0 : what = 0
  · subst h0
    rw [if_pos rfl]
    obtain ⟨R, hR⟩ : ∃ R, R = inpF mo ks := ⟨_, rfl⟩
    rw [← hR] at HI ⊢
    clear hR
    go_enter Try.func11, Try.ntmps11
    go_wp2_with fail
    refine Calls.mono HI.out ?_
    rintro e w1 ⟨rfl, F', hG, hC⟩
    have HG1 : Hid _ := hG
    have HC1 : Hid _ := hC
    clear hG hC HI HA HO HX HM
    obtain ⟨q, er, ks1⟩ := R
    dsimp only at HG1 HC1 ⊢
    go_wp2_with fail
    refine bodyPost_ret (v := .tuple #[.int .i64 q, .int .i64 er]) (by simp [results, Try.results11, go_sem]) rfl ?_
    exact ⟨rfl, F', HG1.out, HC1.out⟩
  by_cases h1 : what = 1
  · subst h1
    rw [if_neg (by decide), if_pos (by decide)]
    obtain ⟨R, hR⟩ : ∃ R, R = andF mo ks a b := ⟨_, rfl⟩
    rw [← hR] at HA ⊢
    clear hR
    go_enter Try.func11, Try.ntmps11
    go_wp2_with fail
    refine Calls.mono HA.out ?_
    rintro e w1 ⟨rfl, F', hG, hC⟩
    have HG1 : Hid _ := hG
    have HC1 : Hid _ := hC
    clear hG hC HI HA HO HX HM
    obtain ⟨q, er, ks1⟩ := R
    dsimp only at HG1 HC1 ⊢
    go_wp2_with fail
    refine bodyPost_ret (v := .tuple #[.int .i64 q, .int .i64 er]) (by simp [results, Try.results11, go_sem]) rfl ?_
    exact ⟨rfl, F', HG1.out, HC1.out⟩
  by_cases h2 : what = 2
  · subst h2
    rw [if_neg (by decide), if_pos (by decide)]
    obtain ⟨R, hR⟩ : ∃ R, R = andF mo ks a b := ⟨_, rfl⟩
    rw [← hR] at HA ⊢
    clear hR
    go_enter Try.func11, Try.ntmps11
    go_wp2_with fail
    refine Calls.mono HA.out ?_
    rintro e w1 ⟨rfl, F', hG, hC⟩
    have HG1 : Hid _ := hG
    have HC1 : Hid _ := hC
    clear hG hC HI HA HO HX HM
    obtain ⟨q, er, ks1⟩ := R
    dsimp only at HG1 HC1 ⊢
    go_wp2_with fail
    refine bodyPost_ret (v := .tuple #[.int .i64 q, .int .i64 er]) (by simp [results, Try.results11, go_sem]) rfl ?_
    exact ⟨rfl, F', HG1.out, HC1.out⟩
  by_cases h3 : what = 3
  · subst h3
    rw [if_neg (by decide), if_pos (by decide)]
    obtain ⟨R, hR⟩ : ∃ R, R = andF mo ks a b := ⟨_, rfl⟩
    rw [← hR] at HA ⊢
    clear hR
    go_enter Try.func11, Try.ntmps11
    go_wp2_with fail
    refine Calls.mono HA.out ?_
    rintro e w1 ⟨rfl, F', hG, hC⟩
    have HG1 : Hid _ := hG
    have HC1 : Hid _ := hC
    clear hG hC HI HA HO HX HM
    obtain ⟨q, er, ks1⟩ := R
    dsimp only at HG1 HC1 ⊢
    go_wp2_with fail
    refine bodyPost_ret (v := .tuple #[.int .i64 q, .int .i64 er]) (by simp [results, Try.results11, go_sem]) rfl ?_
    exact ⟨rfl, F', HG1.out, HC1.out⟩
  by_cases h4 : what = 4
  · subst h4
    rw [if_neg (by decide), if_neg (by decide), if_pos rfl]
    obtain ⟨R, hR⟩ : ∃ R, R = orF mo ks a b := ⟨_, rfl⟩
    rw [← hR] at HO ⊢
    clear hR
    go_enter Try.func11, Try.ntmps11
    go_wp2_with fail
    refine Calls.mono HO.out ?_
    rintro e w1 ⟨rfl, F', hG, hC⟩
    have HG1 : Hid _ := hG
    have HC1 : Hid _ := hC
    clear hG hC HI HA HO HX HM
    obtain ⟨q, er, ks1⟩ := R
    dsimp only at HG1 HC1 ⊢
    go_wp2_with fail
    refine bodyPost_ret (v := .tuple #[.int .i64 q, .int .i64 er]) (by simp [results, Try.results11, go_sem]) rfl ?_
    exact ⟨rfl, F', HG1.out, HC1.out⟩
  by_cases h5 : what = 5
  · subst h5
    rw [if_neg (by decide), if_neg (by decide), if_neg (by decide), if_pos rfl]
    obtain ⟨R, hR⟩ : ∃ R, R = xorF mo ks a b := ⟨_, rfl⟩
    rw [← hR] at HX ⊢
    clear hR
    go_enter Try.func11, Try.ntmps11
    go_wp2_with fail
    refine Calls.mono HX.out ?_
    rintro e w1 ⟨rfl, F', hG, hC⟩
    have HG1 : Hid _ := hG
    have HC1 : Hid _ := hC
    clear hG hC HI HA HO HX HM
    obtain ⟨q, er, ks1⟩ := R
    dsimp only at HG1 HC1 ⊢
    go_wp2_with fail
    refine bodyPost_ret (v := .tuple #[.int .i64 q, .int .i64 er]) (by simp [results, Try.results11, go_sem]) rfl ?_
    exact ⟨rfl, F', HG1.out, HC1.out⟩
  by_cases h6 : what = 6
  · subst h6
    rw [if_neg (by decide), if_neg (by decide), if_neg (by decide), if_neg (by decide), if_pos rfl]
    obtain ⟨R, hR⟩ : ∃ R, R = muxF mo ks c a b := ⟨_, rfl⟩
    rw [← hR] at HM ⊢
    clear hR
    go_enter Try.func11, Try.ntmps11
    go_wp2_with fail
    refine Calls.mono HM.out ?_
    rintro e w1 ⟨rfl, F', hG, hC⟩
    have HG1 : Hid _ := hG
    have HC1 : Hid _ := hC
    clear hG hC HI HA HO HX HM
    obtain ⟨q, er, ks1⟩ := R
    dsimp only at HG1 HC1 ⊢
    go_wp2_with fail
    refine bodyPost_ret (v := .tuple #[.int .i64 q, .int .i64 er]) (by simp [results, Try.results11, go_sem]) rfl ?_
    exact ⟨rfl, F', HG1.out, HC1.out⟩
  rw [if_neg h0, if_neg (by omega), if_neg h4, if_neg h5, if_neg h6]
  have z0 : (what == 0) = false := by simp [h0]
  have z1 : (what == 1) = false := by simp [h1]
  have z2 : (what == 2) = false := by simp [h2]
  have z3 : (what == 3) = false := by simp [h3]
  have z4 : (what == 4) = false := by simp [h4]
  have z5 : (what == 5) = false := by simp [h5]
  have z6 : (what == 6) = false := by simp [h6]
  clear HI HA HO HX HM h0 h1 h2 h3 h4 h5 h6
  go_enter Try.func11, Try.ntmps11
  go_wp2_with fail
  refine bodyPost_ret (v := .tuple #[.int .i64 0, .int .i64 0]) (by simp [results, Try.results11, go_sem]) rfl ?_
  exact ⟨rfl, F, HG.out, Ch.refl _ _⟩
end Go.Proofs.Ytdmochghcmeebaa
