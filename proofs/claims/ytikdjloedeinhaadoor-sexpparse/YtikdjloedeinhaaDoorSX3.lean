/- Contracts (sexp): which bytes may stand in a word. (Made by a script.) -/
import Derived.Shelf.Strconv.Clone
import Derived.Shelf.Strings.Search1
import Derived.Test.YtikdjloedeinhaaDoorSX2
namespace Go.Proofs.YtikdjloedeinhaaDoor
open Go.RowKit Go.Shelf

def ren217 : Go.Shelf.Ren := ⟨fun | 217 => 63 | 266 => 65 | n => n, fun | 9 => 9 | 5 => 5 | 3 => 3 | n => n, fun | n => n⟩
theorem lays217 : Go.Proofs.Lays.n217 Tryd.prog ren217 := {
  mixed := by kernel_rfl
  f217 := Tryd.func63.trans (congrArg some (by kernel_rfl))
  f266 := Tryd.func65.trans (congrArg some (by kernel_rfl))
  t3 := Tryd.underlying3
  a3 := Tryd.isAgg3
  z3 := Tryd.sizeOf3
  v3 := Tryd.zeroValue3
  t5 := Tryd.underlying5
  a5 := Tryd.isAgg5
  z5 := Tryd.sizeOf5
  v5 := Tryd.zeroValue5
  t9 := Tryd.underlying9
  a9 := Tryd.isAgg9
  z9 := Tryd.sizeOf9
  v9 := Tryd.zeroValue9 }
theorem indexByte_any (s : ByteArray) (c : UInt8) (w : World) :
    Calls Tryd.prog 60 #[.string s, .int .u8 (c.toNat : Int)] w fun e w' => e = .returned (.int .i64 (Lib.indexByte s.data.toList c)) ∧ w' = w := by
  have H : Hid (∀ wx, Calls Tryd.prog 63 #[.string s, .int .u8 (c.toNat : Int)] wx fun e w' => e = .returned (.int .i64 (Lib.indexByte s.data.toList c)) ∧ w' = wx) := fun wx => by
    have h := Any.stringslite_IndexByte lays217 s (c.toNat : Int) wx
    have e : ((c.toNat : Int)).toNat.toUInt8 = c := by simp
    rw [e] at h; exact h
  obtain ⟨X, hX⟩ : ∃ X, X = Lib.indexByte s.data.toList c := ⟨_, rfl⟩
  rw [← hX] at H ⊢
  clear hX
  go_enter Tryd.func60, Tryd.ntmps60
  go_wp2_with fail
  refine (H.out _).mono ?_
  rintro e w1 ⟨rfl, rfl⟩
  go_wp2_with fail
  go_ret
  exact ⟨rfl, rfl⟩
theorem idx_ge (c : UInt8) : ∀ l : List UInt8, decide (0 ≤ Lib.indexByte l c) = l.contains c
  | [] => rfl
  | b :: l => by
    have ih := idx_ge c l
    have hge := Lib.indexByte_ge l c
    rw [Lib.indexByte, List.contains_cons]
    by_cases h : b = c
    · subst h; simp
    · have h1 : (b == c) = false := by simp [h]
      have h2 : (c == b) = false := by simp; exact fun e => h e.symm
      rw [h1, h2, ← ih]
      simp only [Bool.false_or]
      by_cases hm : Lib.indexByte l c = -1
      · rw [hm]; rfl
      · have h3 : (Lib.indexByte l c == -1) = false := by simp [hm]
        rw [h3]
        have a1 : 0 ≤ Lib.indexByte l c := by omega
        have a2 : 0 ≤ Lib.indexByte l c + 1 := by omega
        simp [a1, a2]

theorem seven (n : Int) : (n < 48) ∨ (48 ≤ n ∧ n ≤ 57) ∨ (58 ≤ n ∧ n ≤ 64) ∨ (65 ≤ n ∧ n ≤ 90) ∨ (91 ≤ n ∧ n ≤ 96) ∨ (97 ≤ n ∧ n ≤ 122) ∨ (123 ≤ n) := by omega
theorem pln_in {c : UInt8} {n : Int} (hn : n = (c.toNat : Int)) (h : (48 ≤ n ∧ n ≤ 57) ∨ (65 ≤ n ∧ n ≤ 90) ∨ (97 ≤ n ∧ n ≤ 122)) : pln c = true := by
  unfold pln
  rcases h with h | h | h
  · have a : 48 ≤ c.toNat ∧ c.toNat ≤ 57 := by omega
    simp [a.1, a.2]
  · have a : 65 ≤ c.toNat ∧ c.toNat ≤ 90 := by omega
    simp [a.1, a.2]
  · have a : 97 ≤ c.toNat ∧ c.toNat ≤ 122 := by omega
    simp [a.1, a.2]
theorem pln_out {c : UInt8} {n : Int} (hn : n = (c.toNat : Int)) (h : ¬ ((48 ≤ n ∧ n ≤ 57) ∨ (65 ≤ n ∧ n ≤ 90) ∨ (97 ≤ n ∧ n ≤ 122))) : pln c = marks.contains c := by
  have a1 : (decide (97 ≤ c.toNat) && decide (c.toNat ≤ 122)) = false := by rw [Bool.and_eq_false_iff, decide_eq_false_iff_not, decide_eq_false_iff_not]; omega
  have a2 : (decide (65 ≤ c.toNat) && decide (c.toNat ≤ 90)) = false := by rw [Bool.and_eq_false_iff, decide_eq_false_iff_not, decide_eq_false_iff_not]; omega
  have a3 : (decide (48 ≤ c.toNat) && decide (c.toNat ≤ 57)) = false := by rw [Bool.and_eq_false_iff, decide_eq_false_iff_not, decide_eq_false_iff_not]; omega
  unfold pln
  rw [a1, a2, a3]; rfl
set_option maxHeartbeats 1600000 in
theorem isPlain_any (c : UInt8) (w : World) :
    Calls Tryd.prog 48 #[.int .u8 (c.toNat : Int)] w fun e w' => e = .returned (.bool (pln c)) ∧ w' = w := by
  have HX : Hid (∀ wx, Calls Tryd.prog 60 #[.string ⟨#[126, 33, 64, 36, 37, 94, 38, 42, 95, 45, 43, 61, 60, 62, 46, 63, 47, 35, 58, 39, 44]⟩, .int .u8 (c.toNat : Int)] wx fun e w' => e = .returned (.int .i64 (Lib.indexByte marks c)) ∧ w' = wx) := fun wx => indexByte_any _ c wx
  obtain ⟨X, hX⟩ : ∃ X, X = Lib.indexByte marks c := ⟨_, rfl⟩
  have HC : Hid (decide (0 ≤ X) = marks.contains c) := by rw [hX]; exact idx_ge c marks
  rw [← hX] at HX
  obtain ⟨n, hn⟩ : ∃ n : Int, n = (c.toNat : Int) := ⟨_, rfl⟩
  rw [← hn] at HX ⊢
  obtain ⟨B, hB⟩ : ∃ B, B = pln c := ⟨_, rfl⟩
  rw [← hB]
  have HN : Hid _ := hn
  have HB : Hid _ := hB
  clear hX hn hB
  rcases seven n with h | h | h | h | h | h | h
  · have q0 : ¬ 48 ≤ n := by omega
    have q1 : ¬ 65 ≤ n := by omega
    have q2 : ¬ 97 ≤ n := by omega
    have hBt : B = decide (0 ≤ X) := HB.out.trans ((pln_out HN.out (by omega)).trans HC.out.symm)
    rw [hBt]
    clear hBt h
    go_enter Tryd.func48, Tryd.ntmps48
    go_wp2_with fail
    refine (HX.out _).mono ?_
    rintro e w1 ⟨rfl, rfl⟩
    go_wp2_with fail
    go_ret
    exact ⟨rfl, rfl⟩
  · have q0 : 48 ≤ n := by omega
    have q1 : n ≤ 57 := by omega
    have q2 : ¬ 65 ≤ n := by omega
    have q3 : ¬ 97 ≤ n := by omega
    have hBt : B = true := HB.out.trans (pln_in HN.out (by omega))
    rw [hBt]
    clear hBt h
    go_enter Tryd.func48, Tryd.ntmps48
    go_wp2_with fail
    go_ret
    exact ⟨rfl, rfl⟩
  · have q0 : 48 ≤ n := by omega
    have q1 : ¬ n ≤ 57 := by omega
    have q2 : ¬ 65 ≤ n := by omega
    have q3 : ¬ 97 ≤ n := by omega
    have hBt : B = decide (0 ≤ X) := HB.out.trans ((pln_out HN.out (by omega)).trans HC.out.symm)
    rw [hBt]
    clear hBt h
    go_enter Tryd.func48, Tryd.ntmps48
    go_wp2_with fail
    refine (HX.out _).mono ?_
    rintro e w1 ⟨rfl, rfl⟩
    go_wp2_with fail
    go_ret
    exact ⟨rfl, rfl⟩
  · have q0 : 65 ≤ n := by omega
    have q1 : n ≤ 90 := by omega
    have q2 : ¬ 97 ≤ n := by omega
    have hBt : B = true := HB.out.trans (pln_in HN.out (by omega))
    rw [hBt]
    clear hBt h
    go_enter Tryd.func48, Tryd.ntmps48
    go_wp2_with fail
    go_ret
    exact ⟨rfl, rfl⟩
  · have q0 : 48 ≤ n := by omega
    have q1 : ¬ n ≤ 57 := by omega
    have q2 : 65 ≤ n := by omega
    have q3 : ¬ n ≤ 90 := by omega
    have q4 : ¬ 97 ≤ n := by omega
    have hBt : B = decide (0 ≤ X) := HB.out.trans ((pln_out HN.out (by omega)).trans HC.out.symm)
    rw [hBt]
    clear hBt h
    go_enter Tryd.func48, Tryd.ntmps48
    go_wp2_with fail
    refine (HX.out _).mono ?_
    rintro e w1 ⟨rfl, rfl⟩
    go_wp2_with fail
    go_ret
    exact ⟨rfl, rfl⟩
  · have q0 : 97 ≤ n := by omega
    have q1 : n ≤ 122 := by omega
    have hBt : B = true := HB.out.trans (pln_in HN.out (by omega))
    rw [hBt]
    clear hBt h
    go_enter Tryd.func48, Tryd.ntmps48
    go_wp2_with fail
    go_ret
    exact ⟨rfl, rfl⟩
  · have q0 : 48 ≤ n := by omega
    have q1 : ¬ n ≤ 57 := by omega
    have q2 : 65 ≤ n := by omega
    have q3 : ¬ n ≤ 90 := by omega
    have q4 : 97 ≤ n := by omega
    have q5 : ¬ n ≤ 122 := by omega
    have hBt : B = decide (0 ≤ X) := HB.out.trans ((pln_out HN.out (by omega)).trans HC.out.symm)
    rw [hBt]
    clear hBt h
    go_enter Tryd.func48, Tryd.ntmps48
    go_wp2_with fail
    refine (HX.out _).mono ?_
    rintro e w1 ⟨rfl, rfl⟩
    go_wp2_with fail
    go_ret
    exact ⟨rfl, rfl⟩
set_option maxHeartbeats 3200000 in
theorem rIn_any (c : UInt8) (w : World) :
    Calls Tryd.prog 34 #[.int .u8 (c.toNat : Int)] w fun e w' => e = .returned (.bool (pln c)) ∧ w' = w := by
  by_cases hm : marks.contains c = true
  · have hm' : c ∈ marks := by simpa using hm
    unfold marks at hm'
    simp only [List.mem_cons, List.not_mem_nil, or_false] at hm'
    rcases hm' with rfl | rfl | rfl | rfl | rfl | rfl | rfl | rfl | rfl | rfl | rfl | rfl | rfl | rfl | rfl | rfl | rfl | rfl | rfl | rfl | rfl
    all_goals
      go_enter Tryd.func34, Tryd.ntmps34
      go_wp2_with fail
      go_ret
      exact ⟨rfl, rfl⟩
  · obtain ⟨n, hn⟩ : ∃ n : Int, n = (c.toNat : Int) := ⟨_, rfl⟩
    have m126 : ¬ n = 126 := fun e => hm (by have : c = 126 := UInt8.toNat_inj.1 (by have := hn.symm.trans e; show c.toNat = 126; omega); rw [this]; decide)
    have m33 : ¬ n = 33 := fun e => hm (by have : c = 33 := UInt8.toNat_inj.1 (by have := hn.symm.trans e; show c.toNat = 33; omega); rw [this]; decide)
    have m64 : ¬ n = 64 := fun e => hm (by have : c = 64 := UInt8.toNat_inj.1 (by have := hn.symm.trans e; show c.toNat = 64; omega); rw [this]; decide)
    have m36 : ¬ n = 36 := fun e => hm (by have : c = 36 := UInt8.toNat_inj.1 (by have := hn.symm.trans e; show c.toNat = 36; omega); rw [this]; decide)
    have m37 : ¬ n = 37 := fun e => hm (by have : c = 37 := UInt8.toNat_inj.1 (by have := hn.symm.trans e; show c.toNat = 37; omega); rw [this]; decide)
    have m94 : ¬ n = 94 := fun e => hm (by have : c = 94 := UInt8.toNat_inj.1 (by have := hn.symm.trans e; show c.toNat = 94; omega); rw [this]; decide)
    have m38 : ¬ n = 38 := fun e => hm (by have : c = 38 := UInt8.toNat_inj.1 (by have := hn.symm.trans e; show c.toNat = 38; omega); rw [this]; decide)
    have m42 : ¬ n = 42 := fun e => hm (by have : c = 42 := UInt8.toNat_inj.1 (by have := hn.symm.trans e; show c.toNat = 42; omega); rw [this]; decide)
    have m95 : ¬ n = 95 := fun e => hm (by have : c = 95 := UInt8.toNat_inj.1 (by have := hn.symm.trans e; show c.toNat = 95; omega); rw [this]; decide)
    have m45 : ¬ n = 45 := fun e => hm (by have : c = 45 := UInt8.toNat_inj.1 (by have := hn.symm.trans e; show c.toNat = 45; omega); rw [this]; decide)
    have m43 : ¬ n = 43 := fun e => hm (by have : c = 43 := UInt8.toNat_inj.1 (by have := hn.symm.trans e; show c.toNat = 43; omega); rw [this]; decide)
    have m61 : ¬ n = 61 := fun e => hm (by have : c = 61 := UInt8.toNat_inj.1 (by have := hn.symm.trans e; show c.toNat = 61; omega); rw [this]; decide)
    have m60 : ¬ n = 60 := fun e => hm (by have : c = 60 := UInt8.toNat_inj.1 (by have := hn.symm.trans e; show c.toNat = 60; omega); rw [this]; decide)
    have m62 : ¬ n = 62 := fun e => hm (by have : c = 62 := UInt8.toNat_inj.1 (by have := hn.symm.trans e; show c.toNat = 62; omega); rw [this]; decide)
    have m46 : ¬ n = 46 := fun e => hm (by have : c = 46 := UInt8.toNat_inj.1 (by have := hn.symm.trans e; show c.toNat = 46; omega); rw [this]; decide)
    have m63 : ¬ n = 63 := fun e => hm (by have : c = 63 := UInt8.toNat_inj.1 (by have := hn.symm.trans e; show c.toNat = 63; omega); rw [this]; decide)
    have m47 : ¬ n = 47 := fun e => hm (by have : c = 47 := UInt8.toNat_inj.1 (by have := hn.symm.trans e; show c.toNat = 47; omega); rw [this]; decide)
    have m35 : ¬ n = 35 := fun e => hm (by have : c = 35 := UInt8.toNat_inj.1 (by have := hn.symm.trans e; show c.toNat = 35; omega); rw [this]; decide)
    have m58 : ¬ n = 58 := fun e => hm (by have : c = 58 := UInt8.toNat_inj.1 (by have := hn.symm.trans e; show c.toNat = 58; omega); rw [this]; decide)
    have m39 : ¬ n = 39 := fun e => hm (by have : c = 39 := UInt8.toNat_inj.1 (by have := hn.symm.trans e; show c.toNat = 39; omega); rw [this]; decide)
    have m44 : ¬ n = 44 := fun e => hm (by have : c = 44 := UInt8.toNat_inj.1 (by have := hn.symm.trans e; show c.toNat = 44; omega); rw [this]; decide)
    rw [← hn]
    obtain ⟨B, hB⟩ : ∃ B, B = pln c := ⟨_, rfl⟩
    rw [← hB]
    have HN : Hid _ := hn
    have HB : Hid _ := hB
    have HM : Hid (marks.contains c = false) := Bool.eq_false_iff.2 hm
    clear hn hB hm
    rcases seven n with h | h | h | h | h | h | h
    · have q0 : ¬ 48 ≤ n := by omega
      have q1 : ¬ 65 ≤ n := by omega
      have q2 : ¬ 97 ≤ n := by omega
      have hBt : B = false := HB.out.trans ((pln_out HN.out (by omega)).trans HM.out)
      rw [hBt]
      clear hBt h
      go_enter Tryd.func34, Tryd.ntmps34
      go_wp2_with fail
      go_ret
      exact ⟨rfl, rfl⟩
    · have q0 : 48 ≤ n := by omega
      have q1 : n ≤ 57 := by omega
      have q2 : ¬ 65 ≤ n := by omega
      have q3 : ¬ 97 ≤ n := by omega
      have hBt : B = true := HB.out.trans (pln_in HN.out (by omega))
      rw [hBt]
      clear hBt h
      go_enter Tryd.func34, Tryd.ntmps34
      go_wp2_with fail
      go_ret
      exact ⟨rfl, rfl⟩
    · have q0 : 48 ≤ n := by omega
      have q1 : ¬ n ≤ 57 := by omega
      have q2 : ¬ 65 ≤ n := by omega
      have q3 : ¬ 97 ≤ n := by omega
      have hBt : B = false := HB.out.trans ((pln_out HN.out (by omega)).trans HM.out)
      rw [hBt]
      clear hBt h
      go_enter Tryd.func34, Tryd.ntmps34
      go_wp2_with fail
      go_ret
      exact ⟨rfl, rfl⟩
    · have q0 : 65 ≤ n := by omega
      have q1 : n ≤ 90 := by omega
      have q2 : ¬ 97 ≤ n := by omega
      have hBt : B = true := HB.out.trans (pln_in HN.out (by omega))
      rw [hBt]
      clear hBt h
      go_enter Tryd.func34, Tryd.ntmps34
      go_wp2_with fail
      go_ret
      exact ⟨rfl, rfl⟩
    · have q0 : 48 ≤ n := by omega
      have q1 : ¬ n ≤ 57 := by omega
      have q2 : 65 ≤ n := by omega
      have q3 : ¬ n ≤ 90 := by omega
      have q4 : ¬ 97 ≤ n := by omega
      have hBt : B = false := HB.out.trans ((pln_out HN.out (by omega)).trans HM.out)
      rw [hBt]
      clear hBt h
      go_enter Tryd.func34, Tryd.ntmps34
      go_wp2_with fail
      go_ret
      exact ⟨rfl, rfl⟩
    · have q0 : 97 ≤ n := by omega
      have q1 : n ≤ 122 := by omega
      have hBt : B = true := HB.out.trans (pln_in HN.out (by omega))
      rw [hBt]
      clear hBt h
      go_enter Tryd.func34, Tryd.ntmps34
      go_wp2_with fail
      go_ret
      exact ⟨rfl, rfl⟩
    · have q0 : 48 ≤ n := by omega
      have q1 : ¬ n ≤ 57 := by omega
      have q2 : 65 ≤ n := by omega
      have q3 : ¬ n ≤ 90 := by omega
      have q4 : 97 ≤ n := by omega
      have q5 : ¬ n ≤ 122 := by omega
      have hBt : B = false := HB.out.trans ((pln_out HN.out (by omega)).trans HM.out)
      rw [hBt]
      clear hBt h
      go_enter Tryd.func34, Tryd.ntmps34
      go_wp2_with fail
      go_ret
      exact ⟨rfl, rfl⟩
end Go.Proofs.YtikdjloedeinhaaDoor
