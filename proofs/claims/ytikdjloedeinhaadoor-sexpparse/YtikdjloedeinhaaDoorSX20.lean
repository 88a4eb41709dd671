/- Contracts (the document's): blanks, words. -/
import Derived.Test.YtikdjloedeinhaaDoorSX19
namespace Go.Proofs.YtikdjloedeinhaaDoor
open Go.RowKit
set_option linter.unusedSimpArgs false
set_option linter.unusedVariables false

theorem rblank_any (c : UInt8) (w : World) :
    Calls Tryd.prog 27 #[.int .u8 (c.toNat : Int)] w fun e w' => e = .returned (.bool (blk c)) ∧ w' = w := by
  have e1 : ((c.toNat : Int) == 32) = (c == 32) := u8_eq c 32 (by decide)
  have e2 : ((c.toNat : Int) == 9) = (c == 9) := u8_eq c 9 (by decide)
  have e3 : ((c.toNat : Int) == 10) = (c == 10) := u8_eq c 10 (by decide)
  have e4 : ((c.toNat : Int) == 13) = (c == 13) := u8_eq c 13 (by decide)
  unfold blk
  rw [← e1, ← e2, ← e3, ← e4]
  clear e1 e2 e3 e4
  obtain ⟨n, hn⟩ : ∃ n : Int, n = (c.toNat : Int) := ⟨_, rfl⟩
  rw [← hn]
  clear hn
  by_cases h1 : n = 32
  · subst h1
    go_enter Tryd.func27, Tryd.ntmps27
    go_wp2_with fail
    go_ret
    exact ⟨rfl, rfl⟩
  · by_cases h2 : n = 9
    · subst h2
      go_enter Tryd.func27, Tryd.ntmps27
      go_wp2_with fail
      go_ret
      exact ⟨rfl, rfl⟩
    · by_cases h3 : n = 10
      · subst h3
        go_enter Tryd.func27, Tryd.ntmps27
        go_wp2_with fail
        go_ret
        exact ⟨rfl, rfl⟩
      · by_cases h4 : n = 13
        · subst h4
          go_enter Tryd.func27, Tryd.ntmps27
          go_wp2_with fail
          go_ret
          exact ⟨rfl, rfl⟩
        · have g1 : (n == 32) = false := by simp [h1]
          have g2 : (n == 9) = false := by simp [h2]
          have g3 : (n == 10) = false := by simp [h3]
          have g4 : (n == 13) = false := by simp [h4]
          rw [g1, g2, g3, g4]
          go_enter Tryd.func27, Tryd.ntmps27
          go_wp2_with fail
          go_ret
          exact ⟨rfl, rfl⟩

set_option maxHeartbeats 3200000 in
theorem rword_any {t : ByteArray} {k : Nat} (hk : k < t.size) (ht : t.size ≤ 65536) (w : World) :
    Calls Tryd.prog 28 #[.string t, .int .i64 (k : Int)] w fun e w' => ∃ x : Int, e = .returned (.tuple #[.int .i64 x, .bool (decide (0 < wsz (t.data.toList.drop k)))]) ∧ (0 < wsz (t.data.toList.drop k) → x = ((k + wsz (t.data.toList.drop k) : Nat) : Int)) ∧ w' = w := by
  obtain ⟨n, hn⟩ : ∃ n, n = wsz (t.data.toList.drop k) := ⟨_, rfl⟩
  rw [← hn]
  obtain ⟨c, hc⟩ : ∃ c, c = t[k]'hk := ⟨_, rfl⟩
  have hkI : (k : Int) < (t.size : Int) := by omega
  by_cases h124 : c = 124
  · have hb : ((t[k]'hk).toNat : Int) = 124 := by rw [← hc, h124]; rfl
    have HN : Hid (n = barz (t.data.toList.drop (k + 1)) 1) := by
      unfold Hid
      rw [hn, drop_cons hk, ← hc]
      show (if _ then _ else _) = _
      rw [if_pos h124]
    clear hn hc h124
    go_enter Tryd.func28, Tryd.ntmps28
    go_wp2_with fail
    go_loopw [6] (fun i wr => ∃ j : Nat, k + 1 ≤ j ∧ j ≤ t.size ∧ i = .int .i64 (j : Int) ∧ Hid (n = barz (t.data.toList.drop j) (j - k)) ∧ wr = w) (fun i wr => t.size - (intOf i).toNat)
    case atStart => exact ⟨k + 1, Nat.le_refl _, hk, rfl, by unfold Hid; rw [HN.out, show k + 1 - k = 1 by omega], rfl⟩
    case round =>
      obtain ⟨j, hkj, hj, rfl, hB, rfl⟩ := hrel
      by_cases hlt : j < t.size
      · have hlI : (j : Int) < (t.size : Int) := by omega
        obtain ⟨d, hd⟩ : ∃ d, d = t[j]'hlt := ⟨_, rfl⟩
        have HQ : Hid (n = if d = 124 then j - k + 1 else if d = 10 then 0 else barz (t.data.toList.drop (j + 1)) (j + 1 - k)) := by
          unfold Hid
          rw [hB.out, drop_cons hlt, ← hd, show j + 1 - k = j - k + 1 by omega]; rfl
        by_cases h10 : d = 10
        · have hx : (((t[j]'hlt).toNat : Int) != 10) = false := by rw [← hd, h10]; rfl
          have hz : n = 0 := by rw [HQ.out, if_neg (by rw [h10]; decide), if_pos h10]
          have HZ : Hid _ := hz
          clear hd hB HN hz h10
          go_wp2_with fail
          go_ret2
          refine ⟨_, by rw [HZ.out]; rfl, fun h => absurd h (by rw [HZ.out]; decide), rfl⟩
        · have hx : (((t[j]'hlt).toNat : Int) != 10) = true := by
            rw [← hd]; simp; exact fun e => h10 ((u8_10 d).1 e)
          by_cases h12 : d = 124
          · have hy : (((t[j]'hlt).toNat : Int) == 124) = true := by rw [← hd, h12]; rfl
            have hz : n = j - k + 1 := by rw [HQ.out, if_pos h12]
            have HZ : Hid _ := hz
            clear hd hB HN hz h10 h12
            go_wp2_with fail
            go_ret2
            have hz := HZ.out
            refine ⟨(j : Int) + 1, ?_, fun _ => by omega, rfl⟩
            rw [show decide (0 < n) = true by simp; omega]; rfl
          · have hy : (((t[j]'hlt).toNat : Int) == 124) = false := by
              rw [← hd]; simp; exact fun e => h12 ((u8_124 d).1 e)
            have HZ : Hid (n = barz (t.data.toList.drop (j + 1)) (j + 1 - k)) := by unfold Hid; rw [HQ.out, if_neg h12, if_neg h10]
            clear hd hB HN HQ h10 h12
            go_wp2_with fail
            exact ⟨⟨j + 1, by omega, by omega, rfl, HZ.out, trivial⟩, by simp [intOf]; omega⟩
      · have hlI : (t.size : Int) ≤ (j : Int) := by omega
        have hz : n = 0 := by rw [hB.out, drop_none (by omega)]; rfl
        have HZ : Hid _ := hz
        clear hz hB HN
        go_wp2_with fail
        go_ret2
        refine ⟨_, by rw [HZ.out]; rfl, fun h => absurd h (by rw [HZ.out]; decide), rfl⟩
  · have hb : (((t[k]'hk).toNat : Int) == 124) = false := by rw [← hc]; simp; exact fun e => h124 ((u8_124 c).1 e)
    have HN : Hid (n = wpl (t.data.toList.drop k)) := by
      unfold Hid
      rw [hn, drop_cons hk, ← hc]
      show (if _ then _ else _) = _
      rw [if_neg h124]
    clear hn hc h124
    go_enter Tryd.func28, Tryd.ntmps28
    go_wp2_with fail
    go_loopw [7] (fun i wr => ∃ j : Nat, k ≤ j ∧ j ≤ t.size ∧ i = .int .i64 (j : Int) ∧ Hid (n = j - k + wpl (t.data.toList.drop j)) ∧ wr = w) (fun i wr => t.size - (intOf i).toNat)
    case atStart => exact ⟨k, Nat.le_refl _, by omega, rfl, by unfold Hid; rw [HN.out]; omega, rfl⟩
    case round =>
      obtain ⟨j, hkj, hj, rfl, hB, rfl⟩ := hrel
      by_cases hlt : j < t.size
      · have hlI : (j : Int) < (t.size : Int) := by omega
        obtain ⟨d, hd⟩ : ∃ d, d = t[j]'hlt := ⟨_, rfl⟩
        obtain ⟨pc, hpc⟩ : ∃ pc, pc = pln d := ⟨_, rfl⟩
        have HQ : Hid (n = j - k + if pc then wpl (t.data.toList.drop (j + 1)) + 1 else 0) := by
          unfold Hid
          rw [hB.out, drop_cons hlt, ← hd, hpc]; rfl
        have HIN : Hid (∀ wx, Calls Tryd.prog 34 #[.int .u8 ((t[j]'hlt).toNat : Int)] wx fun e w' => e = .returned (.bool pc) ∧ w' = wx) := fun wx => by rw [hpc, hd]; exact rIn_any _ wx
        clear hd hpc hB HN
        go_wp2_with fail
        refine Calls.mono (HIN.out _) ?_
        rintro e w1 ⟨rfl, hw1⟩
        rw [hw1]
        clear hw1 w1
        cases pc
        · have hz : n = j - k := by have := HQ.out; simpa using this
          have hdz : decide ((k : Int) < (j : Int)) = decide (0 < n) := by
            by_cases h : 0 < n
            · have : (k : Int) < (j : Int) := by omega
              simp [h, this]
            · have : ¬ (k : Int) < (j : Int) := by omega
              simp [h]; omega
          have HZ : Hid _ := hz
          have HDZ : Hid _ := hdz
          clear hz hdz HQ
          go_wp2_with fail
          go_ret2
          have hz := HZ.out
          refine ⟨(j : Int), ?_, fun _ => by omega, rfl⟩
          rw [← HDZ.out]; simp
        · have HZ : Hid (n = j + 1 - k + wpl (t.data.toList.drop (j + 1))) := by unfold Hid; have := HQ.out; simp only [if_true] at this; omega
          clear HQ
          go_wp2_with fail
          exact ⟨⟨j + 1, by omega, by omega, rfl, HZ.out, trivial⟩, by simp [intOf]; omega⟩
      · have hlI : (t.size : Int) ≤ (j : Int) := by omega
        have hz : n = j - k := by rw [hB.out, drop_none (by omega)]; rfl
        have hdz : decide ((k : Int) < (j : Int)) = decide (0 < n) := by
          by_cases h : 0 < n
          · have : (k : Int) < (j : Int) := by omega
            simp [h, this]
          · have : ¬ (k : Int) < (j : Int) := by omega
            simp [h]; omega
        have HZ : Hid _ := hz
        have HDZ : Hid _ := hdz
        clear hz hdz hB HN
        go_wp2_with fail
        go_ret2
        have hz := HZ.out
        refine ⟨(j : Int), ?_, fun _ => by omega, rfl⟩
        rw [← HDZ.out]; simp
end Go.Proofs.YtikdjloedeinhaaDoor
