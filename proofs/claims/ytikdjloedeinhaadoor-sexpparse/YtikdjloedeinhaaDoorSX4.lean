/- Contracts (sexp): blanks and remarks are gone past; how long a word is. -/
import Derived.Test.YtikdjloedeinhaaDoorSX3
namespace Go.Proofs.YtikdjloedeinhaaDoor
open Go.RowKit
set_option linter.unusedSimpArgs false
set_option linter.unusedVariables false

theorem u8_10 (c : UInt8) : ((c.toNat : Int) = 10) ↔ c = 10 := by
  constructor
  · intro h; exact UInt8.toNat_inj.1 (by show c.toNat = 10; omega)
  · rintro rfl; rfl
theorem u8_59 (c : UInt8) : ((c.toNat : Int) = 59) ↔ c = 59 := by
  constructor
  · intro h; exact UInt8.toNat_inj.1 (by show c.toNat = 59; omega)
  · rintro rfl; rfl
theorem u8_124 (c : UInt8) : ((c.toNat : Int) = 124) ↔ c = 124 := by
  constructor
  · intro h; exact UInt8.toNat_inj.1 (by show c.toNat = 124; omega)
  · rintro rfl; rfl

set_option maxHeartbeats 1600000 in
/-- Past the line: what is read stays what it is. -/
theorem skipLine_any {w : World} {b k : Nat} {t : ByteArray} {r : List Value} {T : TypeId} (h : Cu w b t k r T) (hk : k ≤ t.size) (ht : t.size ≤ 65536) :
    Calls Tryd.prog 51 #[.pointer (some ⟨b, 0, none⟩)] w fun e w' => e = .returned (.tuple #[]) ∧ ∃ j, Cu w' b t j r T ∧ On w w' b ∧ k ≤ j ∧ j ≤ t.size ∧ (∀ st, Vt t ⟨k, st, .rem⟩ = Vt t ⟨j, st, .no⟩) ∧ (j = k → t.size ≤ k ∨ ∃ h : k < t.size, t[k]'h = 10) := by
  have H : Hid _ := h
  clear h
  go_enter Tryd.func51, Tryd.ntmps51
  go_wp2_with fail
  go_loopw [13] (fun u wr => ∃ j, k ≤ j ∧ j ≤ t.size ∧ Hid (Cu wr b t j r T ∧ On w wr b ∧ (∀ st, Vt t ⟨k, st, .rem⟩ = Vt t ⟨j, st, .rem⟩)) ∧ Hid (wr.cell? ⟨b, 1, none⟩ = some (.int .i64 (j : Int)))) (fun u wr => t.size - (((wr.cell? ⟨b, 1, none⟩).map intOf).getD 0).toNat)
  case atStart => exact ⟨k, Nat.le_refl _, hk, ⟨H.out, On.refl _ _, fun _ => rfl⟩, H.out.c1⟩
  case round =>
    clear H
    obtain ⟨j, hkj, hj, hH, hC⟩ := hrel
    by_cases he : t.size ≤ j
    · have HE : Hid _ := ended_yes hH.out.1 he
      go_wp2_with fail
      refine Calls.mono HE.out ?_
      rintro e w1 ⟨rfl, ha⟩
      go_wp2_with fail
      go_end0
      obtain ⟨q1, q2, q3⟩ := hH.out
      exact ⟨rfl, j, q1.al ha, q2.al ha, hkj, hj, fun st => by rw [q3 st, Vt_rend he], fun e => Or.inl (by omega)⟩
    · have hlt : j < t.size := by omega
      have HE : Hid _ := ended_no hH.out.1 hlt
      obtain ⟨c, hc⟩ : ∃ c, c = t[j]'hlt := ⟨_, rfl⟩
      have HH : Hid (∀ wx, Cu wx b t j r T → Calls Tryd.prog 46 #[.pointer (some ⟨b, 0, none⟩)] wx fun e w' => e = .returned (.int .u8 (c.toNat : Int)) ∧ Al wx w') := fun wx hx => by rw [hc]; exact here_any hx hlt
      have HS : Hid (∀ wx, Cu wx b t j r T → Calls Tryd.prog 49 #[.pointer (some ⟨b, 0, none⟩)] wx fun e w' => e = .returned (.tuple #[]) ∧ Cu w' b t (j + 1) r T ∧ On wx w' b) := fun wx hx => step_any hx (by omega)
      have HC : Hid _ := hc
      clear hc
      by_cases h10 : (c.toNat : Int) = 10
      · have hb10 : ((c.toNat : Int) != 10) = false := by simp [h10]
        go_wp2_with fail
        refine Calls.mono HE.out ?_
        rintro e w1 ⟨rfl, ha⟩
        go_wp2_with fail
        refine Calls.mono (HH.out _ (hH.out.1.al ha)) ?_
        rintro e w2 ⟨rfl, ha2⟩
        go_wp2_with fail
        go_end0
        obtain ⟨q1, q2, q3⟩ := hH.out
        have hc10 := (u8_10 c).1 h10
        exact ⟨rfl, j, (q1.al ha).al ha2, (q2.al ha).al ha2, hkj, hj, fun st => by rw [q3 st, Vt_line hlt (by rw [← HC.out]; exact hc10)], fun e => Or.inr (by subst e; exact ⟨hlt, by rw [← HC.out]; exact hc10⟩)⟩
      · have hb10 : ((c.toNat : Int) != 10) = true := by simp [h10]
        go_wp2_with fail
        refine Calls.mono HE.out ?_
        rintro e w1 ⟨rfl, ha⟩
        go_wp2_with fail
        refine Calls.mono (HH.out _ (hH.out.1.al ha)) ?_
        rintro e w2 ⟨rfl, ha2⟩
        go_wp2_with fail
        refine Calls.mono (HS.out _ ((hH.out.1.al ha).al ha2)) ?_
        rintro e w3 ⟨rfl, hcu, hon⟩
        go_wp2_with fail
        obtain ⟨q1, q2, q3⟩ := hH.out
        have hcc := hcu.c1
        have hc0 := hC.out
        exact ⟨⟨j + 1, by omega, by omega, ⟨hcu, ((q2.al ha).al ha2).trans hon, fun st => by rw [q3 st, Vt_rem hlt (by rw [← HC.out]; exact fun e => h10 ((u8_10 c).2 e))]⟩, hcc⟩, by rw [hcc, hc0]; simp [intOf]; omega⟩

set_option maxHeartbeats 1600000 in
/-- Past blanks and remarks: what is read stays what it is. -/
theorem skip_any {w : World} {b k : Nat} {t : ByteArray} {r : List Value} {T : TypeId} (h : Cu w b t k r T) (hk : k ≤ t.size) (ht : t.size ≤ 65536) :
    Calls Tryd.prog 35 #[.pointer (some ⟨b, 0, none⟩)] w fun e w' => e = .returned (.tuple #[]) ∧ ∃ j, Cu w' b t j r T ∧ On w w' b ∧ k ≤ j ∧ j ≤ t.size ∧ (∀ st, Vt t ⟨k, st, .no⟩ = Vt t ⟨j, st, .no⟩) ∧ (t.size ≤ j ∨ ∃ h : j < t.size, blk (t[j]'h) = false ∧ ¬ t[j]'h = 59) := by
  have H : Hid _ := h
  clear h
  go_enter Tryd.func35, Tryd.ntmps35
  go_wp2_with fail
  go_loopw [6] (fun u wr => ∃ j, k ≤ j ∧ j ≤ t.size ∧ Hid (Cu wr b t j r T ∧ On w wr b ∧ (∀ st, Vt t ⟨k, st, .no⟩ = Vt t ⟨j, st, .no⟩)) ∧ Hid (wr.cell? ⟨b, 1, none⟩ = some (.int .i64 (j : Int)))) (fun u wr => t.size - (((wr.cell? ⟨b, 1, none⟩).map intOf).getD 0).toNat)
  case atStart => exact ⟨k, Nat.le_refl _, hk, ⟨H.out, On.refl _ _, fun _ => rfl⟩, H.out.c1⟩
  case round =>
    clear H
    obtain ⟨j, hkj, hj, hH, hC⟩ := hrel
    by_cases he : t.size ≤ j
    · have HE : Hid _ := ended_yes hH.out.1 he
      go_wp2_with fail
      refine Calls.mono HE.out ?_
      rintro e w1 ⟨rfl, ha⟩
      go_wp2_with fail
      go_end0
      obtain ⟨q1, q2, q3⟩ := hH.out
      exact ⟨rfl, j, q1.al ha, q2.al ha, hkj, hj, q3, Or.inl he⟩
    · have hlt : j < t.size := by omega
      have HE : Hid _ := ended_no hH.out.1 hlt
      obtain ⟨c, hc⟩ : ∃ c, c = t[j]'hlt := ⟨_, rfl⟩
      have HH : Hid (∀ wx, Cu wx b t j r T → Calls Tryd.prog 46 #[.pointer (some ⟨b, 0, none⟩)] wx fun e w' => e = .returned (.int .u8 (c.toNat : Int)) ∧ Al wx w') := fun wx hx => by rw [hc]; exact here_any hx hlt
      have HS : Hid (∀ wx, Cu wx b t j r T → Calls Tryd.prog 49 #[.pointer (some ⟨b, 0, none⟩)] wx fun e w' => e = .returned (.tuple #[]) ∧ Cu w' b t (j + 1) r T ∧ On wx w' b) := fun wx hx => step_any hx (by omega)
      have HL : Hid (∀ wx, Cu wx b t j r T → Calls Tryd.prog 51 #[.pointer (some ⟨b, 0, none⟩)] wx fun e w' => e = .returned (.tuple #[]) ∧ ∃ i, Cu w' b t i r T ∧ On wx w' b ∧ j ≤ i ∧ i ≤ t.size ∧ (∀ st, Vt t ⟨j, st, .rem⟩ = Vt t ⟨i, st, .no⟩) ∧ (i = j → t.size ≤ j ∨ ∃ h : j < t.size, t[j]'h = 10)) := fun wx hx => skipLine_any hx hj ht
      have HC : Hid _ := hc
      clear hc
      obtain ⟨bk, hbk⟩ : ∃ bk, bk = blk c := ⟨_, rfl⟩
      have HB : Hid (∀ wx, Calls Tryd.prog 50 #[.int .u8 (c.toNat : Int)] wx fun e w' => e = .returned (.bool bk) ∧ w' = wx) := fun wx => by rw [hbk]; exact isBlank_any c wx
      have HBK : Hid _ := hbk
      clear hbk
      go_wp2_with fail
      refine Calls.mono HE.out ?_
      rintro e w1 ⟨rfl, ha⟩
      go_wp2_with fail
      refine Calls.mono (HH.out _ (hH.out.1.al ha)) ?_
      rintro e w2 ⟨rfl, ha2⟩
      go_wp2_with fail
      refine Calls.mono (HB.out _) ?_
      rintro e w2b ⟨rfl, hw2⟩
      rw [hw2]
      clear hw2 w2b
      cases bk
      · go_wp2_with fail
        refine Calls.mono (HH.out _ ((hH.out.1.al ha).al ha2)) ?_
        rintro e w3 ⟨rfl, ha3⟩
        by_cases h59 : (c.toNat : Int) = 59
        · have hb59 : ((c.toNat : Int) == 59) = true := by simp [h59]
          go_wp2_with fail
          refine Calls.mono (HL.out _ (((hH.out.1.al ha).al ha2).al ha3)) ?_
          rintro e w4 ⟨rfl, i, hcu, hon, hji, hi, hV, hne⟩
          go_wp2_with fail
          obtain ⟨q1, q2, q3⟩ := hH.out
          have hcc := hcu.c1
          have hc0 := hC.out
          have hc59 : t[j]'hlt = 59 := by rw [← HC.out]; exact (u8_59 c).1 h59
          have hlt2 : j < i := by
            apply Classical.byContradiction
            intro hn
            rcases hne (by omega) with h | ⟨_, h⟩
            · omega
            · rw [hc59] at h; exact absurd h (by decide)
          exact ⟨⟨i, by omega, hi, ⟨hcu, (((q2.al ha).al ha2).al ha3).trans hon, fun st => by rw [q3 st, Vt_semi hlt hc59, ← Vt_rem hlt (by rw [hc59]; decide), hV st]⟩, hcc⟩, by rw [hcc, hc0]; simp [intOf]; omega⟩
        · have hb59 : ((c.toNat : Int) == 59) = false := by simp [h59]
          go_wp2_with fail
          refine bodyPost_ret (results_none rfl _ _ _) rfl ?_
          obtain ⟨q1, q2, q3⟩ := hH.out
          exact ⟨rfl, j, ((q1.al ha).al ha2).al ha3, ((q2.al ha).al ha2).al ha3, hkj, hj, q3, Or.inr ⟨hlt, by rw [← HC.out]; exact HBK.out.symm, by rw [← HC.out]; exact fun e => h59 ((u8_59 c).2 e)⟩⟩
      · go_wp2_with fail
        refine Calls.mono (HS.out _ ((hH.out.1.al ha).al ha2)) ?_
        rintro e w3 ⟨rfl, hcu, hon⟩
        go_wp2_with fail
        obtain ⟨q1, q2, q3⟩ := hH.out
        have hcc := hcu.c1
        have hc0 := hC.out
        exact ⟨⟨j + 1, by omega, by omega, ⟨hcu, ((q2.al ha).al ha2).trans hon, fun st => by rw [q3 st, Vt_blank hlt (by rw [← HC.out]; exact HBK.out.symm)]⟩, hcc⟩, by rw [hcc, hc0]; simp [intOf]; omega⟩
end Go.Proofs.YtikdjloedeinhaaDoor
