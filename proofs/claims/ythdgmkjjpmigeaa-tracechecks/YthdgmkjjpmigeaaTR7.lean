/- Contracts (traces): Decode. -/
import Derived.Test.YthdgmkjjpmigeaaTR6
import Derived.Lib.SlBytesConst
namespace Go.Proofs.Ythdgmkjjpmigeaa
open Go.RowKit
set_option linter.unusedSimpArgs false
set_option linter.unusedVariables false

/-- What a trace's bytes begin with. -/
def hd : List Int := [80, 76, 84, 49]
def decN (ns : List Int) : List (List Int) × Int :=
  if ns.any noN then ([], 120)
  else match ns with
    | [] => ([], 120)
    | m :: r => if (cutF m.toNat [] r).2 then ((cutF m.toNat [] r).1, 0) else ([], 120)
/-- What Decode answers (of few bytes). -/
def decF (b : List Int) : List (List Int) × Int :=
  if pfx b hd = false ∨ b.length < 8 ∨ (b.length - 4) % 4 ≠ 0 then ([], 120) else decN (numsF (b.drop 4))
theorem hd_br (w : World) : Br (w.alloc (.cells #[.int .u8 80, .int .u8 76, .int .u8 84, .int .u8 49] 5 (4, 5))) (.slice (some ⟨w.heap.size, 0, none⟩) 4 4) hd := by
  refine ⟨⟨_, _, rfl, by decide, Or.inr ⟨w.heap.size, 0, rfl, by simp, fun j hj => ?_⟩⟩, ?_⟩
  · have hj4 : j < 4 := hj
    have hh : (w.alloc (.cells #[.int .u8 80, .int .u8 76, .int .u8 84, .int .u8 49] 5 (4, 5))).heap[w.heap.size]? = some (.cells #[.int .u8 80, .int .u8 76, .int .u8 84, .int .u8 49] 5 (4, 5)) := heap_alloc_new w _
    rw [Nat.zero_add]
    refine cell_of hh j ?_
    rcases (by omega : j = 0 ∨ j = 1 ∨ j = 2 ∨ j = 3) with e | e | e | e <;> subst e <;> rfl
  · intro x hx
    simp [hd] at hx
    omega
theorem numsF_len (b : List Int) : (numsF b).length = b.length / 4 := by unfold numsF; simp
theorem noN_pos {l : List Int} (h : l.any noN = false) : ∀ x ∈ l, 0 ≤ x ∧ x ≤ 2147483647 := fun x hx => by
  have := (List.any_eq_false.1 h) x hx
  unfold noN at this
  simp at this
  omega
set_option maxRecDepth 20000 in
set_option maxHeartbeats 12800000 in
theorem decode_any {w : World} {u : Value} {b : List Int} (h : Br w u b) (hl : b.length ≤ 10000) :
    Calls Try.prog 15 #[u] w fun ev w' => ∃ v', ev = .returned (.tuple #[v', .int .i64 (decF b).2]) ∧ Lr w' v' (decF b).1 ∧ Below w.heap.size w w' := by
  obtain ⟨Z, hZ⟩ : ∃ Z, Z = decF b := ⟨_, rfl⟩
  rw [← hZ]
  have HZ : Hid _ := hZ
  have hcv := Lib.run_convert_bytes_const (P := Try.prog) w 23 5 #[.int .u8 80, .int .u8 76, .int .u8 84, .int .u8 49] 4 4 bytesUnder u8Under
  obtain ⟨w1, hw1⟩ : ∃ w1, w1 = w.alloc (.cells #[.int .u8 80, .int .u8 76, .int .u8 84, .int .u8 49] 5 (4, 5)) := ⟨_, rfl⟩
  have hb1 : Below w.heap.size w w1 := by rw [hw1]; go_grown
  have HB1 : Hid _ := hb1
  have HCP : Hid _ := cutPrefix_any (h.below hb1) (by rw [hw1]; exact hd_br w) (by omega) rfl
  obtain ⟨P, hP⟩ : ∃ P, P = pfx b hd := ⟨_, rfl⟩
  rw [← hP] at HCP
  have HP : Hid _ := hP
  have hcv2 : (convert 23 23 (.slice (some ⟨w.heap.size, 0, none⟩) 4 4)).run Try.prog (w.alloc (.cells #[.int .u8 80, .int .u8 76, .int .u8 84, .int .u8 49] 5)) = .ok (.slice (some ⟨w.heap.size, 0, none⟩) 4 4) w1 := by rw [hw1]; exact hcv
  have HBL : Hid (b.length ≤ 10000 ∧ byts b) := ⟨hl, h.byte⟩
  obtain ⟨a, c, rfl, -⟩ := h.out
  obtain ⟨n, hn⟩ : ∃ n, n = b.length := ⟨_, rfl⟩
  rw [← hn] at HCP hl ⊢
  have HN : Hid _ := hn
  clear h hZ hcv hw1 hb1 hP hn
  go_enter Try.func15, Try.ntmps15
  go_wp2_with fail
  refine Calls.mono HCP.out ?_
  rintro ev w2 ⟨⟨u', rfl, hu'⟩, rfl⟩
  clear HCP hcv2
  cases P with
  | false =>
    have HZZ : Hid (Z = ([], 120)) := by
      unfold Hid
      rw [HZ.out]; unfold decF; rw [if_pos (Or.inl HP.out.symm)]
    obtain ⟨a', c', e', -⟩ := hu'.out
    subst e'
    clear hu'
    go_wp2_with fail
    go_ret2
    rw [HZZ.out]
    exact ⟨_, rfl, ⟨_, _, rfl, Or.inl rfl⟩, HB1.out⟩
  | true =>
    have HU : Hid (Br w2 u' (b.drop 4)) := hu'
    obtain ⟨a', c', e', hc'⟩ := HU.out.out
    obtain ⟨m, hm⟩ : ∃ m, m = (b.drop 4).length := ⟨_, rfl⟩
    have hmn : m = n - 4 := by rw [hm, List.length_drop, HN.out]
    have hn4 : 4 ≤ n := by
      have := congrArg List.length (of_decide_eq_true HP.out.symm)
      rw [List.length_take] at this
      have e : hd.length = 4 := rfl
      rw [e] at this
      have := HN.out
      omega
    rw [← hm] at e' hc'
    subst e'
    have HM : Hid (m = (b.drop 4).length ∧ m = n - 4 ∧ 4 ≤ n) := ⟨hm, hmn, hn4⟩
    have hmb : m ≤ 10000 := by omega
    clear hu' hm hmn
    by_cases h8 : m < 4
    · have h8I : (m : Int) < 4 := by omega
      have h8d : decide ((m : Int) < 4) = true := decide_eq_true h8I
      have HZZ : Hid (Z = ([], 120)) := by
        unfold Hid
        rw [HZ.out]; unfold decF; rw [if_pos (Or.inr (Or.inl (by have := HM.out; have := HN.out; omega)))]
      go_wp2_with fail
      go_ret2
      rw [HZZ.out]
      exact ⟨_, rfl, ⟨_, _, rfl, Or.inl rfl⟩, HB1.out⟩
    · have h8I : ¬ (m : Int) < 4 := by omega
      have h8d : decide ((m : Int) < 4) = false := decide_eq_false h8I
      obtain ⟨t, ht⟩ : ∃ t, t = m % 4 := ⟨_, rfl⟩
      have htm : (m : Int).tmod 4 = (t : Int) := by rw [Int.tmod_eq_emod_of_nonneg (by omega)]; omega
      have ht4 : t ≤ 3 := by omega
      by_cases ht0 : t = 0
      · subst ht0
        obtain ⟨k, hk⟩ : ∃ k, m = 4 * k := ⟨m / 4, by omega⟩
        have hNU : Hid _ := numbersOf_any HU.out (by rw [← HM.out.1]; omega) (n := k) (by rw [← HM.out.1]; exact hk)
        have hk1 : 1 ≤ k := by omega
        have hkb : k ≤ 2500 := by omega
        have HDZ : Hid (Z = decN (numsF (b.drop 4))) := by
          unfold Hid
          rw [HZ.out]; unfold decF
          rw [if_neg]
          intro hh
          rcases hh with hh | hh | hh
          · rw [← HP.out] at hh; cases hh
          · have := HM.out; have := HN.out; omega
          · have := HM.out; have := HN.out; omega
        have HKL : Hid ((numsF (b.drop 4)).length = k) := by
          unfold Hid; rw [numsF_len, ← HM.out.1]; omega
        obtain ⟨NS, hNS⟩ : ∃ NS, NS = numsF (b.drop 4) := ⟨_, rfl⟩
        rw [← hNS] at HDZ HKL hNU
        clear hNS ht hk
        go_wp2_with fail
        refine Calls.mono hNU.out ?_
        rintro ev w3 ⟨cc, rfl, hI3, hb3⟩
        have HB3 : Hid (Below w.heap.size w w3) := HB1.out.trans (hb3.mono HB1.out.size)
        have HS3 : Hid (Sc w3 (.slice cc k k) NS) := hI3.sc
        have HCF : Hid _ := containsN_any hI3.sr (by rw [HKL.out]; omega)
        obtain ⟨B, hB⟩ : ∃ B, B = NS.any noN := ⟨_, rfl⟩
        rw [← hB] at HCF
        have HB : Hid _ := hB
        clear hI3 hb3 hNU hB
        go_wp2_with fail
        refine Calls.mono HCF.out ?_
        rintro ev w4 ⟨rfl, rfl⟩
        clear HCF
        cases B with
        | true =>
          have HZZ : Hid (Z = ([], 120)) := by
            unfold Hid
            rw [HDZ.out]; unfold decN; rw [if_pos HB.out.symm]
          go_wp2_with fail
          go_ret2
          rw [HZZ.out]
          exact ⟨_, rfl, ⟨_, _, rfl, Or.inl rfl⟩, HB3.out⟩
        | false =>
          cases NS with
          | nil => exact absurd HKL.out (by simp; omega)
          | cons M0 RR =>
            have hpos := noN_pos HB.out.symm
            obtain ⟨M, hM⟩ : ∃ M : Nat, M0 = (M : Int) := ⟨M0.toNat, by have := hpos M0 (by simp); omega⟩
            subst hM
            have hMb : M ≤ 2147483647 := by have := hpos (M : Int) (by simp); omega
            obtain ⟨r, o, rfl, hck⟩ := HS3.out.at' (Below.refl _ _) (k := 0) (by simp)
            have hck0 : w4.cell? ⟨r, o, none⟩ = some (.int .i64 (M : Int)) := hck
            have hrs : r < w4.heap.size := World.block_lt_of_cell? _ _ hck
            have HRP : Hid (∀ x ∈ RR, 0 ≤ x) := fun x hx => (hpos x (by simp [hx])).1
            have HRL : Hid (RR.length + 1 = k) := HKL.out
            have HZ2 : Hid (Z = if (cutF M [] RR).2 then ((cutF M [] RR).1, 0) else ([], 120)) := by
              unfold Hid
              rw [HDZ.out]; unfold decN; rw [if_neg (by rw [← HB.out]; simp)]
              simp
            have hk1I : (1 : Int) ≤ (k : Int) := by omega
            have hk0I : (0 : Int) < (k : Int) := by omega
            have hk0N : 0 < k := by omega
            obtain ⟨Y, hY⟩ : ∃ Y, Y = cutF M [] RR := ⟨_, rfl⟩
            rw [← hY] at HZ2
            clear hpos hck HDZ HKL
            by_cases hke : k = 1
            · subst hke
              have HST : Hid (∀ wx, Below w4.heap.size w4 wx → Calls Try.prog 40 #[.int .i64 (M : Int), .slice (some ⟨r, o, none⟩) 0 0] wx fun ev w' => ∃ v', ev = .returned (.tuple #[v', .bool Y.2]) ∧ Lr w' v' Y.1 ∧ Below wx.heap.size wx w') := fun wx hb => by
                have e : RR = [] := List.eq_nil_of_length_eq_zero (by have := HRL.out; omega)
                rw [hY, e]
                exact stepsOf_any (Sc.nil _ _ _) (by simp) (fun x hx => nomatch hx) hMb
              clear hY
              go_wp2_with fail
              go_region_held3 (fun y => y.cell? ⟨r, o, none⟩ = some (.int .i64 (M : Int)) ∧ Below w4.heap.size w4 y)
                ((first | (obtain ⟨q0, q2⟩ := ‹_ ∧ _›; with_reducible exact ⟨keep_cell hbk q0, below_step q2 hbk⟩) | exact ⟨hck0, drew_low _ _⟩))
                ((go_at_call 40; have qq := ‹_ ∧ _›; refine (HST.out _ qq.2).mono ?_; rintro e wz ⟨vz, rfl, hLz, hbk⟩))
              have hfin := (by assumption : wz.cell? ⟨r, o, none⟩ = some (.int .i64 (M : Int)) ∧ Below w4.heap.size w4 wz)
              have HBZ : Hid (Below w.heap.size w wz) := HB3.out.trans (hfin.2.mono HB3.out.size)
              have HLZ : Hid _ := hLz
              obtain ⟨Y1, Y2⟩ := Y
              clear hfin hLz
              cases Y2 with
              | true =>
                have HZZ : Hid (Z = (Y1, 0)) := by
                  unfold Hid
                  rw [HZ2.out]; simp
                go_wp2_with fail
                go_ret2
                rw [HZZ.out]
                exact ⟨_, rfl, HLZ.out, HBZ.out⟩
              | false =>
                have HZZ : Hid (Z = ([], 120)) := by
                  unfold Hid
                  rw [HZ2.out]; simp
                go_wp2_with fail
                go_ret2
                rw [HZZ.out]
                exact ⟨_, rfl, ⟨_, _, rfl, Or.inl rfl⟩, HBZ.out⟩
            · have HST : Hid (∀ wx, Below w4.heap.size w4 wx → Calls Try.prog 40 #[.int .i64 (M : Int), .slice (some ⟨r, o + 1, none⟩) (k - 1) (k - 1)] wx fun ev w' => ∃ v', ev = .returned (.tuple #[v', .bool Y.2]) ∧ Lr w' v' Y.1 ∧ Below wx.heap.size wx w') := fun wx hb => by
                rw [hY]
                exact stepsOf_any (HS3.out.tail.below hb) (by have := HRL.out; omega) HRP.out hMb
              clear hY
              go_wp2_with fail
              go_region_held3 (fun y => y.cell? ⟨r, o, none⟩ = some (.int .i64 (M : Int)) ∧ Below w4.heap.size w4 y)
                ((first | (obtain ⟨q0, q2⟩ := ‹_ ∧ _›; with_reducible exact ⟨keep_cell hbk q0, below_step q2 hbk⟩) | exact ⟨hck0, drew_low _ _⟩))
                ((go_at_call 40; have qq := ‹_ ∧ _›; refine (HST.out _ qq.2).mono ?_; rintro e wz ⟨vz, rfl, hLz, hbk⟩))
              have hfin := (by assumption : wz.cell? ⟨r, o, none⟩ = some (.int .i64 (M : Int)) ∧ Below w4.heap.size w4 wz)
              have HBZ : Hid (Below w.heap.size w wz) := HB3.out.trans (hfin.2.mono HB3.out.size)
              have HLZ : Hid _ := hLz
              obtain ⟨Y1, Y2⟩ := Y
              clear hfin hLz
              cases Y2 with
              | true =>
                have HZZ : Hid (Z = (Y1, 0)) := by
                  unfold Hid
                  rw [HZ2.out]; simp
                go_wp2_with fail
                go_ret2
                rw [HZZ.out]
                exact ⟨_, rfl, HLZ.out, HBZ.out⟩
              | false =>
                have HZZ : Hid (Z = ([], 120)) := by
                  unfold Hid
                  rw [HZ2.out]; simp
                go_wp2_with fail
                go_ret2
                rw [HZZ.out]
                exact ⟨_, rfl, ⟨_, _, rfl, Or.inl rfl⟩, HBZ.out⟩
      · have ht0b : ((t : Int) == 0) = false := by simp; omega
        have ht0c : ((t : Int) != 0) = true := by simp; omega
        have HZZ : Hid (Z = ([], 120)) := by
          unfold Hid
          rw [HZ.out]; unfold decF; rw [if_pos (Or.inr (Or.inr (by have := HM.out; have := HN.out; omega)))]
        go_wp2_with fail
        go_ret2
        rw [HZZ.out]
        exact ⟨_, rfl, ⟨_, _, rfl, Or.inl rfl⟩, HB1.out⟩
end Go.Proofs.Ythdgmkjjpmigeaa
