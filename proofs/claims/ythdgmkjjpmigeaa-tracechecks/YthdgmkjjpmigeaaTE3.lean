/- Contracts (the document's traces): Decode. -/
import Derived.Test.YthdgmkjjpmigeaaTE2
namespace Go.Proofs.Ythdgmkjjpmigeaa
open Go.RowKit
set_option linter.unusedSimpArgs false
set_option linter.unusedVariables false

/-- So many numbers of bytes, and what is left. -/
def inR : Nat → List Int → List Int → Option (List Int × List Int)
  | 0, l, b => some (l, b)
  | k + 1, l, b => if 2147483647 < nm b then none else inR k (l ++ [nm b]) (b.drop 4)
def decR : Nat → List (List Int) → List Int → Option (List (List Int))
  | 0, C, b => if b.length = 0 then some C else none
  | m + 1, C, b => if b.length < 4 then none else if (((b.drop 4).length / 4 : Nat) : Int) < nm b then none else (inR (nm b).toNat [] (b.drop 4)).bind fun p => decR m (C ++ [p.1]) p.2
def decO (b : List Int) : Option (List (List Int)) := if b.length < 8 ∨ b.take 4 ≠ hd then none else decR (nm (b.drop 4)).toNat [] (b.drop 8)
def decD (o : Option (List (List Int))) : List (List Int) × Int := match o with
  | some C => (C, 0)
  | none => ([], 120)
theorem nm_b {b : List Int} (h : byts b) : 0 ≤ nm b ∧ nm b < 4294967296 := by
  have := prt_le h 0 4
  unfold nm
  simpa using this
theorem hd_at {b : List Int} (h8 : ¬ b.length < 8) : b.take 4 = [b.getD 0 0, b.getD 1 0, b.getD 2 0, b.getD 3 0] := by
  match b, h8 with
  | [], h => simp at h
  | [_], h => simp at h
  | [_, _], h => simp at h
  | [_, _, _], h => simp at h
  | a :: b :: c :: d :: r, _ => rfl
set_option maxRecDepth 20000 in
set_option maxHeartbeats 25600000 in
theorem rdecode_any {w : World} {u : Value} {b : List Int} (h : Br w u b) (hl : b.length ≤ 10000) :
    Calls Try.prog 16 #[u] w fun ev w' => ∃ v', ev = .returned (.tuple #[v', .int .i64 (decD (decO b)).2]) ∧ Lr w' v' (decD (decO b)).1 ∧ Below w.heap.size w w' := by
  obtain ⟨ti, ht0, hz0, hz1, hz2⟩ := info_any infoList
  have HI : Hid _ := (⟨ht0, hz0, hz1, hz2⟩ : Try.prog.info? 51 = some ti ∧ ti.zero = _ ∧ ti.size = 1 ∧ ti.bytes = 24)
  obtain ⟨tj, hj0, hj1, hj2, hj3⟩ := info_any infoInt
  have HJ : Hid _ := (⟨hj0, hj1, hj2, hj3⟩ : Try.prog.info? 3 = some tj ∧ tj.zero = _ ∧ tj.size = 1 ∧ tj.bytes = 8)
  clear ht0 hz0 hz1 hz2 hj0 hj1 hj2 hj3
  obtain ⟨Z, hZ⟩ : ∃ Z, Z = decO b := ⟨_, rfl⟩
  obtain ⟨X, hX⟩ : ∃ X, X = decD Z := ⟨_, rfl⟩
  rw [← hZ, ← hX]
  have HX : Hid (X = decD Z) := hX
  have HBAD : Hid (Z = none → X = ([], 120)) := fun e => by rw [hX, e]; rfl
  have HZ : Hid (Z = decO b) := hZ
  obtain ⟨a, c, rfl, hc⟩ := h.out
  obtain ⟨n, hn⟩ : ∃ n, n = b.length := ⟨_, rfl⟩
  have HB : Hid (Br w (.slice a b.length c) b) := h
  rw [← hn] at hl hc HB ⊢
  have HN : Hid (n = b.length) := hn
  have hlI : ¬ (4194304 : Int) < (n : Int) := by omega
  clear h hX hZ hn
  by_cases h8 : n < 8
  · have HXX : Hid (X = ([], 120)) := HBAD.out (by rw [HZ.out]; unfold decO; rw [if_pos (Or.inl (by rw [← HN.out]; exact h8))])
    have h8d : decide ((n : Int) < 8) = true := decide_eq_true (by omega)
    have h8I : (n : Int) < 8 := by omega
    go_enter Try.func16, Try.ntmps16
    go_wp2_with fail
    go_ret2
    rw [HXX.out]
    exact ⟨_, rfl, Lr.nil _, Below.refl _ _⟩
  have h8I : ¬ (n : Int) < 8 := by omega
  have h8d : decide ((n : Int) < 8) = false := decide_eq_false h8I
  have HH8 : Hid (b.take 4 = [b.getD 0 0, b.getD 1 0, b.getD 2 0, b.getD 3 0]) := hd_at (by rw [← HN.out]; exact h8)
  obtain ⟨r, o, rfl⟩ := HB.out.addr (by rw [← HN.out]; omega)
  obtain ⟨r0, o0, e0, g0⟩ := HB.out.at' (Below.refl _ _) (k := 0) (by rw [← HN.out]; omega)
  obtain ⟨r1, o1, e1, g1⟩ := HB.out.at' (Below.refl _ _) (k := 1) (by rw [← HN.out]; omega)
  obtain ⟨r2, o2, e2, g2⟩ := HB.out.at' (Below.refl _ _) (k := 2) (by rw [← HN.out]; omega)
  obtain ⟨r3, o3, e3, g3⟩ := HB.out.at' (Below.refl _ _) (k := 3) (by rw [← HN.out]; omega)
  injection e0 with e0; injection e0 with e0 e0'; subst e0 e0'
  injection e1 with e1; injection e1 with e1 e1'; subst e1 e1'
  injection e2 with e2; injection e2 with e2 e2'; subst e2 e2'
  injection e3 with e3; injection e3 with e3 e3'; subst e3 e3'
  rw [Nat.add_zero] at g0
  have hrw : r < w.heap.size := World.block_lt_of_cell? _ _ g0
  have q0 : (0 : Int) < (n : Int) := by omega
  have q1 : (1 : Int) < (n : Int) := by omega
  have q2 : (2 : Int) < (n : Int) := by omega
  have q3 : (3 : Int) < (n : Int) := by omega
  have q4 : (4 : Int) ≤ (n : Int) := by omega
  obtain ⟨x0, hx0⟩ : ∃ x, x = b.getD 0 0 := ⟨_, rfl⟩
  obtain ⟨x1, hx1⟩ : ∃ x, x = b.getD 1 0 := ⟨_, rfl⟩
  obtain ⟨x2, hx2⟩ : ∃ x, x = b.getD 2 0 := ⟨_, rfl⟩
  obtain ⟨x3, hx3⟩ : ∃ x, x = b.getD 3 0 := ⟨_, rfl⟩
  rw [← hx0, ← hx1, ← hx2, ← hx3] at HH8
  rw [← hx0] at g0
  rw [← hx1] at g1
  rw [← hx2] at g2
  rw [← hx3] at g3
  clear hx0 hx1 hx2 hx3
  by_cases hh : x0 = 80 ∧ x1 = 76 ∧ x2 = 84 ∧ x3 = 49
  rotate_left
  · have HXX : Hid (X = ([], 120)) := HBAD.out (by
      rw [HZ.out]; unfold decO; rw [if_pos (Or.inr ?_)]
      rw [HH8.out]; unfold hd
      intro e
      simp only [List.cons.injEq, and_true] at e
      exact hh e)
    have HW : Hid (∃ v', Value.slice none 0 0 = v' ∧ Lr w v' [] ∧ Below w.heap.size w w) := ⟨_, rfl, Lr.nil _, Below.refl _ _⟩
    by_cases p0 : x0 = 80
    · subst p0
      by_cases p1 : x1 = 76
      · subst p1
        by_cases p2 : x2 = 84
        · subst p2
          have p3 : ¬ x3 = 49 := fun e => hh ⟨rfl, rfl, rfl, e⟩
          have p3b : (x3 == 49) = false := by simp [p3]
          have p3c : (x3 != 49) = true := by simp [p3]
          clear hh
          go_enter Try.func16, Try.ntmps16
          go_wp2_with fail
          go_ret2
          rw [HXX.out]
          exact ⟨_, rfl, Lr.nil _, Below.refl _ _⟩
        · have p3b : (x2 == 84) = false := by simp [p2]
          have p3c : (x2 != 84) = true := by simp [p2]
          clear hh
          go_enter Try.func16, Try.ntmps16
          go_wp2_with fail
          go_ret2
          rw [HXX.out]
          exact ⟨_, rfl, Lr.nil _, Below.refl _ _⟩
      · have p3b : (x1 == 76) = false := by simp [p1]
        have p3c : (x1 != 76) = true := by simp [p1]
        clear hh
        go_enter Try.func16, Try.ntmps16
        go_wp2_with fail
        go_ret2
        rw [HXX.out]
        exact ⟨_, rfl, Lr.nil _, Below.refl _ _⟩
    · have p3b : (x0 == 80) = false := by simp [p0]
      have p3c : (x0 != 80) = true := by simp [p0]
      clear hh
      go_enter Try.func16, Try.ntmps16
      go_wp2_with fail
      go_ret2
      rw [HXX.out]
      exact ⟨_, rfl, Lr.nil _, Below.refl _ _⟩
  obtain ⟨rfl, rfl, rfl, rfl⟩ := hh
  have HZR : Hid (Z = decR (nm (b.drop 4)).toNat [] (b.drop 8)) := by
    unfold Hid; rw [HZ.out]; unfold decO
    rw [if_neg]
    rintro (e | e)
    · rw [← HN.out] at e; omega
    · exact e HH8.out
  have HD4 : Hid (Br w (.slice (some ⟨r, o + 4, none⟩) (n - 4) (c - 4)) (b.drop 4)) := HB.out.drop (by rw [← HN.out]; omega)
  have HL4 : Hid ((b.drop 4).length ≤ 10000 ∧ ¬ (b.drop 4).length < 4 ∧ (b.drop 4).drop 4 = b.drop 8 ∧ (b.drop 8).length ≤ 10000) := by
    refine ⟨by rw [List.length_drop, ← HN.out]; omega, by rw [List.length_drop, ← HN.out]; omega, by rw [List.drop_drop], by rw [List.length_drop, ← HN.out]; omega⟩
  have HN1 : Hid _ := number_yes HD4.out (Below.refl _ _) (by have := HL4.out.1; omega) HL4.out.2.1
  have hnb := nm_b HD4.out.byte
  obtain ⟨N, hN⟩ : ∃ N : Nat, nm (b.drop 4) = (N : Int) := ⟨(nm (b.drop 4)).toNat, by omega⟩
  rw [hN] at HN1 HZR hnb
  have hNb : N < 4294967296 := by omega
  have hc4 : ¬ c = 4 := by omega
  clear hN hnb
  go_enter Try.func16, Try.ntmps16
  go_wp2_with fail
  refine Calls.mono HN1.out ?_
  rintro ev w1 ⟨u1, rfl, hB1, hb1⟩
  have HB1 : Hid (Br w u1 (b.drop 8)) := by unfold Hid; rw [← HL4.out.2.2.1]; exact hB1
  have HW1 : Hid (Below w.heap.size w w1) := hb1
  clear hB1 hb1 HN1 g0 g1 g2 g3
  go_wp2_with fail
  go_loopw [0, 6, 7] (fun s q i wr => ∃ (k : Nat) (C : List (List Int)) (d : List Int), k ≤ N ∧ i = .int .i64 (k : Int) ∧ Hid (Z = decR (N - k) C d ∧ Br w s d ∧ Ga 51 wr w.heap.size q C ∧ Below w.heap.size w wr ∧ d.length + C.length ≤ 10000)) (fun s q i wr => N - (intOf i).toNat)
  case atStart => exact ⟨0, [], b.drop 8, Nat.zero_le _, rfl, by rw [Nat.sub_zero]; exact HZR.out, HB1.out, Ga.nil _ _ _, HW1.out, by have := HL4.out.2.2.2; simpa using this⟩
  case round =>
    obtain ⟨k, C, d, hk, rfl, hH⟩ := hrel
    obtain ⟨s, hss⟩ : ∃ s, s = u0 := ⟨_, rfl⟩
    obtain ⟨q, hqq⟩ : ∃ q, q = u6 := ⟨_, rfl⟩
    rw [← hss, ← hqq] at hH
    rw [← hss, ← hqq]
    clear hss hqq
    have hz0 := hH.out.2.2.2.1.size
    by_cases hlt : k < N
    rotate_left
    · obtain rfl : k = N := by omega
      have hltI : ¬ (k : Int) < (k : Int) := by omega
      have HE : Hid (Z = if d.length = 0 then some C else none) := by
        unfold Hid; rw [hH.out.1, Nat.sub_self, decR]
      have HQ : Hid (Lr wr q C ∧ Below w.heap.size w wr) := ⟨hH.out.2.2.1.lr, hH.out.2.2.2.1⟩
      obtain ⟨sa, sn, sk, hse, hsn⟩ := (show ∃ a m k, s = .slice a m k ∧ Hid (m = d.length) from by
        obtain ⟨a, c, e, -⟩ := hH.out.2.1.out; exact ⟨a, _, c, e, rfl⟩)
      subst hse
      have HSN : Hid (sn = d.length) := hsn
      clear hH hsn
      by_cases hs0 : sn = 0
      · have HXX : Hid (X = (C, 0)) := by
          unfold Hid; rw [HX.out, HE.out, if_pos (by rw [← HSN.out]; exact hs0)]; rfl
        subst hs0
        go_wp2_with fail
        go_ret2
        rw [HXX.out]
        exact ⟨_, rfl, HQ.out.1, HQ.out.2⟩
      · have HXX : Hid (X = ([], 120)) := HBAD.out (by rw [HE.out, if_neg (by rw [← HSN.out]; exact hs0)])
        have hs0I : (0 : Int) < (sn : Int) := by omega
        go_wp2_with fail
        go_ret2
        rw [HXX.out]
        exact ⟨_, rfl, Lr.nil _, HQ.out.2⟩
    have hltI : (k : Int) < (N : Int) := by omega
    obtain ⟨m, hm⟩ : ∃ m, N - k = m + 1 := ⟨N - k - 1, by omega⟩
    have HZ2 : Hid (Z = decR (m + 1) C d) := by unfold Hid; rw [← hm]; exact hH.out.1
    have HM : Hid (N - (k + 1) = m) := by unfold Hid; omega
    have HBS : Hid (Br w s d) := hH.out.2.1
    have HQ : Hid (Ga 51 wr w.heap.size q C) := hH.out.2.2.1
    have HBW : Hid (Below w.heap.size w wr) := hH.out.2.2.2.1
    have HSZ : Hid (d.length + C.length ≤ 10000) := hH.out.2.2.2.2
    clear hH hm
    by_cases hd4 : d.length < 4
    · have HXX : Hid (X = ([], 120)) := HBAD.out (by rw [HZ2.out, decR, if_pos hd4])
      go_wp2_with fail
      refine Calls.mono (number_no (HBS.out.below HBW.out) hd4) ?_
      rintro ev w2 ⟨rfl, hw2⟩
      subst hw2
      go_wp2_with fail
      go_ret2
      rw [HXX.out]
      exact ⟨_, rfl, Lr.nil _, HBW.out⟩
    have HN2 : Hid _ := number_yes HBS.out HBW.out (by have := HSZ.out; omega) hd4
    have hnd := nm_b HBS.out.byte
    have HZ3 : Hid (Z = if (((d.drop 4).length / 4 : Nat) : Int) < nm d then none else (inR (nm d).toNat [] (d.drop 4)).bind fun p => decR m (C ++ [p.1]) p.2) := by
      unfold Hid; rw [HZ2.out, decR, if_neg hd4]
    obtain ⟨K, hK⟩ : ∃ K : Nat, nm d = (K : Int) := ⟨(nm d).toNat, by omega⟩
    rw [hK] at HN2 HZ3
    have hKb : K < 4294967296 := by omega
    obtain ⟨d4, hd4e⟩ : ∃ x, x = d.drop 4 := ⟨_, rfl⟩
    have HD4L : Hid (d4.length + 4 + C.length ≤ 10000) := by unfold Hid; rw [hd4e, List.length_drop]; have := HSZ.out; omega
    rw [← hd4e] at HN2 HZ3
    obtain ⟨w5, hw5⟩ : ∃ w5, w5 = wr := ⟨_, rfl⟩
    subst hw5
    clear hnd hK hd4 hd4e
    go_wp2_with fail
    refine Calls.mono HN2.out ?_
    rintro ev w2 ⟨u2, rfl, hB2, hb2⟩
    have HB2 : Hid (Br w u2 d4) := hB2
    have HW2 : Hid (Below w.heap.size w w2) := below_step HBW.out hb2
    have HQ2 : Hid (Ga 51 w2 w.heap.size q C) := HQ.out.below hb2
    obtain ⟨a2, n2, c2, hu2, hn2⟩ := (show ∃ a m k, u2 = .slice a m k ∧ Hid (m = d4.length) from by
        obtain ⟨a, c, e, -⟩ := hB2.out; exact ⟨a, _, c, e, rfl⟩)
    subst hu2
    have HN2L : Hid (n2 = d4.length) := hn2
    have hn2b : n2 ≤ 10000 := by rw [HN2L.out]; have := HD4L.out; omega
    have hdiv : ((n2 : Int)).tdiv 4 = ((n2 / 4 : Nat) : Int) := by
      rw [Int.tdiv_eq_ediv_of_nonneg (by omega)]; omega
    clear hB2 hb2 hn2 HN2
    by_cases hbig : ((n2 / 4 : Nat) : Int) < (K : Int)
    · have HXX : Hid (X = ([], 120)) := HBAD.out (by rw [HZ3.out, if_pos (by rw [← HN2L.out]; exact hbig)])
      have hbd : decide (((n2 / 4 : Nat) : Int) < (K : Int)) = true := decide_eq_true hbig
      have hbig2 : (n2 : Int) / 4 < (K : Int) := by omega
      go_wp2_with fail
      go_ret2
      rw [HXX.out]
      exact ⟨_, rfl, Lr.nil _, HW2.out⟩
    have hbd : decide (((n2 / 4 : Nat) : Int) < (K : Int)) = false := decide_eq_false hbig
    have hbig2 : ¬ (n2 : Int) / 4 < (K : Int) := by omega
    have hK4 : 4 * K ≤ n2 := by omega
    obtain ⟨R, hR⟩ : ∃ R, R = inR K [] d4 := ⟨_, rfl⟩
    have HR : Hid (R = inR K [] d4) := hR
    have HZ4 : Hid (Z = R.bind fun p => decR m (C ++ [p.1]) p.2) := by
      unfold Hid; rw [HZ3.out, if_neg (by rw [← HN2L.out]; exact hbig), Int.toNat_natCast, hR]
    have HB2' : Hid (Br w (.slice a2 n2 c2) d4) := HB2.out
    clear hR hdiv hbd hbig2 hbig
    obtain ⟨aq, cq, hq⟩ := HQ2.out.sl
    obtain ⟨nq, hnq⟩ : ∃ n, n = C.length := ⟨_, rfl⟩
    rw [← hnq] at hq
    have HNQ : Hid (nq = C.length) := hnq
    have hnqb : nq ≤ 10000 := by rw [hnq]; have := HD4L.out; omega
    have HQ0 : Hid (q = .slice aq nq cq) := hq
    clear hq hnq
    go_wp2_with fail
    go_loopw [0, 11, 12] (fun s l i wr => ∃ (j : Nat) (ls e : List Int), j ≤ K ∧ i = .int .i64 (j : Int) ∧ Hid (R = inR (K - j) ls e ∧ Br w s e ∧ Is' wr w2.heap.size l ls ∧ Below w2.heap.size w2 wr ∧ ls.length = j ∧ e.length + 4 * j = n2)) (fun s l i wr => K - (intOf i).toNat)
    case atStart => exact ⟨0, [], d4, Nat.zero_le _, rfl, by rw [Nat.sub_zero]; exact HR.out, HB2'.out, World.ownsRow_nil _ _ _ _, Below.refl _ _, rfl, by rw [HN2L.out]; rfl⟩
    case round =>
      obtain ⟨j, ls, e, hj, rfl, hJ⟩ := hrel
      obtain ⟨s2, hss⟩ : ∃ s, s = u0 := ⟨_, rfl⟩
      obtain ⟨l2, hqq⟩ : ∃ q, q = u11 := ⟨_, rfl⟩
      rw [← hss, ← hqq] at hJ
      rw [← hss, ← hqq]
      clear hss hqq
      have hz1 := hJ.out.2.2.2.1.size
      by_cases hlt2 : j < K
      · have hltJ : (j : Int) < (K : Int) := by omega
        have he4 : ¬ e.length < 4 := by have := hJ.out.2.2.2.2.2; omega
        have HN3 : Hid _ := number_yes hJ.out.2.1 (below_step HW2.out hJ.out.2.2.2.1) (by have := hJ.out.2.2.2.2.2; omega) he4
        have hne := nm_b hJ.out.2.1.byte
        obtain ⟨m2, hm2⟩ : ∃ m, K - j = m + 1 := ⟨K - j - 1, by omega⟩
        have HM2 : Hid (K - (j + 1) = m2) := by unfold Hid; omega
        obtain ⟨x, hx⟩ : ∃ x, x = nm e := ⟨_, rfl⟩
        have HRJ : Hid (R = if 2147483647 < x then none else inR m2 (ls ++ [x]) (e.drop 4)) := by
          unfold Hid; rw [hJ.out.1, hm2, inR, ← hx]
        rw [← hx] at HN3 hne
        have HLE : Hid ((e.drop 4).length + 4 * (j + 1) = n2) := by unfold Hid; rw [List.length_drop]; have := hJ.out.2.2.2.2.2; omega
        have HLS : Hid (ls.length = j) := hJ.out.2.2.2.2.1
        have HIL : Hid (Is' wr w2.heap.size l2 ls) := hJ.out.2.2.1
        have HBJ : Hid (Below w2.heap.size w2 wr) := hJ.out.2.2.2.1
        clear hJ hx hm2 he4
        go_wp2_with fail
        refine Calls.mono HN3.out ?_
        rintro ev w3 ⟨u3, rfl, hB3, hb3⟩
        have HB3 : Hid (Br w u3 (e.drop 4)) := hB3
        have HBW3 : Hid (Below w2.heap.size w2 w3) := below_step HBJ.out hb3
        have HIL3 : Hid (Is' w3 w2.heap.size l2 ls) := row_kept HIL.out hb3.block
        clear hB3 hb3 HN3 HIL
        by_cases hxt : 2147483647 < x
        · have HXX : Hid (X = ([], 120)) := HBAD.out (by rw [HZ4.out, HRJ.out, if_pos hxt]; rfl)
          have hxd : decide (2147483647 < x) = true := decide_eq_true hxt
          go_wp2_with fail
          go_ret2
          rw [HXX.out]
          exact ⟨_, rfl, Lr.nil _, below_step HW2.out HBW3.out⟩
        have hxd : decide (2147483647 < x) = false := decide_eq_false hxt
        have HR3 : Hid (R = inR (K - (j + 1)) (ls ++ [x]) (e.drop 4)) := by unfold Hid; rw [HM2.out, HRJ.out, if_neg hxt]
        obtain ⟨ns, hns⟩ : ∃ n, n = ls.length := ⟨_, rfl⟩
        have hnsk : ns ≤ 10000 := by rw [hns, HLS.out]; omega
        have HNS : Hid (w3.ownsRow w2.heap.size 3 1 l2 ns (ls.map (Value.int .i64))) := by unfold Hid; rw [hns]; exact HIL3.out
        have HNSL : Hid (ns = ls.length) := hns
        have hz3 := HBW3.out.size
        obtain ⟨a3, n3, c3, hu3⟩ := (show ∃ a m k, u3 = .slice a m k from by
          obtain ⟨a, c, e, -⟩ := HB3.out.out; exact ⟨a, _, c, e⟩)
        subst hu3
        clear hns HIL3
        go_wp2_with (at_builtin; refine wpList_append_own_at _ rfl _ _ 51 rfl w2.heap.size 3 tj _ 1 8 underInts HJ.out.1 HJ.out.2.1 HJ.out.2.2.1 HJ.out.2.2.2 rfl (by decide) _ ns _ rfl (row_kept HNS.out (fun _ hq => heap_alloc_old _ _ hq)) ⟨w3.heap.size, 0, none⟩ 1 1 [_] rfl rfl (cell_one_new _ _ _) (fun u hu => by rw [List.mem_singleton.1 hu]; rfl) (by unfold maxLen; omega) (by omega) (by simp; omega) ?_; intro v1 w4 hown hgrow hnil hat)
        have hI4 : Is' w4 w2.heap.size v1 (ls ++ [x]) := by unfold Is'; rw [List.length_append, List.map_append, ← HNSL.out]; exact hown
        have hb4 : Below w2.heap.size w2 w4 := low_grown HBW3.out (by omega) hgrow (fun q e => (World.ownsRow.lt HNS.out q e).1)
        exact ⟨⟨j + 1, ls ++ [x], e.drop 4, by omega, by go_num, HR3.out, HB3.out, hI4, hb4, by rw [List.length_append, HLS.out]; rfl, HLE.out⟩, by simp [intOf]; omega⟩
      · obtain rfl : j = K := by omega
        have hltJ : ¬ (j : Int) < (j : Int) := by omega
        have HRR : Hid (R = some (ls, e)) := by unfold Hid; rw [hJ.out.1, Nat.sub_self, inR]
        have HZ5 : Hid (Z = decR (N - (k + 1)) (C ++ [ls]) e) := by unfold Hid; rw [HZ4.out, HRR.out, HM.out]; rfl
        have HB5 : Hid (Below w.heap.size w wr) := below_step HW2.out hJ.out.2.2.2.1
        have HS5 : Hid (Br w s2 e) := hJ.out.2.1
        have HU3 : Hid (Sf wr (own q) l2 ls) := hJ.out.2.2.1.sf fun r hr => (HQ2.out.low r hr).2
        have HG3 : Hid (Ga 51 wr w.heap.size q C) := HQ2.out.below hJ.out.2.2.2.1
        have HSZ5 : Hid (e.length + (C ++ [ls]).length ≤ 10000) := by
          unfold Hid; rw [List.length_append, List.length_singleton]
          have h1 := hJ.out.2.2.2.2.2; have h2 := HD4L.out; have h3 := HN2L.out; omega
        obtain ⟨a3, n3, k3, hv3, -⟩ := own_sl hJ.out.2.2.1
        subst hv3
        have hq : q = .slice aq nq cq := HQ0.out
        clear HQ0
        subst hq
        obtain ⟨us, hus, husl, hu3⟩ := HG3.out.ex
        have HUX : Hid (∀ (i : Nat) u c, us[i]? = some u → C[i]? = some c → Sf wr (own (.slice aq nq cq)) u c) := hu3
        have HUS : Hid (wr.ownsRow w.heap.size 51 1 (.slice aq nq cq) nq us ∧ us.length = nq) := by
          have e1 : us.length = nq := by rw [husl, HNQ.out]
          exact ⟨by rw [← e1]; exact e1 ▸ hus, e1⟩
        have hz3 := HB5.out.size
        clear hus husl hu3 hJ
        go_wp2_with (at_builtin; refine wpList_append_own_at _ rfl _ _ 22 rfl w.heap.size 51 ti (.slice none 0 0) 1 24 underLists HI.out.1 HI.out.2.1 HI.out.2.2.1 HI.out.2.2.2 rfl (by decide) (.slice aq nq cq) nq us rfl (row_kept HUS.out.1 (fun _ hq => heap_alloc_old _ _ hq)) ⟨wr.heap.size, 0, none⟩ 1 1 [.slice a3 n3 k3] rfl rfl (cell_one_new _ _ _) (by intro y hy; rw [List.mem_singleton.1 hy]; rfl) (by unfold maxLen; omega) (by omega) (by rw [size_alloc']; omega) ?_; intro v4 w6 hown hgrow hnil hat)
        have hG4 : Ga 51 w6 w.heap.size v4 (C ++ [ls]) := Ga.app (by rw [HUS.out.2, HNQ.out]) HUX.out HU3.out hgrow (by rw [HUS.out.2]; exact hown) hat
        have hb4 : Below w.heap.size w w6 := low_grown HB5.out (by omega) hgrow (fun q e => (HUS.out.1.lt q e).1)
        exact ⟨⟨k + 1, C ++ [ls], e, by omega, by go_num, HZ5.out, HS5.out, hG4, hb4, HSZ5.out⟩, by simp [intOf]; omega⟩
end Go.Proofs.Ythdgmkjjpmigeaa
