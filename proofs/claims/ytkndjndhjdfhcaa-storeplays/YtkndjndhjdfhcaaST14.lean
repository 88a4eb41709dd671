/- Contracts (store): a search in a rising list, hasJust. -/
import Derived.Test.YtkndjndhjdfhcaaST13
namespace Go.Proofs.Ytkndjndhjdfhcaa
open Go.RowKit
set_option linter.unusedSimpArgs false
set_option linter.unusedVariables false

theorem isnan_any (a : Int) (w : World) :
    Calls Try.prog 65 #[.int .i64 a] w fun e w' => e = .returned (.bool false) ∧ w' = w := by
  go_enter Try.func65, Try.ntmps65
  go_wp2_with fail
  go_ret
  exact ⟨by first | rfl | simp, rfl⟩
theorem cisnan_any (a : Int) (w : World) :
    Calls Try.prog 73 #[.int .i64 a] w fun e w' => e = .returned (.bool false) ∧ w' = w := by
  go_enter Try.func73, Try.ntmps73
  go_wp2_with fail
  go_ret
  exact ⟨by first | rfl | simp, rfl⟩
theorem cless_any (a b : Int) (w : World) :
    Calls Try.prog 60 #[.int .i64 a, .int .i64 b] w fun e w' => e = .returned (.bool (decide (a < b))) ∧ w' = w := by
  have H1 : Hid (∀ wx, Calls Try.prog 73 #[.int .i64 a] wx fun e w' => e = .returned (.bool false) ∧ w' = wx) := fun wx => cisnan_any a wx
  by_cases h : a < b
  · have hd : decide (a < b) = true := decide_eq_true h
    rw [hd]
    go_enter Try.func60, Try.ntmps60
    go_wp2_with ((go_at_call 73; refine (H1.out _).mono ?_; rintro e w1 ⟨rfl, hq⟩; subst hq))
    go_ret
    exact ⟨by first | rfl | simp, rfl⟩
  · have hd : decide (a < b) = false := decide_eq_false h
    rw [hd]
    go_enter Try.func60, Try.ntmps60
    go_wp2_with fail
    refine (H1.out _).mono ?_
    rintro e w1 ⟨rfl, hq⟩
    rw [hq]
    clear hq w1
    go_wp2_with fail
    go_ret
    exact ⟨by first | rfl | simp, rfl⟩
theorem up_at {L : List Int} (h : L.Pairwise (· < ·)) {i j : Nat} (hij : i < j) (hj : j < L.length) : L.getD i 0 < L.getD j 0 := by
  have hi : i < L.length := by omega
  rw [List.getD_eq_getElem?_getD, List.getD_eq_getElem?_getD, List.getElem?_eq_getElem hi, List.getElem?_eq_getElem hj]
  exact List.pairwise_iff_getElem.1 h i j hi hj hij
theorem mem_getD {L : List Int} {x : Int} : x ∈ L ↔ ∃ j, j < L.length ∧ L.getD j 0 = x := by
  constructor
  · intro h
    obtain ⟨j, hj, rfl⟩ := List.getElem_of_mem h
    exact ⟨j, hj, by rw [List.getD_eq_getElem?_getD, List.getElem?_eq_getElem hj]; rfl⟩
  · rintro ⟨j, hj, rfl⟩
    exact getD_mem hj
set_option maxRecDepth 20000 in
set_option maxHeartbeats 6400000 in
theorem bsearch_any {w : World} {u : Value} {L : List Int} (h : Sr w u L) (hup : L.Pairwise (· < ·)) (hl : L.length ≤ 1000000) (x : Int) :
    Calls Try.prog 46 #[u, .int .i64 x] w fun e w' => (∃ i : Int, e = .returned (.tuple #[.int .i64 i, .bool (decide (x ∈ L))])) ∧ w' = w := by
  obtain ⟨a, c, rfl⟩ := h.out
  have HC : Hid _ := h
  have HU : Hid _ := hup
  obtain ⟨n, hn⟩ : ∃ n, n = L.length := ⟨_, rfl⟩
  obtain ⟨r, hr⟩ : ∃ r, r = decide (x ∈ L) := ⟨_, rfl⟩
  rw [← hn] at hl HC ⊢
  rw [← hr]
  have HR : Hid _ := hr
  have HN : Hid _ := hn
  clear h hr hn hup
  go_enter Try.func46, Try.ntmps46
  go_wp2_with fail
  go_loopw [7, 8] (fun i j wr => ∃ I J : Nat, i = .int .i64 (I : Int) ∧ j = .int .i64 (J : Int) ∧ I ≤ J ∧ J ≤ n ∧ Hid ((∀ q, q < I → L.getD q 0 < x) ∧ (∀ q, J ≤ q → q < n → x ≤ L.getD q 0)) ∧ w = wr) (fun i j wr => (intOf j).toNat - (intOf i).toNat)
  case atStart => exact ⟨0, n, rfl, rfl, Nat.zero_le _, Nat.le_refl _, ⟨fun q hq => by omega, fun q h1 h2 => by omega⟩, rfl⟩
  case round =>
    obtain ⟨I, J, rfl, rfl, hIJ, hJn, hH, rfl⟩ := hrel
    by_cases hlt : I < J
    · obtain ⟨M, hM⟩ : ∃ M, M = (I + J) / 2 := ⟨_, rfl⟩
      have hM1 : I ≤ M := by omega
      have hM2 : M < J := by omega
      have hMl : M < L.length := by rw [← HN.out]; omega
      obtain ⟨g, o, rfl, hck⟩ := HC.out.at' (Below.refl _ _) (k := M) hMl
      obtain ⟨y, hy⟩ : ∃ y, y = L.getD M 0 := ⟨_, rfl⟩
      rw [← hy] at hck
      have HL : Hid _ := cless_any y x w
      have hMi : ((I : Int) + (J : Int)) / 2 = (M : Int) := by omega
      have HY : Hid _ := hy
      clear hy hMl hM
      by_cases hyx : y < x
      · have hd : decide (y < x) = true := decide_eq_true hyx
        rw [hd] at HL
        clear hd
        go_wp2_with fail
        refine Calls.mono HL.out ?_
        rintro ev w1 ⟨rfl, hq⟩
        rw [hq]
        clear hq w1
        go_wp2_with fail
        refine ⟨⟨M + 1, J, by go_num, rfl, by omega, hJn, ⟨fun q hq => ?_, hH.out.2⟩, by first | rfl | trivial⟩, by simp [intOf]; omega⟩
        by_cases e : q = M
        · rw [e, ← HY.out]; exact hyx
        · have h1 := up_at HU.out (i := q) (j := M) (by omega) (by rw [← HN.out]; omega)
          rw [← HY.out] at h1
          omega
      · have hd : decide (y < x) = false := decide_eq_false hyx
        rw [hd] at HL
        clear hd
        go_wp2_with fail
        refine Calls.mono HL.out ?_
        rintro ev w1 ⟨rfl, hq⟩
        rw [hq]
        clear hq w1
        go_wp2_with fail
        refine ⟨⟨I, M, rfl, rfl, hM1, by omega, ⟨hH.out.1, fun q h1 h2 => ?_⟩, by first | rfl | trivial⟩, by simp [intOf]; omega⟩
        by_cases e : q = M
        · rw [e, ← HY.out]; omega
        · have h1 := up_at HU.out (i := M) (j := q) (by omega) (by rw [← HN.out]; omega)
          rw [← HY.out] at h1
          omega
    · obtain rfl : I = J := by omega
      have hd0 : ¬ (I : Int) < (I : Int) := by omega
      by_cases hIn : I < n
      · obtain ⟨g, o, rfl, hck⟩ := HC.out.at' (Below.refl _ _) (k := I) (by rw [← HN.out]; exact hIn)
        obtain ⟨y, hy⟩ : ∃ y, y = L.getD I 0 := ⟨_, rfl⟩
        rw [← hy] at hck
        have hInI : (I : Int) < (n : Int) := by omega
        by_cases hyx : y = x
        · have HT : Hid (r = true) := by
            unfold Hid
            rw [HR.out, decide_eq_true_eq, ← hyx, hy]
            exact getD_mem (by rw [← HN.out]; exact hIn)
          have hb : (y == x) = true := by simp [hyx]
          subst hyx
          clear hy
          go_wp2_with fail
          go_ret2
          exact ⟨⟨_, by rw [HT.out]; rfl⟩, rfl⟩
        · have HT : Hid (r = false) := by
            unfold Hid
            rw [HR.out, decide_eq_false_iff_not, mem_getD]
            rintro ⟨j, hj, hjx⟩
            rw [← HN.out] at hj
            by_cases h1 : j < I
            · have := hH.out.1 j h1; omega
            · by_cases h2 : j = I
              · rw [h2, ← hy] at hjx; exact hyx hjx
              · have h3 := up_at HU.out (i := I) (j := j) (by omega) (by rw [← HN.out]; exact hj)
                have h4 := hH.out.2 I (by omega) hIn
                omega
          have hb : (y == x) = false := by simp [hyx]
          have HNN : Hid _ := isnan_any y w
          clear hy
          go_wp2_with fail
          refine Calls.mono HNN.out ?_
          rintro ev w1 ⟨rfl, hq⟩
          rw [hq]
          clear hq w1
          go_wp2_with fail
          go_ret2
          exact ⟨⟨_, by rw [HT.out]; rfl⟩, rfl⟩
      · have HT : Hid (r = false) := by
          unfold Hid
          rw [HR.out, decide_eq_false_iff_not, mem_getD]
          rintro ⟨j, hj, hjx⟩
          rw [← HN.out] at hj
          have := hH.out.1 j (by omega)
          omega
        have hInI : ¬ (I : Int) < (n : Int) := by omega
        have hdd : decide ((I : Int) < (n : Int)) = false := decide_eq_false hInI
        go_wp2_with fail
        go_ret2
        exact ⟨⟨_, by rw [HT.out]; rfl⟩, rfl⟩
/-- Has a clause just the wanted literals? -/
def hj (l m : List Int) : Bool := decide (l.length = m.length) && l.all fun x => decide (x ∈ m)
set_option maxRecDepth 20000 in
set_option maxHeartbeats 6400000 in
theorem hasJust_any {w : World} {u v : Value} {l m : List Int} (h : Sr w u l) (h' : Sr w v m) (hup : m.Pairwise (· < ·)) (hl : l.length ≤ 1000000) (hm : m.length ≤ 1000000) :
    Calls Try.prog 33 #[u, v] w fun e w' => e = .returned (.bool (hj l m)) ∧ w' = w := by
  obtain ⟨a, c, rfl⟩ := h.out
  obtain ⟨a', c', rfl⟩ := h'.out
  have HC : Hid _ := h
  have HB : Hid (∀ x, Calls Try.prog 46 #[.slice a' m.length c', .int .i64 x] w fun e w' => (∃ i : Int, e = .returned (.tuple #[.int .i64 i, .bool (decide (x ∈ m))])) ∧ w' = w) := fun x => bsearch_any h' hup hm x
  obtain ⟨n, hn⟩ : ∃ n, n = l.length := ⟨_, rfl⟩
  obtain ⟨n', hn'⟩ : ∃ n, n = m.length := ⟨_, rfl⟩
  obtain ⟨r, hr⟩ : ∃ r, r = hj l m := ⟨_, rfl⟩
  rw [← hn] at hl HC ⊢
  rw [← hn'] at hm HB ⊢
  rw [← hr]
  have HR : Hid _ := hr
  have HN : Hid _ := hn
  have HN' : Hid _ := hn'
  clear h h' hr hn hn' hup
  by_cases hne : n = n'
  · subst hne
    have z1 : ((n : Int) == n) = true := by simp
    have y1 : ((n : Int) != n) = false := by simp
    go_enter Try.func33, Try.ntmps33
    go_wp2_with fail
    go_loopw [16] (fun i wr => ∃ k : Nat, k ≤ n ∧ i = .int .i64 (k : Int) ∧ (∀ j, j < k → l.getD j 0 ∈ m) ∧ w = wr) (fun i wr => n - (intOf i).toNat)
    case atStart => exact ⟨0, Nat.zero_le _, rfl, (fun j hj => by omega), rfl⟩
    case round =>
      obtain ⟨k, hk, rfl, hz, rfl⟩ := hrel
      have HZ : Hid _ := hz
      clear hz
      by_cases hlt : k < n
      · obtain ⟨g, o, rfl, hck⟩ := HC.out.at' (Below.refl _ _) (k := k) (by rw [← HN.out]; exact hlt)
        obtain ⟨y, hy⟩ : ∃ y, y = l.getD k 0 := ⟨_, rfl⟩
        rw [← hy] at hck
        have HBY : Hid _ := HB.out y
        obtain ⟨b, hb⟩ : ∃ b, b = decide (y ∈ m) := ⟨_, rfl⟩
        rw [← hb] at HBY
        have hltI : (k : Int) < (n : Int) := by omega
        cases b with
        | true =>
          have HYM : Hid (l.getD k 0 ∈ m) := by unfold Hid; rw [← hy]; exact decide_eq_true_iff.1 hb.symm
          clear hb hy
          go_wp2_with fail
          refine Calls.mono HBY.out ?_
          rintro ev w1 ⟨⟨i, rfl⟩, hq⟩
          rw [hq]
          clear hq w1
          go_wp2_with fail
          refine ⟨⟨k + 1, by omega, by go_num, (fun j hj => ?_), by first | rfl | trivial⟩, by simp [intOf]; omega⟩
          by_cases e : j = k
          · subst e; exact HYM.out
          · exact HZ.out j (by omega)
        | false =>
          have HT : Hid (r = false) := by
            unfold Hid
            rw [HR.out]
            unfold hj
            rw [Bool.and_eq_false_iff]
            right
            rw [List.all_eq_false]
            refine ⟨y, by rw [hy]; exact getD_mem (by rw [← HN.out]; exact hlt), by rw [← hb]; simp⟩
          clear hb hy
          go_wp2_with fail
          refine Calls.mono HBY.out ?_
          rintro ev w1 ⟨⟨i, rfl⟩, hq⟩
          rw [hq]
          clear hq w1
          go_wp2_with fail
          go_ret
          exact ⟨by rw [HT.out]; rfl, rfl⟩
      · obtain rfl : k = n := by omega
        have HT : Hid (r = true) := by
          unfold Hid
          rw [HR.out]
          unfold hj
          rw [Bool.and_eq_true, decide_eq_true_eq, List.all_eq_true]
          refine ⟨by rw [← HN.out, ← HN'.out], fun x hx => ?_⟩
          obtain ⟨j, hj, rfl⟩ := mem_getD.1 hx
          exact decide_eq_true (HZ.out j (by rw [HN.out]; exact hj))
        have hltI : ¬ (k : Int) < (k : Int) := by omega
        go_wp2_with fail
        go_ret
        exact ⟨by rw [HT.out]; rfl, rfl⟩
  · have HT : Hid (r = false) := by
      unfold Hid
      rw [HR.out]
      unfold hj
      rw [decide_eq_false (by rw [← HN.out, ← HN'.out]; exact hne)]; rfl
    have z1 : ((n : Int) == n') = false := by simp; omega
    have y1 : ((n : Int) != n') = true := by simp; omega
    go_enter Try.func33, Try.ntmps33
    go_wp2_with fail
    go_ret
    exact ⟨by rw [HT.out]; rfl, rfl⟩
end Go.Proofs.Ytkndjndhjdfhcaa
