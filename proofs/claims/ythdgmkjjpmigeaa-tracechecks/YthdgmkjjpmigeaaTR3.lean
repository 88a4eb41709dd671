/- Contracts (traces): which numbers are none, Lists, light, Clone. -/
import Derived.Test.YthdgmkjjpmigeaaTR2
namespace Go.Proofs.Ythdgmkjjpmigeaa
open Go.RowKit
set_option linter.unusedSimpArgs false
set_option linter.unusedVariables false

/-- A number that is none of a trace. -/
def noN (x : Int) : Bool := decide (x < 0) || decide (2147483647 < x)
/-- A literal. -/
def okZ (x : Int) : Bool := decide (x ≠ 0) && decide (-2147483647 ≤ x) && decide (x ≤ 2147483647)
def noL (x : Int) : Bool := !okZ x
theorem in_getD {l : List Int} {x : Int} (h : x ∈ l) : ∃ j, j < l.length ∧ x = l.getD j 0 := by
  obtain ⟨j, hj, rfl⟩ := List.getElem_of_mem h
  exact ⟨j, hj, by rw [List.getD_eq_getElem?_getD, List.getElem?_eq_getElem hj]; rfl⟩
theorem getD_in {l : List Int} {j : Nat} (h : j < l.length) : l.getD j 0 ∈ l := by
  rw [List.getD_eq_getElem?_getD, List.getElem?_eq_getElem h]; exact List.getElem_mem h
theorem getD_at {l : List Int} {j : Nat} {x : Int} (h : l[j]? = some x) : l.getD j 0 = x := by rw [List.getD_eq_getElem?_getD, h]; rfl
theorem at_getD {l : List Int} {j : Nat} (h : j < l.length) : l[j]? = some (l.getD j 0) := by rw [List.getD_eq_getElem?_getD, List.getElem?_eq_getElem h]; rfl
theorem isNoNumber_any (l : Int) (w : World) :
    Calls Try.prog 35 #[.int .i64 l] w fun e w' => e = .returned (.bool (noN l)) ∧ w' = w := by
  obtain ⟨R, hR⟩ : ∃ R, R = noN l := ⟨_, rfl⟩
  rw [← hR]
  have HR : Hid _ := hR
  clear hR
  by_cases h0 : l < 0
  · go_enter Try.func35, Try.ntmps35
    go_wp2_with fail
    go_ret
    exact ⟨by rw [HR.out]; simp [noN, h0], rfl⟩
  · go_enter Try.func35, Try.ntmps35
    go_wp2_with fail
    go_ret
    exact ⟨by rw [HR.out]; simp [noN, h0]; try omega, rfl⟩
theorem isNoLiteral_any (l : Int) (w : World) :
    Calls Try.prog 58 #[.int .i64 l] w fun e w' => e = .returned (.bool (noL l)) ∧ w' = w := by
  obtain ⟨R, hR⟩ : ∃ R, R = noL l := ⟨_, rfl⟩
  rw [← hR]
  have HR : Hid _ := hR
  clear hR
  by_cases h0 : l = 0
  · subst h0
    go_enter Try.func58, Try.ntmps58
    go_wp2_with fail
    go_ret
    exact ⟨by rw [HR.out]; rfl, rfl⟩
  · have hb' : (l == 0) = false := by simp [h0]
    by_cases h1 : l < -2147483647
    · go_enter Try.func58, Try.ntmps58
      go_wp2_with fail
      go_ret
      refine ⟨?_, rfl⟩
      rw [HR.out]
      unfold noL okZ
      simp [h0]
      try omega
    · go_enter Try.func58, Try.ntmps58
      go_wp2_with fail
      go_ret
      refine ⟨?_, rfl⟩
      rw [HR.out]
      have e : noL l = decide (2147483647 < l) := by
        unfold noL okZ
        rw [Bool.eq_iff_iff]
        simp [h0]
        omega
      rw [e]
      first | rfl | simp
set_option maxRecDepth 20000 in
set_option maxHeartbeats 6400000 in
theorem indexN_any {w : World} {u : Value} {L : List Int} (hu : Sr w u L) (hl : L.length ≤ 2000000) :
    Calls Try.prog 50 #[u, .func (.func 35) #[] #[]] w fun e w' => (∃ i : Int, e = .returned (.int .i64 i) ∧ decide (0 ≤ i) = L.any noN) ∧ w' = w := by
  obtain ⟨a, c, rfl⟩ := hu.out
  have HC : Hid _ := hu
  obtain ⟨n, hn⟩ : ∃ n, n = L.length := ⟨_, rfl⟩
  have HN : Hid _ := hn
  rw [← hn] at HC hl ⊢
  clear hu hn
  go_enter Try.func50, Try.ntmps50
  go_wp2_with fail
  go_loopw [8] (fun i wr => ∃ k : Nat, k ≤ n ∧ i = .int .i64 (k : Int) ∧ Hid (∀ j, j < k → noN (L.getD j 0) = false) ∧ w = wr) (fun i wr => n - (intOf i).toNat)
  case atStart => exact ⟨0, Nat.zero_le _, rfl, (fun j hj => by omega), rfl⟩
  case round =>
    obtain ⟨k, hk, rfl, hH, rfl⟩ := hrel
    by_cases hlt : k < n
    · have hkl : k < L.length := by rw [← HN.out]; exact hlt
      obtain ⟨g, o, rfl, hck⟩ := HC.out.at' (Below.refl _ _) (k := k) hkl
      obtain ⟨x, hx⟩ : ∃ x, x = L.getD k 0 := ⟨_, rfl⟩
      rw [← hx] at hck
      have HSR : Hid _ := isNoNumber_any x w
      obtain ⟨b, hb⟩ : ∃ b, b = noN x := ⟨_, rfl⟩
      rw [← hb] at HSR
      have HB : Hid (noN (L.getD k 0) = b) := by unfold Hid; rw [← hx, hb]
      have hltI : (k : Int) < (n : Int) := by omega
      clear hb hx
      cases b with
      | true =>
        have HT : Hid (L.any noN = true) := List.any_eq_true.2 ⟨_, getD_in hkl, HB.out⟩
        clear hkl
        go_wp2_with fail
        refine Calls.mono HSR.out ?_
        rintro ev w1 ⟨rfl, rfl⟩
        go_wp2_with fail
        go_ret
        exact ⟨⟨_, rfl, by rw [HT.out]; simp⟩, rfl⟩
      | false =>
        clear hkl
        go_wp2_with fail
        refine Calls.mono HSR.out ?_
        rintro ev w1 ⟨rfl, rfl⟩
        go_wp2_with fail
        refine ⟨⟨k + 1, by omega, by go_num, (fun j hj => ?_), by first | rfl | trivial⟩, by simp [intOf]; omega⟩
        by_cases e : j = k
        · subst e; exact HB.out
        · exact hH.out j (by omega)
    · obtain rfl : k = n := by omega
      have HT : Hid (L.any noN = false) := by
        unfold Hid
        rw [List.any_eq_false]
        intro x hx
        obtain ⟨j, hj, rfl⟩ := in_getD hx
        rw [hH.out j (by rw [HN.out]; exact hj)]; simp
      have hltI : ¬ (k : Int) < (k : Int) := by omega
      go_wp2_with fail
      go_ret
      exact ⟨⟨_, rfl, by rw [HT.out]; rfl⟩, rfl⟩
theorem containsN_any {w : World} {u : Value} {L : List Int} (hu : Sr w u L) (hl : L.length ≤ 2000000) :
    Calls Try.prog 34 #[u, .func (.func 35) #[] #[]] w fun e w' => e = .returned (.bool (L.any noN)) ∧ w' = w := by
  have HI : Hid _ := indexN_any hu hl
  obtain ⟨a, n, c, hue, -⟩ := hu.sl
  subst hue
  obtain ⟨R, hR⟩ : ∃ R, R = L.any noN := ⟨_, rfl⟩
  rw [← hR] at HI ⊢
  clear hu hl hR
  go_enter Try.func34, Try.ntmps34
  go_wp2_with fail
  refine Calls.mono HI.out ?_
  rintro ev w1 ⟨⟨i, rfl, hi⟩, rfl⟩
  have HII : Hid _ := hi
  clear hi
  go_wp2_with fail
  go_ret
  exact ⟨by rw [← HII.out]; rfl, rfl⟩
set_option maxRecDepth 20000 in
set_option maxHeartbeats 6400000 in
theorem indexL_any {w : World} {u : Value} {L : List Int} (hu : Sr w u L) (hl : L.length ≤ 2000000) :
    Calls Try.prog 50 #[u, .func (.func 58) #[] #[]] w fun e w' => (∃ i : Int, e = .returned (.int .i64 i) ∧ decide (0 ≤ i) = L.any noL) ∧ w' = w := by
  obtain ⟨a, c, rfl⟩ := hu.out
  have HC : Hid _ := hu
  obtain ⟨n, hn⟩ : ∃ n, n = L.length := ⟨_, rfl⟩
  have HN : Hid _ := hn
  rw [← hn] at HC hl ⊢
  clear hu hn
  go_enter Try.func50, Try.ntmps50
  go_wp2_with fail
  go_loopw [8] (fun i wr => ∃ k : Nat, k ≤ n ∧ i = .int .i64 (k : Int) ∧ Hid (∀ j, j < k → noL (L.getD j 0) = false) ∧ w = wr) (fun i wr => n - (intOf i).toNat)
  case atStart => exact ⟨0, Nat.zero_le _, rfl, (fun j hj => by omega), rfl⟩
  case round =>
    obtain ⟨k, hk, rfl, hH, rfl⟩ := hrel
    by_cases hlt : k < n
    · have hkl : k < L.length := by rw [← HN.out]; exact hlt
      obtain ⟨g, o, rfl, hck⟩ := HC.out.at' (Below.refl _ _) (k := k) hkl
      obtain ⟨x, hx⟩ : ∃ x, x = L.getD k 0 := ⟨_, rfl⟩
      rw [← hx] at hck
      have HSR : Hid _ := isNoLiteral_any x w
      obtain ⟨b, hb⟩ : ∃ b, b = noL x := ⟨_, rfl⟩
      rw [← hb] at HSR
      have HB : Hid (noL (L.getD k 0) = b) := by unfold Hid; rw [← hx, hb]
      have hltI : (k : Int) < (n : Int) := by omega
      clear hb hx
      cases b with
      | true =>
        have HT : Hid (L.any noL = true) := List.any_eq_true.2 ⟨_, getD_in hkl, HB.out⟩
        clear hkl
        go_wp2_with fail
        refine Calls.mono HSR.out ?_
        rintro ev w1 ⟨rfl, rfl⟩
        go_wp2_with fail
        go_ret
        exact ⟨⟨_, rfl, by rw [HT.out]; simp⟩, rfl⟩
      | false =>
        clear hkl
        go_wp2_with fail
        refine Calls.mono HSR.out ?_
        rintro ev w1 ⟨rfl, rfl⟩
        go_wp2_with fail
        refine ⟨⟨k + 1, by omega, by go_num, (fun j hj => ?_), by first | rfl | trivial⟩, by simp [intOf]; omega⟩
        by_cases e : j = k
        · subst e; exact HB.out
        · exact hH.out j (by omega)
    · obtain rfl : k = n := by omega
      have HT : Hid (L.any noL = false) := by
        unfold Hid
        rw [List.any_eq_false]
        intro x hx
        obtain ⟨j, hj, rfl⟩ := in_getD hx
        rw [hH.out j (by rw [HN.out]; exact hj)]; simp
      have hltI : ¬ (k : Int) < (k : Int) := by omega
      go_wp2_with fail
      go_ret
      exact ⟨⟨_, rfl, by rw [HT.out]; rfl⟩, rfl⟩
theorem containsL_any {w : World} {u : Value} {L : List Int} (hu : Sr w u L) (hl : L.length ≤ 2000000) :
    Calls Try.prog 34 #[u, .func (.func 58) #[] #[]] w fun e w' => e = .returned (.bool (L.any noL)) ∧ w' = w := by
  have HI : Hid _ := indexL_any hu hl
  obtain ⟨a, n, c, hue, -⟩ := hu.sl
  subst hue
  obtain ⟨R, hR⟩ : ∃ R, R = L.any noL := ⟨_, rfl⟩
  rw [← hR] at HI ⊢
  clear hu hl hR
  go_enter Try.func34, Try.ntmps34
  go_wp2_with fail
  refine Calls.mono HI.out ?_
  rintro ev w1 ⟨⟨i, rfl, hi⟩, rfl⟩
  have HII : Hid _ := hi
  clear hi
  go_wp2_with fail
  go_ret
  exact ⟨by rw [← HII.out]; rfl, rfl⟩
set_option maxRecDepth 20000 in
set_option maxHeartbeats 6400000 in
theorem lists_same {w : World} {u v : Value} {C D : List (List Int)} (h : Lr w u C) (h' : Lr w v D) (hl : C.length ≤ 1000000) (hm : D.length ≤ 1000000) (hc : ∀ x ∈ C, x.length ≤ 1000000) (hd : ∀ x ∈ D, x.length ≤ 1000000) :
    Calls Try.prog 18 #[u, v] w fun e w' => e = .returned (.bool (decide (C = D))) ∧ Below w.heap.size w w' := by
  obtain ⟨a, c, rfl⟩ := h.out
  obtain ⟨a', c', rfl⟩ := h'.out
  have HC : Hid _ := h
  have HD : Hid _ := h'
  have HCL : Hid _ := hc
  have HDL : Hid _ := hd
  obtain ⟨n, hn⟩ : ∃ n, n = C.length := ⟨_, rfl⟩
  obtain ⟨n', hn'⟩ : ∃ n', n' = D.length := ⟨_, rfl⟩
  obtain ⟨r, hr⟩ : ∃ r, r = decide (C = D) := ⟨_, rfl⟩
  rw [← hn] at hl HC ⊢
  rw [← hn'] at hm HD ⊢
  rw [← hr]
  have HR : Hid _ := hr
  have HN : Hid _ := hn
  have HN' : Hid _ := hn'
  clear h h' hr hn hn' hc hd
  by_cases hne : (n : Int) = n'
  · obtain rfl : n = n' := by omega
    have z1 : ((n : Int) == n) = true := by simp
    have y1 : ((n : Int) != n) = false := by simp
    clear hne
    go_enter Try.func18, Try.ntmps18
    go_wp2_with fail
    go_loopw [5] (fun i wr => ∃ k : Nat, k ≤ n ∧ i = .int .i64 (k : Int) ∧ Hid (C.take k = D.take k ∧ Below w.heap.size w wr)) (fun i wr => n - (intOf i).toNat)
    case atStart => exact ⟨0, Nat.zero_le _, rfl, rfl, Below.refl _ _⟩
    case round =>
      obtain ⟨k, hk, rfl, hH⟩ := hrel
      by_cases hlt : k < n
      · have hltI : (k : Int) < (n : Int) := by omega
        obtain ⟨x, hx⟩ : ∃ x, C[k]? = some x := ⟨_, List.getElem?_eq_getElem (by rw [← HN.out]; exact hlt)⟩
        obtain ⟨y, hy⟩ : ∃ y, D[k]? = some y := ⟨_, List.getElem?_eq_getElem (by rw [← HN'.out]; exact hlt)⟩
        obtain ⟨r1, o1, u1, rfl, hc1, hS1⟩ := (HC.out.below hH.out.2).at' hx
        obtain ⟨r2, o2, u2, rfl, hc2, hS2⟩ := (HD.out.below hH.out.2).at' hy
        have HII : Hid (∀ wx, Below wr.heap.size wr wx → Calls Try.prog 31 #[u1, u2] wx fun e w' => e = .returned (.bool (decide (x = y))) ∧ Below wx.heap.size wx w') := fun wx hb => ints_sr (hS1.below hb) (hS2.below hb) (HCL.out x (List.mem_of_getElem? hx)) (HDL.out y (List.mem_of_getElem? hy))
        obtain ⟨b, hb⟩ : ∃ b, b = decide (x = y) := ⟨_, rfl⟩
        rw [← hb] at HII
        have HX : Hid (C[k]? = some x ∧ D[k]? = some y ∧ b = decide (x = y)) := ⟨hx, hy, hb⟩
        obtain ⟨b1, m1, k1, e1, -⟩ := hS1.sl
        obtain ⟨b2, m2, k2, e2, -⟩ := hS2.sl
        subst e1 e2
        clear hx hy hb hS1 hS2
        go_wp2_with fail
        go_region_held3 (fun z => z.cell? ⟨r1, o1 + k, none⟩ = some (.slice b1 m1 k1) ∧ z.cell? ⟨r2, o2 + k, none⟩ = some (.slice b2 m2 k2) ∧ Below wr.heap.size wr z)
          ((first | (obtain ⟨q0, q1, q2⟩ := ‹_ ∧ _ ∧ _›; with_reducible exact ⟨keep_cell hbk q0, keep_cell hbk q1, below_step q2 hbk⟩) | exact ⟨hc1, hc2, drew_low _ _⟩))
          ((go_at_call 31; have qq := ‹_ ∧ _ ∧ _›; refine (HII.out _ qq.2.2).mono ?_; rintro e wz ⟨rfl, hbk⟩))
        obtain ⟨-, -, hb9⟩ := ‹_ ∧ _ ∧ _›
        have HB9 : Hid _ := hb9
        clear hb9
        cases b with
        | true =>
          go_wp2_with fail
          refine ⟨⟨k + 1, by omega, by go_num, ?_, hH.out.2.trans (HB9.out.mono hH.out.2.size)⟩, by simp [intOf]; omega⟩
          rw [List.take_add_one, List.take_add_one, hH.out.1, HX.out.1, HX.out.2.1, of_decide_eq_true HX.out.2.2.symm]
        | false =>
          have HF : Hid (r = false) := by
            unfold Hid
            rw [HR.out, decide_eq_false_iff_not]
            intro e
            have h1 := HX.out.1
            rw [e, HX.out.2.1] at h1
            injection h1 with h1
            exact of_decide_eq_false HX.out.2.2.symm h1.symm
          go_wp2_with fail
          go_ret
          exact ⟨by rw [HF.out]; rfl, hH.out.2.trans (HB9.out.mono hH.out.2.size)⟩
      · obtain rfl : k = n := by omega
        have hltI : ¬ (k : Int) < (k : Int) := by omega
        have HT : Hid (r = true) := by
          unfold Hid
          rw [HR.out, decide_eq_true_eq]
          have := hH.out.1
          rwa [HN.out, List.take_length, ← HN.out, HN'.out, List.take_length] at this
        go_wp2_with fail
        go_ret
        exact ⟨by rw [HT.out]; rfl, hH.out.2⟩
  · have z1 : ((n : Int) == n') = false := by simp [hne]
    have y1 : ((n : Int) != n') = true := by simp [hne]
    have HF : Hid (r = false) := by
      unfold Hid
      rw [HR.out, decide_eq_false_iff_not]
      intro e
      exact hne (by rw [HN.out, HN'.out, e])
    go_enter Try.func18, Try.ntmps18
    go_wp2_with fail
    go_ret
    exact ⟨by rw [HF.out]; rfl, Below.refl _ _⟩
/-- What light means of lists. -/
def lgt (C : List (List Int)) : Prop := (C.length : Int) + ((C.map List.length).sum : Int) ≤ 1000 ∧ C.length ≤ 200
theorem len_sum {L : List (List Int)} {x : List Int} (h : x ∈ L) : x.length ≤ (L.map List.length).sum := by
  induction L with
  | nil => cases h
  | cons y L ih =>
    rcases List.mem_cons.1 h with e | e
    · subst e; simp
    · have := ih e; simp; omega
theorem lgt.len {C : List (List Int)} (h : lgt C) : ∀ x ∈ C, x.length ≤ 1000 := fun x hx => by
  have := len_sum hx; have := h.1; omega
set_option maxRecDepth 20000 in
set_option maxHeartbeats 3200000 in
theorem light_any {w : World} {u v : Value} {C D : List (List Int)} (h : Lr w u C) (h' : Lr w v D) (hl : C.length ≤ 70368744177664) (hc : ∀ x ∈ C, x.length ≤ 70368744177664) (hm : D.length ≤ 70368744177664) (hd : ∀ x ∈ D, x.length ≤ 70368744177664) :
    Calls Try.prog 10 #[u, v] w fun e w' => ∃ b : Bool, e = .returned (.bool b) ∧ (b = true → lgt C ∧ lgt D) ∧ w' = w := by
  have HS1 : Hid _ := size_any h hl hc (most := 1000) (by decide) (by decide)
  have HS2 : Hid _ := size_any h' hm hd (most := 1000) (by decide) (by decide)
  obtain ⟨a, c, rfl⟩ := h.out
  obtain ⟨a', c', rfl⟩ := h'.out
  obtain ⟨n, hn⟩ : ∃ n, n = C.length := ⟨_, rfl⟩
  obtain ⟨n', hn'⟩ : ∃ n', n' = D.length := ⟨_, rfl⟩
  have HN : Hid (n = C.length ∧ n' = D.length) := ⟨hn, hn'⟩
  rw [← hn] at hl HS1 ⊢
  rw [← hn'] at hm HS2 ⊢
  clear h h' hc hd hn hn'
  go_enter Try.func10, Try.ntmps10
  go_wp2_with fail
  refine Calls.mono HS1.out ?_
  rintro ev w1 ⟨⟨z1, rfl, hz1⟩, rfl⟩
  have HZ1 : Hid _ := hz1
  clear hz1
  by_cases g1 : z1 ≤ 1000
  · have d1 : decide (z1 ≤ 1000) = true := decide_eq_true g1
    go_wp2_with fail
    refine Calls.mono HS2.out ?_
    rintro ev w1 ⟨⟨z2, rfl, hz2⟩, rfl⟩
    have HZ2 : Hid _ := hz2
    clear hz2
    by_cases g2 : z2 ≤ 1000
    · have d2 : decide (z2 ≤ 1000) = true := decide_eq_true g2
      by_cases g3 : (n : Int) ≤ 200
      · have d3 : decide ((n : Int) ≤ 200) = true := decide_eq_true g3
        go_wp2_with fail
        go_ret
        refine ⟨_, rfl, fun hb => ⟨⟨by have := HZ1.out g1; rw [← HN.out.1]; omega, by rw [← HN.out.1]; omega⟩, ⟨by have := HZ2.out g2; rw [← HN.out.2]; omega, ?_⟩⟩, rfl⟩
        have g4 : (n' : Int) ≤ 200 := by simpa using hb
        rw [← HN.out.2]; omega
      · have d3 : decide ((n : Int) ≤ 200) = false := decide_eq_false g3
        go_wp2_with fail
        go_ret
        exact ⟨_, rfl, (fun hb => by cases hb), rfl⟩
    · have d2 : decide (z2 ≤ 1000) = false := decide_eq_false g2
      go_wp2_with fail
      go_ret
      exact ⟨_, rfl, (fun hb => by cases hb), rfl⟩
  · have d1 : decide (z1 ≤ 1000) = false := decide_eq_false g1
    go_wp2_with fail
    go_ret
    exact ⟨_, rfl, (fun hb => by cases hb), rfl⟩
theorem is_app {w : World} {B : Nat} {v : Value} {n : Nat} {l m : List Int} (h : w.ownsRow B 3 1 v (n + m.length) (l.map (Value.int .i64) ++ m.map (Value.int .i64))) (hn : n = l.length) : Is' w B v (l ++ m) := by
  unfold Is'
  rw [List.map_append, List.length_append, ← hn]
  exact h
theorem run_append_none (w : World) (ty : TypeId) {base : Nat} {v : Value} {l : List Int} {c : Nat} (hown : Is' w base v l) :
    (Builtin.append_ #[51, 51] ty #[v, .slice none 0 c]).run Try.prog w = .ok v w := by
  obtain ⟨i, hi, hz, hs, hb⟩ := info_any infoInt
  rcases hown.2 with ⟨rfl, -⟩ | ⟨g, cap, cur, rfl, hbg, hg, hnc, hcm, hcs, htake⟩
  · simp [Builtin.append_, run_underlying underInts, sizeOf, typeInfo, hi, Builtin.lenOf, Builtin.firstCells]
  · simp [Builtin.append_, run_underlying underInts, sizeOf, typeInfo, hi, Builtin.lenOf, Builtin.firstCells, hnc, storeCells]
/-- 'append(v, u...)'. -/
theorem run_app (w : World) (ty : TypeId) {base : Nat} {v u : Value} {l c : List Int} (hv : Is' w base v l) (hu : Sr w u c) (hn : l.length + c.length ≤ 2000000) (hbase : base ≤ w.heap.size) :
    ∃ v' w', (Builtin.append_ #[51, 51] ty #[v, u]).run Try.prog w = .ok v' w' ∧ Is' w' base v' (l ++ c) ∧ w.grownBy w' v.ownBlock ∧ (v'.ownBlock = v.ownBlock ∨ v'.ownBlock = some w.heap.size) := by
  obtain ⟨i, hi, hz, hs, hb⟩ := info_any infoInt
  obtain ⟨a, k, rfl, h2⟩ := hu.ex
  have go : ∀ (ad : Addr), (∀ j y, (c.map (Value.int .i64))[j]? = some y → w.cell? (ad.add j) = some y) → ∃ v' w', (Builtin.append_ #[51, 51] ty #[v, .slice (some ad) c.length k]).run Try.prog w = .ok v' w' ∧ Is' w' base v' (l ++ c) ∧ w.grownBy w' v.ownBlock ∧ (v'.ownBlock = v.ownBlock ∨ v'.ownBlock = some w.heap.size) := by
    intro ad ha
    obtain ⟨v', w', h1, h2, h3, -, h5⟩ := run_append_own_at (P := Try.prog) w base 51 ty 3 i _ 1 8 underInts hi hz hs hb rfl (by decide) v l.length _ hv ad c.length k (c.map (Value.int .i64)) (by simp) ha (ones c) (by unfold maxLen; omega) (by omega) hbase
    exact ⟨v', w', h1, is_app h2 rfl, h3, h5⟩
  rcases h2 with rfl | ⟨r, o, rfl, -, h2⟩
  · cases a with
    | none =>
      refine ⟨v, w, run_append_none w ty hv, ?_, ⟨rfl, rfl, rfl, Nat.le_refl _, fun _ _ _ => rfl⟩, Or.inl rfl⟩
      rw [List.append_nil]; exact hv
    | some ad => exact go ad (fun j y h => by simp at h)
  · exact go ⟨r, o, none⟩ (Li.news h2)
theorem wpList_app {w : World} {ops : Array Oper} {rest : List Oper} {o : Oper} {a : Act} {Q : Exit → Act → World → Prop} (hgd : o.guard = none) (s x : Operand)
    (ho : o.op = .call { callee := .builtin .append, args := #[s, x], argTypes := #[51, 51] })
    (base : Nat) (v : Value) (l : List Int) (hs : a.eval s = v) (hown : Is' w base v l) (u : Value) (c : List Int) (hx : a.eval x = u) (hu : Sr w u c) (hn : l.length + c.length ≤ 2000000) (hbase : base ≤ w.heap.size)
    (h : ∀ v' w', Is' w' base v' (l ++ c) → w.grownBy w' v.ownBlock → (v'.ownBlock = v.ownBlock ∨ v'.ownBlock = some w.heap.size) → wpList Try.prog ops Q rest (a.put o.dst v') w') :
    wpList Try.prog ops Q (o :: rest) a w := by
  obtain ⟨v', w', hr, h2, h3, h4⟩ := run_app w o.type hown hu hn hbase
  exact wpList_app_eq w hgd s x _ _ ho v u hs hx hr (h v' w' h2 h3 h4)
theorem nil_eq (w : World) (n c : Nat) : (binOp .eql 51 (.slice none n c) (.slice none 0 0)).run Try.prog w = .ok (.bool true) w := by kernel_rfl
theorem nil_ne (w : World) (a : Addr) (n c : Nat) : (binOp .eql 51 (.slice (some a) n c) (.slice none 0 0)).run Try.prog w = .ok (.bool false) w := by kernel_rfl
theorem empty_row (w : World) : Is' (w.alloc (.cells #[] 3)) w.heap.size (.slice (some ⟨w.heap.size, 0, none⟩) 0 0) [] := ⟨rfl, Or.inr ⟨w.heap.size, 0, #[], rfl, Nat.le_refl _, heap_alloc_new w _, Nat.le_refl _, by decide, rfl, rfl⟩⟩
set_option maxHeartbeats 1600000 in
theorem clone_sr {w : World} {u : Value} {l : List Int} (h : Sr w u l) (hl : l.length ≤ 1000000) :
    Calls Try.prog 52 #[u] w fun e w' => ∃ u', e = .returned u' ∧ Is' w' w.heap.size u' l ∧ Below w.heap.size w w' := by
  obtain ⟨a, c, rfl⟩ := h.out
  have H : Hid _ := h
  obtain ⟨n, hn⟩ : ∃ n, n = l.length := ⟨_, rfl⟩
  have HN : Hid _ := hn
  rw [← hn] at H ⊢
  cases a with
  | none =>
    have h0 : l = [] := by
      obtain ⟨a', c', e, h2⟩ := h.ex
      rcases h2 with h2 | ⟨r, o, ha, -⟩
      · exact h2
      · injection e with e1; rw [ha] at e1; cases e1
    have hq := nil_eq w n c
    clear h hn
    go_enter Try.func52, Try.ntmps52
    go_wp2_with fail
    go_ret
    rw [h0]
    exact ⟨_, rfl, World.ownsRow_nil _ _ _ _, Below.refl _ _⟩
  | some a =>
    have hq := nil_ne w a n c
    have hrow := empty_row w
    have HS : Hid (Sr (w.alloc (.cells #[] 3)) (.slice (some a) n c) l) := by
      unfold Hid; rw [hn]; exact h.below (by go_grown)
    clear h hn
    go_enter Try.func52, Try.ntmps52
    go_wp2_with (at_builtin; refine wpList_app rfl _ _ rfl w.heap.size _ [] rfl hrow _ l rfl HS.out (by simp; omega) (by simp) ?_; intro v1 w1 hown hgrow hat; obtain ⟨a1, m1, k1, hv1, HM1⟩ := own_sl hown; subst hv1)
    go_ret
    refine ⟨_, rfl, by simpa using hown, ?_⟩
    exact low_grown (Below.refl _ _) (Nat.le_refl _) hgrow (fun q hq => by cases hq; exact Nat.le_refl _)
end Go.Proofs.Ythdgmkjjpmigeaa
