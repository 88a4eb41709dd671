/- Contracts (store): Has. -/
import Derived.Test.YtkndjndhjdfhcaaST15
namespace Go.Proofs.Ytkndjndhjdfhcaa
open Go.RowKit
set_option linter.unusedSimpArgs false
set_option linter.unusedVariables false

/-- Is clause r the wanted one? -/
def hjI (C : List (List Int)) (m : List Int) (r : Int) : Bool := match C[r.toNat]? with | some c => hj c m | none => false
/-- Numbers of clauses. -/
def Refs (C : List (List Int)) (L : List Int) : Prop := ∀ r ∈ L, 0 ≤ r ∧ r.toNat < C.length
set_option maxRecDepth 20000 in
set_option maxHeartbeats 6400000 in
theorem indexFunc_any {w : World} {F : Nat → Prop} {s mo p q : Nat} {C : List (List Int)} {m : List Int} (h : Cap w F s mo p q C m) (hup : m.Pairwise (· < ·)) (hm : m.length ≤ 1000000) {u : Value} {L : List Int} (hu : Sr w u L) (hL : Refs C L) (hl : L.length ≤ 1000000) :
    Calls Try.prog 48 #[u, .func (.func 32) #[] #[.pointer (some ⟨p, 0, none⟩), .pointer (some ⟨q, 0, none⟩)]] w fun e w' => (∃ i : Int, e = .returned (.int .i64 i) ∧ decide (0 ≤ i) = L.any (hjI C m)) ∧ Al w w' := by
  obtain ⟨a, c, rfl⟩ := hu.out
  have HS : Hid (∀ wx, Al w wx → ∀ (k : Nat) (c : List Int), C[k]? = some c → Calls Try.prog 32 #[.int .i64 (k : Int), .pointer (some ⟨p, 0, none⟩), .pointer (some ⟨q, 0, none⟩)] wx fun e w' => e = .returned (.bool (hj c m)) ∧ Al wx w') := fun wx ha k c hk => same_any (h.al ha) hup hm hk
  have HC : Hid _ := hu
  have HRF : Hid _ := hL
  obtain ⟨n, hn⟩ : ∃ n, n = L.length := ⟨_, rfl⟩
  have HN : Hid _ := hn
  rw [← hn] at HC hl ⊢
  clear h hup hm hu hL hn
  go_enter Try.func48, Try.ntmps48
  go_wp2_with fail
  go_loopw [8] (fun i wr => ∃ k : Nat, k ≤ n ∧ i = .int .i64 (k : Int) ∧ Hid ((∀ j, j < k → hjI C m (L.getD j 0) = false) ∧ Al w wr)) (fun i wr => n - (intOf i).toNat)
  case atStart => exact ⟨0, Nat.zero_le _, rfl, (fun j hj => by omega), Al.refl _⟩
  case round =>
    obtain ⟨k, hk, rfl, hH⟩ := hrel
    by_cases hlt : k < n
    · have hkl : k < L.length := by rw [← HN.out]; exact hlt
      obtain ⟨g, o, rfl, hck⟩ := HC.out.at' (hH.out.2.below _) (k := k) hkl
      obtain ⟨h0, h1⟩ := HRF.out _ (getD_mem hkl)
      obtain ⟨r, hr⟩ : ∃ r : Nat, L.getD k 0 = (r : Int) := ⟨(L.getD k 0).toNat, by omega⟩
      rw [hr] at hck h1
      have hr2 : r < C.length := by simpa using h1
      have HB : Hid (hjI C m (L.getD k 0) = hj C[r] m) := by
        unfold Hid hjI
        rw [hr, Int.toNat_natCast, List.getElem?_eq_getElem hr2]
      have HSR : Hid _ := HS.out wr hH.out.2 r C[r] (List.getElem?_eq_getElem hr2)
      obtain ⟨b, hb⟩ : ∃ b, b = hj C[r] m := ⟨_, rfl⟩
      rw [← hb] at HSR HB
      have hltI : (k : Int) < (n : Int) := by omega
      clear hb h0 h1 hr hr2
      cases b with
      | true =>
        have HT : Hid (L.any (hjI C m) = true) := List.any_eq_true.2 ⟨_, getD_mem hkl, HB.out⟩
        clear hkl
        go_wp2_with fail
        refine Calls.mono HSR.out ?_
        rintro ev w1 ⟨rfl, ha⟩
        have HA : Hid _ := ha
        clear ha
        go_wp2_with fail
        go_ret
        exact ⟨⟨_, rfl, by rw [HT.out]; simp⟩, hH.out.2.trans HA.out⟩
      | false =>
        clear hkl
        go_wp2_with fail
        refine Calls.mono HSR.out ?_
        rintro ev w1 ⟨rfl, ha⟩
        have HA : Hid _ := ha
        clear ha
        go_wp2_with fail
        refine ⟨⟨k + 1, by omega, by go_num, (fun j hj => ?_), hH.out.2.trans HA.out⟩, by simp [intOf]; omega⟩
        by_cases e : j = k
        · subst e; exact HB.out
        · exact hH.out.1 j (by omega)
    · obtain rfl : k = n := by omega
      have HT : Hid (L.any (hjI C m) = false) := by
        unfold Hid
        rw [List.any_eq_false]
        intro x hx
        obtain ⟨j, hj, rfl⟩ := mem_getD.1 hx
        rw [hH.out.1 j (by rw [HN.out]; exact hj)]; simp
      have hltI : ¬ (k : Int) < (k : Int) := by omega
      go_wp2_with fail
      go_ret
      exact ⟨⟨_, rfl, by rw [HT.out]; rfl⟩, hH.out.2⟩
theorem containsFunc_any {w : World} {F : Nat → Prop} {s mo p q : Nat} {C : List (List Int)} {m : List Int} (h : Cap w F s mo p q C m) (hup : m.Pairwise (· < ·)) (hm : m.length ≤ 1000000) {u : Value} {L : List Int} (hu : Sr w u L) (hL : Refs C L) (hl : L.length ≤ 1000000) :
    Calls Try.prog 35 #[u, .func (.func 32) #[] #[.pointer (some ⟨p, 0, none⟩), .pointer (some ⟨q, 0, none⟩)]] w fun e w' => e = .returned (.bool (L.any (hjI C m))) ∧ Al w w' := by
  have HI : Hid _ := indexFunc_any h hup hm hu hL hl
  obtain ⟨a, n, c, hue⟩ : ∃ a n c, u = .slice a n c := by
    obtain ⟨a, c, e⟩ := hu.out
    exact ⟨_, _, _, e⟩
  subst hue
  obtain ⟨R, hR⟩ : ∃ R, R = L.any (hjI C m) := ⟨_, rfl⟩
  rw [← hR] at HI ⊢
  clear h hup hm hu hL hl hR
  go_enter Try.func35, Try.ntmps35
  go_wp2_with fail
  refine Calls.mono HI.out ?_
  rintro ev w1 ⟨⟨i, rfl, hi⟩, ha⟩
  have HII : Hid _ := hi
  clear hi
  go_wp2_with fail
  go_ret
  exact ⟨by rw [← HII.out]; rfl, ha⟩
/-- What Has answers. -/
def hasF (C : List (List Int)) (c : List Int) : Bool := decide ((onceF c).2 = 0) && C.any fun c' => hj c' ((dd c).mergeSort fun x y => decide (x ≤ y))
theorem any_sub {C : List (List Int)} {m : List Int} {L : List Int} (h1 : ∀ (i : Nat) c, C[i]? = some c → hj c m = true → (i : Int) ∈ L) (h2 : Refs C L) : L.any (hjI C m) = C.any fun c => hj c m := by
  rw [Bool.eq_iff_iff, List.any_eq_true, List.any_eq_true]
  constructor
  · rintro ⟨r, hr, h⟩
    obtain ⟨q0, q1⟩ := h2 r hr
    unfold hjI at h
    rw [List.getElem?_eq_getElem q1] at h
    exact ⟨_, List.getElem_mem q1, h⟩
  · rintro ⟨c, hc, h⟩
    obtain ⟨i, hi, rfl⟩ := List.getElem_of_mem hc
    refine ⟨(i : Int), h1 i _ (List.getElem?_eq_getElem hi) h, ?_⟩
    unfold hjI
    rw [Int.toNat_natCast, List.getElem?_eq_getElem hi]; exact h
theorem refs_ixs (p : List Int → Bool) (C : List (List Int)) : Refs C (ixs p C) := by
  intro r hr
  obtain ⟨i, c, hi, -, rfl⟩ := mem_ixs.1 hr
  have := (List.getElem?_eq_some_iff.1 hi).1
  simp; omega
end Go.Proofs.Ytkndjndhjdfhcaa
