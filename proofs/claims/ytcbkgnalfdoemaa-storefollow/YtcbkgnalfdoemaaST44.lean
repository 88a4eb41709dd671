/- Contracts (the laws): StoreChain: its clauses, one by one. -/
import Derived.Test.YtcbkgnalfdoemaaST43
namespace Go.Proofs.Ytcbkgnalfdoemaa
open Go.RowKit
set_option linter.unusedSimpArgs false
set_option linter.unusedVariables false

theorem place_emod {k n : Int} (hn : 0 < n) : k % n = if k.tmod n < 0 then k.tmod n + n else k.tmod n := by
  rw [Int.tmod_eq_emod]
  have h1 := Int.emod_nonneg k (by omega : n ≠ 0)
  have h2 := Int.emod_lt_of_pos k hn
  have e : (n.natAbs : Int) = n := by omega
  split
  · rw [if_neg (by omega)]; omega
  · next hq =>
    have : ¬ n ∣ k := fun h => hq (Or.inr h)
    have h3 : k % n ≠ 0 := fun h => this (Int.dvd_of_emod_eq_zero h)
    rw [if_pos (by omega)]; omega
theorem tmod_rng {k n : Int} (hn : 0 < n) : -n ≤ k.tmod n ∧ k.tmod n < n := by
  have h1 := place_emod (k := k) hn
  have h2 := Int.emod_nonneg k (by omega : n ≠ 0)
  have h3 := Int.emod_lt_of_pos k hn
  split at h1 <;> omega
set_option maxHeartbeats 1600000 in
theorem place_any {k n : Int} (hn : 0 < n) (hn2 : n ≤ 1000000000) (w : World) :
    Calls Try.prog 27 #[.int .i64 k, .int .i64 n] w fun e w' => e = .returned (.int .i64 (k % n)) ∧ w' = w := by
  have hp := place_emod (k := k) hn
  obtain ⟨r1, r2⟩ := tmod_rng (k := k) hn
  obtain ⟨T, hT⟩ : ∃ T, T = k.tmod n := ⟨_, rfl⟩
  obtain ⟨R, hR⟩ : ∃ R, R = k % n := ⟨_, rfl⟩
  rw [← hR]
  rw [← hT, ← hR] at hp
  rw [← hT] at r1 r2
  have z : ¬ n = 0 := by omega
  have eT : k.tmod n = T := hT.symm
  have eW : IntKind.i64.wrap T = T := by rw [IntKind.wrap_i64]; omega
  by_cases hneg : T < 0
  · rw [if_pos hneg] at hp
    have HR : Hid _ := hp
    clear hp hT hR
    go_enter Try.func27, Try.ntmps27
    go_wp2_with fail
    go_ret
    exact ⟨by rw [HR.out]; rfl, rfl⟩
  · rw [if_neg hneg] at hp
    have HR : Hid _ := hp
    clear hp hT hR
    go_enter Try.func27, Try.ntmps27
    go_wp2_with fail
    go_ret
    exact ⟨by rw [HR.out]; rfl, rfl⟩
abbrev pr (a : Nat) : List Int := [-((a : Int) + 1), (a : Int) + 1 + 1]
theorem addF_pair {mo : Nat} {C : List (List Int)} {a : Nat} (ha : a ≤ 50000) (h : (ar C).length + 4 ≤ mo) : addF mo C (pr a) = ((C.length : Int), 0, C ++ [pr a]) := by
  have h1 : (pr a).all isL = true := by
    simp only [List.all_cons, List.all_nil, Bool.and_true, Bool.and_eq_true]
    exact ⟨isL_small (by omega) (by omega) (by omega), isL_small (by omega) (by omega) (by omega)⟩
  have h2 : opp (pr a) = false := by
    unfold opp
    simp only [List.any_cons, List.any_nil, Bool.or_false, Bool.or_eq_false_iff, decide_eq_false_iff_not, List.mem_cons, List.not_mem_nil, or_false]
    omega
  have h3 : dd (pr a) = pr a := by
    unfold dd
    simp only [ddF, List.not_mem_nil, if_false, List.nil_append, List.mem_cons, or_false]
    rw [if_neg (by omega)]; rfl
  have h4 : onceF (pr a) = (pr a, 0) := by
    unfold onceF
    rw [if_pos h1, h2, h3]; rfl
  unfold addF
  rw [h4, h3, if_neg (by simp), if_neg (by simp; omega)]
/-- The clauses that were added by the time: all of the lots before, and those of this one below b. -/
structure Chp (n step fr b : Nat) (C : List (List Int)) : Prop where
  nd : C.Nodup
  mem : ∀ c, c ∈ C ↔ ∃ a : Nat, a + 1 < n ∧ c = pr a ∧ (a % step < fr ∨ (a % step = fr ∧ a < b))
theorem pr_inj {a b : Nat} (h : pr a = pr b) : a = b := by
  injection h with h1 h2
  omega
theorem Chp.start (n step : Nat) : Chp n step 0 0 [] := ⟨List.nodup_nil, fun c => ⟨fun h => (by cases h), fun ⟨a, _, _, h⟩ => (by omega)⟩⟩
theorem Chp.into {n step fr b : Nat} {C : List (List Int)} (h : Chp n step fr 0 C) : Chp n step fr fr C := ⟨h.nd, fun c => by
  rw [h.mem c]
  constructor
  · rintro ⟨a, h1, h2, h3⟩
    exact ⟨a, h1, h2, by omega⟩
  · rintro ⟨a, h1, h2, h3⟩
    refine ⟨a, h1, h2, ?_⟩
    have := Nat.mod_le a step
    omega⟩
theorem Chp.next {n step fr b : Nat} {C : List (List Int)} (h : Chp n step fr b C) (hb : b % step = fr) (hn : b + 1 < n) (hs : 0 < step) : Chp n step fr (b + step) (C ++ [pr b]) := by
  refine ⟨?_, fun c => ?_⟩
  · rw [List.nodup_append]
    refine ⟨h.nd, by simp, fun x hx y hy e => ?_⟩
    rw [List.mem_singleton.1 hy] at e
    subst e
    obtain ⟨a, h1, h2, h3⟩ := (h.mem _).1 hx
    have e2 := pr_inj h2
    subst e2
    omega
  · rw [List.mem_append, h.mem c, List.mem_singleton]
    constructor
    · rintro (⟨a, h1, h2, h3⟩ | rfl)
      · exact ⟨a, h1, h2, by omega⟩
      · exact ⟨b, hn, rfl, Or.inr ⟨hb, by omega⟩⟩
    · rintro ⟨a, h1, h2, h3⟩
      by_cases hab : a = b
      · right; rw [h2, hab]
      · left
        refine ⟨a, h1, h2, ?_⟩
        rcases h3 with h3 | ⟨h3, h4⟩
        · exact Or.inl h3
        · refine Or.inr ⟨h3, ?_⟩
          by_cases hlt : a < b
          · exact hlt
          · exfalso
            have h5 := Nat.sub_mod_eq_zero_of_mod_eq (h3.trans hb.symm)
            rw [Nat.mod_eq_of_lt (by omega)] at h5
            omega
theorem Chp.out {n step fr b : Nat} {C : List (List Int)} (h : Chp n step fr b C) (hb : n ≤ b + 1) : Chp n step (fr + 1) 0 C := ⟨h.nd, fun c => by
  rw [h.mem c]
  constructor
  · rintro ⟨a, h1, h2, h3⟩
    exact ⟨a, h1, h2, by omega⟩
  · rintro ⟨a, h1, h2, h3⟩
    exact ⟨a, h1, h2, by omega⟩⟩
theorem Chp.done {n step : Nat} {C : List (List Int)} (h : Chp n step step 0 C) (hs : 0 < step) : Chn (n : Int) C := fun c => by
  rw [h.mem c]
  constructor
  · rintro ⟨a, h1, rfl, -⟩
    exact ⟨(a : Int) + 1, by omega, by omega, rfl⟩
  · rintro ⟨i, h1, h2, rfl⟩
    refine ⟨(i - 1).toNat, by omega, ?_, Or.inl (Nat.mod_lt _ hs)⟩
    have e : (((i - 1).toNat : Nat) : Int) + 1 = i := by omega
    unfold pr
    rw [e]
theorem nodup_any {α : Type} [DecidableEq α] : ∀ {T S : List α}, T.Nodup → (∀ x ∈ T, x ∈ S) → T.length ≤ S.length
  | [], _, _, _ => Nat.zero_le _
  | x :: T, S, hn, hs => by
    rw [List.nodup_cons] at hn
    have h1 : x ∈ S := hs x (List.mem_cons_self ..)
    have h2 := nodup_any (S := S.erase x) hn.2 fun y hy => (List.mem_erase_of_ne (a := y) (b := x) (fun e => hn.1 (by rw [← e]; exact hy))).2 (hs y (List.mem_cons_of_mem _ hy))
    rw [List.length_erase_of_mem h1] at h2
    have := List.length_pos_of_mem h1
    rw [List.length_cons]; omega
theorem Chp.len {n step fr b : Nat} {C : List (List Int)} (h : Chp n step fr b C) : C.length ≤ n - 1 := by
  have := nodup_any (S := (List.range (n - 1)).map pr) h.nd fun c hc => by
    obtain ⟨a, h1, h2, -⟩ := (h.mem c).1 hc
    exact List.mem_map.2 ⟨a, List.mem_range.2 (by omega), h2.symm⟩
  simpa using this
theorem Chp.full {n step : Nat} {C : List (List Int)} (h : Chp n step step 0 C) (hs : 0 < step) : C.length = n - 1 := by
  have h1 := h.len
  have h2 := nodup_any (T := (List.range (n - 1)).map pr) (S := C) (by
    unfold List.Nodup
    rw [List.pairwise_map]
    exact List.nodup_range.imp fun hne e => hne (pr_inj e)) fun c hc => by
    obtain ⟨a, h1, rfl⟩ := List.mem_map.1 hc
    exact (h.mem _).2 ⟨a, by have := List.mem_range.1 h1; omega, rfl, Or.inl (Nat.mod_lt _ hs)⟩
  rw [List.length_map, List.length_range] at h2
  omega
theorem ar_twos : ∀ {C : List (List Int)}, (∀ c ∈ C, c.length = 2) → (ar C).length = 4 * C.length
  | [], _ => rfl
  | c :: C, h => by
    have h1 := h c (List.mem_cons_self ..)
    have h2 := ar_twos (C := C) fun d hd => h d (List.mem_cons_of_mem _ hd)
    have e : ar (c :: C) = 0 :: 1 :: c ++ ar C := by unfold ar; simp
    rw [e, List.length_append, h2]
    simp only [List.length_cons, h1]
    omega
theorem Chp.ar {n step fr b : Nat} {C : List (List Int)} (h : Chp n step fr b C) : (ar C).length = 4 * C.length := ar_twos fun c hc => by
  obtain ⟨a, -, rfl, -⟩ := (h.mem c).1 hc
  rfl
end Go.Proofs.Ytcbkgnalfdoemaa
