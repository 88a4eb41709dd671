/- Contracts (aig): steps of a script. -/
import Derived.Test.YtajpnlmglkifcaaAG7
namespace Go.Proofs.Ytajpnlmglkifcaa
open Go.RowKit
set_option linter.unusedSimpArgs false
set_option linter.unusedVariables false

theorem place_emod {k n : Int} (hn : 0 < n) : k % n = if k.tmod n < 0 then k.tmod n + n else k.tmod n := by
  rw [Int.tmod_eq_emod]
  have h1 := Int.emod_nonneg k (by omega : n ≠ 0)
  have h2 := Int.emod_lt_of_pos k hn
  have e : (n.natAbs : Int) = n := by omega
  split
  · rw [if_neg (by omega)]; omega
  · next hq =>
    have : ¬ n ∣ k := fun h => hq (Or.inr h)
    have h3 : k % n ≠ 0 := fun h => this (Int.dvd_of_emod_eq_zero h)
    rw [if_pos (by omega)]; omega
theorem tmod_rng {k n : Int} (hn : 0 < n) : -n ≤ k.tmod n ∧ k.tmod n < n := by
  have h1 := place_emod (k := k) hn
  have h2 := Int.emod_nonneg k (by omega : n ≠ 0)
  have h3 := Int.emod_lt_of_pos k hn
  split at h1 <;> omega
set_option maxHeartbeats 1600000 in
theorem place_any {k n : Int} (hn : 0 < n) (hn2 : n ≤ 1000000000) (w : World) :
    Calls Try.prog 15 #[.int .i64 k, .int .i64 n] w fun e w' => e = .returned (.int .i64 (k % n)) ∧ w' = w := by
  have hp := place_emod (k := k) hn
  obtain ⟨r1, r2⟩ := tmod_rng (k := k) hn
  obtain ⟨T, hT⟩ : ∃ T, T = k.tmod n := ⟨_, rfl⟩
  obtain ⟨R, hR⟩ : ∃ R, R = k % n := ⟨_, rfl⟩
  rw [← hR]
  rw [← hT, ← hR] at hp
  rw [← hT] at r1 r2
  have z : ¬ n = 0 := by omega
  have eT : k.tmod n = T := hT.symm
  have eW : wrap64 T = T := by unfold wrap64; omega
  by_cases hneg : T < 0
  · rw [if_pos hneg] at hp
    have HR : Hid _ := hp
    clear hp hT hR
    go_enter Try.func15, Try.ntmps15
    go_wp2_with fail
    go_ret
    exact ⟨by rw [HR.out]; rfl, rfl⟩
  · rw [if_neg hneg] at hp
    have HR : Hid _ := hp
    clear hp hT hR
    go_enter Try.func15, Try.ntmps15
    go_wp2_with fail
    go_ret
    exact ⟨by rw [HR.out]; rfl, rfl⟩

/-- A step. -/
structure St where
  what : Int
  a : Int
  b : Int
  c : Int
  near : Bool
def St.cs (s : St) : List Value := [.int .i64 s.what, .int .i64 s.a, .int .i64 s.b, .int .i64 s.c, .bool s.near]
/-- Its literals in a graph of N nodes (node 0 counted). -/
def liF (s : St) (N : Nat) : Int × Int × Int := if s.near then (s.a % (2 * (N : Int)), s.b % (2 * (N : Int)), s.c % (2 * (N : Int))) else (s.a, s.b, s.c)
theorem inp_any {w : World} {F : Nat → Prop} {g mo : Nat} {ks : List Kd} (h : Gr w F g mo ks) :
    Calls Try.prog 26 #[.pointer (some ⟨g, 0, none⟩)] w (Did w F g mo (inpF mo ks)) := by
  have hl := h.len
  unfold inpF
  by_cases hr : ks.length = mo + 1
  · rw [if_pos hr]
    exact (inp_full h hr).mono fun e w' hb => Did.of_below h hb
  · rw [if_neg hr]
    exact (inp_new h (by omega)).mono fun e w' hb => hb
/-- What a step does. -/
def doF (mo : Nat) (ks : List Kd) (what a b c : Int) : Ans :=
  if what = 0 then inpF mo ks
  else if what = 1 ∨ what = 2 ∨ what = 3 then andF mo ks a b
  else if what = 4 then orF mo ks a b
  else if what = 5 then xorF mo ks a b
  else if what = 6 then muxF mo ks c a b
  else (0, 0, ks)
end Go.Proofs.Ytajpnlmglkifcaa
