/- Contracts: the words' first functions: lowest, cut, moveUp, moveDown. -/
import Derived.Test.YtedldoobmmhloaaProg
import Derived.Test.YtedldoobmmhloaaMath
import Derived.WalkKit
import Derived.Handy
import Derived.WalkLawsBesides
import Derived.Deep.RegionHeld3
namespace Go.Proofs.Ytedldoobmmhloaa
open Go.RowKit
set_option linter.unusedSimpArgs false
set_option linter.unusedVariables false

theorem ret_int {k : IntKind} {a b : Int} (h : a = b) : Ending.returned (.int k a) = .returned (.int k b) := by rw [h]
theorem wrap_low {n : Int} (h0 : 0 ≤ n) (h1 : n ≤ 64) : IntKind.u64.wrap (IntKind.u64.wrap (2 ^ n.toNat) - 1) = 2 ^ n.toNat - 1 := by
  obtain ⟨k, rfl⟩ := Int.eq_ofNat_of_zero_le h0
  simp only [Int.toNat_natCast, IntKind.wrap_u64]
  by_cases h : k = 64
  · subst h; decide
  · have h2 : 2 ^ k ≤ 2 ^ 63 := Nat.pow_le_pow_right (by decide) (by omega : k ≤ 63)
    have h3 := Nat.two_pow_pos k
    have e : ((2 : Int) ^ k) = ((2 ^ k : Nat) : Int) := by simp
    rw [e]
    omega

set_option maxHeartbeats 400000 in
theorem lowest_any (n : Int) (h0 : 0 ≤ n) (h1 : n ≤ 64) (w : World) :
    Calls Try.prog 43 #[.int .i64 n] w fun e w' => e = .returned (.int .u64 (2 ^ n.toNat - 1)) ∧ w' = w := by
  go_enter Try.func43, Try.ntmps43
  go_wp2
  go_ret
  exact ⟨ret_int (wrap_low h0 h1), rfl⟩

theorem agg3 {k1 k2 k3 : IntKind} {a b c a' b' c' : Int} (h1 : a = a') (h2 : b = b') (h3 : c = c') : Ending.returned (.agg #[.int k1 a, .int k2 b, .int k3 c]) = .returned (.agg #[.int k1 a', .int k2 b', .int k3 c']) := by rw [h1, h2, h3]

set_option maxHeartbeats 400000 in
theorem cut_any {W m r : Nat} {WW lo hi : Int} (h1 : 1 ≤ W) (h2 : W ≤ 128) (hm : m < 2 ^ 128) (hr : m % 2 ^ W = r) (hw : WW = W) (hl : lo = LO m) (hh : hi = HI m) (w : World) :
    Calls Try.prog 34 #[.int .i64 WW, .int .u64 lo, .int .u64 hi] w fun e w' => e = .returned (.agg #[.int .i64 W, .int .u64 (LO (r)), .int .u64 (HI (r))]) ∧ Below w.heap.size w w' := by
  subst hw hl hh hr
  by_cases h : (W : Int) ≤ 64
  · go_enter Try.func34, Try.ntmps34
    go_wp2_with (go_at_call 43; refine (lowest_any _ (by omega) (by omega) _).mono ?_; rintro e w' ⟨rfl, rfl⟩)
    go_returns
    refine ⟨agg3 rfl ?_ ?_, by go_grown⟩
    · exact cut_small_lo (by omega)
    · exact cut_small_hi (by omega)
  · go_enter Try.func34, Try.ntmps34
    go_wp2_with (go_at_call 43; refine (lowest_any _ (by omega) (by omega) _).mono ?_; rintro e w' ⟨rfl, rfl⟩)
    go_returns
    refine ⟨agg3 rfl ?_ ?_, by go_grown⟩
    · exact cut_great_lo (by omega)
    · exact cut_great_hi (by omega) h2 hm

theorem below_step {w W w1 : World} (h : Below w.heap.size w W) (hb : Below W.heap.size W w1) : Below w.heap.size w w1 := h.trans (hb.mono h.size)

/-- What a cell holds, or nothing. -/
def cv (x : World) (a : Addr) : Value := (x.cell? a).getD undef
theorem cv_some {x : World} {a : Addr} (h : (x.cell? a).isSome = true) : x.cell? a = some (cv x a) := by
  unfold cv
  cases h2 : x.cell? a with
  | none => simp [h2] at h
  | some v => rfl
theorem cv_of {x : World} {a : Addr} {v : Value} (h : x.cell? a = some v) : x.cell? a = some (cv x a) := cv_some (by simp [h])
theorem keep_cell {W w1 : World} (hb : Below W.heap.size W w1) {a : Addr} {v : Value} (h : W.cell? a = some v) : w1.cell? a = some v := by
  rw [hb.cell (World.block_lt_of_cell? W a h)]; exact h
theorem keep_frozen {W w1 : World} (hb : Below W.heap.size W w1) {r : Nat} {v : Value} (h : W.cell? ⟨r, 0, none⟩ = some v) (hf : ∀ o, W.frozen? ⟨r, o, none⟩ = false) : ∀ o, w1.frozen? ⟨r, o, none⟩ = false := fun o => by
  have hl := World.block_lt_of_cell? W _ h
  rw [hb.frozen (p := ⟨r, o, none⟩) hl]; exact hf o
theorem keep_some {W w1 : World} (hb : Below W.heap.size W w1) {a : Addr} (h : (W.cell? a).isSome = true) : w1.cell? a = some (cv w1 a) := by
  obtain ⟨v, hv⟩ := Option.isSome_iff_exists.1 h
  exact cv_of (keep_cell hb hv)
theorem keep_frozen2 {W w1 : World} (hb : Below W.heap.size W w1) {r : Nat} (h : (W.cell? ⟨r, 0, none⟩).isSome = true) (hf : ∀ o, W.frozen? ⟨r, o, none⟩ = false) : ∀ o, w1.frozen? ⟨r, o, none⟩ = false := by
  obtain ⟨v, hv⟩ := Option.isSome_iff_exists.1 h
  exact keep_frozen hb hv hf
theorem put_below {w W : World} {r : Nat} {a b c : Value} (h : Below w.heap.size w W) (hr : w.heap.size ≤ r) : Below w.heap.size w (((W.setCell ⟨r, 0, none⟩ a).setCell ⟨r, 1, none⟩ b).setCell ⟨r, 2, none⟩ c) :=
  ((h.setCell hr _).setCell hr _).setCell hr _

end Go.Proofs.Ytedldoobmmhloaa
