/- Contracts: what of the words the terms need: lowest, cut, Bool, Right. -/
import Derived.Test.YtjmbicaacplolaaProg
import Derived.Test.YtjmbicaacplolaaMath
import Derived.WalkKit
import Derived.Handy
import Derived.WalkLawsBesides
import Derived.Deep.RegionHeld3
namespace Go.Proofs.Ytjmbicaacplolaa
open Go.RowKit
set_option linter.unusedSimpArgs false
set_option linter.unusedVariables false

theorem bcell {W w1 : World} (hb : Below W.heap.size W w1) : (∀ b o, b < W.heap.size → w1.cell? ⟨b, o, none⟩ = W.cell? ⟨b, o, none⟩) ∧ (∀ b o, b < W.heap.size → w1.frozen? ⟨b, o, none⟩ = W.frozen? ⟨b, o, none⟩) :=
  ⟨fun b o h => hb.cell (p := ⟨b, o, none⟩) h, fun b o h => hb.frozen (p := ⟨b, o, none⟩) h⟩

theorem ret_int {k : IntKind} {a b : Int} (h : a = b) : Ending.returned (.int k a) = .returned (.int k b) := by rw [h]
theorem wrap_low {n : Int} (h0 : 0 ≤ n) (h1 : n ≤ 64) : IntKind.u64.wrap (IntKind.u64.wrap (2 ^ n.toNat) - 1) = 2 ^ n.toNat - 1 := by
  obtain ⟨k, rfl⟩ := Int.eq_ofNat_of_zero_le h0
  simp only [Int.toNat_natCast, IntKind.wrap_u64]
  by_cases h : k = 64
  · subst h; decide
  · have h2 : 2 ^ k ≤ 2 ^ 63 := Nat.pow_le_pow_right (by decide) (by omega : k ≤ 63)
    have h3 := Nat.two_pow_pos k
    have e : ((2 : Int) ^ k) = ((2 ^ k : Nat) : Int) := by simp
    rw [e]
    omega

set_option maxHeartbeats 400000 in
theorem lowest_any (n : Int) (h0 : 0 ≤ n) (h1 : n ≤ 64) (w : World) :
    Calls Try.prog 53 #[.int .i64 n] w fun e w' => e = .returned (.int .u64 (2 ^ n.toNat - 1)) ∧ w' = w := by
  go_enter Try.func53, Try.ntmps53
  go_wp2
  go_ret
  exact ⟨ret_int (wrap_low h0 h1), rfl⟩

theorem agg3 {k1 k2 k3 : IntKind} {a b c a' b' c' : Int} (h1 : a = a') (h2 : b = b') (h3 : c = c') : Ending.returned (.agg #[.int k1 a, .int k2 b, .int k3 c]) = .returned (.agg #[.int k1 a', .int k2 b', .int k3 c']) := by rw [h1, h2, h3]

set_option maxHeartbeats 400000 in
theorem cut_any {W m r : Nat} {WW lo hi : Int} (h1 : 1 ≤ W) (h2 : W ≤ 128) (hm : m < 2 ^ 128) (hr : m % 2 ^ W = r) (hw : WW = W) (hl : lo = LO m) (hh : hi = HI m) (w : World) :
    Calls Try.prog 52 #[.int .i64 WW, .int .u64 lo, .int .u64 hi] w fun e w' => e = .returned (.agg #[.int .i64 W, .int .u64 (LO (r)), .int .u64 (HI (r))]) ∧ Below w.heap.size w w' := by
  subst hw hl hh hr
  by_cases h : (W : Int) ≤ 64
  · go_enter Try.func52, Try.ntmps52
    go_wp2_with (go_at_call 53; refine (lowest_any _ (by omega) (by omega) _).mono ?_; rintro e w' ⟨rfl, rfl⟩)
    go_returns
    refine ⟨agg3 rfl ?_ ?_, by go_grown⟩
    · exact cut_small_lo (by omega)
    · exact cut_small_hi (by omega)
  · go_enter Try.func52, Try.ntmps52
    go_wp2_with (go_at_call 53; refine (lowest_any _ (by omega) (by omega) _).mono ?_; rintro e w' ⟨rfl, rfl⟩)
    go_returns
    refine ⟨agg3 rfl ?_ ?_, by go_grown⟩
    · exact cut_great_lo (by omega)
    · exact cut_great_hi (by omega) h2 hm

theorem below_step {w W w1 : World} (h : Below w.heap.size w W) (hb : Below W.heap.size W w1) : Below w.heap.size w w1 := h.trans (hb.mono h.size)

/-- What a cell holds, or nothing. -/
def cv (x : World) (a : Addr) : Value := (x.cell? a).getD undef
theorem cv_some {x : World} {a : Addr} (h : (x.cell? a).isSome = true) : x.cell? a = some (cv x a) := by
  unfold cv
  cases h2 : x.cell? a with
  | none => simp [h2] at h
  | some v => rfl
theorem cv_of {x : World} {a : Addr} {v : Value} (h : x.cell? a = some v) : x.cell? a = some (cv x a) := cv_some (by simp [h])
theorem keep_cell {W w1 : World} (hb : Below W.heap.size W w1) {a : Addr} {v : Value} (h : W.cell? a = some v) : w1.cell? a = some v := by
  rw [hb.cell (World.block_lt_of_cell? W a h)]; exact h
theorem keep_frozen {W w1 : World} (hb : Below W.heap.size W w1) {r : Nat} {v : Value} (h : W.cell? ⟨r, 0, none⟩ = some v) (hf : ∀ o, W.frozen? ⟨r, o, none⟩ = false) : ∀ o, w1.frozen? ⟨r, o, none⟩ = false := fun o => by
  have hl := World.block_lt_of_cell? W _ h
  rw [hb.frozen (p := ⟨r, o, none⟩) hl]; exact hf o
theorem keep_some {W w1 : World} (hb : Below W.heap.size W w1) {a : Addr} (h : (W.cell? a).isSome = true) : w1.cell? a = some (cv w1 a) := by
  obtain ⟨v, hv⟩ := Option.isSome_iff_exists.1 h
  exact cv_of (keep_cell hb hv)
theorem keep_frozen1 {W w1 : World} (hb : Below W.heap.size W w1) {a : Addr} {v : Value} (h : W.cell? a = some v) (hf : W.frozen? a = false) : w1.frozen? a = false := by
  rw [hb.frozen (World.block_lt_of_cell? W _ h)]; exact hf
theorem keep_frozen2 {W w1 : World} (hb : Below W.heap.size W w1) {r : Nat} (h : (W.cell? ⟨r, 0, none⟩).isSome = true) (hf : ∀ o, W.frozen? ⟨r, o, none⟩ = false) : ∀ o, w1.frozen? ⟨r, o, none⟩ = false := by
  obtain ⟨v, hv⟩ := Option.isSome_iff_exists.1 h
  exact keep_frozen hb hv hf
theorem put_cell {W : World} {r s j : Nat} {a b c v : Value} (hp : r ≠ s) (h : W.cell? ⟨s, j, none⟩ = some v) : (((W.setCell ⟨r, 0, none⟩ a).setCell ⟨r, 1, none⟩ b).setCell ⟨r, 2, none⟩ c).cell? ⟨s, j, none⟩ = some v := by
  have hn : ∀ o, (⟨r, o, none⟩ : Addr) ≠ ⟨s, j, none⟩ := fun o e => hp (by injection e)
  rw [World.cell?_setCell_other _ _ _ _ (hn 2), World.cell?_setCell_other _ _ _ _ (hn 1), World.cell?_setCell_other _ _ _ _ (hn 0)]; exact h
theorem put_own0 {W : World} {r : Nat} {a b c v : Value} (h : W.cell? ⟨r, 0, none⟩ = some v) : (((W.setCell ⟨r, 0, none⟩ a).setCell ⟨r, 1, none⟩ b).setCell ⟨r, 2, none⟩ c).cell? ⟨r, 0, none⟩ = some (cv (((W.setCell ⟨r, 0, none⟩ a).setCell ⟨r, 1, none⟩ b).setCell ⟨r, 2, none⟩ c) ⟨r, 0, none⟩) := by
  refine cv_of (v := a) ?_
  rw [World.cell?_setCell_other _ _ _ _ (by simp), World.cell?_setCell_other _ _ _ _ (by simp)]
  exact World.cell?_setCell_same _ _ _ h
theorem put_own1 {W : World} {r : Nat} {a b c v : Value} (h : W.cell? ⟨r, 1, none⟩ = some v) : (((W.setCell ⟨r, 0, none⟩ a).setCell ⟨r, 1, none⟩ b).setCell ⟨r, 2, none⟩ c).cell? ⟨r, 1, none⟩ = some (cv (((W.setCell ⟨r, 0, none⟩ a).setCell ⟨r, 1, none⟩ b).setCell ⟨r, 2, none⟩ c) ⟨r, 1, none⟩) := by
  refine cv_of (v := b) ?_
  rw [World.cell?_setCell_other _ _ _ _ (by simp)]
  exact World.cell?_setCell_same _ _ _ (by rw [World.cell?_setCell_other _ _ _ _ (by simp)]; exact h)
theorem put_own2 {W : World} {r : Nat} {a b c v : Value} (h : W.cell? ⟨r, 2, none⟩ = some v) : (((W.setCell ⟨r, 0, none⟩ a).setCell ⟨r, 1, none⟩ b).setCell ⟨r, 2, none⟩ c).cell? ⟨r, 2, none⟩ = some (cv (((W.setCell ⟨r, 0, none⟩ a).setCell ⟨r, 1, none⟩ b).setCell ⟨r, 2, none⟩ c) ⟨r, 2, none⟩) := by
  refine cv_of (v := c) ?_
  exact World.cell?_setCell_same _ _ _ (by rw [World.cell?_setCell_other _ _ _ _ (by simp), World.cell?_setCell_other _ _ _ _ (by simp)]; exact h)
theorem put_frozen {W : World} {r : Nat} {a b c : Value} (hf : ∀ o, W.frozen? ⟨r, o, none⟩ = false) : ∀ o, (((W.setCell ⟨r, 0, none⟩ a).setCell ⟨r, 1, none⟩ b).setCell ⟨r, 2, none⟩ c).frozen? ⟨r, o, none⟩ = false := fun o => by
  rw [World.frozen?_setCell, World.frozen?_setCell, World.frozen?_setCell]; exact hf o
theorem put_below {w W : World} {r : Nat} {a b c : Value} (h : Below w.heap.size w W) (hr : w.heap.size ≤ r) : Below w.heap.size w (((W.setCell ⟨r, 0, none⟩ a).setCell ⟨r, 1, none⟩ b).setCell ⟨r, 2, none⟩ c) :=
  ((h.setCell hr _).setCell hr _).setCell hr _

theorem some_back {w : World} {a b : Addr} {v u : Value} (h : (w.setCell a v).cell? b = some u) : ∃ u', w.cell? b = some u' := by
  by_cases hab : a = b
  · subst hab
    unfold World.cell? World.setCell at h
    unfold World.cell?
    simp only [Array.getElem?_modify, ↓reduceIte] at h
    cases hw : w.heap[a.block]? with
    | none => simp [hw] at h
    | some o =>
      cases o <;> simp [hw] at h ⊢
      rename_i c e f
      obtain ⟨h1, h2⟩ := h
      simp only [h1] at h2 ⊢
      rcases Nat.lt_or_ge a.off c.size with h' | h'
      · exact ⟨trivial, _, Array.getElem?_eq_getElem h'⟩
      · rw [Array.getElem?_eq_none (by simpa using h')] at h2; cases h2
  · rw [World.cell?_setCell_other _ _ _ _ hab] at h; exact ⟨u, h⟩
theorem got0 {W : World} {r : Nat} {a b c v : Value} (h : (((W.setCell ⟨r, 0, none⟩ a).setCell ⟨r, 1, none⟩ b).setCell ⟨r, 2, none⟩ c).cell? ⟨r, 0, none⟩ = some v) : (((W.setCell ⟨r, 0, none⟩ a).setCell ⟨r, 1, none⟩ b).setCell ⟨r, 2, none⟩ c).cell? ⟨r, 0, none⟩ = some a := by
  obtain ⟨_, h⟩ := some_back h; obtain ⟨_, h⟩ := some_back h; obtain ⟨_, h⟩ := some_back h
  rw [World.cell?_setCell_other _ _ _ _ (by simp), World.cell?_setCell_other _ _ _ _ (by simp)]
  exact World.cell?_setCell_same _ _ _ h
theorem got1 {W : World} {r : Nat} {a b c v : Value} (h : (((W.setCell ⟨r, 0, none⟩ a).setCell ⟨r, 1, none⟩ b).setCell ⟨r, 2, none⟩ c).cell? ⟨r, 1, none⟩ = some v) : (((W.setCell ⟨r, 0, none⟩ a).setCell ⟨r, 1, none⟩ b).setCell ⟨r, 2, none⟩ c).cell? ⟨r, 1, none⟩ = some b := by
  obtain ⟨_, h⟩ := some_back h; obtain ⟨_, h⟩ := some_back h
  rw [World.cell?_setCell_other _ _ _ _ (by simp)]
  exact World.cell?_setCell_same _ _ _ h
theorem got2 {W : World} {r : Nat} {a b c v : Value} (h : (((W.setCell ⟨r, 0, none⟩ a).setCell ⟨r, 1, none⟩ b).setCell ⟨r, 2, none⟩ c).cell? ⟨r, 2, none⟩ = some v) : (((W.setCell ⟨r, 0, none⟩ a).setCell ⟨r, 1, none⟩ b).setCell ⟨r, 2, none⟩ c).cell? ⟨r, 2, none⟩ = some c := by
  obtain ⟨_, h⟩ := some_back h
  exact World.cell?_setCell_same _ _ _ h
/-- A struct of three numbers handed back: the result's cells are read. -/
theorem ret_bits {fn : Func} {p : Nat} (hfn : fn.results = #[.cell p 34]) {tmps : Array Value} {r : Nat} {k0 k1 k2 : IntKind} {v0 v1 v2 : Int} {x : World} (hp : tmps.getD p undef = .pointer (some ⟨r, 0, none⟩))
    (h0 : x.cell? ⟨r, 0, none⟩ = some (.int k0 v0)) (h1 : x.cell? ⟨r, 1, none⟩ = some (.int k1 v1)) (h2 : x.cell? ⟨r, 2, none⟩ = some (.int k2 v2)) : (results fn tmps).run Try.prog x = .ok (.agg #[.int k0 v0, .int k1 v1, .int k2 v2]) x := by
  simp at hp
  simp [results, hfn, hp, go_sem, h0, h1, h2]
theorem ret_bits2 {fn : Func} {p u : Nat} (hfn : fn.results = #[.cell p 34, .tmp u]) {tmps : Array Value} {r : Nat} {k0 k1 k2 : IntKind} {v0 v1 v2 : Int} {v : Value} {x : World} (hp : tmps.getD p undef = .pointer (some ⟨r, 0, none⟩)) (hu : tmps.getD u undef = v)
    (h0 : x.cell? ⟨r, 0, none⟩ = some (.int k0 v0)) (h1 : x.cell? ⟨r, 1, none⟩ = some (.int k1 v1)) (h2 : x.cell? ⟨r, 2, none⟩ = some (.int k2 v2)) : (results fn tmps).run Try.prog x = .ok (.tuple #[.agg #[.int k0 v0, .int k1 v1, .int k2 v2], v]) x := by
  rw [results_cell_tmp hfn, hp, hu]
  simp [go_sem, h0, h1, h2, Result.andThen]

theorem ret_bool {a b : Bool} (h : a = b) : Ending.returned (.bool a) = .returned (.bool b) := by rw [h]

set_option maxHeartbeats 200000 in
theorem bool_any (b : Bool) (w : World) :
    Calls Try.prog 51 #[.bool b] w fun e w' => e = .returned (.agg #[.int .i64 0, .int .u64 (if b then 1 else 0), .int .u64 0]) ∧ Below w.heap.size w w' := by
  cases b
  · go_enter Try.func51, Try.ntmps51
    go_wp2_with fail
    refine bodyPost_ret (v := .agg #[.int .i64 0, .int .u64 0, .int .u64 0]) (by simp [results, Try.results51, go_sem]) rfl ?_
    exact ⟨rfl, by go_grown⟩
  · go_enter Try.func51, Try.ntmps51
    go_wp2_with fail
    refine bodyPost_ret (v := .agg #[.int .i64 0, .int .u64 1, .int .u64 0]) (by simp [results, Try.results51, go_sem]) rfl ?_
    exact ⟨rfl, by go_grown⟩

set_option maxHeartbeats 200000 in
theorem right_any {W n : Nat} {WW lo hi : Int} (hw : Wd WW lo hi W n) (w : World) :
    Calls Try.prog 50 #[.agg #[.int .i64 WW, .int .u64 lo, .int .u64 hi]] w fun e w' => e = .returned (.bool true) ∧ Below w.heap.size w w' := by
  have hbig := hw.big
  obtain ⟨h1, h2, hn, rfl, rfl, rfl⟩ := hw
  have hd : decide ((W : Int) < 0) = false := by simp only [decide_eq_false_iff_not]; omega
  have hd2 : decide ((128 : Int) < W) = false := by simp only [decide_eq_false_iff_not]; omega
  have hd3 : ((W : Int) == 0) = false := by simp; omega
  go_enter Try.func50, Try.ntmps50
  go_wp2_with fail
  go_region_held3 (fun x => x.cell? ⟨w.heap.size, 0, none⟩ = some (.int .i64 W) ∧ x.cell? ⟨w.heap.size, 1, none⟩ = some (.int .u64 (LO (n))) ∧ x.cell? ⟨w.heap.size, 2, none⟩ = some (.int .u64 (HI (n))) ∧ Below w.heap.size w x)
    ((first | (obtain ⟨q0, q1, q2, q3⟩ := ‹_ ∧ _ ∧ _ ∧ _›; with_reducible exact ⟨keep_cell hb q0, keep_cell hb q1, keep_cell hb q2, below_step q3 hb⟩) | (refine ⟨?_, ?_, ?_, ?_⟩ <;> first | (simp [go_sem]; done) | (refine cv_some ?_; simp [go_sem]; done) | go_grown)))
    ((first | (go_at_call 52; refine (cut_any (m := n) (r := n) h1 h2 hbig (Nat.mod_eq_of_lt hn) rfl rfl rfl _).mono ?_; rintro e w1 ⟨rfl, hb⟩)))
  obtain ⟨hq1_0, hq1_1, hq1_2, hBq1⟩ := ‹_ ∧ _ ∧ _ ∧ _›
  go_wp2_with fail
  go_ret
  exact ⟨rfl, by go_grown⟩

/-- Two numbers alike, as a Bool that no simp set opens. -/
def eqB (n m : Nat) : Bool := decide (n = m)
theorem halves {n m : Nat} (h : LO n = LO m) (h2 : HI n = HI m) : n = m := by
  unfold LO at h; unfold HI at h2; omega
theorem eq_w (W n m : Nat) (w : World) : (binOp .eql 34 (.agg #[.int .i64 W, .int .u64 (LO (n)), .int .u64 (HI (n))]) (.agg #[.int .i64 W, .int .u64 (LO (m)), .int .u64 (HI (m))])).run Try.prog w = .ok (.bool (eqB n m)) w := by
  simp only [eqB]
  by_cases h : n = m
  · subst h; simp [go_sem]
  · have e : decide (n = m) = false := by simp [h]
    rw [e]
    by_cases h1 : LO n = LO m
    · have h2 : ¬ HI n = HI m := fun h2 => h (halves h1 h2)
      simp [go_sem, h1, h2]
    · simp [go_sem, h1]
theorem neq_w (W n m : Nat) (w : World) : (binOp .neq 34 (.agg #[.int .i64 W, .int .u64 (LO (n)), .int .u64 (HI (n))]) (.agg #[.int .i64 W, .int .u64 (LO (m)), .int .u64 (HI (m))])).run Try.prog w = .ok (.bool (!eqB n m)) w := by
  simp only [eqB]
  by_cases h : n = m
  · subst h; simp [go_sem]
  · have e : decide (n = m) = false := by simp [h]
    rw [e]
    by_cases h1 : LO n = LO m
    · have h2 : ¬ HI n = HI m := fun h2 => h (halves h1 h2)
      simp [go_sem, h1, h2]
    · simp [go_sem, h1]
theorem eqB_no {n m : Nat} (h : n ≠ m) : eqB n m = false := by simp [eqB, h]
theorem eqB_yes {n m : Nat} (h : n = m) : eqB n m = true := by simp [eqB, h]


set_option maxHeartbeats 400000 in
theorem right_out {A : Int} {N : Nat} (h : A < 0 ∨ 128 < A) (w : World) :
    Calls Try.prog 50 #[.agg #[.int .i64 A, .int .u64 (LO (N)), .int .u64 (HI (N))]] w fun e w' => e = .returned (.bool false) ∧ Below w.heap.size w w' := by
  by_cases h0 : A < 0
  · go_enter Try.func50, Try.ntmps50
    go_wp2_with fail
    go_ret
    exact ⟨rfl, by go_grown⟩
  · have h1 : 128 < A := by omega
    go_enter Try.func50, Try.ntmps50
    go_wp2_with fail
    go_ret
    exact ⟨rfl, by go_grown⟩

set_option maxHeartbeats 400000 in
theorem right_big {W N : Nat} (h1 : 1 ≤ W) (h2 : W ≤ 128) (hN : N < 2 ^ 128) (hb : ¬ N < 2 ^ W) (w : World) :
    Calls Try.prog 50 #[.agg #[.int .i64 W, .int .u64 (LO (N)), .int .u64 (HI (N))]] w fun e w' => e = .returned (.bool false) ∧ Below w.heap.size w w' := by
  have hd : decide ((W : Int) < 0) = false := by simp only [decide_eq_false_iff_not]; omega
  have hd2 : decide ((128 : Int) < W) = false := by simp only [decide_eq_false_iff_not]; omega
  have hd3 : ((W : Int) == 0) = false := by simp; omega
  obtain ⟨r, hr⟩ : ∃ r, N % 2 ^ W = r := ⟨_, rfl⟩
  have hq : eqB N r = false := eqB_no (fun e => hb (by rw [e, ← hr]; exact mod_lt_W _ _))
  have HR : Hid _ := hr
  clear hr hb
  have hqe := eq_w
  go_enter Try.func50, Try.ntmps50
  go_wp2_with fail
  go_region_held3 (fun x => x.cell? ⟨w.heap.size, 0, none⟩ = some (.int .i64 W) ∧ x.cell? ⟨w.heap.size, 1, none⟩ = some (.int .u64 (LO (N))) ∧ x.cell? ⟨w.heap.size, 2, none⟩ = some (.int .u64 (HI (N))) ∧ Below w.heap.size w x)
    ((refine ⟨?_, ?_, ?_, ?_⟩ <;> first | (simp [go_sem]; done) | (refine cv_some ?_; simp [go_sem]; done) | (simp [go_sem, KFr, KFrz0]; done) | (refine cv_some ?_; simp [go_sem, KFr, KFrz0]; done) | (refine put_below ?_ ?_ <;> first | assumption | omega) | (have hH := ‹_ ∧ _ ∧ _ ∧ _›; exact put_below hH.2.2.2 (by omega)) | go_grown))
    ((first | (go_at_call 52; refine (cut_any (m := N) (r := r) h1 h2 hN HR.out rfl rfl rfl _).mono ?_; rintro e wq ⟨rfl, hb⟩; have hb' := below_step (w := w) (by go_grown) hb; have hs := hb'.size; have KFr : wq.cell? ⟨w.heap.size, 0, none⟩ = some (.int .i64 W) ∧ wq.cell? ⟨w.heap.size, 1, none⟩ = some (.int .u64 (LO (N))) ∧ wq.cell? ⟨w.heap.size, 2, none⟩ = some (.int .u64 (HI (N))) := ⟨keep_cell hb (by first | (simp [go_sem]; done) | (simp [go_sem, KFr]; done) | (simp [go_sem, KFr, World.cell?_alloc_some]; done) | (simp [go_sem, KFr, frozen?_alloc_cells]; done)), keep_cell hb (by first | (simp [go_sem]; done) | (simp [go_sem, KFr]; done) | (simp [go_sem, KFr, World.cell?_alloc_some]; done) | (simp [go_sem, KFr, frozen?_alloc_cells]; done)), keep_cell hb (by first | (simp [go_sem]; done) | (simp [go_sem, KFr]; done) | (simp [go_sem, KFr, World.cell?_alloc_some]; done) | (simp [go_sem, KFr, frozen?_alloc_cells]; done))⟩; have KFrz0 : w.heap.size < wq.heap.size := World.block_lt_of_cell? _ _ KFr.1; clear hb)))
  obtain ⟨-, -, -, hBq⟩ := ‹_ ∧ _ ∧ _ ∧ _›
  go_wp2_with fail
  go_ret
  exact ⟨rfl, by go_grown⟩


theorem eq_b (lo hi x : Int) (w : World) : (binOp .eql 34 (.agg #[.int .i64 0, .int .u64 lo, .int .u64 hi]) (.agg #[.int .i64 0, .int .u64 x, .int .u64 0])).run Try.prog w = .ok (.bool (decide (lo = x) && decide (hi = 0))) w := by
  by_cases h1 : lo = x
  · by_cases h2 : hi = 0 <;> simp [go_sem, h1, h2]
  · simp [go_sem, h1]
set_option maxHeartbeats 800000 in
theorem right_zero (lo hi : Int) (w : World) :
    Calls Try.prog 50 #[.agg #[.int .i64 0, .int .u64 lo, .int .u64 hi]] w fun e w' => e = .returned (.bool ((decide (lo = 0) && decide (hi = 0)) || (decide (lo = 1) && decide (hi = 0)))) ∧ Below w.heap.size w w' := by
  have hqe := eq_b
  cases hz : (decide (lo = 0) && decide (hi = 0))
  · go_enter Try.func50, Try.ntmps50
    go_wp2_with fail
    go_region_held3 (fun x => x.cell? ⟨w.heap.size, 0, none⟩ = some (.int .i64 0) ∧ x.cell? ⟨w.heap.size, 1, none⟩ = some (.int .u64 lo) ∧ x.cell? ⟨w.heap.size, 2, none⟩ = some (.int .u64 hi) ∧ (∀ o, x.frozen? ⟨w.heap.size, o, none⟩ = false) ∧ Below w.heap.size w x)
      ((refine ⟨?_, ?_, ?_, ?_, ?_⟩ <;> first | (simp [go_sem]; done) | (refine cv_some ?_; simp [go_sem]; done) | (simp [go_sem, KFr, KFrz0]; done) | (refine cv_some ?_; simp [go_sem, KFr, KFrz0]; done) | (refine put_below ?_ ?_ <;> first | assumption | omega) | (have hH := ‹_ ∧ _ ∧ _ ∧ _ ∧ _›; exact put_below hH.2.2.2.2 (by omega)) | go_grown))
      ((first | (go_at_call_of 51 (Value.bool false); refine (bool_any false _).mono ?_; rintro e wq ⟨rfl, hb⟩; have hb' := below_step (w := w) (by go_grown) hb; have hs := hb'.size; have KFr : wq.cell? ⟨w.heap.size, 0, none⟩ = some (.int .i64 0) ∧ wq.cell? ⟨w.heap.size, 1, none⟩ = some (.int .u64 lo) ∧ wq.cell? ⟨w.heap.size, 2, none⟩ = some (.int .u64 hi) ∧ (∀ o, wq.frozen? ⟨w.heap.size, o, none⟩ = false) := ⟨keep_cell hb (by first | (simp [go_sem]; done) | (simp [go_sem, KFr]; done) | (simp [go_sem, KFr, World.cell?_alloc_some]; done) | (simp [go_sem, KFr, frozen?_alloc_cells]; done)), keep_cell hb (by first | (simp [go_sem]; done) | (simp [go_sem, KFr]; done) | (simp [go_sem, KFr, World.cell?_alloc_some]; done) | (simp [go_sem, KFr, frozen?_alloc_cells]; done)), keep_cell hb (by first | (simp [go_sem]; done) | (simp [go_sem, KFr]; done) | (simp [go_sem, KFr, World.cell?_alloc_some]; done) | (simp [go_sem, KFr, frozen?_alloc_cells]; done)), keep_frozen2 hb (by first | (simp [go_sem]; done) | (simp [go_sem, KFr]; done) | (simp [go_sem, KFr, World.cell?_alloc_some]; done) | (simp [go_sem, KFr, frozen?_alloc_cells]; done)) (by first | (simp [go_sem]; done) | (simp [go_sem, KFr]; done) | (simp [go_sem, KFr, World.cell?_alloc_some]; done) | (simp [go_sem, KFr, frozen?_alloc_cells]; done))⟩; have KFrz0 : w.heap.size < wq.heap.size := World.block_lt_of_cell? _ _ KFr.1; clear hb) | (go_at_call_of 51 (Value.bool true); refine (bool_any true _).mono ?_; rintro e wq ⟨rfl, hb⟩; have hb' := below_step (w := w) (by go_grown) hb; have hs := hb'.size; have KFr : wq.cell? ⟨w.heap.size, 0, none⟩ = some (.int .i64 0) ∧ wq.cell? ⟨w.heap.size, 1, none⟩ = some (.int .u64 lo) ∧ wq.cell? ⟨w.heap.size, 2, none⟩ = some (.int .u64 hi) ∧ (∀ o, wq.frozen? ⟨w.heap.size, o, none⟩ = false) := ⟨keep_cell hb (by first | (simp [go_sem]; done) | (simp [go_sem, KFr]; done) | (simp [go_sem, KFr, World.cell?_alloc_some]; done) | (simp [go_sem, KFr, frozen?_alloc_cells]; done)), keep_cell hb (by first | (simp [go_sem]; done) | (simp [go_sem, KFr]; done) | (simp [go_sem, KFr, World.cell?_alloc_some]; done) | (simp [go_sem, KFr, frozen?_alloc_cells]; done)), keep_cell hb (by first | (simp [go_sem]; done) | (simp [go_sem, KFr]; done) | (simp [go_sem, KFr, World.cell?_alloc_some]; done) | (simp [go_sem, KFr, frozen?_alloc_cells]; done)), keep_frozen2 hb (by first | (simp [go_sem]; done) | (simp [go_sem, KFr]; done) | (simp [go_sem, KFr, World.cell?_alloc_some]; done) | (simp [go_sem, KFr, frozen?_alloc_cells]; done)) (by first | (simp [go_sem]; done) | (simp [go_sem, KFr]; done) | (simp [go_sem, KFr, World.cell?_alloc_some]; done) | (simp [go_sem, KFr, frozen?_alloc_cells]; done))⟩; have KFrz0 : w.heap.size < wq.heap.size := World.block_lt_of_cell? _ _ KFr.1; clear hb)))
    obtain ⟨-, -, -, -, hBq⟩ := ‹_ ∧ _ ∧ _ ∧ _ ∧ _›
    go_wp2_with fail
    go_ret
    exact ⟨rfl, by go_grown⟩
  · go_enter Try.func50, Try.ntmps50
    go_wp2_with fail
    go_region_with ((first | (go_at_call_of 51 (Value.bool false); refine (bool_any false _).mono ?_; rintro e wq ⟨rfl, hb⟩; have hb' := below_step (w := w) (by go_grown) hb; have hs := hb'.size; have KFr : wq.cell? ⟨w.heap.size, 0, none⟩ = some (.int .i64 0) ∧ wq.cell? ⟨w.heap.size, 1, none⟩ = some (.int .u64 lo) ∧ wq.cell? ⟨w.heap.size, 2, none⟩ = some (.int .u64 hi) ∧ (∀ o, wq.frozen? ⟨w.heap.size, o, none⟩ = false) := ⟨keep_cell hb (by first | (simp [go_sem]; done) | (simp [go_sem, KFr]; done) | (simp [go_sem, KFr, World.cell?_alloc_some]; done) | (simp [go_sem, KFr, frozen?_alloc_cells]; done)), keep_cell hb (by first | (simp [go_sem]; done) | (simp [go_sem, KFr]; done) | (simp [go_sem, KFr, World.cell?_alloc_some]; done) | (simp [go_sem, KFr, frozen?_alloc_cells]; done)), keep_cell hb (by first | (simp [go_sem]; done) | (simp [go_sem, KFr]; done) | (simp [go_sem, KFr, World.cell?_alloc_some]; done) | (simp [go_sem, KFr, frozen?_alloc_cells]; done)), keep_frozen2 hb (by first | (simp [go_sem]; done) | (simp [go_sem, KFr]; done) | (simp [go_sem, KFr, World.cell?_alloc_some]; done) | (simp [go_sem, KFr, frozen?_alloc_cells]; done)) (by first | (simp [go_sem]; done) | (simp [go_sem, KFr]; done) | (simp [go_sem, KFr, World.cell?_alloc_some]; done) | (simp [go_sem, KFr, frozen?_alloc_cells]; done))⟩; have KFrz0 : w.heap.size < wq.heap.size := World.block_lt_of_cell? _ _ KFr.1; clear hb) | (go_at_call_of 51 (Value.bool true); refine (bool_any true _).mono ?_; rintro e wq ⟨rfl, hb⟩; have hb' := below_step (w := w) (by go_grown) hb; have hs := hb'.size; have KFr : wq.cell? ⟨w.heap.size, 0, none⟩ = some (.int .i64 0) ∧ wq.cell? ⟨w.heap.size, 1, none⟩ = some (.int .u64 lo) ∧ wq.cell? ⟨w.heap.size, 2, none⟩ = some (.int .u64 hi) ∧ (∀ o, wq.frozen? ⟨w.heap.size, o, none⟩ = false) := ⟨keep_cell hb (by first | (simp [go_sem]; done) | (simp [go_sem, KFr]; done) | (simp [go_sem, KFr, World.cell?_alloc_some]; done) | (simp [go_sem, KFr, frozen?_alloc_cells]; done)), keep_cell hb (by first | (simp [go_sem]; done) | (simp [go_sem, KFr]; done) | (simp [go_sem, KFr, World.cell?_alloc_some]; done) | (simp [go_sem, KFr, frozen?_alloc_cells]; done)), keep_cell hb (by first | (simp [go_sem]; done) | (simp [go_sem, KFr]; done) | (simp [go_sem, KFr, World.cell?_alloc_some]; done) | (simp [go_sem, KFr, frozen?_alloc_cells]; done)), keep_frozen2 hb (by first | (simp [go_sem]; done) | (simp [go_sem, KFr]; done) | (simp [go_sem, KFr, World.cell?_alloc_some]; done) | (simp [go_sem, KFr, frozen?_alloc_cells]; done)) (by first | (simp [go_sem]; done) | (simp [go_sem, KFr]; done) | (simp [go_sem, KFr, World.cell?_alloc_some]; done) | (simp [go_sem, KFr, frozen?_alloc_cells]; done))⟩; have KFrz0 : w.heap.size < wq.heap.size := World.block_lt_of_cell? _ _ KFr.1; clear hb)))
    all_goals
      go_wp2_with fail
      go_ret
      exact ⟨rfl, by go_grown⟩

/-- A value that is right. -/
def rgt (w lo hi : Int) : Bool := decide (0 ≤ w) && decide (w ≤ 128) && (if w = 0 then (decide (lo = 0) && decide (hi = 0)) || (decide (lo = 1) && decide (hi = 0)) else decide (lo + 18446744073709551616 * hi < 2 ^ w.toNat))
theorem right_all {A lo hi : Int} (l0 : 0 ≤ lo) (l1 : lo < 18446744073709551616) (h0 : 0 ≤ hi) (h1 : hi < 18446744073709551616) (w : World) :
    Calls Try.prog 50 #[.agg #[.int .i64 A, .int .u64 lo, .int .u64 hi]] w fun e w' => e = .returned (.bool (rgt A lo hi)) ∧ Below w.heap.size w w' := by
  obtain ⟨N, hN⟩ : ∃ N : Nat, N = (lo + 18446744073709551616 * hi).toNat := ⟨_, rfl⟩
  have hN2 : N < 2 ^ 128 := by omega
  have el : lo = LO N := by unfold LO; omega
  have eh : hi = HI N := by unfold HI; omega
  by_cases ho : A < 0 ∨ 128 < A
  · have e : rgt A lo hi = false := by unfold rgt; rcases ho with h | h <;> simp [show ¬ 0 ≤ A ∨ ¬ A ≤ 128 from by omega] <;> omega
    rw [e, el, eh]
    exact right_out ho w
  · by_cases hz : A = 0
    · subst hz
      have e : rgt 0 lo hi = ((decide (lo = 0) && decide (hi = 0)) || (decide (lo = 1) && decide (hi = 0))) := by simp [rgt]
      rw [e]
      exact right_zero lo hi w
    · obtain ⟨W, rfl⟩ : ∃ W : Nat, A = W := ⟨A.toNat, by omega⟩
      have e : rgt (W : Int) lo hi = decide (N < 2 ^ W) := by
        unfold rgt
        rw [if_neg hz, show decide (0 ≤ (W : Int)) = true by simp, show decide ((W : Int) ≤ 128) = true by simp; omega, Int.toNat_natCast]
        simp only [Bool.true_and, decide_eq_decide]
        have e2 : ((2 : Int) ^ W) = ((2 ^ W : Nat) : Int) := by simp
        rw [e2]
        omega
      rw [e, el, eh]
      by_cases hlt : N < 2 ^ W
      · rw [show decide (N < 2 ^ W) = true by simp [hlt]]
        exact right_any ⟨by omega, by omega, hlt, rfl, rfl, rfl⟩ w
      · rw [show decide (N < 2 ^ W) = false by simp [hlt]]
        exact right_big (by omega) (by omega) hN2 hlt w
end Go.Proofs.Ytjmbicaacplolaa
