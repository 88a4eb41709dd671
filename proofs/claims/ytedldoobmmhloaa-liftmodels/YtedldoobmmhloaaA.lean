import Derived.Test.YtedldoobmmhloaaProg
import Derived.Test.YtedldoobmmhloaaAb
import Derived.Test.YtedldoobmmhloaaMath
import Derived.WalkKit
import Derived.Handy
import Derived.WalkLawsBesides
import Derived.Deep.RegionHeld3
namespace Go.Proofs.Ytedldoobmmhloaa
set_option maxHeartbeats 12800000
set_option maxRecDepth 100000
open Go.RowKit
set_option linter.unusedSimpArgs false
set_option linter.unusedVariables false
theorem bcell {W w1 : World} (hb : Below W.heap.size W w1) : (∀ b o, b < W.heap.size → w1.cell? ⟨b, o, none⟩ = W.cell? ⟨b, o, none⟩) ∧ (∀ b o, b < W.heap.size → w1.frozen? ⟨b, o, none⟩ = W.frozen? ⟨b, o, none⟩) :=
 ⟨fun b o h => hb.cell (p := ⟨b, o, none⟩) h, fun b o h => hb.frozen (p := ⟨b, o, none⟩) h⟩
theorem ret_int {k : IntKind} {a b : Int} (h : a = b) : Ending.returned (.int k a) = .returned (.int k b) := by rw [h]
theorem wrap_low {n : Int} (h0 : 0 ≤ n) (h1 : n ≤ 64) : IntKind.u64.wrap (IntKind.u64.wrap (2 ^ n.toNat) - 1) = 2 ^ n.toNat - 1 := by
 obtain ⟨k, rfl⟩ := Int.eq_ofNat_of_zero_le h0
 simp only [Int.toNat_natCast, IntKind.wrap_u64]
 by_cases h : k = 64
 ·subst h; decide
 ·have h2 : 2 ^ k ≤ 2 ^ 63 := Nat.pow_le_pow_right (by decide) (by omega : k ≤ 63)
  have h3 := Nat.two_pow_pos k
  have e : ((2 : Int) ^ k) = ((2 ^ k : Nat) : Int) := by simp
  rw [e]
  omega
theorem lowest_any (n : Int) (h0 : 0 ≤ n) (h1 : n ≤ 64) (w : World) :
  Calls Try.prog 43 #[.int .i64 n] w fun e w' => e = .returned (.int .u64 (2 ^ n.toNat - 1)) ∧ w' = w := by
 go_enter Try.func43, Try.ntmps43
 go_wp2
 go_ret
 exact ⟨ret_int (wrap_low h0 h1), rfl⟩
theorem agg3 {k1 k2 k3 : IntKind} {a b c a' b' c' : Int} (h1 : a = a') (h2 : b = b') (h3 : c = c') : Ending.returned (.agg #[.int k1 a, .int k2 b, .int k3 c]) = .returned (.agg #[.int k1 a', .int k2 b', .int k3 c']) := by rw [h1, h2, h3]
theorem cut_any {W m r : Nat} {WW lo hi : Int} (h1 : 1 ≤ W) (h2 : W ≤ 128) (hm : m < 2 ^ 128) (hr : m % 2 ^ W = r) (hw : WW = W) (hl : lo = LO m) (hh : hi = HI m) (w : World) :
  Calls Try.prog 34 #[.int .i64 WW, .int .u64 lo, .int .u64 hi] w fun e w' => e = .returned (.agg #[.int .i64 W, .int .u64 (LO (r)), .int .u64 (HI (r))]) ∧ Below w.heap.size w w' := by
 subst hw hl hh hr
 by_cases h : (W : Int) ≤ 64
 ·go_enter Try.func34, Try.ntmps34
  go_wp2_with (go_at_call 43; refine (lowest_any _ (by omega) (by omega) _).mono ?_; rintro e w' ⟨rfl, rfl⟩)
  go_returns
  refine ⟨agg3 rfl ?_ ?_, by go_grown⟩
  ·exact cut_small_lo (by omega)
  ·exact cut_small_hi (by omega)
 ·go_enter Try.func34, Try.ntmps34
  go_wp2_with (go_at_call 43; refine (lowest_any _ (by omega) (by omega) _).mono ?_; rintro e w' ⟨rfl, rfl⟩)
  go_returns
  refine ⟨agg3 rfl ?_ ?_, by go_grown⟩
  ·exact cut_great_lo (by omega)
  ·exact cut_great_hi (by omega) h2 hm
theorem below_step {w W w1 : World} (h : Below w.heap.size w W) (hb : Below W.heap.size W w1) : Below w.heap.size w w1 := h.trans (hb.mono h.size)
def cv (x : World) (a : Addr) : Value := (x.cell? a).getD undef
theorem cv_some {x : World} {a : Addr} (h : (x.cell? a).isSome = true) : x.cell? a = some (cv x a) := by
 unfold cv
 cases h2 : x.cell? a with
 | none => simp [h2] at h
 | some v => rfl
theorem cv_of {x : World} {a : Addr} {v : Value} (h : x.cell? a = some v) : x.cell? a = some (cv x a) := cv_some (by simp [h])
theorem keep_cell {W w1 : World} (hb : Below W.heap.size W w1) {a : Addr} {v : Value} (h : W.cell? a = some v) : w1.cell? a = some v := by
 rw [hb.cell (World.block_lt_of_cell? W a h)]; exact h
theorem keep_frozen {W w1 : World} (hb : Below W.heap.size W w1) {r : Nat} {v : Value} (h : W.cell? ⟨r, 0, none⟩ = some v) (hf : ∀ o, W.frozen? ⟨r, o, none⟩ = false) : ∀ o, w1.frozen? ⟨r, o, none⟩ = false := fun o => by
 have hl := World.block_lt_of_cell? W _ h
 rw [hb.frozen (p := ⟨r, o, none⟩) hl]; exact hf o
theorem keep_some {W w1 : World} (hb : Below W.heap.size W w1) {a : Addr} (h : (W.cell? a).isSome = true) : w1.cell? a = some (cv w1 a) := by
 obtain ⟨v, hv⟩ := Option.isSome_iff_exists.1 h
 exact cv_of (keep_cell hb hv)
theorem keep_frozen2 {W w1 : World} (hb : Below W.heap.size W w1) {r : Nat} (h : (W.cell? ⟨r, 0, none⟩).isSome = true) (hf : ∀ o, W.frozen? ⟨r, o, none⟩ = false) : ∀ o, w1.frozen? ⟨r, o, none⟩ = false := by
 obtain ⟨v, hv⟩ := Option.isSome_iff_exists.1 h
 exact keep_frozen hb hv hf
abbrev T3 (w : World) (b : Nat) (x y z : Value) (P : Prop) : Prop := w.cell? ⟨b, 0, none⟩ = some x ∧ w.cell? ⟨b, 1, none⟩ = some y ∧ w.cell? ⟨b, 2, none⟩ = some z ∧ P
abbrev W3 (w : World) (b : Nat) (W : Int) (n : Nat) (P : Prop) : Prop := T3 w b (.int .i64 W) (.int .u64 (LO n)) (.int .u64 (HI n)) P
abbrev S3 (w : World) (b : Nat) (P : Prop) : Prop := T3 w b (cv w ⟨b, 0, none⟩) (cv w ⟨b, 1, none⟩) (cv w ⟨b, 2, none⟩) P
abbrev F3 (w : World) (b : Nat) (P : Prop) : Prop := (∀ o, w.frozen? ⟨b, o, none⟩ = false) ∧ P
theorem k3 {W w1 : World} (hb : Below W.heap.size W w1) {b : Nat} {x y z : Value} {P : Prop} (h0 : W.cell? ⟨b, 0, none⟩ = some x) (h1 : W.cell? ⟨b, 1, none⟩ = some y) (h2 : W.cell? ⟨b, 2, none⟩ = some z) (hP : P) : T3 w1 b x y z P := ⟨keep_cell hb h0, keep_cell hb h1, keep_cell hb h2, hP⟩
theorem s3 {W w1 : World} (hb : Below W.heap.size W w1) {b : Nat} {P : Prop} (h0 : (W.cell? ⟨b, 0, none⟩).isSome = true) (h1 : (W.cell? ⟨b, 1, none⟩).isSome = true) (h2 : (W.cell? ⟨b, 2, none⟩).isSome = true) (hP : P) : S3 w1 b P := ⟨keep_some hb h0, keep_some hb h1, keep_some hb h2, hP⟩
theorem f3 {W w1 : World} (hb : Below W.heap.size W w1) {r : Nat} {P : Prop} (h : (W.cell? ⟨r, 0, none⟩).isSome = true) (hf : ∀ o, W.frozen? ⟨r, o, none⟩ = false) (hP : P) : F3 w1 r P := ⟨keep_frozen2 hb h hf, hP⟩
theorem zT {w : World} {b : Nat} {x y z : Value} {P : Prop} (h : T3 w b x y z P) : b < w.heap.size := World.block_lt_of_cell? _ _ h.1
theorem put_cell {W : World} {r s j : Nat} {a b c v : Value} (hp : r ≠ s) (h : W.cell? ⟨s, j, none⟩ = some v) : (((W.setCell ⟨r, 0, none⟩ a).setCell ⟨r, 1, none⟩ b).setCell ⟨r, 2, none⟩ c).cell? ⟨s, j, none⟩ = some v := by
 have hn : ∀ o, (⟨r, o, none⟩ : Addr) ≠ ⟨s, j, none⟩ := fun o e => hp (by injection e)
 rw [World.cell?_setCell_other _ _ _ _ (hn 2), World.cell?_setCell_other _ _ _ _ (hn 1), World.cell?_setCell_other _ _ _ _ (hn 0)]; exact h
theorem put_own0 {W : World} {r : Nat} {a b c v : Value} (h : W.cell? ⟨r, 0, none⟩ = some v) : (((W.setCell ⟨r, 0, none⟩ a).setCell ⟨r, 1, none⟩ b).setCell ⟨r, 2, none⟩ c).cell? ⟨r, 0, none⟩ = some (cv (((W.setCell ⟨r, 0, none⟩ a).setCell ⟨r, 1, none⟩ b).setCell ⟨r, 2, none⟩ c) ⟨r, 0, none⟩) := by
 refine cv_of (v := a) ?_
 rw [World.cell?_setCell_other _ _ _ _ (by simp), World.cell?_setCell_other _ _ _ _ (by simp)]
 exact World.cell?_setCell_same _ _ _ h
theorem put_own1 {W : World} {r : Nat} {a b c v : Value} (h : W.cell? ⟨r, 1, none⟩ = some v) : (((W.setCell ⟨r, 0, none⟩ a).setCell ⟨r, 1, none⟩ b).setCell ⟨r, 2, none⟩ c).cell? ⟨r, 1, none⟩ = some (cv (((W.setCell ⟨r, 0, none⟩ a).setCell ⟨r, 1, none⟩ b).setCell ⟨r, 2, none⟩ c) ⟨r, 1, none⟩) := by
 refine cv_of (v := b) ?_
 rw [World.cell?_setCell_other _ _ _ _ (by simp)]
 exact World.cell?_setCell_same _ _ _ (by rw [World.cell?_setCell_other _ _ _ _ (by simp)]; exact h)
theorem put_own2 {W : World} {r : Nat} {a b c v : Value} (h : W.cell? ⟨r, 2, none⟩ = some v) : (((W.setCell ⟨r, 0, none⟩ a).setCell ⟨r, 1, none⟩ b).setCell ⟨r, 2, none⟩ c).cell? ⟨r, 2, none⟩ = some (cv (((W.setCell ⟨r, 0, none⟩ a).setCell ⟨r, 1, none⟩ b).setCell ⟨r, 2, none⟩ c) ⟨r, 2, none⟩) := by
 refine cv_of (v := c) ?_
 exact World.cell?_setCell_same _ _ _ (by rw [World.cell?_setCell_other _ _ _ _ (by simp), World.cell?_setCell_other _ _ _ _ (by simp)]; exact h)
theorem put_frozen {W : World} {r : Nat} {a b c : Value} (hf : ∀ o, W.frozen? ⟨r, o, none⟩ = false) : ∀ o, (((W.setCell ⟨r, 0, none⟩ a).setCell ⟨r, 1, none⟩ b).setCell ⟨r, 2, none⟩ c).frozen? ⟨r, o, none⟩ = false := fun o => by
 rw [World.frozen?_setCell, World.frozen?_setCell, World.frozen?_setCell]; exact hf o
theorem put_below {w W : World} {r : Nat} {a b c : Value} (h : Below w.heap.size w W) (hr : w.heap.size ≤ r) : Below w.heap.size w (((W.setCell ⟨r, 0, none⟩ a).setCell ⟨r, 1, none⟩ b).setCell ⟨r, 2, none⟩ c) :=
 ((h.setCell hr _).setCell hr _).setCell hr _
theorem some_back {w : World} {a b : Addr} {v u : Value} (h : (w.setCell a v).cell? b = some u) : ∃ u', w.cell? b = some u' := by
 by_cases hab : a = b
 ·subst hab
  unfold World.cell? World.setCell at h
  unfold World.cell?
  simp only [Array.getElem?_modify, ↓reduceIte] at h
  cases hw : w.heap[a.block]? with
  | none => simp [hw] at h
  | some o =>
   cases o <;> simp [hw] at h ⊢
   rename_i c e f
   obtain ⟨h1, h2⟩ := h
   simp only [h1] at h2 ⊢
   rcases Nat.lt_or_ge a.off c.size with h' | h'
   ·exact ⟨trivial, _, Array.getElem?_eq_getElem h'⟩
   ·rw [Array.getElem?_eq_none (by simpa using h')] at h2; cases h2
 ·rw [World.cell?_setCell_other _ _ _ _ hab] at h; exact ⟨u, h⟩
theorem got0 {W : World} {r : Nat} {a b c v : Value} (h : (((W.setCell ⟨r, 0, none⟩ a).setCell ⟨r, 1, none⟩ b).setCell ⟨r, 2, none⟩ c).cell? ⟨r, 0, none⟩ = some v) : (((W.setCell ⟨r, 0, none⟩ a).setCell ⟨r, 1, none⟩ b).setCell ⟨r, 2, none⟩ c).cell? ⟨r, 0, none⟩ = some a := by
 obtain ⟨_, h⟩ := some_back h; obtain ⟨_, h⟩ := some_back h; obtain ⟨_, h⟩ := some_back h
 rw [World.cell?_setCell_other _ _ _ _ (by simp), World.cell?_setCell_other _ _ _ _ (by simp)]
 exact World.cell?_setCell_same _ _ _ h
theorem got1 {W : World} {r : Nat} {a b c v : Value} (h : (((W.setCell ⟨r, 0, none⟩ a).setCell ⟨r, 1, none⟩ b).setCell ⟨r, 2, none⟩ c).cell? ⟨r, 1, none⟩ = some v) : (((W.setCell ⟨r, 0, none⟩ a).setCell ⟨r, 1, none⟩ b).setCell ⟨r, 2, none⟩ c).cell? ⟨r, 1, none⟩ = some b := by
 obtain ⟨_, h⟩ := some_back h; obtain ⟨_, h⟩ := some_back h
 rw [World.cell?_setCell_other _ _ _ _ (by simp)]
 exact World.cell?_setCell_same _ _ _ h
theorem got2 {W : World} {r : Nat} {a b c v : Value} (h : (((W.setCell ⟨r, 0, none⟩ a).setCell ⟨r, 1, none⟩ b).setCell ⟨r, 2, none⟩ c).cell? ⟨r, 2, none⟩ = some v) : (((W.setCell ⟨r, 0, none⟩ a).setCell ⟨r, 1, none⟩ b).setCell ⟨r, 2, none⟩ c).cell? ⟨r, 2, none⟩ = some c := by
 obtain ⟨_, h⟩ := some_back h
 exact World.cell?_setCell_same _ _ _ h
theorem ret_bits {fn : Func} {p : Nat} (hfn : fn.results = #[.cell p 25]) {tmps : Array Value} {r : Nat} {k0 k1 k2 : IntKind} {v0 v1 v2 : Int} {x : World} (hp : tmps.getD p undef = .pointer (some ⟨r, 0, none⟩))
  (h0 : x.cell? ⟨r, 0, none⟩ = some (.int k0 v0)) (h1 : x.cell? ⟨r, 1, none⟩ = some (.int k1 v1)) (h2 : x.cell? ⟨r, 2, none⟩ = some (.int k2 v2)) : (results fn tmps).run Try.prog x = .ok (.agg #[.int k0 v0, .int k1 v1, .int k2 v2]) x := by
 simp at hp
 simp [results, hfn, hp, go_sem, h0, h1, h2]
theorem ret_bits2 {fn : Func} {p u : Nat} (hfn : fn.results = #[.cell p 25, .tmp u]) {tmps : Array Value} {r : Nat} {k0 k1 k2 : IntKind} {v0 v1 v2 : Int} {v : Value} {x : World} (hp : tmps.getD p undef = .pointer (some ⟨r, 0, none⟩)) (hu : tmps.getD u undef = v)
  (h0 : x.cell? ⟨r, 0, none⟩ = some (.int k0 v0)) (h1 : x.cell? ⟨r, 1, none⟩ = some (.int k1 v1)) (h2 : x.cell? ⟨r, 2, none⟩ = some (.int k2 v2)) : (results fn tmps).run Try.prog x = .ok (.tuple #[.agg #[.int k0 v0, .int k1 v1, .int k2 v2], v]) x := by
 rw [results_cell_tmp hfn, hp, hu]
 simp [go_sem, h0, h1, h2, Result.andThen]
theorem moveUp_any {W n k : Nat} {WW lo hi kk : Int} (hw : Wd WW lo hi W n) (hk : kk = k) (hk2 : k < 2 ^ 62) (w : World) :
  Calls Try.prog 87 #[.agg #[.int .i64 WW, .int .u64 lo, .int .u64 hi], .int .i64 kk] w fun e w' => e = .returned (.agg #[.int .i64 W, .int .u64 (LO (n * 2 ^ k % 2 ^ W)), .int .u64 (HI (n * 2 ^ k % 2 ^ W))]) ∧ Below w.heap.size w w' := by
 obtain ⟨h1, h2, hn, rfl, rfl, rfl⟩ := hw
 subst hk
 by_cases h : (64 : Int) ≤ k
 ·go_enter Try.func87, Try.ntmps87
  go_wp2_with fail
  refine (cut_any (m := n * 2 ^ k % 2 ^ 128) (r := n * 2 ^ k % 2 ^ W) h1 h2 (Nat.mod_lt _ (by decide)) (mod_128 h2) rfl (up_far_lo (by omega)) (up_far_hi (by omega)) _).mono ?_
  rintro e w1 ⟨rfl, hb⟩
  have hb' := below_step (w := w) (by go_grown) hb
  obtain ⟨hc, hf⟩ := bcell hb
  go_wp2_with fail
  refine bodyPost_ret (v := .agg #[.int .i64 W, .int .u64 (LO (n * 2 ^ k % 2 ^ W)), .int .u64 (HI (n * 2 ^ k % 2 ^ W))]) (by simp [results, Try.results87, go_sem, hc]) rfl ?_
  exact ⟨rfl, by go_grown⟩
 ·go_enter Try.func87, Try.ntmps87
  go_wp2_with fail
  refine (cut_any (m := n * 2 ^ k % 2 ^ 128) (r := n * 2 ^ k % 2 ^ W) h1 h2 (Nat.mod_lt _ (by decide)) (mod_128 h2) rfl up_near_lo (up_near_hi (by omega)) _).mono ?_
  rintro e w1 ⟨rfl, hb⟩
  have hb' := below_step (w := w) (by go_grown) hb
  obtain ⟨hc, hf⟩ := bcell hb
  go_wp2_with fail
  refine bodyPost_ret (v := .agg #[.int .i64 W, .int .u64 (LO (n * 2 ^ k % 2 ^ W)), .int .u64 (HI (n * 2 ^ k % 2 ^ W))]) (by simp [results, Try.results87, go_sem, hc]) rfl ?_
  exact ⟨rfl, by go_grown⟩
theorem moveDown_any {W n k : Nat} {WW lo hi kk : Int} (hw : Wd WW lo hi W n) (hk : kk = k) (hk2 : k < 2 ^ 62) (w : World) :
  Calls Try.prog 83 #[.agg #[.int .i64 WW, .int .u64 lo, .int .u64 hi], .int .i64 kk] w fun e w' => e = .returned (.agg #[.int .i64 W, .int .u64 (LO (n / 2 ^ k)), .int .u64 (HI (n / 2 ^ k))]) ∧ Below w.heap.size w w' := by
 have hbig := hw.big
 obtain ⟨h1, h2, hn, rfl, rfl, rfl⟩ := hw
 subst hk
 have hdb : n / 2 ^ k < 2 ^ 128 := Nat.lt_of_le_of_lt (Nat.div_le_self _ _) hbig
 by_cases h : (64 : Int) ≤ k
 ·go_enter Try.func83, Try.ntmps83
  go_wp2_with fail
  refine (cut_any (m := n / 2 ^ k) (r := n / 2 ^ k) h1 h2 hdb (div_lt_W hn) rfl (down_far_lo (by omega) hbig) (down_far_hi (by omega) hbig) _).mono ?_
  rintro e w1 ⟨rfl, hb⟩
  have hb' := below_step (w := w) (by go_grown) hb
  obtain ⟨hc, hf⟩ := bcell hb
  go_wp2_with fail
  refine bodyPost_ret (v := .agg #[.int .i64 W, .int .u64 (LO (n / 2 ^ k)), .int .u64 (HI (n / 2 ^ k))]) (by simp [results, Try.results83, go_sem, hc]) rfl ?_
  exact ⟨rfl, by go_grown⟩
 ·go_enter Try.func83, Try.ntmps83
  go_wp2_with fail
  refine (cut_any (m := n / 2 ^ k) (r := n / 2 ^ k) h1 h2 hdb (div_lt_W hn) rfl (down_near_lo (by omega)) down_near_hi _).mono ?_
  rintro e w1 ⟨rfl, hb⟩
  have hb' := below_step (w := w) (by go_grown) hb
  obtain ⟨hc, hf⟩ := bcell hb
  go_wp2_with fail
  refine bodyPost_ret (v := .agg #[.int .i64 W, .int .u64 (LO (n / 2 ^ k)), .int .u64 (HI (n / 2 ^ k))]) (by simp [results, Try.results83, go_sem, hc]) rfl ?_
  exact ⟨rfl, by go_grown⟩
end Go.Proofs.Ytedldoobmmhloaa
