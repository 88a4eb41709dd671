/- Contracts: the words' first functions: lowest, cut, moveUp, moveDown. -/
import Derived.Test.YtohfjpahdoodgaaGreatDoorProg
import Derived.Test.YtohfjpahdoodgaaGreatDoorMath
import Derived.WalkKit
import Derived.Handy
import Derived.WalkLawsBesides
import Derived.Deep.RegionHeld3
namespace Go.Proofs.YtohfjpahdoodgaaGreatDoor.Ag
open Go.RowKit
set_option linter.unusedSimpArgs false
set_option linter.unusedVariables false

theorem bcell {W w1 : World} (hb : Below W.heap.size W w1) : (∀ b o, b < W.heap.size → w1.cell? ⟨b, o, none⟩ = W.cell? ⟨b, o, none⟩) ∧ (∀ b o, b < W.heap.size → w1.frozen? ⟨b, o, none⟩ = W.frozen? ⟨b, o, none⟩) :=
  ⟨fun b o h => hb.cell (p := ⟨b, o, none⟩) h, fun b o h => hb.frozen (p := ⟨b, o, none⟩) h⟩

theorem ret_int {k : IntKind} {a b : Int} (h : a = b) : Ending.returned (.int k a) = .returned (.int k b) := by rw [h]
theorem wrap_low {n : Int} (h0 : 0 ≤ n) (h1 : n ≤ 64) : IntKind.u64.wrap (IntKind.u64.wrap (2 ^ n.toNat) - 1) = 2 ^ n.toNat - 1 := by
  obtain ⟨k, rfl⟩ := Int.eq_ofNat_of_zero_le h0
  simp only [Int.toNat_natCast, IntKind.wrap_u64]
  by_cases h : k = 64
  · subst h; decide
  · have h2 : 2 ^ k ≤ 2 ^ 63 := Nat.pow_le_pow_right (by decide) (by omega : k ≤ 63)
    have h3 := Nat.two_pow_pos k
    have e : ((2 : Int) ^ k) = ((2 ^ k : Nat) : Int) := by simp
    rw [e]
    omega

theorem agg3 {k1 k2 k3 : IntKind} {a b c a' b' c' : Int} (h1 : a = a') (h2 : b = b') (h3 : c = c') : Ending.returned (.agg #[.int k1 a, .int k2 b, .int k3 c]) = .returned (.agg #[.int k1 a', .int k2 b', .int k3 c']) := by rw [h1, h2, h3]

theorem below_step {w W w1 : World} (h : Below w.heap.size w W) (hb : Below W.heap.size W w1) : Below w.heap.size w w1 := h.trans (hb.mono h.size)

/-- What a cell holds, or nothing. -/
def cv (x : World) (a : Addr) : Value := (x.cell? a).getD undef
theorem cv_some {x : World} {a : Addr} (h : (x.cell? a).isSome = true) : x.cell? a = some (cv x a) := by
  unfold cv
  cases h2 : x.cell? a with
  | none => simp [h2] at h
  | some v => rfl
theorem cv_of {x : World} {a : Addr} {v : Value} (h : x.cell? a = some v) : x.cell? a = some (cv x a) := cv_some (by simp [h])
theorem keep_cell {W w1 : World} (hb : Below W.heap.size W w1) {a : Addr} {v : Value} (h : W.cell? a = some v) : w1.cell? a = some v := by
  rw [hb.cell (World.block_lt_of_cell? W a h)]; exact h
theorem keep_frozen {W w1 : World} (hb : Below W.heap.size W w1) {r : Nat} {v : Value} (h : W.cell? ⟨r, 0, none⟩ = some v) (hf : ∀ o, W.frozen? ⟨r, o, none⟩ = false) : ∀ o, w1.frozen? ⟨r, o, none⟩ = false := fun o => by
  have hl := World.block_lt_of_cell? W _ h
  rw [hb.frozen (p := ⟨r, o, none⟩) hl]; exact hf o
theorem keep_some {W w1 : World} (hb : Below W.heap.size W w1) {a : Addr} (h : (W.cell? a).isSome = true) : w1.cell? a = some (cv w1 a) := by
  obtain ⟨v, hv⟩ := Option.isSome_iff_exists.1 h
  exact cv_of (keep_cell hb hv)
theorem keep_frozen1 {W w1 : World} (hb : Below W.heap.size W w1) {a : Addr} {v : Value} (h : W.cell? a = some v) (hf : W.frozen? a = false) : w1.frozen? a = false := by
  rw [hb.frozen (World.block_lt_of_cell? W _ h)]; exact hf
theorem keep_frozen2 {W w1 : World} (hb : Below W.heap.size W w1) {r : Nat} (h : (W.cell? ⟨r, 0, none⟩).isSome = true) (hf : ∀ o, W.frozen? ⟨r, o, none⟩ = false) : ∀ o, w1.frozen? ⟨r, o, none⟩ = false := by
  obtain ⟨v, hv⟩ := Option.isSome_iff_exists.1 h
  exact keep_frozen hb hv hf
theorem put_cell {W : World} {r s j : Nat} {a b c v : Value} (hp : r ≠ s) (h : W.cell? ⟨s, j, none⟩ = some v) : (((W.setCell ⟨r, 0, none⟩ a).setCell ⟨r, 1, none⟩ b).setCell ⟨r, 2, none⟩ c).cell? ⟨s, j, none⟩ = some v := by
  have hn : ∀ o, (⟨r, o, none⟩ : Addr) ≠ ⟨s, j, none⟩ := fun o e => hp (by injection e)
  rw [World.cell?_setCell_other _ _ _ _ (hn 2), World.cell?_setCell_other _ _ _ _ (hn 1), World.cell?_setCell_other _ _ _ _ (hn 0)]; exact h
theorem put_own0 {W : World} {r : Nat} {a b c v : Value} (h : W.cell? ⟨r, 0, none⟩ = some v) : (((W.setCell ⟨r, 0, none⟩ a).setCell ⟨r, 1, none⟩ b).setCell ⟨r, 2, none⟩ c).cell? ⟨r, 0, none⟩ = some (cv (((W.setCell ⟨r, 0, none⟩ a).setCell ⟨r, 1, none⟩ b).setCell ⟨r, 2, none⟩ c) ⟨r, 0, none⟩) := by
  refine cv_of (v := a) ?_
  rw [World.cell?_setCell_other _ _ _ _ (by simp), World.cell?_setCell_other _ _ _ _ (by simp)]
  exact World.cell?_setCell_same _ _ _ h
theorem put_own1 {W : World} {r : Nat} {a b c v : Value} (h : W.cell? ⟨r, 1, none⟩ = some v) : (((W.setCell ⟨r, 0, none⟩ a).setCell ⟨r, 1, none⟩ b).setCell ⟨r, 2, none⟩ c).cell? ⟨r, 1, none⟩ = some (cv (((W.setCell ⟨r, 0, none⟩ a).setCell ⟨r, 1, none⟩ b).setCell ⟨r, 2, none⟩ c) ⟨r, 1, none⟩) := by
  refine cv_of (v := b) ?_
  rw [World.cell?_setCell_other _ _ _ _ (by simp)]
  exact World.cell?_setCell_same _ _ _ (by rw [World.cell?_setCell_other _ _ _ _ (by simp)]; exact h)
theorem put_own2 {W : World} {r : Nat} {a b c v : Value} (h : W.cell? ⟨r, 2, none⟩ = some v) : (((W.setCell ⟨r, 0, none⟩ a).setCell ⟨r, 1, none⟩ b).setCell ⟨r, 2, none⟩ c).cell? ⟨r, 2, none⟩ = some (cv (((W.setCell ⟨r, 0, none⟩ a).setCell ⟨r, 1, none⟩ b).setCell ⟨r, 2, none⟩ c) ⟨r, 2, none⟩) := by
  refine cv_of (v := c) ?_
  exact World.cell?_setCell_same _ _ _ (by rw [World.cell?_setCell_other _ _ _ _ (by simp), World.cell?_setCell_other _ _ _ _ (by simp)]; exact h)
theorem put_frozen {W : World} {r : Nat} {a b c : Value} (hf : ∀ o, W.frozen? ⟨r, o, none⟩ = false) : ∀ o, (((W.setCell ⟨r, 0, none⟩ a).setCell ⟨r, 1, none⟩ b).setCell ⟨r, 2, none⟩ c).frozen? ⟨r, o, none⟩ = false := fun o => by
  rw [World.frozen?_setCell, World.frozen?_setCell, World.frozen?_setCell]; exact hf o
theorem put_below {w W : World} {r : Nat} {a b c : Value} (h : Below w.heap.size w W) (hr : w.heap.size ≤ r) : Below w.heap.size w (((W.setCell ⟨r, 0, none⟩ a).setCell ⟨r, 1, none⟩ b).setCell ⟨r, 2, none⟩ c) :=
  ((h.setCell hr _).setCell hr _).setCell hr _

theorem some_back {w : World} {a b : Addr} {v u : Value} (h : (w.setCell a v).cell? b = some u) : ∃ u', w.cell? b = some u' := by
  by_cases hab : a = b
  · subst hab
    unfold World.cell? World.setCell at h
    unfold World.cell?
    simp only [Array.getElem?_modify, ↓reduceIte] at h
    cases hw : w.heap[a.block]? with
    | none => simp [hw] at h
    | some o =>
      cases o <;> simp [hw] at h ⊢
      rename_i c e f
      obtain ⟨h1, h2⟩ := h
      simp only [h1] at h2 ⊢
      rcases Nat.lt_or_ge a.off c.size with h' | h'
      · exact ⟨trivial, _, Array.getElem?_eq_getElem h'⟩
      · rw [Array.getElem?_eq_none (by simpa using h')] at h2; cases h2
  · rw [World.cell?_setCell_other _ _ _ _ hab] at h; exact ⟨u, h⟩
theorem got0 {W : World} {r : Nat} {a b c v : Value} (h : (((W.setCell ⟨r, 0, none⟩ a).setCell ⟨r, 1, none⟩ b).setCell ⟨r, 2, none⟩ c).cell? ⟨r, 0, none⟩ = some v) : (((W.setCell ⟨r, 0, none⟩ a).setCell ⟨r, 1, none⟩ b).setCell ⟨r, 2, none⟩ c).cell? ⟨r, 0, none⟩ = some a := by
  obtain ⟨_, h⟩ := some_back h; obtain ⟨_, h⟩ := some_back h; obtain ⟨_, h⟩ := some_back h
  rw [World.cell?_setCell_other _ _ _ _ (by simp), World.cell?_setCell_other _ _ _ _ (by simp)]
  exact World.cell?_setCell_same _ _ _ h
theorem got1 {W : World} {r : Nat} {a b c v : Value} (h : (((W.setCell ⟨r, 0, none⟩ a).setCell ⟨r, 1, none⟩ b).setCell ⟨r, 2, none⟩ c).cell? ⟨r, 1, none⟩ = some v) : (((W.setCell ⟨r, 0, none⟩ a).setCell ⟨r, 1, none⟩ b).setCell ⟨r, 2, none⟩ c).cell? ⟨r, 1, none⟩ = some b := by
  obtain ⟨_, h⟩ := some_back h; obtain ⟨_, h⟩ := some_back h
  rw [World.cell?_setCell_other _ _ _ _ (by simp)]
  exact World.cell?_setCell_same _ _ _ h
theorem got2 {W : World} {r : Nat} {a b c v : Value} (h : (((W.setCell ⟨r, 0, none⟩ a).setCell ⟨r, 1, none⟩ b).setCell ⟨r, 2, none⟩ c).cell? ⟨r, 2, none⟩ = some v) : (((W.setCell ⟨r, 0, none⟩ a).setCell ⟨r, 1, none⟩ b).setCell ⟨r, 2, none⟩ c).cell? ⟨r, 2, none⟩ = some c := by
  obtain ⟨_, h⟩ := some_back h
  exact World.cell?_setCell_same _ _ _ h
/-- A struct of three numbers handed back: the result's cells are read. -/
theorem ret_bits {fn : Func} {p : Nat} (hfn : fn.results = #[.cell p 47]) {tmps : Array Value} {r : Nat} {k0 k1 k2 : IntKind} {v0 v1 v2 : Int} {x : World} (hp : tmps.getD p undef = .pointer (some ⟨r, 0, none⟩))
    (h0 : x.cell? ⟨r, 0, none⟩ = some (.int k0 v0)) (h1 : x.cell? ⟨r, 1, none⟩ = some (.int k1 v1)) (h2 : x.cell? ⟨r, 2, none⟩ = some (.int k2 v2)) : (results fn tmps).run Tryz.prog x = .ok (.agg #[.int k0 v0, .int k1 v1, .int k2 v2]) x := by
  simp at hp
  simp [results, hfn, hp, go_sem, h0, h1, h2]
theorem ret_bits2 {fn : Func} {p u : Nat} (hfn : fn.results = #[.cell p 47, .tmp u]) {tmps : Array Value} {r : Nat} {k0 k1 k2 : IntKind} {v0 v1 v2 : Int} {v : Value} {x : World} (hp : tmps.getD p undef = .pointer (some ⟨r, 0, none⟩)) (hu : tmps.getD u undef = v)
    (h0 : x.cell? ⟨r, 0, none⟩ = some (.int k0 v0)) (h1 : x.cell? ⟨r, 1, none⟩ = some (.int k1 v1)) (h2 : x.cell? ⟨r, 2, none⟩ = some (.int k2 v2)) : (results fn tmps).run Tryz.prog x = .ok (.tuple #[.agg #[.int k0 v0, .int k1 v1, .int k2 v2], v]) x := by
  rw [results_cell_tmp hfn, hp, hu]
  simp [go_sem, h0, h1, h2, Result.andThen]

end Go.Proofs.YtohfjpahdoodgaaGreatDoor.Ag

/- Plain facts on bits of numbers: no Go in sight. -/
namespace Go.Proofs.YtohfjpahdoodgaaGreatDoor.Ag

theorem bit_lo {n k : Nat} (h : k < 64) : (bits .and .u64 (LO n / 2 ^ k) 1 == 1) = n.testBit k := by
  have e : LO n / 2 ^ k = LO (n % 2 ^ 64 / 2 ^ k) := by
    unfold LO; rw [div_cast]; congr 1
    exact (Nat.mod_eq_of_lt (Nat.lt_of_le_of_lt (Nat.div_le_self _ _) (Nat.mod_lt _ (by decide)))).symm
  rw [e, bit_of, Nat.testBit_div_two_pow, Nat.testBit_mod_two_pow]; simp [h]
theorem bit_hi {n k : Nat} (hn : n < 2 ^ 128) (h : 64 ≤ k) : (bits .and .u64 (HI n / 2 ^ (k - 64)) 1 == 1) = n.testBit k := by
  have e : HI n / 2 ^ (k - 64) = LO (n / 2 ^ 64 / 2 ^ (k - 64)) := by
    unfold LO HI; rw [div_cast]; congr 1
    exact (Nat.mod_eq_of_lt (Nat.lt_of_le_of_lt (Nat.div_le_self _ _) (hi_lt hn))).symm
  rw [e, bit_of, Nat.testBit_div_two_pow, Nat.testBit_div_two_pow]
  congr 1; omega
theorem mod_succ_bit (n k : Nat) : n % 2 ^ (k + 1) = n % 2 ^ k + if n.testBit k then 2 ^ k else 0 := by
  rw [Nat.testBit_eq_decide_div_mod_eq, Nat.pow_succ, Nat.mod_mul]
  by_cases h : n / 2 ^ k % 2 = 1
  · simp [h]
  · have h0 : n / 2 ^ k % 2 = 0 := by omega
    simp [h0]
theorem add_or {x k : Nat} (h : x < 2 ^ k) : x + 2 ^ k = x ||| 2 ^ k := by
  have := Nat.two_pow_add_eq_or_of_lt h 1
  rw [Nat.mul_one] at this
  rw [Nat.add_comm, this, Nat.or_comm]
theorem word_no {n k : Nat} (h : n.testBit k = false) : n % 2 ^ (k + 1) = n % 2 ^ k := by rw [mod_succ_bit]; simp [h]
theorem word_yes {n k : Nat} (h : n.testBit k = true) : n % 2 ^ (k + 1) = n % 2 ^ k ||| 2 ^ k := by
  rw [mod_succ_bit, ← add_or (Nat.mod_lt _ (Nat.two_pow_pos k))]; simp [h]
theorem lo_pow {k : Nat} (h : k < 64) : LO (2 ^ k) = (2 : Int) ^ k := by
  unfold LO
  rw [Nat.mod_eq_of_lt (Nat.pow_lt_pow_right (by decide) h)]; simp
theorem hi_pow {k : Nat} (h : k < 64) : HI (2 ^ k) = 0 := by
  unfold HI
  rw [Nat.div_eq_of_lt (Nat.pow_lt_pow_right (by decide) h)]; rfl
theorem lo_pow' {k : Nat} (h : 64 ≤ k) : LO (2 ^ k) = 0 := by
  unfold LO
  rw [Nat.mod_eq_zero_of_dvd (Nat.pow_dvd_pow 2 h)]; rfl
theorem hi_pow' {k : Nat} (h : 64 ≤ k) : HI (2 ^ k) = (2 : Int) ^ (k - 64) := by
  unfold HI
  rw [Nat.pow_div h (by decide)]; simp
theorem or_lo {n k : Nat} (h : k < 64) (hb : n.testBit k = true) : bits .or .u64 (LO (n % 2 ^ k)) (IntKind.u64.wrap (2 ^ k)) = LO (n % 2 ^ (k + 1)) := by
  rw [word_yes hb, ← lo_or, lo_pow h]
  congr 1
  rw [IntKind.wrap_u64]
  have h3 := Nat.two_pow_pos k
  have h2 : 2 ^ k ≤ 2 ^ 63 := Nat.pow_le_pow_right (by decide) (by omega : k ≤ 63)
  have e : ((2 : Int) ^ k) = ((2 ^ k : Nat) : Int) := by simp
  rw [e]; omega
theorem or_lo_hi {n k : Nat} (h : k < 64) (hb : n.testBit k = true) : HI (n % 2 ^ k) = HI (n % 2 ^ (k + 1)) := by
  rw [word_yes hb]
  unfold HI
  rw [Nat.or_div_two_pow, Nat.div_eq_of_lt (a := 2 ^ k) (Nat.pow_lt_pow_right (by decide) h), Nat.or_zero]
theorem or_hi {n k : Nat} (h : 64 ≤ k) (h2 : k < 128) (hn : n < 2 ^ 128) (hb : n.testBit k = true) : bits .or .u64 (HI (n % 2 ^ k)) (IntKind.u64.wrap (2 ^ (k - 64))) = HI (n % 2 ^ (k + 1)) := by
  have h3 : n % 2 ^ k < 2 ^ 128 := Nat.lt_of_le_of_lt (Nat.mod_le _ _) hn
  rw [word_yes hb, ← hi_or h3 (Nat.pow_lt_pow_right (by decide) h2), hi_pow' h]
  congr 1
  rw [IntKind.wrap_u64]
  have h5 := Nat.two_pow_pos (k - 64)
  have h4 : 2 ^ (k - 64) ≤ 2 ^ 63 := Nat.pow_le_pow_right (by decide) (by omega : k - 64 ≤ 63)
  have e : ((2 : Int) ^ (k - 64)) = ((2 ^ (k - 64) : Nat) : Int) := by simp
  rw [e]; omega
theorem or_hi_lo {n k : Nat} (h : 64 ≤ k) (hb : n.testBit k = true) : LO (n % 2 ^ k) = LO (n % 2 ^ (k + 1)) := by
  rw [word_yes hb]
  unfold LO
  rw [Nat.or_mod_two_pow, Nat.mod_eq_zero_of_dvd (Nat.pow_dvd_pow 2 h), Nat.or_zero]

end Go.Proofs.YtohfjpahdoodgaaGreatDoor.Ag

/- Contracts: the document's own words: bits of a value, a word of bits, a new word. -/
namespace Go.Proofs.YtohfjpahdoodgaaGreatDoor.Ag
open Go.RowKit
set_option linter.unusedSimpArgs false
set_option linter.unusedVariables false

theorem info4 : ∃ i, Tryz.prog.info? 4 = some i ∧ i.zero = some (.bool false) ∧ i.size = 1 ∧ i.bytes = 1 :=
  by
  have h : (Tryz.prog.info? 4).map (fun i => (i.zero, i.size, i.bytes)) = some (some (.bool false), 1, 1) := by kernel_rfl
  obtain ⟨i, hi, e⟩ := Option.map_eq_some_iff.1 h
  simp only [Prod.mk.injEq] at e
  exact ⟨i, hi, e.1, e.2.1, e.2.2⟩

theorem bits_put {wr : World} {g W n k : Nat} {v : Bool} (hv : v = n.testBit k) (hck : wr.cell? ⟨g, k, none⟩ = some (.bool (decide (k < k) && n.testBit k)))
    (h : ∀ j, j < W → wr.cell? ⟨g, j, none⟩ = some (.bool (decide (j < k) && n.testBit j))) :
    ∀ j, j < W → (wr.setCell ⟨g, k, none⟩ (.bool v)).cell? ⟨g, j, none⟩ = some (.bool (decide (j < k + 1) && n.testBit j)) := by
  intro j hj
  by_cases e : j = k
  · subst e
    rw [World.cell?_setCell_same _ _ _ hck, hv]; simp
  · rw [World.cell?_setCell_other _ _ _ _ (fun e3 => e (by injection e3 with _ e4; omega)), h j hj]
    have e2 : decide (j < k + 1) = decide (j < k) := by by_cases h1 : j < k <;> simp [h1] <;> omega
    rw [e2]

theorem make_bools (W : Nat) (hW : W ≤ 128) (w : World) :
    (Instr.makeSlice 33 (.int .i64 W) (.int .i64 W)).run Tryz.prog w = .ok (.slice (some ⟨w.heap.size, 0, none⟩) W W) (w.alloc (.cells (Array.replicate W (.bool false)) 4)) := by
  obtain ⟨i, hi, hz, hs, hb⟩ := info4
  have h := run_make (P := Tryz.prog) w 33 4 i (.bool false) Tryz.underlying33 hi hz .i64 .i64 W W (by omega) (by omega) (by rw [hb]; omega) (by omega)
  rw [h, hs]
  have e : madeCells (Value.bool false).cells (W * 1) = Array.replicate W (.bool false) := by
    apply Array.ext'
    rw [show (Value.bool false).cells = #[.bool false] from rfl, toList_madeCells_one]; simp
  simp only [Int.toNat_natCast, e]

set_option maxHeartbeats 400000 in
theorem bits_any {W n : Nat} {WW lo hi : Int} (h2 : W ≤ 128) (hn : n < 2 ^ 128) (hw : WW = W) (hl : lo = LO n) (hh : hi = HI n) (w : World) :
    Calls Tryz.prog 48 #[.agg #[.int .i64 WW, .int .u64 lo, .int .u64 hi]] w fun e w' => ∃ g, e = .returned (.slice (some ⟨g, 0, none⟩) W W) ∧ w.heap.size ≤ g ∧ (∀ j, j < W → w'.cell? ⟨g, j, none⟩ = some (.bool (n.testBit j))) ∧ Below w.heap.size w w' := by
  subst hw hl hh
  have hmk := make_bools W h2
  go_enter Tryz.func48, Tryz.ntmps48
  go_wp2_with fail
  go_loopw [4] (fun i wr => ∃ k : Nat, k ≤ W ∧ i = .int .i64 k ∧ (wr.cell? ⟨w.heap.size, 0, none⟩ = some (.int .i64 W) ∧ wr.cell? ⟨w.heap.size, 1, none⟩ = some (.int .u64 (LO n)) ∧ wr.cell? ⟨w.heap.size, 2, none⟩ = some (.int .u64 (HI n))) ∧ (∀ j, j < W → wr.cell? ⟨w.heap.size + 1, j, none⟩ = some (.bool (decide (j < k) && n.testBit j))) ∧ (∀ j, wr.frozen? ⟨w.heap.size + 1, j, none⟩ = false) ∧ Below w.heap.size w wr) (fun i _ => W - (intOf i).toNat)
  case atStart =>
    refine ⟨0, Nat.zero_le _, rfl, ⟨?_, ?_, ?_⟩, ?_, ?_, ?_⟩
    · simp [go_sem]
    · simp [go_sem]
    · simp [go_sem]
    · intro j hj; simp [go_sem, hj]
    · intro j; simp [go_sem]
    · go_grown
  case round =>
    obtain ⟨k, hk, rfl, hc, hcell, hfr, hbl⟩ := hrel
    by_cases hlt : k < W
    · have hck := hcell k hlt
      have HC : Hid _ := hcell
      clear hcell
      by_cases h64 : (k : Int) < 64
      · have HV : Hid _ := bit_lo (n := n) (k := k) (by omega)
        go_wp2_with fail
        refine ⟨⟨k + 1, by omega, by go_num, ⟨?_, ?_, ?_⟩, bits_put HV.out hck HC.out, ?_, ?_⟩, by simp [intOf]; omega⟩
        · rw [World.cell?_setCell_other _ _ _ _ (by simp)]; exact hc.1
        · rw [World.cell?_setCell_other _ _ _ _ (by simp)]; exact hc.2.1
        · rw [World.cell?_setCell_other _ _ _ _ (by simp)]; exact hc.2.2
        · intro j; rw [World.frozen?_setCell]; exact hfr j
        · exact hbl.setCell (by simp) _
      · have HV : Hid _ := bit_hi (k := k) hn (by omega)
        go_wp2_with fail
        refine ⟨⟨k + 1, by omega, by go_num, ⟨?_, ?_, ?_⟩, bits_put HV.out hck HC.out, ?_, ?_⟩, by simp [intOf]; omega⟩
        · rw [World.cell?_setCell_other _ _ _ _ (by simp)]; exact hc.1
        · rw [World.cell?_setCell_other _ _ _ _ (by simp)]; exact hc.2.1
        · rw [World.cell?_setCell_other _ _ _ _ (by simp)]; exact hc.2.2
        · intro j; rw [World.frozen?_setCell]; exact hfr j
        · exact hbl.setCell (by simp) _
    · obtain rfl : k = W := by omega
      have HC : Hid _ := hcell
      clear hcell
      go_wp2_with fail
      go_ret
      refine ⟨_, rfl, by omega, fun j hj => ?_, hbl⟩
      rw [HC.out j hj]; simp [hj]

set_option maxHeartbeats 400000 in
theorem word_any {W n g : Nat} (h2 : W ≤ 128) (hn : n < 2 ^ 128) (w : World) (hcell : ∀ j, j < W → w.cell? ⟨g, j, none⟩ = some (.bool (n.testBit j))) (hg : g < w.heap.size) :
    Calls Tryz.prog 50 #[.slice (some ⟨g, 0, none⟩) W W] w fun e w' => e = .returned (.agg #[.int .i64 W, .int .u64 (LO (n % 2 ^ W)), .int .u64 (HI (n % 2 ^ W))]) ∧ Below w.heap.size w w' := by
  have HC : Hid _ := hcell
  clear hcell
  go_enter Tryz.func50, Tryz.ntmps50
  go_wp2_with fail
  go_loopw [4] (fun i wr => ∃ k : Nat, k ≤ W ∧ i = .int .i64 k ∧ (wr.cell? ⟨w.heap.size + 1, 0, none⟩ = some (.int .i64 W) ∧ wr.cell? ⟨w.heap.size + 1, 1, none⟩ = some (.int .u64 (LO (n % 2 ^ k))) ∧ wr.cell? ⟨w.heap.size + 1, 2, none⟩ = some (.int .u64 (HI (n % 2 ^ k)))) ∧ (wr.cell? ⟨w.heap.size, 0, none⟩ = some (.int .i64 0) ∧ wr.cell? ⟨w.heap.size, 1, none⟩ = some (.int .u64 0) ∧ wr.cell? ⟨w.heap.size, 2, none⟩ = some (.int .u64 0)) ∧ (∀ j, wr.frozen? ⟨w.heap.size + 1, j, none⟩ = false) ∧ (∀ j, wr.frozen? ⟨w.heap.size, j, none⟩ = false) ∧ Below w.heap.size w wr) (fun i _ => W - (intOf i).toNat)
  case atStart =>
    refine ⟨0, Nat.zero_le _, rfl, ⟨?_, ?_, ?_⟩, ⟨?_, ?_, ?_⟩, ?_, ?_, ?_⟩
    · simp [go_sem]
    · simp [go_sem, Nat.mod_one, ← lo0]
    · simp [go_sem, Nat.mod_one, ← hi0]
    · simp [go_sem]
    · simp [go_sem]
    · simp [go_sem]
    · intro j; simp [go_sem]
    · intro j; simp [go_sem]
    · go_grown
  case round =>
    obtain ⟨k, hk, rfl, hc, hr, hf1, hf0, hbl⟩ := hrel
    by_cases hlt : k < W
    · have hck : wr.cell? ⟨g, k, none⟩ = some (.bool (n.testBit k)) := (hbl.cell (p := ⟨g, k, none⟩) hg).trans (HC.out k hlt)
      cases hb : n.testBit k
      · rw [hb] at hck
        have HN : Hid _ := word_no hb
        clear hb
        by_cases h64 : (k : Int) < 64
        all_goals
          go_wp2_with fail
          refine ⟨⟨k + 1, by omega, by go_num, by rw [HN.out]; exact hc, hr, hf1, hf0, hbl⟩, by simp [intOf]; omega⟩
      · rw [hb] at hck
        by_cases h64 : (k : Int) < 64
        · have HN : Hid _ := or_lo (n := n) (k := k) (by omega) hb
          have HM : Hid _ := or_lo_hi (n := n) (k := k) (by omega) hb
          clear hb
          go_wp2_with fail
          go_region
          all_goals
            go_wp2_with fail
            refine ⟨⟨k + 1, by omega, by go_num, ⟨?_, ?_, ?_⟩, ⟨?_, ?_, ?_⟩, ?_, ?_, ?_⟩, by simp [intOf]; omega⟩
            · exact (World.cell?_setCell_other _ _ _ _ (by simp)).trans hc.1
            · exact (World.cell?_setCell_same _ _ _ hc.2.1).trans (by rw [HN.out])
            · exact (World.cell?_setCell_other _ _ _ _ (by simp)).trans (by rw [hc.2.2, HM.out])
            · exact (World.cell?_setCell_other _ _ _ _ (by simp)).trans hr.1
            · exact (World.cell?_setCell_other _ _ _ _ (by simp)).trans hr.2.1
            · exact (World.cell?_setCell_other _ _ _ _ (by simp)).trans hr.2.2
            · exact fun j => (World.frozen?_setCell ..).trans (hf1 j)
            · exact fun j => (World.frozen?_setCell ..).trans (hf0 j)
            · exact (hbl.setCell (by simp) _).drew
        · have HN : Hid _ := or_hi (n := n) (k := k) (by omega) (by omega) hn hb
          have HM : Hid _ := or_hi_lo (n := n) (k := k) (by omega) hb
          clear hb
          go_wp2_with fail
          go_region
          all_goals
            go_wp2_with fail
            refine ⟨⟨k + 1, by omega, by go_num, ⟨?_, ?_, ?_⟩, ⟨?_, ?_, ?_⟩, ?_, ?_, ?_⟩, by simp [intOf]; omega⟩
            · exact (World.cell?_setCell_other _ _ _ _ (by simp)).trans hc.1
            · exact (World.cell?_setCell_other _ _ _ _ (by simp)).trans (by rw [hc.2.1, HM.out])
            · exact (World.cell?_setCell_same _ _ _ hc.2.2).trans (by rw [HN.out])
            · exact (World.cell?_setCell_other _ _ _ _ (by simp)).trans hr.1
            · exact (World.cell?_setCell_other _ _ _ _ (by simp)).trans hr.2.1
            · exact (World.cell?_setCell_other _ _ _ _ (by simp)).trans hr.2.2
            · exact fun j => (World.frozen?_setCell ..).trans (hf1 j)
            · exact fun j => (World.frozen?_setCell ..).trans (hf0 j)
            · exact (hbl.setCell (by simp) _).drew
    · obtain rfl : k = W := by omega
      go_wp2_with fail
      refine bodyPost_ret (v := .agg #[.int .i64 k, .int .u64 (LO (n % 2 ^ k)), .int .u64 (HI (n % 2 ^ k))]) (by simp [results, Tryz.results50, go_sem, hr]) rfl ?_
      exact ⟨rfl, by go_grown⟩

/-- The width that a word is given. -/
def wdt (w : Int) : Nat := (w.tmod 128).natAbs + 1
theorem wdt_le (w : Int) : wdt w ≤ 128 := by
  unfold wdt
  have := Int.natAbs_tmod w 128
  rw [this]
  have : w.natAbs % 128 < 128 := Nat.mod_lt _ (by decide)
  simp; omega

/-- A word out of any numbers. -/
def num (lo hi : Int) : Nat := lo.toNat + 2 ^ 64 * hi.toNat
theorem num_lo {lo hi : Int} (h0 : 0 ≤ lo) (h1 : lo < 18446744073709551616) : lo = LO (num lo hi) := by
  unfold LO num; omega
theorem num_hi {lo hi : Int} (h0 : 0 ≤ lo) (h1 : lo < 18446744073709551616) (h2 : 0 ≤ hi) : hi = HI (num lo hi) := by
  unfold HI num; omega
theorem num_lt {lo hi : Int} (h0 : 0 ≤ lo) (h1 : lo < 18446744073709551616) (h2 : 0 ≤ hi) (h3 : hi < 18446744073709551616) : num lo hi < 2 ^ 128 := by
  unfold num; omega

end Go.Proofs.YtohfjpahdoodgaaGreatDoor.Ag
