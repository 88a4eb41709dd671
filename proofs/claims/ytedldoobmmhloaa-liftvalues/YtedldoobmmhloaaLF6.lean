/- LiftValues, all said. -/
import Derived.Test.YtedldoobmmhloaaLF5
import Derived.Test.YtedldoobmmhloaaP0
namespace Go.Proofs.Ytedldoobmmhloaa
open Go.RowKit
set_option linter.unusedSimpArgs false
set_option linter.unusedVariables false

theorem refbool_x (x : Bool) (w : World) :
    Calls Try.prog 10 #[.bool x] w fun e w' => e = .returned (.agg #[.int .i64 0, .int .u64 (LO (nb [x])), .int .u64 (HI (nb [x]))]) ∧ Below w.heap.size w w' := by
  cases x
  · go_enter Try.func10, Try.ntmps10
    go_wp2_with fail
    refine bodyPost_ret (v := .agg #[.int .i64 0, .int .u64 0, .int .u64 0]) (by simp [results, Try.results10, go_sem]) rfl ?_
    exact ⟨rfl, by go_grown⟩
  · go_enter Try.func10, Try.ntmps10
    go_wp2_with fail
    refine bodyPost_ret (v := .agg #[.int .i64 0, .int .u64 1, .int .u64 0]) (by simp [results, Try.results10, go_sem]) rfl ?_
    exact ⟨rfl, by go_grown⟩
theorem Br.at {w : World} {a : Option Addr} {l : List Bool} (h : Br w a l) (hn : l ≠ []) : ∃ g o, a = some ⟨g, o, none⟩ ∧ g < w.heap.size ∧ ∀ j, j < l.length → w.cell? ⟨g, o + j, none⟩ = some (.bool ((nb l).testBit j)) := by
  rcases h with h | ⟨g, o, h1, h2, h3⟩
  · exact absurd h hn
  · exact ⟨g, o, h1, h2, fun j hj => by rw [h3 j hj, nb_bit]⟩
theorem value_br {s : Nat} {l : List Bool} (hs : l.length = max s 1) (h2 : s ≤ 128) (b : Option Addr) (d : Nat) (wx : World) (h : Br wx b l) :
    Calls Try.prog 6 #[.int .i64 (s : Int), .slice b l.length d] wx fun e w' => e = .returned (.tuple #[.agg #[.int .i64 s, .int .u64 (LO (nb l)), .int .u64 (HI (nb l))], .int .i64 0]) ∧ Below wx.heap.size wx w' := by
  obtain ⟨g, o, rfl, hg, hc⟩ := h.at (fun e => by rw [e] at hs; simp at hs; omega)
  have hl := nb_lt l
  have h128 : nb l < 2 ^ 128 := Nat.lt_of_lt_of_le hl (Nat.pow_le_pow_right (by decide) (by omega))
  have h := value_yes (c := d) hs h2 h128 wx hc hg
  rw [Nat.mod_eq_of_lt hl] at h
  exact h
set_option maxRecDepth 100000 in
set_option maxHeartbeats 400000 in
theorem values_long {s : Int} {v : Value} {x y z : Int} {a : Option Addr} {n c : Nat} (hv : v = .agg #[.int .i64 x, .int .u64 y, .int .u64 z]) (w : World) (hm : ¬ n ≤ 200) :
    Calls Try.prog 3 #[.int .i64 s, .slice a n c, v] w fun e w' => e = .returned (.bool true) ∧ Below w.heap.size w w' := by
  subst hv
  have hm9 : 200 < (n : Int) := by omega
  go_enter Try.func3, Try.ntmps3
  go_wp2_with fail
  refine (known_any _).mono ?_
  rintro e w1 ⟨rfl, hb1⟩
  have hb1' := below_step (w := w) (by go_grown) hb1
  have hs1 := hb1'.size
  have KF1 : w1.cell? ⟨w.heap.size, 0, none⟩ = some (.int .i64 x) ∧ w1.cell? ⟨w.heap.size, 1, none⟩ = some (.int .u64 y) ∧ w1.cell? ⟨w.heap.size, 2, none⟩ = some (.int .u64 z) ∧ (∀ o, w1.frozen? ⟨w.heap.size, o, none⟩ = false) := ⟨keep_cell hb1 (by first | (simp [go_sem]; done)), keep_cell hb1 (by first | (simp [go_sem]; done)), keep_cell hb1 (by first | (simp [go_sem]; done)), keep_frozen2 hb1 (by first | (simp [go_sem]; done)) (by first | (simp [go_sem]; done))⟩; have KF1z0 : w.heap.size < w1.heap.size := World.block_lt_of_cell? _ _ KF1.1
  clear hb1
  go_wp2_with fail
  go_ret
  exact ⟨rfl, by go_grown⟩

theorem values_f {A lo hi s : Int} {l : List Bool} {a : Option Addr} {c : Nat} (HB : Hid (∀ wx, Calls Try.prog 11 #[.agg #[.int .i64 A, .int .u64 lo, .int .u64 hi]] wx fun e w' => e = .returned (.slice none 0 0) ∧ Below wx.heap.size wx w')) (HR : Hid (∀ wx, Calls Try.prog 12 #[.agg #[.int .i64 A, .int .u64 lo, .int .u64 hi]] wx fun e w' => e = .returned (.bool false) ∧ Below wx.heap.size wx w')) (w : World) (hl : Br w a l) (hm : l.length ≤ 200) :
    Calls Try.prog 3 #[.int .i64 s, .slice a l.length c, .agg #[.int .i64 A, .int .u64 lo, .int .u64 hi]] w fun e w' => e = .returned (.bool true) ∧ Below w.heap.size w w' := by
  cases hs : srt s with
  | false =>
    have hv : (((l.length : Nat) : Int) != bos s) = true := by
      have : ¬ (0 ≤ s ∧ s ≤ 128) := by simpa [srt] using hs
      unfold bos
      rw [if_neg (by omega), if_neg (by omega)]; first | (simp; done) | (simp; omega)
    exact walk_no1_f hv hs HB HR w hl rfl hm
  | true =>
    have hs2 : 0 ≤ s ∧ s ≤ 128 := by simpa [srt] using hs
    by_cases h0 : s = 0
    · subst h0
      by_cases h1 : l.length = 1
      · obtain ⟨x, rfl⟩ : ∃ x, l = [x] := by
          match l, h1 with
          | [x], _ => exact ⟨x, rfl⟩
        obtain ⟨g, o, rfl, hg, hc⟩ := hl.at (by simp)
        have hx : (nb [x]).testBit 0 = x := by rw [nb_bit]; rfl
        refine walk_yes2_f (bx := x) (M := nb [x]) (fun b d wx hb => value_br (s := 0) rfl (by omega) b d wx hb) (fun wx => refbool_x x wx) (fun wx hb => ?_) hs HB HR (Or.inr ⟨g, o, rfl, hg, fun j hj => ?_⟩) rfl
        · have h := hc 0 (by simp)
          rw [hx] at h
          exact (hb.cell (p := ⟨g, o, none⟩) hg).trans h
        · rw [hc j hj, nb_bit]
      · exact walk_no3_f (s := 0) (by simp [bos]; omega) (by simp; omega) hs HB HR w hl rfl hm
    · by_cases h1 : (l.length : Int) = s
      · obtain ⟨S, rfl⟩ : ∃ S : Nat, s = S := ⟨s.toNat, by omega⟩
        have hS : l.length = S := by omega
        have hw0 := hl
        obtain ⟨g, o, rfl, hg, hc⟩ := hl.at (fun e => by rw [e] at hS; simp at hS; omega)
        refine walk_yes1_f (M := nb l) (fun b d wx hb => value_br (s := S) (by omega) (by omega) b d wx hb) (fun wx hb => ?_) (by omega) (by omega) (by simp; omega) (by simp; omega) hs HB HR hw0 rfl hm
        have hlt := nb_lt l
        have h := word_at (W := l.length) (cap := c) (by omega) (Nat.lt_of_lt_of_le hlt (Nat.pow_le_pow_right (by decide) (by omega)) : nb l < 2 ^ 128) wx (fun j hj => (hb.cell (p := ⟨g, o + j, none⟩) hg).trans (hc j hj)) (Nat.lt_of_lt_of_le hg hb.size)
        rw [Nat.mod_eq_of_lt hlt, h1] at h
        exact h
      · refine walk_no2_f ?_ (by omega) (by simp; omega) hs HB HR w hl rfl hm
        unfold bos
        rw [if_neg h0, if_pos (by omega)]; simp; omega

theorem values_t {t N m : Nat} {s : Int} {l : List Bool} {a : Option Addr} {c : Nat} (hmt : (m : Int) = max (t : Int) 1) (HB : Hid (∀ wx, Calls Try.prog 11 #[.agg #[.int .i64 t, .int .u64 (LO (N)), .int .u64 (HI (N))]] wx fun e w' => ∃ g, e = .returned (.slice (some ⟨g, 0, none⟩) m m) ∧ Bs w' wx.heap.size (.slice (some ⟨g, 0, none⟩) m m) (bl m N) ∧ Below wx.heap.size wx w')) (HR : Hid (∀ wx, Calls Try.prog 12 #[.agg #[.int .i64 t, .int .u64 (LO (N)), .int .u64 (HI (N))]] wx fun e w' => e = .returned (.bool true) ∧ Below wx.heap.size wx w')) (HV : Hid (∀ g wx, (∀ j, j < m → wx.cell? ⟨g, 0 + j, none⟩ = some (.bool (N.testBit j))) → g < wx.heap.size → Calls Try.prog 6 #[.int .i64 (t : Int), .slice (some ⟨g, 0, none⟩) m m] wx fun e w' => e = .returned (.tuple #[.agg #[.int .i64 t, .int .u64 (LO (N)), .int .u64 (HI (N))], .int .i64 0]) ∧ Below wx.heap.size wx w')) (w : World) (hl : Br w a l) (hm : l.length ≤ 200) :
    Calls Try.prog 3 #[.int .i64 s, .slice a l.length c, .agg #[.int .i64 t, .int .u64 (LO (N)), .int .u64 (HI (N))]] w fun e w' => e = .returned (.bool true) ∧ Below w.heap.size w w' := by
  cases hs : srt s with
  | false =>
    have hv : (((l.length : Nat) : Int) != bos s) = true := by
      have : ¬ (0 ≤ s ∧ s ≤ 128) := by simpa [srt] using hs
      unfold bos
      rw [if_neg (by omega), if_neg (by omega)]; first | (simp; done) | (simp; omega)
    exact walk_no1_t hv hs hmt HB HR HV w hl rfl hm
  | true =>
    have hs2 : 0 ≤ s ∧ s ≤ 128 := by simpa [srt] using hs
    by_cases h0 : s = 0
    · subst h0
      by_cases h1 : l.length = 1
      · obtain ⟨x, rfl⟩ : ∃ x, l = [x] := by
          match l, h1 with
          | [x], _ => exact ⟨x, rfl⟩
        obtain ⟨g, o, rfl, hg, hc⟩ := hl.at (by simp)
        have hx : (nb [x]).testBit 0 = x := by rw [nb_bit]; rfl
        refine walk_yes2_t (bx := x) (M := nb [x]) (fun b d wx hb => value_br (s := 0) rfl (by omega) b d wx hb) (fun wx => refbool_x x wx) (fun wx hb => ?_) hs hmt HB HR HV (Or.inr ⟨g, o, rfl, hg, fun j hj => ?_⟩) rfl
        · have h := hc 0 (by simp)
          rw [hx] at h
          exact (hb.cell (p := ⟨g, o, none⟩) hg).trans h
        · rw [hc j hj, nb_bit]
      · exact walk_no3_t (s := 0) (by simp [bos]; omega) (by simp; omega) hs hmt HB HR HV w hl rfl hm
    · by_cases h1 : (l.length : Int) = s
      · obtain ⟨S, rfl⟩ : ∃ S : Nat, s = S := ⟨s.toNat, by omega⟩
        have hS : l.length = S := by omega
        have hw0 := hl
        obtain ⟨g, o, rfl, hg, hc⟩ := hl.at (fun e => by rw [e] at hS; simp at hS; omega)
        refine walk_yes1_t (M := nb l) (fun b d wx hb => value_br (s := S) (by omega) (by omega) b d wx hb) (fun wx hb => ?_) (by omega) (by omega) (by simp; omega) (by simp; omega) hs hmt HB HR HV hw0 rfl hm
        have hlt := nb_lt l
        have h := word_at (W := l.length) (cap := c) (by omega) (Nat.lt_of_lt_of_le hlt (Nat.pow_le_pow_right (by decide) (by omega)) : nb l < 2 ^ 128) wx (fun j hj => (hb.cell (p := ⟨g, o + j, none⟩) hg).trans (hc j hj)) (Nat.lt_of_lt_of_le hg hb.size)
        rw [Nat.mod_eq_of_lt hlt, h1] at h
        exact h
      · refine walk_no2_t ?_ (by omega) (by simp; omega) hs hmt HB HR HV w hl rfl hm
        unfold bos
        rw [if_neg h0, if_pos (by omega)]; simp; omega

theorem values_all (s : Int) (A lo hi : Int) (w0 : (Lit.int .i64 A).wf = true) (w1 : (Lit.int .u64 lo).wf = true) (w2 : (Lit.int .u64 hi).wf = true) {l : List Bool} {a : Option Addr} {n c : Nat} (w : World) (hl : Br w a l) (hn : l.length = n) :
    Calls Try.prog 3 #[.int .i64 s, .slice a n c, .agg #[.int .i64 A, .int .u64 lo, .int .u64 hi]] w fun e w' => e = .returned (.bool true) ∧ Below w.heap.size w w' := by
  subst hn
  obtain ⟨p0, p1⟩ := lit_u64 w1
  obtain ⟨q0, q1⟩ := lit_u64 w2
  by_cases hm : l.length ≤ 200
  · cases hr : rgt A lo hi with
    | false =>
      have R1 : ∀ wx, Calls Try.prog 22 #[.agg #[.int .i64 A, .int .u64 lo, .int .u64 hi]] wx fun e w' => e = .returned (.bool false) ∧ Below wx.heap.size wx w' := fun wx => by rw [← hr]; exact right_all p0 p1 q0 q1 wx
      exact values_f (fun wx => bitsOf_no R1 wx) (fun wx => by rw [← hr]; exact refright_rgt p0 p1 q0 q1 wx) w hl hm
    | true =>
      obtain ⟨t, N, rfl, ht, rfl, rfl, hN, hN2⟩ := rgt_out p0 p1 q0 q1 hr
      have R1 : ∀ wx, Calls Try.prog 22 #[.agg #[.int .i64 t, .int .u64 (LO (N)), .int .u64 (HI (N))]] wx fun e w' => e = .returned (.bool true) ∧ Below wx.heap.size wx w' := fun wx => by rw [← hr]; exact right_all p0 p1 q0 q1 wx
      refine values_t (m := max t 1) (by omega) (fun wx => bitsOf_yes rfl ht hN R1 wx) (fun wx => by rw [← hr]; exact refright_rgt p0 p1 q0 q1 wx) (fun g wx hc hg => ?_) w hl hm
      have h := value_yes (c := max t 1) rfl ht hN wx hc hg
      rw [Nat.mod_eq_of_lt hN2] at h
      exact h
  · exact values_long rfl w hm
end Go.Proofs.Ytedldoobmmhloaa
