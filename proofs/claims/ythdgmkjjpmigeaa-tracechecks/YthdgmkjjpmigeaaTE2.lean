/- Contracts (the document's traces): number. -/
import Derived.Test.YthdgmkjjpmigeaaTE1
namespace Go.Proofs.Ythdgmkjjpmigeaa
open Go.RowKit
set_option linter.unusedSimpArgs false
set_option linter.unusedVariables false

/-- The first number of bytes. -/
def nm (b : List Int) : Int := prt b 0 4
theorem nm_eq (b : List Int) : nm b = ((b.getD 0 0 * 256 + b.getD 1 0) * 256 + b.getD 2 0) * 256 + b.getD 3 0 := by
  unfold nm
  simp [prt]
theorem or_at {a x k : Nat} (hx : x < 2 ^ k) : (a * 2 ^ k) ||| x = a * 2 ^ k + x := by
  rw [Nat.mul_comm a, Nat.two_pow_add_eq_or_of_lt hx]
theorem or_int {a x : Nat} (ha : a < 9223372036854775808) (hx : x < 9223372036854775808) : bits .or .i64 (a : Int) (x : Int) = ((a ||| x : Nat) : Int) := by
  have h1 : bits .or .i64 (a : Int) (x : Int) = IntKind.i64.wrap (((BitVec.ofInt 64 (a : Int) ||| BitVec.ofInt 64 (x : Int)).toNat : Nat) : Int) := rfl
  have e64 : ((2 ^ 64 : Nat) : Int) = 18446744073709551616 := rfl
  have ha2 : (BitVec.ofInt 64 (a : Int)).toNat = a := by rw [BitVec.toNat_ofInt, e64]; omega
  have hx2 : (BitVec.ofInt 64 (x : Int)).toNat = x := by rw [BitVec.toNat_ofInt, e64]; omega
  have hlt : a ||| x < 2 ^ 63 := Nat.or_lt_two_pow (by omega) (by omega)
  rw [h1, IntKind.wrap_i64, BitVec.toNat_or, ha2, hx2]
  have : a ||| x < 9223372036854775808 := by simpa using hlt
  omega
theorem bytes4 {a b c d : Nat} (ha : a < 256) (hb : b < 256) (hc : c < 256) (hd' : d < 256) :
    bits .or .i64 (bits .or .i64 (bits .or .i64 ((a : Int) * 16777216) ((b : Int) * 65536)) ((c : Int) * 256)) (d : Int) = (((a : Int) * 256 + b) * 256 + c) * 256 + d := by
  have e1 : bits .or .i64 ((a : Int) * 16777216) ((b : Int) * 65536) = ((a * 16777216 + b * 65536 : Nat) : Int) := by
    rw [show ((a : Int) * 16777216) = ((a * 16777216 : Nat) : Int) by omega, show ((b : Int) * 65536) = ((b * 65536 : Nat) : Int) by omega, or_int (by omega) (by omega)]
    congr 1
    have := or_at (a := a) (x := b * 65536) (k := 24) (by omega)
    simpa using this
  rw [e1]
  have e2 : bits .or .i64 ((a * 16777216 + b * 65536 : Nat) : Int) ((c : Int) * 256) = ((a * 16777216 + b * 65536 + c * 256 : Nat) : Int) := by
    rw [show ((c : Int) * 256) = ((c * 256 : Nat) : Int) by omega, or_int (by omega) (by omega)]
    congr 1
    have := or_at (a := a * 256 + b) (x := c * 256) (k := 16) (by omega)
    rw [show (a * 256 + b) * 2 ^ 16 = a * 16777216 + b * 65536 by omega] at this
    exact this
  rw [e2, or_int (by omega) (by omega)]
  have := or_at (a := a * 65536 + b * 256 + c) (x := d) (k := 8) (by omega)
  rw [show (a * 65536 + b * 256 + c) * 2 ^ 8 = a * 16777216 + b * 65536 + c * 256 by omega] at this
  rw [this]
  omega
theorem number_no {w : World} {u : Value} {b : List Int} (h : Br w u b) (h4 : b.length < 4) :
    Calls Try.prog 41 #[u] w fun ev w' => ev = .returned (.tuple #[.int .i64 0, .slice none 0 0, .bool false]) ∧ w' = w := by
  obtain ⟨a, c, rfl, hc⟩ := h.out
  obtain ⟨n, hn⟩ : ∃ n, n = b.length := ⟨_, rfl⟩
  rw [← hn] at h4 ⊢
  have h4I : (n : Int) < 4 := by omega
  clear h hn hc
  go_enter Try.func41, Try.ntmps41
  go_wp2_with fail
  go_ret3
  exact ⟨rfl, rfl⟩
set_option maxRecDepth 20000 in
set_option maxHeartbeats 6400000 in
theorem number_yes {w0 w : World} {u : Value} {b : List Int} (h0 : Br w0 u b) (hb0 : Below w0.heap.size w0 w) (hl : b.length ≤ 5000000) (h4 : ¬ b.length < 4) :
    Calls Try.prog 41 #[u] w fun ev w' => ∃ u', ev = .returned (.tuple #[.int .i64 (nm b), u', .bool true]) ∧ Br w0 u' (b.drop 4) ∧ Below w.heap.size w w' := by
  have h : Br w u b := h0.below hb0
  obtain ⟨a, c, rfl, hc⟩ := h.out
  obtain ⟨n, hn⟩ : ∃ n, n = b.length := ⟨_, rfl⟩
  obtain ⟨X, hX⟩ : ∃ X, X = nm b := ⟨_, rfl⟩
  rw [← hX]
  have HXE : Hid (X = nm b) := hX
  have HB : Hid (Br w (.slice a b.length c) b) := h
  have HB0 : Hid (Br w0 (.slice a b.length c) b) := h0
  rw [← hn] at hl hc HB HB0 h4 ⊢
  have HN : Hid (n = b.length) := hn
  clear h h0 hX
  have h4I : ¬ (n : Int) < 4 := by omega
  obtain ⟨r, o, rfl⟩ := HB.out.addr (by omega)
  have HBY := HB.out.byte
  obtain ⟨r0, o0, e0, g0⟩ := HB.out.at' (Below.refl _ _) (k := 0) (by omega)
  obtain ⟨r1, o1, e1, g1⟩ := HB.out.at' (Below.refl _ _) (k := 1) (by omega)
  obtain ⟨r2, o2, e2, g2⟩ := HB.out.at' (Below.refl _ _) (k := 2) (by omega)
  obtain ⟨r3, o3, e3, g3⟩ := HB.out.at' (Below.refl _ _) (k := 3) (by omega)
  injection e0 with e0; injection e0 with e0 e0'; subst e0 e0'
  injection e1 with e1; injection e1 with e1 e1'; subst e1 e1'
  injection e2 with e2; injection e2 with e2 e2'; subst e2 e2'
  injection e3 with e3; injection e3 with e3 e3'; subst e3 e3'
  have y0 := getD_byte HBY 0
  have y1 := getD_byte HBY 1
  have y2 := getD_byte HBY 2
  have y3 := getD_byte HBY 3
  have HNM : Hid (nm b = ((b.getD 0 0 * 256 + b.getD 1 0) * 256 + b.getD 2 0) * 256 + b.getD 3 0) := nm_eq b
  obtain ⟨x0, hx0⟩ : ∃ x : Nat, b.getD 0 0 = (x : Int) := ⟨(b.getD 0 0).toNat, by omega⟩
  obtain ⟨x1, hx1⟩ : ∃ x : Nat, b.getD 1 0 = (x : Int) := ⟨(b.getD 1 0).toNat, by omega⟩
  obtain ⟨x2, hx2⟩ : ∃ x : Nat, b.getD 2 0 = (x : Int) := ⟨(b.getD 2 0).toNat, by omega⟩
  obtain ⟨x3, hx3⟩ : ∃ x : Nat, b.getD 3 0 = (x : Int) := ⟨(b.getD 3 0).toNat, by omega⟩
  rw [hx0] at g0 y0 HNM
  rw [hx1] at g1 y1 HNM
  rw [hx2] at g2 y2 HNM
  rw [hx3] at g3 y3 HNM
  rw [Nat.add_zero] at g0
  have hb4 := bytes4 (a := x0) (b := x1) (c := x2) (d := x3) (by omega) (by omega) (by omega) (by omega)
  have hrw : r < w.heap.size := World.block_lt_of_cell? _ _ g0
  have h1n : (1 : Int) < (n : Int) := by omega
  have h0n : (0 : Int) < (n : Int) := by omega
  have h2n : (2 : Int) < (n : Int) := by omega
  have h3n : (3 : Int) < (n : Int) := by omega
  have h4n : (4 : Int) ≤ (n : Int) := by omega
  have HDR : Hid (Br w0 (.slice (some ⟨r, o + 4, none⟩) (n - 4) (c - 4)) (b.drop 4)) := HB0.out.drop (by omega)
  have HBL : Hid (∀ k, Below w.heap.size w (w.drewN k)) := fun k => ⟨rfl, rfl, rfl, Nat.le_refl _, fun _ _ => rfl⟩
  have HIF : Hid (X = ((((x0 : Int) * 256 + x1) * 256 + x2) * 256 + x3)) := by unfold Hid; rw [HXE.out]; exact HNM.out
  clear hx0 hx1 hx2 hx3 hn HBY
  by_cases hc4 : c = 4
  · obtain rfl : n = 4 := by omega
    subst hc4
    have HD0 : Hid (Br w0 (.slice (some ⟨r, o, none⟩) 0 0) (b.drop 4)) := by
      have e : b.drop 4 = [] := List.drop_eq_nil_of_le (by rw [← HN.out]; exact Nat.le_refl _)
      unfold Hid; rw [e]
      exact ⟨⟨_, _, rfl, Nat.zero_le _, Or.inl rfl⟩, fun x hx => nomatch hx⟩
    go_enter Try.func41, Try.ntmps41
    go_wp2_with fail
    go_quiet (fail)
    go_wp2_with fail
    go_ret3
    rw [HIF.out]
    exact ⟨_, rfl, HD0.out, HBL.out _⟩
  · go_enter Try.func41, Try.ntmps41
    go_wp2_with fail
    go_quiet (fail)
    go_wp2_with fail
    go_ret3
    rw [HIF.out]
    exact ⟨_, rfl, HDR.out, HBL.out _⟩
end Go.Proofs.Ythdgmkjjpmigeaa
