/- Contracts: quotients and rests. -/
import Derived.Test.YtnflphhckgeneaaMg8
import Derived.Test.YtnflphhckgeneaaC
namespace Go.Proofs.Ytnflphhckgeneaa
open Go.RowKit
set_option linter.unusedSimpArgs false
set_option linter.unusedVariables false

def udiv (W n m : Nat) : Nat := if m = 0 then 2 ^ W - 1 else n / m
def urem (n m : Nat) : Nat := if m = 0 then n else n % m
end Go.Proofs.Ytnflphhckgeneaa

/- Contracts: concatenation, extraction, extension, rotation, a bit, a new word, complement and negation. -/
namespace Go.Proofs.Ytnflphhckgeneaa
open Go.RowKit
set_option linter.unusedSimpArgs false
set_option linter.unusedVariables false

set_option maxHeartbeats 400000 in
theorem rotate_left {W n k : Nat} {WW lo hi kk : Int} (hw : Wd WW lo hi W n) (hk : kk = k) (hk2 : k < 2 ^ 63) (w : World) :
    Calls Try.prog 46 #[.agg #[.int .i64 WW, .int .u64 lo, .int .u64 hi], .int .i64 kk, .bool true] w fun e w' => e = .returned (.tuple #[.agg #[.int .i64 W, .int .u64 (LO (rot W n (k % W))), .int .u64 (HI (rot W n (k % W)))], .int .i64 0]) ∧ Below w.heap.size w w' := by
  obtain ⟨h1, h2, hn, rfl, rfl, rfl⟩ := hw
  subst hk
  have a1 : n * 2 ^ (k % W) % 2 ^ W < 2 ^ W := mod_lt_W _ W
  have a2 : n / 2 ^ (W - (k % W)) < 2 ^ W := Nat.lt_of_le_of_lt (Nat.div_le_self _ _) hn
  have a3 : k % W < W := Nat.mod_lt _ h1
  have a4 : (0 : Int) ≤ k := by omega
  have H1 : Hid ((k : Int) % W = ((k % W : Nat) : Int)) := (Int.natCast_emod k W).symm
  have H2 : Hid (IntKind.i64.wrap ((W : Int) - (k : Int) % W) = ((W - k % W : Nat) : Int)) := wrap_nat (sub_mod_nat h1) (by omega)
  have m0 : (0 : Int) ≤ (k : Int) % W := Int.emod_nonneg _ (by omega)
  have m1 : (k : Int) % W < W := Int.emod_lt_of_pos _ (by omega)
  have a5 : k % W < 2 ^ 62 := by omega
  have a6 : W - (k % W) < 2 ^ 62 := by omega
  go_enter Try.func46, Try.ntmps46
  go_wp2_with fail
  refine (isWord_any (Wd.mk' h1 h2 hn) _).mono ?_
  rintro e w1 ⟨rfl, hb1⟩
  have hb1' := below_step (w := w) (by go_grown) hb1
  have hs1 := hb1'.size
  have KF1 : w1.cell? ⟨w.heap.size, 0, none⟩ = some (.int .i64 W) ∧ w1.cell? ⟨w.heap.size, 1, none⟩ = some (.int .u64 (LO (n))) ∧ w1.cell? ⟨w.heap.size, 2, none⟩ = some (.int .u64 (HI (n))) ∧ (∀ o, w1.frozen? ⟨w.heap.size, o, none⟩ = false) ∧ w1.cell? ⟨w.heap.size + 1, 0, none⟩ = some (cv w1 ⟨w.heap.size + 1, 0, none⟩) ∧ w1.cell? ⟨w.heap.size + 1, 1, none⟩ = some (cv w1 ⟨w.heap.size + 1, 1, none⟩) ∧ w1.cell? ⟨w.heap.size + 1, 2, none⟩ = some (cv w1 ⟨w.heap.size + 1, 2, none⟩) ∧ (∀ o, w1.frozen? ⟨w.heap.size + 1, o, none⟩ = false) := ⟨keep_cell hb1 (by first | (simp [go_sem]; done)), keep_cell hb1 (by first | (simp [go_sem]; done)), keep_cell hb1 (by first | (simp [go_sem]; done)), keep_frozen2 hb1 (by first | (simp [go_sem]; done)) (by first | (simp [go_sem]; done)), keep_some hb1 (by first | (simp [go_sem]; done)), keep_some hb1 (by first | (simp [go_sem]; done)), keep_some hb1 (by first | (simp [go_sem]; done)), keep_frozen2 hb1 (by first | (simp [go_sem]; done)) (by first | (simp [go_sem]; done))⟩; have KF1z0 : w.heap.size < w1.heap.size := World.block_lt_of_cell? _ _ KF1.1; have KF1z1 : w.heap.size + 1 < w1.heap.size := World.block_lt_of_cell? _ _ KF1.2.2.2.2.1
  clear hb1
  go_wp2_with fail
  go_region_held3 (fun x => x.cell? ⟨w.heap.size, 0, none⟩ = some (.int .i64 W) ∧ x.cell? ⟨w.heap.size, 1, none⟩ = some (.int .u64 (LO (n))) ∧ x.cell? ⟨w.heap.size, 2, none⟩ = some (.int .u64 (HI (n))) ∧ x.cell? ⟨w.heap.size + 1, 0, none⟩ = some (cv x ⟨w.heap.size + 1, 0, none⟩) ∧ x.cell? ⟨w.heap.size + 1, 1, none⟩ = some (cv x ⟨w.heap.size + 1, 1, none⟩) ∧ x.cell? ⟨w.heap.size + 1, 2, none⟩ = some (cv x ⟨w.heap.size + 1, 2, none⟩) ∧ (∀ o, x.frozen? ⟨w.heap.size + 1, o, none⟩ = false) ∧ Below w.heap.size w x)
    ((first | (obtain ⟨q0, q1, q2, q3, q4, q5, q6, q7⟩ := ‹_ ∧ _ ∧ _ ∧ _ ∧ _ ∧ _ ∧ _ ∧ _›; with_reducible exact ⟨keep_cell hb q0, keep_cell hb q1, keep_cell hb q2, cv_of (keep_cell hb q3), cv_of (keep_cell hb q4), cv_of (keep_cell hb q5), keep_frozen hb q3 q6, below_step q7 hb⟩) | (obtain ⟨q0, q1, q2, q3, q4, q5, q6, q7⟩ := ‹_ ∧ _ ∧ _ ∧ _ ∧ _ ∧ _ ∧ _ ∧ _›; with_reducible exact ⟨put_cell (by omega) q0, put_cell (by omega) q1, put_cell (by omega) q2, put_own0 q3, put_own1 q4, put_own2 q5, put_frozen q6, put_below q7 (by omega)⟩) | (refine ⟨?_, ?_, ?_, ?_, ?_, ?_, ?_, ?_⟩ <;> first | (simp [go_sem]; done) | (refine cv_some ?_; simp [go_sem]; done) | (simp [go_sem, KF1]; done) | (refine cv_some ?_; simp [go_sem, KF1]; done) | go_grown)))
    ((first | (go_at_call 73; refine (moveUp_any (k := k % W) (Wd.mk' h1 h2 hn) H1.out a5 _).mono ?_; rintro e w1 ⟨rfl, hb⟩) | (go_at_call 69; refine (moveDown_any (k := W - (k % W)) (Wd.mk' h1 h2 hn) H2.out a6 _).mono ?_; rintro e w1 ⟨rfl, hb⟩) | (go_at_call 72; refine (bitwise_or (n := n * 2 ^ (k % W) % 2 ^ W) (m := n / 2 ^ (W - (k % W))) (Wd.mk' h1 h2 a1) (Wd.mk' h1 h2 a2) _).mono ?_; rintro e w1 ⟨rfl, hb⟩)))
  obtain ⟨hq3_0, hq3_1, hq3_2, hR3, hR4, hR5, -, hBq3⟩ := ‹_ ∧ _ ∧ _ ∧ _ ∧ _ ∧ _ ∧ _ ∧ _›
  have HR3 : Hid _ := hR3
  clear hR3
  have HR4 : Hid _ := hR4
  clear hR4
  have HR5 : Hid _ := hR5
  clear hR5
  go_wp2_with fail
  refine bodyPost_ret (ret_bits2 rfl rfl rfl (got0 HR3.out) (got1 HR4.out) (got2 HR5.out)) rfl ?_
  exact ⟨rfl, by go_grown⟩

end Go.Proofs.Ytnflphhckgeneaa
