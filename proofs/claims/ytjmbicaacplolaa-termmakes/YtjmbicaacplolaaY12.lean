/- Every node of numbers in their ranges is a key. -/
import Derived.Test.YtjmbicaacplolaaY4
namespace Go.Proofs.Ytjmbicaacplolaa
open Go.RowKit
set_option linter.unusedSimpArgs false
set_option linter.unusedVariables false
/-- Numbers of their kinds. -/
def w64 (x : Int) : Prop := -9223372036854775808 ≤ x ∧ x ≤ 9223372036854775807
theorem wf64 {x : Int} (h : w64 x) : (Lit.int .i64 x).wf = true := by
  unfold w64 at h
  simp only [Lit.wf, IntKind.min, IntKind.max, IntKind.signed, IntKind.bits, Bool.and_eq_true, decide_eq_true_eq, if_true]
  omega
theorem wfu {x : Int} (h0 : 0 ≤ x) (h1 : x < 18446744073709551616) : (Lit.int .u64 x).wf = true := by
  simp only [Lit.wf, IntKind.min, IntKind.max, IntKind.signed, IntKind.bits, Bool.and_eq_true, decide_eq_true_eq]
  simp
  omega
set_option maxHeartbeats 1600000 in
theorem kn_of {n : Nd} (h1 : w64 n.op) (h2 : w64 n.s) (h3 : w64 n.a) (h4 : w64 n.b) (h5 : w64 n.c) (h6 : w64 n.p) (h7 : w64 n.q) (h8 : w64 n.w) (l0 : 0 ≤ n.lo) (l1 : n.lo < 18446744073709551616) (u0 : 0 ≤ n.hi) (u1 : n.hi < 18446744073709551616) (hs : n.nm.size ≤ maxLen) :
    ∃ kl, keyOf Try.prog 36 n.val = some kl := by
  have g1 := wf64 h1
  have g2 := wf64 h2
  have g3 := wf64 h3
  have g4 := wf64 h4
  have g5 := wf64 h5
  have g6 := wf64 h6
  have g7 := wf64 h7
  have g8 := wf64 h8
  have g9 := wfu l0 l1
  have g10 := wfu u0 u1
  have hk : Try.prog.keyType 36 = true := by kernel_rfl
  have hfm : n.val.formed Try.prog 36 = true := by kernel_rfl
  have hc : ∀ t, Try.prog.cellsOf t = Try.prog.cellsOf t := fun _ => rfl
  have e3 : Try.prog.cellsOf 3 = 1 := by kernel_rfl
  have e9 : Try.prog.cellsOf 9 = 1 := by kernel_rfl
  have e32 : Try.prog.cellsOf 32 = 1 := by kernel_rfl
  have e34 : Try.prog.cellsOf 34 = 3 := by kernel_rfl
  have e36 : Try.prog.cellsOf 36 = 11 := by kernel_rfl
  have hz : Try.prog.types.size + 1 = 96 + 1 + 1 + 1 := by kernel_rfl
  have q3 : ∀ (d : Nat) (x : Int), (Lit.int .i64 x).wf = true → Try.prog.keyLits (d + 1) 3 [.int .i64 x] = some [.int .i64 x] := fun d x hx => by
    unfold Program.keyLits; simp only [Try.underlying3]; simp [hx]
  have q32 : ∀ (d : Nat) (x : Int), (Lit.int .u64 x).wf = true → Try.prog.keyLits (d + 1) 32 [.int .u64 x] = some [.int .u64 x] := fun d x hx => by
    unfold Program.keyLits; simp only [Try.underlying32]; simp [hx]
  have q9 : ∀ (d : Nat) (x : ByteArray), x.size ≤ maxLen → Try.prog.keyLits (d + 1) 9 [.string x] = some [.string x.data.toList] := fun d x hx => by
    unfold Program.keyLits; simp only [Try.underlying9]; simp [hx]
  have q34 : ∀ (d : Nat), ∃ L, Try.prog.keyLits (d + 1 + 1) 34 [.int .i64 n.w, .int .u64 n.lo, .int .u64 n.hi] = some L := fun d => by
    unfold Program.keyLits; simp only [Try.underlying34]
    simp [e34, e3, e32, q3 d n.w g8, q32 d n.lo g9, q32 d n.hi g10]
  obtain ⟨L, hL'⟩ := q34 96
  have hL : Try.prog.keyLits 98 34 [.int .i64 n.w, .int .u64 n.lo, .int .u64 n.hi] = some L := hL'
  have hmain : ∃ ls, Try.prog.keyLits (Try.prog.types.size + 1) 36 n.val.cells.toList = some ls := by
    rw [hz]; unfold Program.keyLits; simp only [Try.underlying36]
    simp [Nd.val, Value.cells, e36, e34, e3, e9, q3 _ n.op g1, q3 _ n.s g2, q3 _ n.a g3, q3 _ n.b g4, q3 _ n.c g5, q3 _ n.p g6, q3 _ n.q g7, q9 _ n.nm hs, hL]
  obtain ⟨ls, hls⟩ := hmain
  unfold keyOf
  simp only [Try.underlying36, hk, hfm, Bool.and_self, if_true, hls, Option.map_some]
  exact ⟨_, rfl⟩
end Go.Proofs.Ytjmbicaacplolaa
