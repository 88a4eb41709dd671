/- Contracts: texts that the document refuses. -/
import Derived.Test.YtjcmnhipiejnpaaT6
namespace Go.Proofs.Ytjcmnhipiejnpaa
open Go.RowKit
set_option linter.unusedSimpArgs false
set_option linter.unusedVariables false

set_option maxHeartbeats 800000 in
theorem refparse_short {s : ByteArray} {n : Nat} (e1 : (s.toList == [116, 114, 117, 101]) = false) (e2 : (s.toList == [102, 97, 108, 115, 101]) = false) (hn : s.size = n) (n3 : n < 3) (w : World) :
    Calls Try.prog 30 #[.string s] w fun e w' => e = .returned (.tuple #[.agg #[.int .i64 0, .int .u64 0, .int .u64 0], .int .i64 13]) ∧ Below w.heap.size w w' := by
  have i3 : (n : Int) < 3 := by omega
  go_enter Try.func30, Try.ntmps30
  go_wp2_with fail
  refine bodyPost_ret (v := .tuple #[.agg #[.int .i64 0, .int .u64 0, .int .u64 0], .int .i64 13]) (by simp [results, Try.results30, go_sem]) rfl ?_
  exact ⟨rfl, by go_grown⟩

set_option maxHeartbeats 800000 in
theorem refparse_c0 {s : ByteArray} {n : Nat} (e1 : (s.toList == [116, 114, 117, 101]) = false) (e2 : (s.toList == [102, 97, 108, 115, 101]) = false) (hn : s.size = n) (n3 : 3 ≤ n) (n9 : n ≤ 400) (p0 : 0 < s.size) (p1 : 1 < s.size) (q0 : ¬ (((s[0]'p0).toNat : Int) = 35)) (w : World) :
    Calls Try.prog 30 #[.string s] w fun e w' => e = .returned (.tuple #[.agg #[.int .i64 0, .int .u64 0, .int .u64 0], .int .i64 13]) ∧ Below w.heap.size w w' := by
  have i3 : ¬ ((n : Int) < 3) := by omega
  go_enter Try.func30, Try.ntmps30
  go_wp2_with fail
  refine bodyPost_ret (v := .tuple #[.agg #[.int .i64 0, .int .u64 0, .int .u64 0], .int .i64 13]) (by simp [results, Try.results30, go_sem]) rfl ?_
  exact ⟨rfl, by go_grown⟩

set_option maxHeartbeats 800000 in
theorem refparse_c1 {s : ByteArray} {n : Nat} (e1 : (s.toList == [116, 114, 117, 101]) = false) (e2 : (s.toList == [102, 97, 108, 115, 101]) = false) (hn : s.size = n) (n3 : 3 ≤ n) (n9 : n ≤ 400) (p0 : 0 < s.size) (p1 : 1 < s.size) (q0 : (s[0]'p0).toNat = 35) (q1 : ¬ (((s[1]'p1).toNat : Int) = 98)) (q2 : ¬ (((s[1]'p1).toNat : Int) = 120)) (w : World) :
    Calls Try.prog 30 #[.string s] w fun e w' => e = .returned (.tuple #[.agg #[.int .i64 0, .int .u64 0, .int .u64 0], .int .i64 13]) ∧ Below w.heap.size w w' := by
  have i3 : ¬ ((n : Int) < 3) := by omega
  have z1 : ¬ (s[1]'p1).toNat = 98 := by omega
  have z2 : ¬ (s[1]'p1).toNat = 120 := by omega
  have z3 : (((s[1]'p1).toNat : Int) == 98) = false := by simp; omega
  have z4 : (((s[1]'p1).toNat : Int) == 120) = false := by simp; omega
  have z5 : (((s[1]'p1).toNat : Int) != 98) = true := by simp; omega
  have z6 : (((s[1]'p1).toNat : Int) != 120) = true := by simp; omega
  go_enter Try.func30, Try.ntmps30
  go_wp2_with fail
  refine bodyPost_ret (v := .tuple #[.agg #[.int .i64 0, .int .u64 0, .int .u64 0], .int .i64 13]) (by simp [results, Try.results30, go_sem]) rfl ?_
  exact ⟨rfl, by go_grown⟩

set_option maxHeartbeats 800000 in
theorem refparse_wb {s : ByteArray} {n : Nat} (e1 : (s.toList == [116, 114, 117, 101]) = false) (e2 : (s.toList == [102, 97, 108, 115, 101]) = false) (hn : s.size = n) (n3 : 3 ≤ n) (n9 : n ≤ 400) (p0 : 0 < s.size) (p1 : 1 < s.size) (q0 : (s[0]'p0).toNat = 35) (q1 : (s[1]'p1).toNat = 98) (hw : 128 < (n - 2) * 1) (w : World) :
    Calls Try.prog 30 #[.string s] w fun e w' => e = .returned (.tuple #[.agg #[.int .i64 0, .int .u64 0, .int .u64 0], .int .i64 13]) ∧ Below w.heap.size w w' := by
  have i3 : ¬ ((n : Int) < 3) := by omega
  have iw : (128 : Int) < ((n : Int) - 2) * 1 := by omega
  have iw2 : (128 : Int) < (n : Int) - 2 := by omega
  go_enter Try.func30, Try.ntmps30
  go_wp2_with fail
  refine bodyPost_ret (v := .tuple #[.agg #[.int .i64 0, .int .u64 0, .int .u64 0], .int .i64 13]) (by simp [results, Try.results30, go_sem]) rfl ?_
  exact ⟨rfl, by go_grown⟩

set_option maxHeartbeats 800000 in
theorem refparse_wx {s : ByteArray} {n : Nat} (e1 : (s.toList == [116, 114, 117, 101]) = false) (e2 : (s.toList == [102, 97, 108, 115, 101]) = false) (hn : s.size = n) (n3 : 3 ≤ n) (n9 : n ≤ 400) (p0 : 0 < s.size) (p1 : 1 < s.size) (q0 : (s[0]'p0).toNat = 35) (q1 : (s[1]'p1).toNat = 120) (hw : 128 < (n - 2) * 4) (w : World) :
    Calls Try.prog 30 #[.string s] w fun e w' => e = .returned (.tuple #[.agg #[.int .i64 0, .int .u64 0, .int .u64 0], .int .i64 13]) ∧ Below w.heap.size w w' := by
  have i3 : ¬ ((n : Int) < 3) := by omega
  have iw : (128 : Int) < ((n : Int) - 2) * 4 := by omega
  go_enter Try.func30, Try.ntmps30
  go_wp2_with fail
  refine bodyPost_ret (v := .tuple #[.agg #[.int .i64 0, .int .u64 0, .int .u64 0], .int .i64 13]) (by simp [results, Try.results30, go_sem]) rfl ?_
  exact ⟨rfl, by go_grown⟩

end Go.Proofs.Ytjcmnhipiejnpaa
