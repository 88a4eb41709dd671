/- lift's examples. -/
import Derived.Test.YtedldoobmmhloaaLF2
import Derived.Test.YtedldoobmmhloaaY0
namespace Go.Proofs.Ytedldoobmmhloaa
open Go.RowKit
set_option linter.unusedSimpArgs false
set_option linter.unusedVariables false

theorem value_2 {g c : Nat} {w : World} (h0 : w.cell? ⟨g, 0, none⟩ = some (.bool true)) (h1 : w.cell? ⟨g, 1, none⟩ = some (.bool false)) (hg : g < w.heap.size) :
    Calls Try.prog 6 #[.int .i64 2, .slice (some ⟨g, 0, none⟩) 2 c] w fun e w' => e = .returned (.tuple #[.agg #[.int .i64 2, .int .u64 1, .int .u64 0], .int .i64 0]) ∧ Below w.heap.size w w' :=
  value_yes (s := 2) (m := 2) (n := 1) (o := 0) rfl (by omega) (by decide) w (fun j hj => by
    match j, hj with
    | 0, _ => exact h0
    | 1, _ => exact h1) hg
theorem value_0 {g c : Nat} {w : World} (h0 : w.cell? ⟨g, 0, none⟩ = some (.bool true)) (hg : g < w.heap.size) :
    Calls Try.prog 6 #[.int .i64 0, .slice (some ⟨g, 0, none⟩) 1 c] w fun e w' => e = .returned (.tuple #[.agg #[.int .i64 0, .int .u64 1, .int .u64 0], .int .i64 0]) ∧ Below w.heap.size w w' :=
  value_yes (s := 0) (m := 1) (n := 1) (o := 0) rfl (by omega) (by decide) w (fun j hj => by
    match j, hj with
    | 0, _ => exact h0) hg
theorem value_3 {a : Option Addr} {c : Nat} (w : World) :
    Calls Try.prog 6 #[.int .i64 3, .slice a 1 c] w fun e w' => e = .returned (.tuple #[.agg #[.int .i64 0, .int .u64 0, .int .u64 0], .int .i64 160]) ∧ Below w.heap.size w w' :=
  value_no (s := 3) (n := 1) rfl w
theorem bits_2 (w : World) :
    Calls Try.prog 11 #[.agg #[.int .i64 2, .int .u64 1, .int .u64 0]] w fun e w' => ∃ g, e = .returned (.slice (some ⟨g, 0, none⟩) 2 2) ∧ Bs w' w.heap.size (.slice (some ⟨g, 0, none⟩) 2 2) [true, false] ∧ Below w.heap.size w w' :=
  bitsOf_yes (s := 2) (m := 2) (n := 1) rfl (by omega) (by decide) (fun wx => right_all (A := 2) (lo := 1) (hi := 0) (by decide) (by decide) (by decide) (by decide) wx) w

set_option maxRecDepth 100000 in
set_option maxHeartbeats 3200000 in
theorem known_any (w : World) :
    Calls Try.prog 5 #[] w fun e w' => e = .returned (.bool true) ∧ Below w.heap.size w w' := by
  have hqe := eq_w
  go_enter Try.func5, Try.ntmps5
  go_wp2_with fail
  refine Calls.mono (value_2 (by simp [go_sem]) (by simp [go_sem]) (by simp)) ?_
  rintro e w1 ⟨rfl, hb1⟩
  go_wp2_with fail
  refine Calls.mono (value_0 (by simp [go_sem]) (by simp)) ?_
  rintro e w2 ⟨rfl, hb2⟩
  go_wp2_with fail
  refine Calls.mono (value_3 _) ?_
  rintro e w3 ⟨rfl, hb3⟩
  have s2 : w1.heap.size + 2 ≤ w2.heap.size := by have := hb2.size; simpa using this
  have s3 : w2.heap.size + 2 ≤ w3.heap.size := by have := hb3.size; simpa using this
  have F : (w3.cell? ⟨w1.heap.size, 0, none⟩ = some (.int .i64 2) ∧ w3.cell? ⟨w1.heap.size, 1, none⟩ = some (.int .u64 1) ∧ w3.cell? ⟨w1.heap.size, 2, none⟩ = some (.int .u64 0)) ∧
      (w3.cell? ⟨w2.heap.size, 0, none⟩ = some (.int .i64 0) ∧ w3.cell? ⟨w2.heap.size, 1, none⟩ = some (.int .u64 1) ∧ w3.cell? ⟨w2.heap.size, 2, none⟩ = some (.int .u64 0)) := by
    have P : ∀ j, w3.cell? ⟨w1.heap.size, j, none⟩ = (#[Value.int .i64 2, Value.int .u64 1, Value.int .u64 0] : Array Value)[j]? := fun j => by
      rw [hb3.cell (p := ⟨w1.heap.size, j, none⟩) (by simp; omega), World.cell?_alloc_past _ _ _ (by simp; omega), World.cell?_alloc_past _ _ _ (by omega), hb2.cell (p := ⟨w1.heap.size, j, none⟩) (by simp; omega), World.cell?_alloc_past _ _ _ (by simp), World.cell?_alloc_at _ _ _ _ rfl]
    have Q : ∀ j, w3.cell? ⟨w2.heap.size, j, none⟩ = (#[Value.int .i64 0, Value.int .u64 1, Value.int .u64 0] : Array Value)[j]? := fun j => by
      rw [hb3.cell (p := ⟨w2.heap.size, j, none⟩) (by simp; omega), World.cell?_alloc_past _ _ _ (by simp), World.cell?_alloc_at _ _ _ _ rfl]
    exact ⟨⟨P 0, P 1, P 2⟩, ⟨Q 0, Q 1, Q 2⟩⟩
  have s1 : w.heap.size + 1 ≤ w1.heap.size := by have := hb1.size; simpa using this
  have FB1 : Below w.heap.size w w1 := ((Below.refl w.heap.size w).alloc (Nat.le_refl _) _).trans (hb1.mono (by simp))
  have FB2 : Below w.heap.size w w2 := ((FB1.alloc (by omega) _).alloc (by simp; omega) _).trans (hb2.mono (by simp; omega))
  have FB : Below w.heap.size w w3 := ((FB2.alloc (by omega) _).alloc (by simp; omega) _).trans (hb3.mono (by simp; omega))
  have FS : w1.heap.size < w3.heap.size ∧ w2.heap.size < w3.heap.size := ⟨by omega, by omega⟩
  clear hb1 hb2 hb3
  go_wp2_with fail
  refine Calls.mono (bits_2 _) ?_
  rintro e w4 ⟨g, rfl, hB4, hb4⟩
  go_wp2_with fail
  have hl4 := (Bs.lt hB4).2
  refine Calls.mono (bools_same (l := [true, false]) ((Bs.br hB4 rfl).below ?_) (Or.inr ⟨w4.heap.size, 0, rfl, by simp, fun j hj => ?_⟩) rfl (by omega)) ?_
  · go_grown
  · match j, hj with
    | 0, _ => simp [go_sem]
    | 1, _ => simp [go_sem]
  rintro e w5 ⟨rfl, hb5⟩
  have z4 : w3.heap.size + 1 ≤ w4.heap.size := by have := hb4.size; simpa using this
  have z3 := FB.size
  have FB4 : Below w.heap.size w w4 := (FB.alloc z3 _).trans (hb4.mono (by simp; omega))
  have FB5 : Below w.heap.size w w5 := (FB4.alloc (by omega) _).trans (hb5.mono (by simp; omega))
  clear hb5 hb4 hB4
  go_wp2_with fail
  go_ret
  exact ⟨rfl, FB5⟩
end Go.Proofs.Ytedldoobmmhloaa
