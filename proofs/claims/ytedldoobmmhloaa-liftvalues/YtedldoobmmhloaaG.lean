/- Contracts: the document's own words: bits of a value, a word of bits, a new word. -/
import Derived.Test.YtedldoobmmhloaaA
import Derived.Test.YtedldoobmmhloaaMath2
namespace Go.Proofs.Ytedldoobmmhloaa
open Go.RowKit
set_option linter.unusedSimpArgs false
set_option linter.unusedVariables false

theorem info4 : ∃ i, Try.prog.info? 4 = some i ∧ i.zero = some (.bool false) ∧ i.size = 1 ∧ i.bytes = 1 :=
  by
  have h : (Try.prog.info? 4).map (fun i => (i.zero, i.size, i.bytes)) = some (some (.bool false), 1, 1) := by kernel_rfl
  obtain ⟨i, hi, e⟩ := Option.map_eq_some_iff.1 h
  simp only [Prod.mk.injEq] at e
  exact ⟨i, hi, e.1, e.2.1, e.2.2⟩

theorem make_bools (W : Nat) (hW : W ≤ 128) (w : World) :
    (Instr.makeSlice 22 (.int .i64 W) (.int .i64 W)).run Try.prog w = .ok (.slice (some ⟨w.heap.size, 0, none⟩) W W) (w.alloc (.cells (Array.replicate W (.bool false)) 4)) := by
  obtain ⟨i, hi, hz, hs, hb⟩ := info4
  have h := run_make (P := Try.prog) w 22 4 i (.bool false) Try.underlying22 hi hz .i64 .i64 W W (by omega) (by omega) (by rw [hb]; omega) (by omega)
  rw [h, hs]
  have e : madeCells (Value.bool false).cells (W * 1) = Array.replicate W (.bool false) := by
    apply Array.ext'
    rw [show (Value.bool false).cells = #[.bool false] from rfl, toList_madeCells_one]; simp
  simp only [Int.toNat_natCast, e]

/-- The width that a word is given. -/
def wdt (w : Int) : Nat := (w.tmod 128).natAbs + 1
/-- A word out of any numbers. -/
def num (lo hi : Int) : Nat := lo.toNat + 2 ^ 64 * hi.toNat
end Go.Proofs.Ytedldoobmmhloaa
