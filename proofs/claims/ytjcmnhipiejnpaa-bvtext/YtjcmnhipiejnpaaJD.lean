/- What signed quotients and rests are; small facts on cells. -/
import Derived.Test.YtjcmnhipiejnpaaI
namespace Go.Proofs.Ytjcmnhipiejnpaa
open Go.RowKit
set_option linter.unusedSimpArgs false
set_option linter.unusedVariables false

def sdiv (W n m : Nat) : Nat := if n.testBit (W - 1) != m.testBit (W - 1) then neg W (udiv W (wsign W n n) (wsign W m m)) else udiv W (wsign W n n) (wsign W m m)
def srem (W n m : Nat) : Nat := wsign W n (urem (wsign W n n) (wsign W m m))
def smod (W n m : Nat) : Nat := if urem (wsign W n n) (wsign W m m) ≠ 0 ∧ (n.testBit (W - 1) != m.testBit (W - 1)) = true then (wsign W n (urem (wsign W n n) (wsign W m m)) + m) % 2 ^ W else wsign W n (urem (wsign W n n) (wsign W m m))
theorem cell_set {w : World} {a : Addr} {v : Value} (h : (w.cell? a).isSome = true) : (w.setCell a v).cell? a = some v := by
  obtain ⟨u, hu⟩ := Option.isSome_iff_exists.1 h
  exact World.cell?_setCell_same _ _ _ hu
theorem below_lt {W w1 : World} (hb : Below W.heap.size W w1) : ∀ b, b < W.heap.size → b < w1.heap.size := fun b h => Nat.lt_of_lt_of_le h hb.size

end Go.Proofs.Ytjcmnhipiejnpaa
