/-
  No cell of these rows narrows 'for every input' (looked for: loops, veiled, ifaces, maps, wideKeys, modest, calm, conditions, laid).
  DERIVED. THE GIVEN ROWS OF THIS SEAT. 5 by the template 'for every input the law returns true; each argument reads behind the call as it read before'; 0 by the template 'total and deterministic' (their statements: YtjmbicaacplolaaTotals.lean).
  GIVEN WITH THE SEED: the statements are not yours to turn. If you find one false, say at which input.
  Laid BY PROGRAM, IN A SANDBOX (cutbox-rows.mjs): the forced cells as the released guide's own fill.sh prints them over the translation 608deacf86d59076… (all of the seat's roots in one cut). By AI agents, Wed Nov 11 2026. No macro, syntax, notation, axiom, sorry.
-/
import Derived.Test.YtjmbicaacplolaaChecked
import GoSem.Claim
import GoSem.ClaimJoined
import GoSem.ClaimMapViews
import Derived.JoinedTies
import Derived.KernelRfl
namespace Go.Proofs.Ytjmbicaacplolaa
/- THE CELL 'sum', in the pinned program and in every row, IS THE sha256 OF THE DUMP (.gsa) THAT YtjmbicaacplolaaProg.lean LOADS. Nothing in Lean hashes anything: it is a label: what it is worth is what the hold of that sum in a sandbox is worth. -/
noncomputable def Try.pinned : Pinned := { name := "ytjmbicaacplolaa", sum := "608deacf86d590760228f47067db9e43f070e5fc4194ba6d0c1e8a45a50fa2ee", checked := Try.checked }
namespace Rows
def none {H : Type} : Left H := { results := [], args := [] }

/-- 'plaitlaw3.TermMakes': WHATEVER THE INPUT: true; the input reads as it did. -/
def termMakesSpec : ChangeSpec := { name := "termMakes", fn := fun _ => fun
  | [d1, d2, d3, d4] => { results := [.lit (.bool true)], args := [d1, d2, d3, d4] }
  | _ => none }
def termMakesRow : OpenClaim := { program := "ytjmbicaacplolaa", sum := "608deacf86d590760228f47067db9e43f070e5fc4194ba6d0c1e8a45a50fa2ee", func := "plait/plaitlaw3.TermMakes", spec := "termMakes", plainKeys := false, apart := false }
def TermMakesSaid : Prop := termMakesRow.holds Try.pinned (OpenSpec.ofChange termMakesSpec)

/-- ITS FALSE NEIGHBOUR: 'it returns false'. Refute it at one input. -/
def termMakesWrong : ChangeSpec := { name := "termMakes", fn := fun _ => fun
  | [d1, d2, d3, d4] => { results := [.lit (.bool false)], args := [d1, d2, d3, d4] }
  | _ => none }
def TermMakesWrongFalsely : Prop := termMakesRow.holds Try.pinned (OpenSpec.ofChange termMakesWrong)

/-- 'plaitlaw3.TermSorts': WHATEVER THE INPUT: true; the input reads as it did. -/
def termSortsSpec : ChangeSpec := { name := "termSorts", fn := fun _ => fun
  | [d1, d2, d3, d4] => { results := [.lit (.bool true)], args := [d1, d2, d3, d4] }
  | _ => none }
def termSortsRow : OpenClaim := { program := "ytjmbicaacplolaa", sum := "608deacf86d590760228f47067db9e43f070e5fc4194ba6d0c1e8a45a50fa2ee", func := "plait/plaitlaw3.TermSorts", spec := "termSorts", plainKeys := false, apart := false }
def TermSortsSaid : Prop := termSortsRow.holds Try.pinned (OpenSpec.ofChange termSortsSpec)

/-- ITS FALSE NEIGHBOUR: 'it returns false'. Refute it at one input. -/
def termSortsWrong : ChangeSpec := { name := "termSorts", fn := fun _ => fun
  | [d1, d2, d3, d4] => { results := [.lit (.bool false)], args := [d1, d2, d3, d4] }
  | _ => none }
def TermSortsWrongFalsely : Prop := termSortsRow.holds Try.pinned (OpenSpec.ofChange termSortsWrong)

/-- 'plaitlaw3.TermOnce': WHATEVER THE INPUT: true; the input reads as it did. -/
def termOnceSpec : ChangeSpec := { name := "termOnce", fn := fun _ => fun
  | [d1, d2] => { results := [.lit (.bool true)], args := [d1, d2] }
  | _ => none }
def termOnceRow : OpenClaim := { program := "ytjmbicaacplolaa", sum := "608deacf86d590760228f47067db9e43f070e5fc4194ba6d0c1e8a45a50fa2ee", func := "plait/plaitlaw3.TermOnce", spec := "termOnce", plainKeys := false, apart := false }
def TermOnceSaid : Prop := termOnceRow.holds Try.pinned (OpenSpec.ofChange termOnceSpec)

/-- ITS FALSE NEIGHBOUR: 'it returns false'. Refute it at one input. -/
def termOnceWrong : ChangeSpec := { name := "termOnce", fn := fun _ => fun
  | [d1, d2] => { results := [.lit (.bool false)], args := [d1, d2] }
  | _ => none }
def TermOnceWrongFalsely : Prop := termOnceRow.holds Try.pinned (OpenSpec.ofChange termOnceWrong)

/-- 'plaitlaw3.TermCones': WHATEVER THE INPUT: true; the input reads as it did. -/
def termConesSpec : ChangeSpec := { name := "termCones", fn := fun _ => fun
  | [d] => { results := [.lit (.bool true)], args := [d] }
  | _ => none }
def termConesRow : OpenClaim := { program := "ytjmbicaacplolaa", sum := "608deacf86d590760228f47067db9e43f070e5fc4194ba6d0c1e8a45a50fa2ee", func := "plait/plaitlaw3.TermCones", spec := "termCones", plainKeys := false, apart := false }
def TermConesSaid : Prop := termConesRow.holds Try.pinned (OpenSpec.ofChange termConesSpec)

/-- ITS FALSE NEIGHBOUR: 'it returns false'. Refute it at one input. -/
def termConesWrong : ChangeSpec := { name := "termCones", fn := fun _ => fun
  | [d] => { results := [.lit (.bool false)], args := [d] }
  | _ => none }
def TermConesWrongFalsely : Prop := termConesRow.holds Try.pinned (OpenSpec.ofChange termConesWrong)

/-- 'plaitlaw3.TermRoom': WHATEVER THE INPUT: true; the input reads as it did. -/
def termRoomSpec : ChangeSpec := { name := "termRoom", fn := fun _ => fun
  | [d1, d2] => { results := [.lit (.bool true)], args := [d1, d2] }
  | _ => none }
def termRoomRow : OpenClaim := { program := "ytjmbicaacplolaa", sum := "608deacf86d590760228f47067db9e43f070e5fc4194ba6d0c1e8a45a50fa2ee", func := "plait/plaitlaw3.TermRoom", spec := "termRoom", plainKeys := false, apart := false }
def TermRoomSaid : Prop := termRoomRow.holds Try.pinned (OpenSpec.ofChange termRoomSpec)

/-- ITS FALSE NEIGHBOUR: 'it returns false'. Refute it at one input. -/
def termRoomWrong : ChangeSpec := { name := "termRoom", fn := fun _ => fun
  | [d1, d2] => { results := [.lit (.bool false)], args := [d1, d2] }
  | _ => none }
def TermRoomWrongFalsely : Prop := termRoomRow.holds Try.pinned (OpenSpec.ofChange termRoomWrong)

/- THE SECOND FORM. 'bulk': how many values and letters a reading holds, each counted each time it is reached (what is shared counts as often as it is met; a slice's spare places count too). A statement '..UptoSaid' is the law's where the arguments, and the package variables that the reading takes, are together of bulk at most 1048576: NARROWER than '..Said'. Prove '..Said' where nothing that the law and all that it calls make is longer than what came in: it says more and counts as full. Else prove '..UptoSaid'. A law counts once. -/
mutual
def uptoBulk {H : Type} : DataW H → Nat
  | .lit (.string bytes) => bytes.length + 1
  | .lit _ => 1
  | .nil => 1
  | .ptr d => uptoBulk d + 1
  | .slice elems spare => uptoBulkAll elems + uptoBulkAll spare + 1
  | .agg parts => uptoBulkAll parts + 1
  | .iface _ d => uptoBulk d + 1
  | .map entries => uptoBulkEntries entries + 1
  | .held _ => 1
def uptoBulkAll {H : Type} : List (DataW H) → Nat
  | [] => 0
  | d :: r => uptoBulk d + uptoBulkAll r
def uptoBulkEntries {H : Type} : List (Lit × DataW H) → Nat
  | [] => 0
  | x :: r => uptoBulkEntry x + uptoBulkEntries r
def uptoBulkEntry {H : Type} : Lit × DataW H → Nat
  | (.string bytes, d) => bytes.length + uptoBulk d + 1
  | (_, d) => uptoBulk d + 1
 end
def uptoSmall : (H : Type) → List (DataW H) → Bool := fun _ ds => decide (uptoBulkAll ds ≤ 1048576)
def OpenSpec.upto (s : _root_.Go.ChangeSpec) : _root_.Go.OpenSpec := { _root_.Go.OpenSpec.ofChange s with cond := some uptoSmall }

/-- 'plaitlaw3.TermMakes', WHERE WHAT IT READS IS OF BULK AT MOST 1048576: true; the input reads as it did. -/
def termMakesUptoRow : OpenClaim := { program := "ytjmbicaacplolaa", sum := "608deacf86d590760228f47067db9e43f070e5fc4194ba6d0c1e8a45a50fa2ee", func := "plait/plaitlaw3.TermMakes", spec := "termMakes", plainKeys := false, apart := false, narrowed := true }
def TermMakesUptoSaid : Prop := termMakesUptoRow.holds Try.pinned (OpenSpec.upto termMakesSpec)

/-- 'plaitlaw3.TermSorts', WHERE WHAT IT READS IS OF BULK AT MOST 1048576: true; the input reads as it did. -/
def termSortsUptoRow : OpenClaim := { program := "ytjmbicaacplolaa", sum := "608deacf86d590760228f47067db9e43f070e5fc4194ba6d0c1e8a45a50fa2ee", func := "plait/plaitlaw3.TermSorts", spec := "termSorts", plainKeys := false, apart := false, narrowed := true }
def TermSortsUptoSaid : Prop := termSortsUptoRow.holds Try.pinned (OpenSpec.upto termSortsSpec)

/-- 'plaitlaw3.TermOnce', WHERE WHAT IT READS IS OF BULK AT MOST 1048576: true; the input reads as it did. -/
def termOnceUptoRow : OpenClaim := { program := "ytjmbicaacplolaa", sum := "608deacf86d590760228f47067db9e43f070e5fc4194ba6d0c1e8a45a50fa2ee", func := "plait/plaitlaw3.TermOnce", spec := "termOnce", plainKeys := false, apart := false, narrowed := true }
def TermOnceUptoSaid : Prop := termOnceUptoRow.holds Try.pinned (OpenSpec.upto termOnceSpec)

/-- 'plaitlaw3.TermCones', WHERE WHAT IT READS IS OF BULK AT MOST 1048576: true; the input reads as it did. -/
def termConesUptoRow : OpenClaim := { program := "ytjmbicaacplolaa", sum := "608deacf86d590760228f47067db9e43f070e5fc4194ba6d0c1e8a45a50fa2ee", func := "plait/plaitlaw3.TermCones", spec := "termCones", plainKeys := false, apart := false, narrowed := true }
def TermConesUptoSaid : Prop := termConesUptoRow.holds Try.pinned (OpenSpec.upto termConesSpec)

/-- 'plaitlaw3.TermRoom', WHERE WHAT IT READS IS OF BULK AT MOST 1048576: true; the input reads as it did. -/
def termRoomUptoRow : OpenClaim := { program := "ytjmbicaacplolaa", sum := "608deacf86d590760228f47067db9e43f070e5fc4194ba6d0c1e8a45a50fa2ee", func := "plait/plaitlaw3.TermRoom", spec := "termRoom", plainKeys := false, apart := false, narrowed := true }
def TermRoomUptoSaid : Prop := termRoomUptoRow.holds Try.pinned (OpenSpec.upto termRoomSpec)

end Rows
end Go.Proofs.Ytjmbicaacplolaa
