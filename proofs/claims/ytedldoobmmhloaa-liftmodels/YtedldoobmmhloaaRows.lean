/-
  No cell of these rows narrows 'for every input' (looked for: loops, veiled, ifaces, maps, wideKeys, modest, calm, conditions, laid).
  DERIVED. THE GIVEN ROWS OF THIS SEAT. 2 by the template 'for every input the law returns true; each argument reads behind the call as it read before'; 0 by the template 'total and deterministic' (their statements: YtedldoobmmhloaaTotals.lean).
  GIVEN WITH THE SEED: the statements are not yours to turn. If you find one false, say at which input.
  Laid BY PROGRAM, IN A SANDBOX (cutbox-rows.mjs): the forced cells as the released guide's own fill.sh prints them over the translation 304be94ff6e1dd71… (all of the seat's roots in one cut). By AI agents, Wed Nov 11 2026. No macro, syntax, notation, axiom, sorry.
-/
import Derived.Test.YtedldoobmmhloaaChecked
import GoSem.Claim
import GoSem.ClaimJoined
import GoSem.ClaimMapViews
import Derived.JoinedTies
import Derived.KernelRfl
namespace Go.Proofs.Ytedldoobmmhloaa
/- THE CELL 'sum', in the pinned program and in every row, IS THE sha256 OF THE DUMP (.gsa) THAT YtedldoobmmhloaaProg.lean LOADS. Nothing in Lean hashes anything: it is a label: what it is worth is what the hold of that sum in a sandbox is worth. -/
noncomputable def Try.pinned : Pinned := { name := "ytedldoobmmhloaa", sum := "304be94ff6e1dd71689a78a4fae47077b25581af05e9ac0d9203e6686509907c", checked := Try.checked }
namespace Rows
def none {H : Type} : Left H := { results := [], args := [] }

/-- 'plaitlaw16.LiftValues': WHATEVER THE INPUT: true; the input reads as it did. -/
def liftValuesSpec : ChangeSpec := { name := "liftValues", fn := fun _ => fun
  | [d1, d2, d3] => { results := [.lit (.bool true)], args := [d1, d2, d3] }
  | _ => none }
def liftValuesRow : OpenClaim := { program := "ytedldoobmmhloaa", sum := "304be94ff6e1dd71689a78a4fae47077b25581af05e9ac0d9203e6686509907c", func := "plait/plaitlaw16.LiftValues", spec := "liftValues", plainKeys := false, apart := false }
def LiftValuesSaid : Prop := liftValuesRow.holds Try.pinned (OpenSpec.ofChange liftValuesSpec)

/-- ITS FALSE NEIGHBOUR: 'it returns false'. Refute it at one input. -/
def liftValuesWrong : ChangeSpec := { name := "liftValues", fn := fun _ => fun
  | [d1, d2, d3] => { results := [.lit (.bool false)], args := [d1, d2, d3] }
  | _ => none }
def LiftValuesWrongFalsely : Prop := liftValuesRow.holds Try.pinned (OpenSpec.ofChange liftValuesWrong)

/-- 'plaitlaw16.LiftModels': WHATEVER THE INPUT: true; the input reads as it did. -/
def liftModelsSpec : ChangeSpec := { name := "liftModels", fn := fun _ => fun
  | [d1, d2, d3] => { results := [.lit (.bool true)], args := [d1, d2, d3] }
  | _ => none }
def liftModelsRow : OpenClaim := { program := "ytedldoobmmhloaa", sum := "304be94ff6e1dd71689a78a4fae47077b25581af05e9ac0d9203e6686509907c", func := "plait/plaitlaw16.LiftModels", spec := "liftModels", inPlace := ["math/bits.Sub64", "math/bits.Add64"], unfollowed := true, recurses := true, plainKeys := false, apart := false }
def LiftModelsSaid : Prop := liftModelsRow.holds Try.pinned (OpenSpec.ofChange liftModelsSpec)

/-- ITS FALSE NEIGHBOUR: 'it returns false'. Refute it at one input. -/
def liftModelsWrong : ChangeSpec := { name := "liftModels", fn := fun _ => fun
  | [d1, d2, d3] => { results := [.lit (.bool false)], args := [d1, d2, d3] }
  | _ => none }
def LiftModelsWrongFalsely : Prop := liftModelsRow.holds Try.pinned (OpenSpec.ofChange liftModelsWrong)

/- THE SECOND FORM. 'bulk': how many values and letters a reading holds, each counted each time it is reached (what is shared counts as often as it is met; a slice's spare places count too). A statement '..UptoSaid' is the law's where the arguments, and the package variables that the reading takes, are together of bulk at most 1048576: NARROWER than '..Said'. Prove '..Said' where nothing that the law and all that it calls make is longer than what came in: it says more and counts as full. Else prove '..UptoSaid'. A law counts once. -/
mutual
def uptoBulk {H : Type} : DataW H → Nat
  | .lit (.string bytes) => bytes.length + 1
  | .lit _ => 1
  | .nil => 1
  | .ptr d => uptoBulk d + 1
  | .slice elems spare => uptoBulkAll elems + uptoBulkAll spare + 1
  | .agg parts => uptoBulkAll parts + 1
  | .iface _ d => uptoBulk d + 1
  | .map entries => uptoBulkEntries entries + 1
  | .held _ => 1
def uptoBulkAll {H : Type} : List (DataW H) → Nat
  | [] => 0
  | d :: r => uptoBulk d + uptoBulkAll r
def uptoBulkEntries {H : Type} : List (Lit × DataW H) → Nat
  | [] => 0
  | x :: r => uptoBulkEntry x + uptoBulkEntries r
def uptoBulkEntry {H : Type} : Lit × DataW H → Nat
  | (.string bytes, d) => bytes.length + uptoBulk d + 1
  | (_, d) => uptoBulk d + 1
 end
def uptoSmall : (H : Type) → List (DataW H) → Bool := fun _ ds => decide (uptoBulkAll ds ≤ 1048576)
def OpenSpec.upto (s : _root_.Go.ChangeSpec) : _root_.Go.OpenSpec := { _root_.Go.OpenSpec.ofChange s with cond := some uptoSmall }

/-- 'plaitlaw16.LiftValues', WHERE WHAT IT READS IS OF BULK AT MOST 1048576: true; the input reads as it did. -/
def liftValuesUptoRow : OpenClaim := { program := "ytedldoobmmhloaa", sum := "304be94ff6e1dd71689a78a4fae47077b25581af05e9ac0d9203e6686509907c", func := "plait/plaitlaw16.LiftValues", spec := "liftValues", plainKeys := false, apart := false, narrowed := true }
def LiftValuesUptoSaid : Prop := liftValuesUptoRow.holds Try.pinned (OpenSpec.upto liftValuesSpec)

/-- 'plaitlaw16.LiftModels', WHERE WHAT IT READS IS OF BULK AT MOST 1048576: true; the input reads as it did. -/
def liftModelsUptoRow : OpenClaim := { program := "ytedldoobmmhloaa", sum := "304be94ff6e1dd71689a78a4fae47077b25581af05e9ac0d9203e6686509907c", func := "plait/plaitlaw16.LiftModels", spec := "liftModels", inPlace := ["math/bits.Sub64", "math/bits.Add64"], unfollowed := true, recurses := true, plainKeys := false, apart := false, narrowed := true }
def LiftModelsUptoSaid : Prop := liftModelsUptoRow.holds Try.pinned (OpenSpec.upto liftModelsSpec)

end Rows
end Go.Proofs.Ytedldoobmmhloaa
