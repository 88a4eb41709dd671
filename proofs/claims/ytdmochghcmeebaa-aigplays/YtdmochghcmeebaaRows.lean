/-
  No cell of these rows narrows 'for every input' (looked for: loops, veiled, ifaces, maps, wideKeys, modest, calm, conditions, laid).
  DERIVED. THE GIVEN ROWS OF THIS SEAT. 4 by the template 'for every input the law returns true; each argument reads behind the call as it read before'; 0 by the template 'total and deterministic' (their statements: YtdmochghcmeebaaTotals.lean).
  GIVEN WITH THE SEED: the statements are not yours to turn. If you find one false, say at which input.
  Laid BY PROGRAM, IN A SANDBOX (cutbox-rows.mjs): the forced cells as the released guide's own fill.sh prints them over the translation 84f112721c0f8ac4… (all of the seat's roots in one cut). By AI agents, Wed Nov 11 2026. No macro, syntax, notation, axiom, sorry.
-/
import Derived.Test.YtdmochghcmeebaaChecked
import GoSem.Claim
import GoSem.ClaimJoined
import GoSem.ClaimMapViews
import Derived.JoinedTies
import Derived.KernelRfl
namespace Go.Proofs.Ytdmochghcmeebaa
/- THE CELL 'sum', in the pinned program and in every row, IS THE sha256 OF THE DUMP (.gsa) THAT YtdmochghcmeebaaProg.lean LOADS. Nothing in Lean hashes anything: it is a label: what it is worth is what the hold of that sum in a sandbox is worth. -/
noncomputable def Try.pinned : Pinned := { name := "ytdmochghcmeebaa", sum := "84f112721c0f8ac4301ffa0351e27946f89e9e38914f75d96df6ad5d62c0afc4", checked := Try.checked }
namespace Rows
def none {H : Type} : Left H := { results := [], args := [] }

/-- 'plaitlaw8.AigPlays': WHATEVER THE INPUT: true; the input reads as it did. -/
def aigPlaysSpec : ChangeSpec := { name := "aigPlays", fn := fun _ => fun
  | [d1, d2, d3] => { results := [.lit (.bool true)], args := [d1, d2, d3] }
  | _ => none }
def aigPlaysRow : OpenClaim := { program := "ytdmochghcmeebaa", sum := "84f112721c0f8ac4301ffa0351e27946f89e9e38914f75d96df6ad5d62c0afc4", func := "plait/plaitlaw8.AigPlays", spec := "aigPlays", plainKeys := false, apart := false }
def AigPlaysSaid : Prop := aigPlaysRow.holds Try.pinned (OpenSpec.ofChange aigPlaysSpec)

/-- ITS FALSE NEIGHBOUR: 'it returns false'. Refute it at one input. -/
def aigPlaysWrong : ChangeSpec := { name := "aigPlays", fn := fun _ => fun
  | [d1, d2, d3] => { results := [.lit (.bool false)], args := [d1, d2, d3] }
  | _ => none }
def AigPlaysWrongFalsely : Prop := aigPlaysRow.holds Try.pinned (OpenSpec.ofChange aigPlaysWrong)

/-- 'plaitlaw8.AigMeans': WHATEVER THE INPUT: true; the input reads as it did. -/
def aigMeansSpec : ChangeSpec := { name := "aigMeans", fn := fun _ => fun
  | [d] => { results := [.lit (.bool true)], args := [d] }
  | _ => none }
def aigMeansRow : OpenClaim := { program := "ytdmochghcmeebaa", sum := "84f112721c0f8ac4301ffa0351e27946f89e9e38914f75d96df6ad5d62c0afc4", func := "plait/plaitlaw8.AigMeans", spec := "aigMeans", plainKeys := false, apart := false }
def AigMeansSaid : Prop := aigMeansRow.holds Try.pinned (OpenSpec.ofChange aigMeansSpec)

/-- ITS FALSE NEIGHBOUR: 'it returns false'. Refute it at one input. -/
def aigMeansWrong : ChangeSpec := { name := "aigMeans", fn := fun _ => fun
  | [d] => { results := [.lit (.bool false)], args := [d] }
  | _ => none }
def AigMeansWrongFalsely : Prop := aigMeansRow.holds Try.pinned (OpenSpec.ofChange aigMeansWrong)

/-- 'plaitlaw8.AigOnce': WHATEVER THE INPUT: true; the input reads as it did. -/
def aigOnceSpec : ChangeSpec := { name := "aigOnce", fn := fun _ => fun
  | [d1, d2, d3] => { results := [.lit (.bool true)], args := [d1, d2, d3] }
  | _ => none }
def aigOnceRow : OpenClaim := { program := "ytdmochghcmeebaa", sum := "84f112721c0f8ac4301ffa0351e27946f89e9e38914f75d96df6ad5d62c0afc4", func := "plait/plaitlaw8.AigOnce", spec := "aigOnce", plainKeys := false, apart := false }
def AigOnceSaid : Prop := aigOnceRow.holds Try.pinned (OpenSpec.ofChange aigOnceSpec)

/-- ITS FALSE NEIGHBOUR: 'it returns false'. Refute it at one input. -/
def aigOnceWrong : ChangeSpec := { name := "aigOnce", fn := fun _ => fun
  | [d1, d2, d3] => { results := [.lit (.bool false)], args := [d1, d2, d3] }
  | _ => none }
def AigOnceWrongFalsely : Prop := aigOnceRow.holds Try.pinned (OpenSpec.ofChange aigOnceWrong)

/-- 'plaitlaw8.AigTurns': WHATEVER THE INPUT: true; the input reads as it did. -/
def aigTurnsSpec : ChangeSpec := { name := "aigTurns", fn := fun _ => fun
  | [d1, d2, d3, d4] => { results := [.lit (.bool true)], args := [d1, d2, d3, d4] }
  | _ => none }
def aigTurnsRow : OpenClaim := { program := "ytdmochghcmeebaa", sum := "84f112721c0f8ac4301ffa0351e27946f89e9e38914f75d96df6ad5d62c0afc4", func := "plait/plaitlaw8.AigTurns", spec := "aigTurns", plainKeys := false, apart := false }
def AigTurnsSaid : Prop := aigTurnsRow.holds Try.pinned (OpenSpec.ofChange aigTurnsSpec)

/-- ITS FALSE NEIGHBOUR: 'it returns false'. Refute it at one input. -/
def aigTurnsWrong : ChangeSpec := { name := "aigTurns", fn := fun _ => fun
  | [d1, d2, d3, d4] => { results := [.lit (.bool false)], args := [d1, d2, d3, d4] }
  | _ => none }
def AigTurnsWrongFalsely : Prop := aigTurnsRow.holds Try.pinned (OpenSpec.ofChange aigTurnsWrong)

/- THE SECOND FORM. 'bulk': how many values and letters a reading holds, each counted each time it is reached (what is shared counts as often as it is met; a slice's spare places count too). A statement '..UptoSaid' is the law's where the arguments, and the package variables that the reading takes, are together of bulk at most 1048576: NARROWER than '..Said'. Prove '..Said' where nothing that the law and all that it calls make is longer than what came in: it says more and counts as full. Else prove '..UptoSaid'. A law counts once. -/
mutual
def uptoBulk {H : Type} : DataW H → Nat
  | .lit (.string bytes) => bytes.length + 1
  | .lit _ => 1
  | .nil => 1
  | .ptr d => uptoBulk d + 1
  | .slice elems spare => uptoBulkAll elems + uptoBulkAll spare + 1
  | .agg parts => uptoBulkAll parts + 1
  | .iface _ d => uptoBulk d + 1
  | .map entries => uptoBulkEntries entries + 1
  | .held _ => 1
def uptoBulkAll {H : Type} : List (DataW H) → Nat
  | [] => 0
  | d :: r => uptoBulk d + uptoBulkAll r
def uptoBulkEntries {H : Type} : List (Lit × DataW H) → Nat
  | [] => 0
  | x :: r => uptoBulkEntry x + uptoBulkEntries r
def uptoBulkEntry {H : Type} : Lit × DataW H → Nat
  | (.string bytes, d) => bytes.length + uptoBulk d + 1
  | (_, d) => uptoBulk d + 1
 end
def uptoSmall : (H : Type) → List (DataW H) → Bool := fun _ ds => decide (uptoBulkAll ds ≤ 1048576)
def OpenSpec.upto (s : _root_.Go.ChangeSpec) : _root_.Go.OpenSpec := { _root_.Go.OpenSpec.ofChange s with cond := some uptoSmall }

/-- 'plaitlaw8.AigPlays', WHERE WHAT IT READS IS OF BULK AT MOST 1048576: true; the input reads as it did. -/
def aigPlaysUptoRow : OpenClaim := { program := "ytdmochghcmeebaa", sum := "84f112721c0f8ac4301ffa0351e27946f89e9e38914f75d96df6ad5d62c0afc4", func := "plait/plaitlaw8.AigPlays", spec := "aigPlays", plainKeys := false, apart := false, narrowed := true }
def AigPlaysUptoSaid : Prop := aigPlaysUptoRow.holds Try.pinned (OpenSpec.upto aigPlaysSpec)

/-- 'plaitlaw8.AigMeans', WHERE WHAT IT READS IS OF BULK AT MOST 1048576: true; the input reads as it did. -/
def aigMeansUptoRow : OpenClaim := { program := "ytdmochghcmeebaa", sum := "84f112721c0f8ac4301ffa0351e27946f89e9e38914f75d96df6ad5d62c0afc4", func := "plait/plaitlaw8.AigMeans", spec := "aigMeans", plainKeys := false, apart := false, narrowed := true }
def AigMeansUptoSaid : Prop := aigMeansUptoRow.holds Try.pinned (OpenSpec.upto aigMeansSpec)

/-- 'plaitlaw8.AigOnce', WHERE WHAT IT READS IS OF BULK AT MOST 1048576: true; the input reads as it did. -/
def aigOnceUptoRow : OpenClaim := { program := "ytdmochghcmeebaa", sum := "84f112721c0f8ac4301ffa0351e27946f89e9e38914f75d96df6ad5d62c0afc4", func := "plait/plaitlaw8.AigOnce", spec := "aigOnce", plainKeys := false, apart := false, narrowed := true }
def AigOnceUptoSaid : Prop := aigOnceUptoRow.holds Try.pinned (OpenSpec.upto aigOnceSpec)

/-- 'plaitlaw8.AigTurns', WHERE WHAT IT READS IS OF BULK AT MOST 1048576: true; the input reads as it did. -/
def aigTurnsUptoRow : OpenClaim := { program := "ytdmochghcmeebaa", sum := "84f112721c0f8ac4301ffa0351e27946f89e9e38914f75d96df6ad5d62c0afc4", func := "plait/plaitlaw8.AigTurns", spec := "aigTurns", plainKeys := false, apart := false, narrowed := true }
def AigTurnsUptoSaid : Prop := aigTurnsUptoRow.holds Try.pinned (OpenSpec.upto aigTurnsSpec)

end Rows
end Go.Proofs.Ytdmochghcmeebaa
