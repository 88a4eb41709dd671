/-
  DERIVED. GIVEN WITH THE SEED: THE CARDS: each row of YtohfjpahdoodgaaGreatDoorRows.lean that lists a variable, with what it lists TIED to the program's text (the seventh form; the later family's looks); each row that meets fmt, with fmt's text TOLD by the authors' own Lean function (tested against real Go, not proved from fmt's source: count such statements apart). THE CARD IS WHAT COUNTS. Prove the row's statement (the work); the ties are given (YtohfjpahdoodgaaGreatDoorTie.lean); close each card by the builder's one call (the guide's Derived/Test/ToyasCard.lean, 'card_holds'). Laid BY PROGRAM, IN A SANDBOX (cutbox-door.mjs). By AI agents, Wed Nov 11 2026. No macro, syntax, notation, axiom, sorry.
-/
import Derived.Test.YtohfjpahdoodgaaGreatDoorRows
import GoSem.ClaimSeven
namespace Go.Proofs.YtohfjpahdoodgaaGreatDoor
namespace Rows

/-- THE TIED CARD OF 'plaitlaw14.DdCounts'. -/
def ddCountsCard : Claim7 := { stood := { row := ddCountsRow, standIns := [], harness := (true, "6b3e088bfb773ab9c2d417c9dada821f756ed4e23b69ac6b727492b1439628e3"), looks := false }, kinds := [], alts := [], laidByText := true, laidKinds := [.data, .data, .data], laidTests := true, laidLooks := .later }
def DdCountsCardSaid : Prop := Claim7.holds Tryz.pinned (.plain (OpenSpec.ofChange ddCountsSpec)) ddCountsCard

/-- THE SECOND FORM's CARD OF 'plaitlaw14.DdCounts'. -/
def ddCountsUptoCard : Claim7 := { stood := { row := ddCountsUptoRow, standIns := [], harness := (true, "6b3e088bfb773ab9c2d417c9dada821f756ed4e23b69ac6b727492b1439628e3"), looks := false }, kinds := [], alts := [], laidByText := true, laidKinds := [.data, .data, .data], laidTests := true, laidLooks := .later }
def DdCountsUptoCardSaid : Prop := Claim7.holds Tryz.pinned (.plain (OpenSpec.upto ddCountsSpec)) ddCountsUptoCard
end Rows
end Go.Proofs.YtohfjpahdoodgaaGreatDoor
