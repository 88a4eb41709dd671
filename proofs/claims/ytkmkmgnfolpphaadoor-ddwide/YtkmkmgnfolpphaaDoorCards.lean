/-
  DERIVED. GIVEN WITH THE SEED: THE CARDS: each row of YtkmkmgnfolpphaaDoorRows.lean that lists a variable, with what it lists TIED to the program's text (the seventh form; the later family's looks); each row that meets fmt, with fmt's text TOLD by the authors' own Lean function (tested against real Go, not proved from fmt's source: count such statements apart). THE CARD IS WHAT COUNTS. Prove the row's statement (the work); the ties are given (YtkmkmgnfolpphaaDoorTie.lean); close each card by the builder's one call (the guide's Derived/Test/ToyasCard.lean, 'card_holds'). Laid BY PROGRAM, IN A SANDBOX (cutbox-door.mjs). By AI agents, Wed Nov 11 2026. No macro, syntax, notation, axiom, sorry.
-/
import Derived.Test.YtkmkmgnfolpphaaDoorRows
import GoSem.ClaimSeven
namespace Go.Proofs.YtkmkmgnfolpphaaDoor
namespace Rows

/-- THE TIED CARD OF 'plaitlaw14.DdMeans'. -/
def ddMeansCard : Claim7 := { stood := { row := ddMeansRow, standIns := [], harness := (true, "381ecfd18f6d2707487bcad81edcfbfa5ce11400f21b074768f13c9d042a7a5b"), looks := false }, kinds := [], alts := [], laidByText := true, laidKinds := [.data, .data, .data], laidTests := true, laidLooks := .later }
def DdMeansCardSaid : Prop := Claim7.holds Tryd.pinned (.plain (OpenSpec.ofChange ddMeansSpec)) ddMeansCard

/-- THE TIED CARD OF 'plaitlaw14.DdWide'. -/
def ddWideCard : Claim7 := { stood := { row := ddWideRow, standIns := [], harness := (true, "381ecfd18f6d2707487bcad81edcfbfa5ce11400f21b074768f13c9d042a7a5b"), looks := false }, kinds := [], alts := [], laidByText := true, laidKinds := [.data, .data, .data], laidTests := true, laidLooks := .later }
def DdWideCardSaid : Prop := Claim7.holds Tryd.pinned (.plain (OpenSpec.ofChange ddWideSpec)) ddWideCard

/-- THE SECOND FORM's CARD OF 'plaitlaw14.DdMeans'. -/
def ddMeansUptoCard : Claim7 := { stood := { row := ddMeansUptoRow, standIns := [], harness := (true, "381ecfd18f6d2707487bcad81edcfbfa5ce11400f21b074768f13c9d042a7a5b"), looks := false }, kinds := [], alts := [], laidByText := true, laidKinds := [.data, .data, .data], laidTests := true, laidLooks := .later }
def DdMeansUptoCardSaid : Prop := Claim7.holds Tryd.pinned (.plain (OpenSpec.upto ddMeansSpec)) ddMeansUptoCard

/-- THE SECOND FORM's CARD OF 'plaitlaw14.DdWide'. -/
def ddWideUptoCard : Claim7 := { stood := { row := ddWideUptoRow, standIns := [], harness := (true, "381ecfd18f6d2707487bcad81edcfbfa5ce11400f21b074768f13c9d042a7a5b"), looks := false }, kinds := [], alts := [], laidByText := true, laidKinds := [.data, .data, .data], laidTests := true, laidLooks := .later }
def DdWideUptoCardSaid : Prop := Claim7.holds Tryd.pinned (.plain (OpenSpec.upto ddWideSpec)) ddWideUptoCard
end Rows
end Go.Proofs.YtkmkmgnfolpphaaDoor
