/-
  DERIVED. GIVEN WITH THE SEED: THE CARDS: each row of YtohfjpahdoodgaaDoorRows.lean that lists a variable, with what it lists TIED to the program's text (the seventh form; the later family's looks); each row that meets fmt, with fmt's text TOLD by the authors' own Lean function (tested against real Go, not proved from fmt's source: count such statements apart). THE CARD IS WHAT COUNTS. Prove the row's statement (the work); the ties are given (YtohfjpahdoodgaaDoorTie.lean); close each card by the builder's one call (the guide's Derived/Test/ToyasCard.lean, 'card_holds'). Laid BY PROGRAM, IN A SANDBOX (cutbox-door.mjs). By AI agents, Wed Nov 11 2026. No macro, syntax, notation, axiom, sorry.
-/
import Derived.Test.YtohfjpahdoodgaaDoorRows
import GoSem.ClaimSeven
namespace Go.Proofs.YtohfjpahdoodgaaDoor
namespace Rows

/-- THE TIED CARD OF 'plaitlaw14.DdMeans'. -/
def ddMeansCard : Claim7 := { stood := { row := ddMeansRow, standIns := [], harness := (true, "b11818b77688078cf74564618742b05c1b018024e9692c0525f5fdf07cb597c6"), looks := false }, kinds := [], alts := [], laidByText := true, laidKinds := [.data, .data, .data], laidTests := true, laidLooks := .later }
def DdMeansCardSaid : Prop := Claim7.holds Tryd.pinned (.plain (OpenSpec.ofChange ddMeansSpec)) ddMeansCard

/-- THE TIED CARD OF 'plaitlaw14.DdOnce'. -/
def ddOnceCard : Claim7 := { stood := { row := ddOnceRow, standIns := [], harness := (true, "b11818b77688078cf74564618742b05c1b018024e9692c0525f5fdf07cb597c6"), looks := false }, kinds := [], alts := [], laidByText := true, laidKinds := [.data, .data, .data], laidTests := true, laidLooks := .later }
def DdOnceCardSaid : Prop := Claim7.holds Tryd.pinned (.plain (OpenSpec.ofChange ddOnceSpec)) ddOnceCard

/-- THE TIED CARD OF 'plaitlaw14.DdPins'. -/
def ddPinsCard : Claim7 := { stood := { row := ddPinsRow, standIns := [], harness := (true, "b11818b77688078cf74564618742b05c1b018024e9692c0525f5fdf07cb597c6"), looks := false }, kinds := [], alts := [], laidByText := true, laidKinds := [.data, .data, .data], laidTests := true, laidLooks := .later }
def DdPinsCardSaid : Prop := Claim7.holds Tryd.pinned (.plain (OpenSpec.ofChange ddPinsSpec)) ddPinsCard

/-- THE TIED CARD OF 'plaitlaw14.DdLaws'. -/
def ddLawsCard : Claim7 := { stood := { row := ddLawsRow, standIns := [], harness := (true, "b11818b77688078cf74564618742b05c1b018024e9692c0525f5fdf07cb597c6"), looks := false }, kinds := [], alts := [], laidByText := true, laidKinds := [.data, .data, .data], laidTests := true, laidLooks := .later }
def DdLawsCardSaid : Prop := Claim7.holds Tryd.pinned (.plain (OpenSpec.ofChange ddLawsSpec)) ddLawsCard

/-- THE TIED CARD OF 'plaitlaw14.DdWide'. -/
def ddWideCard : Claim7 := { stood := { row := ddWideRow, standIns := [], harness := (true, "b11818b77688078cf74564618742b05c1b018024e9692c0525f5fdf07cb597c6"), looks := false }, kinds := [], alts := [], laidByText := true, laidKinds := [.data, .data, .data], laidTests := true, laidLooks := .later }
def DdWideCardSaid : Prop := Claim7.holds Tryd.pinned (.plain (OpenSpec.ofChange ddWideSpec)) ddWideCard

/-- THE SECOND FORM's CARD OF 'plaitlaw14.DdMeans'. -/
def ddMeansUptoCard : Claim7 := { stood := { row := ddMeansUptoRow, standIns := [], harness := (true, "b11818b77688078cf74564618742b05c1b018024e9692c0525f5fdf07cb597c6"), looks := false }, kinds := [], alts := [], laidByText := true, laidKinds := [.data, .data, .data], laidTests := true, laidLooks := .later }
def DdMeansUptoCardSaid : Prop := Claim7.holds Tryd.pinned (.plain (OpenSpec.upto ddMeansSpec)) ddMeansUptoCard

/-- THE SECOND FORM's CARD OF 'plaitlaw14.DdOnce'. -/
def ddOnceUptoCard : Claim7 := { stood := { row := ddOnceUptoRow, standIns := [], harness := (true, "b11818b77688078cf74564618742b05c1b018024e9692c0525f5fdf07cb597c6"), looks := false }, kinds := [], alts := [], laidByText := true, laidKinds := [.data, .data, .data], laidTests := true, laidLooks := .later }
def DdOnceUptoCardSaid : Prop := Claim7.holds Tryd.pinned (.plain (OpenSpec.upto ddOnceSpec)) ddOnceUptoCard

/-- THE SECOND FORM's CARD OF 'plaitlaw14.DdPins'. -/
def ddPinsUptoCard : Claim7 := { stood := { row := ddPinsUptoRow, standIns := [], harness := (true, "b11818b77688078cf74564618742b05c1b018024e9692c0525f5fdf07cb597c6"), looks := false }, kinds := [], alts := [], laidByText := true, laidKinds := [.data, .data, .data], laidTests := true, laidLooks := .later }
def DdPinsUptoCardSaid : Prop := Claim7.holds Tryd.pinned (.plain (OpenSpec.upto ddPinsSpec)) ddPinsUptoCard

/-- THE SECOND FORM's CARD OF 'plaitlaw14.DdLaws'. -/
def ddLawsUptoCard : Claim7 := { stood := { row := ddLawsUptoRow, standIns := [], harness := (true, "b11818b77688078cf74564618742b05c1b018024e9692c0525f5fdf07cb597c6"), looks := false }, kinds := [], alts := [], laidByText := true, laidKinds := [.data, .data, .data], laidTests := true, laidLooks := .later }
def DdLawsUptoCardSaid : Prop := Claim7.holds Tryd.pinned (.plain (OpenSpec.upto ddLawsSpec)) ddLawsUptoCard

/-- THE SECOND FORM's CARD OF 'plaitlaw14.DdWide'. -/
def ddWideUptoCard : Claim7 := { stood := { row := ddWideUptoRow, standIns := [], harness := (true, "b11818b77688078cf74564618742b05c1b018024e9692c0525f5fdf07cb597c6"), looks := false }, kinds := [], alts := [], laidByText := true, laidKinds := [.data, .data, .data], laidTests := true, laidLooks := .later }
def DdWideUptoCardSaid : Prop := Claim7.holds Tryd.pinned (.plain (OpenSpec.upto ddWideSpec)) ddWideUptoCard
end Rows
end Go.Proofs.YtohfjpahdoodgaaDoor
