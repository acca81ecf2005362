/-
  DERIVED. GIVEN WITH THE SEED: THE CARDS: each row of YtiengbmnfbbgoaaDoorRows.lean that lists a variable, with what it lists TIED to the program's text (the seventh form; the later family's looks); each row that meets fmt, with fmt's text TOLD by the authors' own Lean function (tested against real Go, not proved from fmt's source: count such statements apart). THE CARD IS WHAT COUNTS. Prove the row's statement (the work); the ties are given (YtiengbmnfbbgoaaDoorTie.lean); close each card by the builder's one call (the guide's Derived/Test/ToyasCard.lean, 'card_holds'). Laid BY PROGRAM, IN A SANDBOX (cutbox-door.mjs). By AI agents, Wed Nov 11 2026. No macro, syntax, notation, axiom, sorry.
-/
import Derived.Test.YtiengbmnfbbgoaaDoorRows
import GoSem.ClaimSeven
namespace Go.Proofs.YtiengbmnfbbgoaaDoor
namespace Rows

/-- THE TIED CARD OF 'vigillaw06.TokenMakes'. -/
def tokenMakesCard : Claim7 := { stood := { row := tokenMakesRow, standIns := [], harness := (true, "731caafd7c766cf074aa4eed222f043978e3e12c485905f1094aaa3e1d66b7ad"), looks := false }, kinds := [], alts := [], laidByText := true, laidKinds := [.data], laidTests := true, laidLooks := .later }
def TokenMakesCardSaid : Prop := Claim7.holds Tryd.pinned (.plain (OpenSpec.ofChange tokenMakesSpec)) tokenMakesCard

/-- THE TIED CARD OF 'vigillaw06.TokenReads'. -/
def tokenReadsCard : Claim7 := { stood := { row := tokenReadsRow, standIns := [], harness := (true, "731caafd7c766cf074aa4eed222f043978e3e12c485905f1094aaa3e1d66b7ad"), looks := false }, kinds := [], alts := [], laidByText := true, laidKinds := [.data], laidTests := true, laidLooks := .later }
def TokenReadsCardSaid : Prop := Claim7.holds Tryd.pinned (.plain (OpenSpec.ofChange tokenReadsSpec)) tokenReadsCard

/-- THE TIED CARD OF 'vigillaw06.TokenProves'. -/
def tokenProvesCard : Claim7 := { stood := { row := tokenProvesRow, standIns := [], harness := (true, "731caafd7c766cf074aa4eed222f043978e3e12c485905f1094aaa3e1d66b7ad"), looks := false }, kinds := [], alts := [], laidByText := true, laidKinds := [.data], laidTests := true, laidLooks := .later }
def TokenProvesCardSaid : Prop := Claim7.holds Tryd.pinned (.plain (OpenSpec.ofChange tokenProvesSpec)) tokenProvesCard

/-- THE TIED CARD OF 'vigillaw06.TokenIssues'. -/
def tokenIssuesCard : Claim7 := { stood := { row := tokenIssuesRow, standIns := [], harness := (true, "731caafd7c766cf074aa4eed222f043978e3e12c485905f1094aaa3e1d66b7ad"), looks := false }, kinds := [], alts := [], laidByText := true, laidKinds := [.data], laidTests := true, laidLooks := .later }
def TokenIssuesCardSaid : Prop := Claim7.holds Tryd.pinned (.plain (OpenSpec.ofChange tokenIssuesSpec)) tokenIssuesCard

/-- THE TIED CARD OF 'vigillaw06.TokenFull'. -/
def tokenFullCard : Claim7 := { stood := { row := tokenFullRow, standIns := [], harness := (true, "731caafd7c766cf074aa4eed222f043978e3e12c485905f1094aaa3e1d66b7ad"), looks := false }, kinds := [], alts := [], laidByText := true, laidKinds := [.data], laidTests := true, laidLooks := .later }
def TokenFullCardSaid : Prop := Claim7.holds Tryd.pinned (.plain (OpenSpec.ofChange tokenFullSpec)) tokenFullCard

/-- THE SECOND FORM's CARD OF 'vigillaw06.TokenMakes'. -/
def tokenMakesUptoCard : Claim7 := { stood := { row := tokenMakesUptoRow, standIns := [], harness := (true, "731caafd7c766cf074aa4eed222f043978e3e12c485905f1094aaa3e1d66b7ad"), looks := false }, kinds := [], alts := [], laidByText := true, laidKinds := [.data], laidTests := true, laidLooks := .later }
def TokenMakesUptoCardSaid : Prop := Claim7.holds Tryd.pinned (.plain (OpenSpec.upto tokenMakesSpec)) tokenMakesUptoCard

/-- THE SECOND FORM's CARD OF 'vigillaw06.TokenReads'. -/
def tokenReadsUptoCard : Claim7 := { stood := { row := tokenReadsUptoRow, standIns := [], harness := (true, "731caafd7c766cf074aa4eed222f043978e3e12c485905f1094aaa3e1d66b7ad"), looks := false }, kinds := [], alts := [], laidByText := true, laidKinds := [.data], laidTests := true, laidLooks := .later }
def TokenReadsUptoCardSaid : Prop := Claim7.holds Tryd.pinned (.plain (OpenSpec.upto tokenReadsSpec)) tokenReadsUptoCard

/-- THE SECOND FORM's CARD OF 'vigillaw06.TokenProves'. -/
def tokenProvesUptoCard : Claim7 := { stood := { row := tokenProvesUptoRow, standIns := [], harness := (true, "731caafd7c766cf074aa4eed222f043978e3e12c485905f1094aaa3e1d66b7ad"), looks := false }, kinds := [], alts := [], laidByText := true, laidKinds := [.data], laidTests := true, laidLooks := .later }
def TokenProvesUptoCardSaid : Prop := Claim7.holds Tryd.pinned (.plain (OpenSpec.upto tokenProvesSpec)) tokenProvesUptoCard

/-- THE SECOND FORM's CARD OF 'vigillaw06.TokenIssues'. -/
def tokenIssuesUptoCard : Claim7 := { stood := { row := tokenIssuesUptoRow, standIns := [], harness := (true, "731caafd7c766cf074aa4eed222f043978e3e12c485905f1094aaa3e1d66b7ad"), looks := false }, kinds := [], alts := [], laidByText := true, laidKinds := [.data], laidTests := true, laidLooks := .later }
def TokenIssuesUptoCardSaid : Prop := Claim7.holds Tryd.pinned (.plain (OpenSpec.upto tokenIssuesSpec)) tokenIssuesUptoCard

/-- THE SECOND FORM's CARD OF 'vigillaw06.TokenFull'. -/
def tokenFullUptoCard : Claim7 := { stood := { row := tokenFullUptoRow, standIns := [], harness := (true, "731caafd7c766cf074aa4eed222f043978e3e12c485905f1094aaa3e1d66b7ad"), looks := false }, kinds := [], alts := [], laidByText := true, laidKinds := [.data], laidTests := true, laidLooks := .later }
def TokenFullUptoCardSaid : Prop := Claim7.holds Tryd.pinned (.plain (OpenSpec.upto tokenFullSpec)) tokenFullUptoCard
end Rows
end Go.Proofs.YtiengbmnfbbgoaaDoor
