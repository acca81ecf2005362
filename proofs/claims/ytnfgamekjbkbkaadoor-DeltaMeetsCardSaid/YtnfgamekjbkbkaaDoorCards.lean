/-
  DERIVED. GIVEN WITH THE SEED: THE CARDS: each row of YtnfgamekjbkbkaaDoorRows.lean that lists a variable, with what it lists TIED to the program's text (the seventh form; the later family's looks); each row that meets fmt, with fmt's text TOLD by the authors' own Lean function (tested against real Go, not proved from fmt's source: count such statements apart). THE CARD IS WHAT COUNTS. Prove the row's statement (the work); the ties are given (YtnfgamekjbkbkaaDoorTie.lean); close each card by the builder's one call (the guide's Derived/Test/ToyasCard.lean, 'card_holds'). Laid BY PROGRAM, IN A SANDBOX (cutbox-door.mjs). By AI agents, Wed Nov 11 2026. No macro, syntax, notation, axiom, sorry.
-/
import Derived.Test.YtnfgamekjbkbkaaDoorRows
import GoSem.ClaimSeven
namespace Go.Proofs.YtnfgamekjbkbkaaDoor
namespace Rows

/-- THE TIED CARD OF 'vigillaw08.RevokeBytes'. -/
def revokeBytesCard : Claim7 := { stood := { row := revokeBytesRow, standIns := [], harness := (true, "ac0c2e16f98839988c7d23655f6698b36d850a4dbffa9e40effc96de5a0483ea"), looks := false }, kinds := [], alts := [], laidByText := true, laidKinds := [.data], laidTests := true, laidLooks := .later }
def RevokeBytesCardSaid : Prop := Claim7.holds Tryd.pinned (.plain (OpenSpec.ofChange revokeBytesSpec)) revokeBytesCard

/-- THE TIED CARD OF 'vigillaw09.DeltaDigests'. -/
def deltaDigestsCard : Claim7 := { stood := { row := deltaDigestsRow, standIns := [], harness := (true, "ac0c2e16f98839988c7d23655f6698b36d850a4dbffa9e40effc96de5a0483ea"), looks := false }, kinds := [], alts := [], laidByText := true, laidKinds := [.data], laidTests := true, laidLooks := .later }
def DeltaDigestsCardSaid : Prop := Claim7.holds Tryd.pinned (.plain (OpenSpec.ofChange deltaDigestsSpec)) deltaDigestsCard

/-- THE TIED CARD OF 'vigillaw09.DeltaAnswers'. -/
def deltaAnswersCard : Claim7 := { stood := { row := deltaAnswersRow, standIns := [], harness := (true, "ac0c2e16f98839988c7d23655f6698b36d850a4dbffa9e40effc96de5a0483ea"), looks := false }, kinds := [], alts := [], laidByText := true, laidKinds := [.data, .data], laidTests := true, laidLooks := .later }
def DeltaAnswersCardSaid : Prop := Claim7.holds Tryd.pinned (.plain (OpenSpec.ofChange deltaAnswersSpec)) deltaAnswersCard

/-- THE TIED CARD OF 'vigillaw09.DeltaMeets'. -/
def deltaMeetsCard : Claim7 := { stood := { row := deltaMeetsRow, standIns := [], harness := (true, "ac0c2e16f98839988c7d23655f6698b36d850a4dbffa9e40effc96de5a0483ea"), looks := false }, kinds := [], alts := [], laidByText := true, laidKinds := [.data, .data], laidTests := true, laidLooks := .later }
def DeltaMeetsCardSaid : Prop := Claim7.holds Tryd.pinned (.plain (OpenSpec.ofChange deltaMeetsSpec)) deltaMeetsCard

/-- THE TIED CARD OF 'vigillaw09.DeltaNil'. -/
def deltaNilCard : Claim7 := { stood := { row := deltaNilRow, standIns := [], harness := (true, "ac0c2e16f98839988c7d23655f6698b36d850a4dbffa9e40effc96de5a0483ea"), looks := false }, kinds := [], alts := [], laidByText := true, laidKinds := [.data, .data], laidTests := true, laidLooks := .later }
def DeltaNilCardSaid : Prop := Claim7.holds Tryd.pinned (.plain (OpenSpec.ofChange deltaNilSpec)) deltaNilCard

/-- THE SECOND FORM's CARD OF 'vigillaw08.RevokeBytes'. -/
def revokeBytesUptoCard : Claim7 := { stood := { row := revokeBytesUptoRow, standIns := [], harness := (true, "ac0c2e16f98839988c7d23655f6698b36d850a4dbffa9e40effc96de5a0483ea"), looks := false }, kinds := [], alts := [], laidByText := true, laidKinds := [.data], laidTests := true, laidLooks := .later }
def RevokeBytesUptoCardSaid : Prop := Claim7.holds Tryd.pinned (.plain (OpenSpec.upto revokeBytesSpec)) revokeBytesUptoCard

/-- THE SECOND FORM's CARD OF 'vigillaw09.DeltaDigests'. -/
def deltaDigestsUptoCard : Claim7 := { stood := { row := deltaDigestsUptoRow, standIns := [], harness := (true, "ac0c2e16f98839988c7d23655f6698b36d850a4dbffa9e40effc96de5a0483ea"), looks := false }, kinds := [], alts := [], laidByText := true, laidKinds := [.data], laidTests := true, laidLooks := .later }
def DeltaDigestsUptoCardSaid : Prop := Claim7.holds Tryd.pinned (.plain (OpenSpec.upto deltaDigestsSpec)) deltaDigestsUptoCard

/-- THE SECOND FORM's CARD OF 'vigillaw09.DeltaAnswers'. -/
def deltaAnswersUptoCard : Claim7 := { stood := { row := deltaAnswersUptoRow, standIns := [], harness := (true, "ac0c2e16f98839988c7d23655f6698b36d850a4dbffa9e40effc96de5a0483ea"), looks := false }, kinds := [], alts := [], laidByText := true, laidKinds := [.data, .data], laidTests := true, laidLooks := .later }
def DeltaAnswersUptoCardSaid : Prop := Claim7.holds Tryd.pinned (.plain (OpenSpec.upto deltaAnswersSpec)) deltaAnswersUptoCard

/-- THE SECOND FORM's CARD OF 'vigillaw09.DeltaMeets'. -/
def deltaMeetsUptoCard : Claim7 := { stood := { row := deltaMeetsUptoRow, standIns := [], harness := (true, "ac0c2e16f98839988c7d23655f6698b36d850a4dbffa9e40effc96de5a0483ea"), looks := false }, kinds := [], alts := [], laidByText := true, laidKinds := [.data, .data], laidTests := true, laidLooks := .later }
def DeltaMeetsUptoCardSaid : Prop := Claim7.holds Tryd.pinned (.plain (OpenSpec.upto deltaMeetsSpec)) deltaMeetsUptoCard

/-- THE SECOND FORM's CARD OF 'vigillaw09.DeltaNil'. -/
def deltaNilUptoCard : Claim7 := { stood := { row := deltaNilUptoRow, standIns := [], harness := (true, "ac0c2e16f98839988c7d23655f6698b36d850a4dbffa9e40effc96de5a0483ea"), looks := false }, kinds := [], alts := [], laidByText := true, laidKinds := [.data, .data], laidTests := true, laidLooks := .later }
def DeltaNilUptoCardSaid : Prop := Claim7.holds Tryd.pinned (.plain (OpenSpec.upto deltaNilSpec)) deltaNilUptoCard
end Rows
end Go.Proofs.YtnfgamekjbkbkaaDoor
