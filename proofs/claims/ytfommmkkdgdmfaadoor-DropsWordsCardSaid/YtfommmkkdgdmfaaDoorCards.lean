/-
  DERIVED. GIVEN WITH THE SEED: THE CARDS: each row of YtfommmkkdgdmfaaDoorRows.lean that lists a variable, with what it lists TIED to the program's text (the seventh form; the later family's looks); each row that meets fmt, with fmt's text TOLD by the authors' own Lean function (tested against real Go, not proved from fmt's source: count such statements apart). THE CARD IS WHAT COUNTS. Prove the row's statement (the work); the ties are given (YtfommmkkdgdmfaaDoorTie.lean); close each card by the builder's one call (the guide's Derived/Test/ToyasCard.lean, 'card_holds'). Laid BY PROGRAM, IN A SANDBOX (cutbox-door.mjs). By AI agents, Wed Nov 11 2026. No macro, syntax, notation, axiom, sorry.
-/
import Derived.Test.YtfommmkkdgdmfaaDoorRows
import GoSem.ClaimSeven
namespace Go.Proofs.YtfommmkkdgdmfaaDoor
namespace Rows

/-- THE TIED CARD OF 'vigillaw13.DropsWords'. -/
def dropsWordsCard : Claim7 := { stood := { row := dropsWordsRow, standIns := [], harness := (true, "94e60d0df52b66e3f0b2f6f01e3ae199de2ad8f575ee43692d035d8cbb519735"), looks := false }, kinds := [], alts := [], laidByText := true, laidKinds := [.data], laidTests := true, laidLooks := .later }
def DropsWordsCardSaid : Prop := Claim7.holds Tryd.pinned (.plain (OpenSpec.ofChange dropsWordsSpec)) dropsWordsCard

/-- THE SECOND FORM's CARD OF 'vigillaw13.DropsWords'. -/
def dropsWordsUptoCard : Claim7 := { stood := { row := dropsWordsUptoRow, standIns := [], harness := (true, "94e60d0df52b66e3f0b2f6f01e3ae199de2ad8f575ee43692d035d8cbb519735"), looks := false }, kinds := [], alts := [], laidByText := true, laidKinds := [.data], laidTests := true, laidLooks := .later }
def DropsWordsUptoCardSaid : Prop := Claim7.holds Tryd.pinned (.plain (OpenSpec.upto dropsWordsSpec)) dropsWordsUptoCard
end Rows
end Go.Proofs.YtfommmkkdgdmfaaDoor
