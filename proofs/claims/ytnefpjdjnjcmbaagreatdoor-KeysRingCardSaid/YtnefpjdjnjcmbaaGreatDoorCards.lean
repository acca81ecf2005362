/-
  DERIVED. GIVEN WITH THE SEED: THE CARDS: each row of YtnefpjdjnjcmbaaGreatDoorRows.lean that lists a variable, with what it lists TIED to the program's text (the seventh form; the later family's looks); each row that meets fmt, with fmt's text TOLD by the authors' own Lean function (tested against real Go, not proved from fmt's source: count such statements apart). THE CARD IS WHAT COUNTS. Prove the row's statement (the work); the ties are given (YtnefpjdjnjcmbaaGreatDoorTie.lean); close each card by the builder's one call (the guide's Derived/Test/ToyasCard.lean, 'card_holds'). Laid BY PROGRAM, IN A SANDBOX (cutbox-door.mjs). By AI agents, Wed Nov 11 2026. No macro, syntax, notation, axiom, sorry.
-/
import Derived.Test.YtnefpjdjnjcmbaaGreatDoorRows
import GoSem.ClaimSeven
namespace Go.Proofs.YtnefpjdjnjcmbaaGreatDoor
namespace Rows

/-- THE TIED CARD OF 'vigillaw07.KeysRing'. -/
def keysRingCard : Claim7 := { stood := { row := keysRingRow, standIns := [], harness := (true, "7e9200114f63b29a4012c447c8f2bc79cb0d84a5f90c7243961e7ba6dab8ff52"), looks := false }, kinds := [], alts := [], laidByText := true, laidKinds := [.data], laidTests := true, laidLooks := .later }
def KeysRingCardSaid : Prop := Claim7.holds Tryz.pinned (.plain (OpenSpec.ofChange keysRingSpec)) keysRingCard

/-- THE SECOND FORM's CARD OF 'vigillaw07.KeysRing'. -/
def keysRingUptoCard : Claim7 := { stood := { row := keysRingUptoRow, standIns := [], harness := (true, "7e9200114f63b29a4012c447c8f2bc79cb0d84a5f90c7243961e7ba6dab8ff52"), looks := false }, kinds := [], alts := [], laidByText := true, laidKinds := [.data], laidTests := true, laidLooks := .later }
def KeysRingUptoCardSaid : Prop := Claim7.holds Tryz.pinned (.plain (OpenSpec.upto keysRingSpec)) keysRingUptoCard
end Rows
end Go.Proofs.YtnefpjdjnjcmbaaGreatDoor
