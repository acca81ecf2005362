/-
  DERIVED. GIVEN WITH THE SEED: THE CARDS: each row of YtmfhdhggpepbbaaDoorRows.lean that lists a variable, with what it lists TIED to the program's text (the seventh form; the later family's looks); each row that meets fmt, with fmt's text TOLD by the authors' own Lean function (tested against real Go, not proved from fmt's source: count such statements apart). THE CARD IS WHAT COUNTS. Prove the row's statement (the work); the ties are given (YtmfhdhggpepbbaaDoorTie.lean); close each card by the builder's one call (the guide's Derived/Test/ToyasCard.lean, 'card_holds'). Laid BY PROGRAM, IN A SANDBOX (cutbox-door.mjs). By AI agents, Wed Nov 11 2026. No macro, syntax, notation, axiom, sorry.
-/
import Derived.Test.YtmfhdhggpepbbaaDoorRows
import GoSem.ClaimSeven
namespace Go.Proofs.YtmfhdhggpepbbaaDoor
namespace Rows

/-- THE TIED CARD OF 'vigillaw08.RevokePlays'. -/
def revokePlaysCard : Claim7 := { stood := { row := revokePlaysRow, standIns := [], harness := (true, "af03d54d1f440e873e588b79c22222c6ecdddc3ab10cc1fa15ab7789035fb68f"), looks := false }, kinds := [], alts := [], laidByText := true, laidKinds := [.data, .data], laidTests := true, laidLooks := .later }
def RevokePlaysCardSaid : Prop := Claim7.holds Tryd.pinned (.plain (OpenSpec.ofChange revokePlaysSpec)) revokePlaysCard

/-- THE TIED CARD OF 'vigillaw08.RevokeSince'. -/
def revokeSinceCard : Claim7 := { stood := { row := revokeSinceRow, standIns := [], harness := (true, "af03d54d1f440e873e588b79c22222c6ecdddc3ab10cc1fa15ab7789035fb68f"), looks := false }, kinds := [], alts := [], laidByText := true, laidKinds := [.data, .data], laidTests := true, laidLooks := .later }
def RevokeSinceCardSaid : Prop := Claim7.holds Tryd.pinned (.plain (OpenSpec.ofChange revokeSinceSpec)) revokeSinceCard

/-- THE TIED CARD OF 'vigillaw08.RevokeMerges'. -/
def revokeMergesCard : Claim7 := { stood := { row := revokeMergesRow, standIns := [], harness := (true, "af03d54d1f440e873e588b79c22222c6ecdddc3ab10cc1fa15ab7789035fb68f"), looks := false }, kinds := [], alts := [], laidByText := true, laidKinds := [.data, .data], laidTests := true, laidLooks := .later }
def RevokeMergesCardSaid : Prop := Claim7.holds Tryd.pinned (.plain (OpenSpec.ofChange revokeMergesSpec)) revokeMergesCard

/-- THE TIED CARD OF 'vigillaw08.RevokeBytes'. -/
def revokeBytesCard : Claim7 := { stood := { row := revokeBytesRow, standIns := [], harness := (true, "af03d54d1f440e873e588b79c22222c6ecdddc3ab10cc1fa15ab7789035fb68f"), looks := false }, kinds := [], alts := [], laidByText := true, laidKinds := [.data], laidTests := true, laidLooks := .later }
def RevokeBytesCardSaid : Prop := Claim7.holds Tryd.pinned (.plain (OpenSpec.ofChange revokeBytesSpec)) revokeBytesCard

/-- THE TIED CARD OF 'vigillaw08.RevokeNil'. -/
def revokeNilCard : Claim7 := { stood := { row := revokeNilRow, standIns := [], harness := (true, "af03d54d1f440e873e588b79c22222c6ecdddc3ab10cc1fa15ab7789035fb68f"), looks := false }, kinds := [], alts := [], laidByText := true, laidKinds := [.data, .data], laidTests := true, laidLooks := .later }
def RevokeNilCardSaid : Prop := Claim7.holds Tryd.pinned (.plain (OpenSpec.ofChange revokeNilSpec)) revokeNilCard

/-- THE TIED CARD OF 'vigillaw08.RevokeGrows'. -/
def revokeGrowsCard : Claim7 := { stood := { row := revokeGrowsRow, standIns := [], harness := (true, "af03d54d1f440e873e588b79c22222c6ecdddc3ab10cc1fa15ab7789035fb68f"), looks := false }, kinds := [], alts := [], laidByText := true, laidKinds := [.data], laidTests := true, laidLooks := .later }
def RevokeGrowsCardSaid : Prop := Claim7.holds Tryd.pinned (.plain (OpenSpec.ofChange revokeGrowsSpec)) revokeGrowsCard

/-- THE SECOND FORM's CARD OF 'vigillaw08.RevokePlays'. -/
def revokePlaysUptoCard : Claim7 := { stood := { row := revokePlaysUptoRow, standIns := [], harness := (true, "af03d54d1f440e873e588b79c22222c6ecdddc3ab10cc1fa15ab7789035fb68f"), looks := false }, kinds := [], alts := [], laidByText := true, laidKinds := [.data, .data], laidTests := true, laidLooks := .later }
def RevokePlaysUptoCardSaid : Prop := Claim7.holds Tryd.pinned (.plain (OpenSpec.upto revokePlaysSpec)) revokePlaysUptoCard

/-- THE SECOND FORM's CARD OF 'vigillaw08.RevokeSince'. -/
def revokeSinceUptoCard : Claim7 := { stood := { row := revokeSinceUptoRow, standIns := [], harness := (true, "af03d54d1f440e873e588b79c22222c6ecdddc3ab10cc1fa15ab7789035fb68f"), looks := false }, kinds := [], alts := [], laidByText := true, laidKinds := [.data, .data], laidTests := true, laidLooks := .later }
def RevokeSinceUptoCardSaid : Prop := Claim7.holds Tryd.pinned (.plain (OpenSpec.upto revokeSinceSpec)) revokeSinceUptoCard

/-- THE SECOND FORM's CARD OF 'vigillaw08.RevokeMerges'. -/
def revokeMergesUptoCard : Claim7 := { stood := { row := revokeMergesUptoRow, standIns := [], harness := (true, "af03d54d1f440e873e588b79c22222c6ecdddc3ab10cc1fa15ab7789035fb68f"), looks := false }, kinds := [], alts := [], laidByText := true, laidKinds := [.data, .data], laidTests := true, laidLooks := .later }
def RevokeMergesUptoCardSaid : Prop := Claim7.holds Tryd.pinned (.plain (OpenSpec.upto revokeMergesSpec)) revokeMergesUptoCard

/-- THE SECOND FORM's CARD OF 'vigillaw08.RevokeBytes'. -/
def revokeBytesUptoCard : Claim7 := { stood := { row := revokeBytesUptoRow, standIns := [], harness := (true, "af03d54d1f440e873e588b79c22222c6ecdddc3ab10cc1fa15ab7789035fb68f"), looks := false }, kinds := [], alts := [], laidByText := true, laidKinds := [.data], laidTests := true, laidLooks := .later }
def RevokeBytesUptoCardSaid : Prop := Claim7.holds Tryd.pinned (.plain (OpenSpec.upto revokeBytesSpec)) revokeBytesUptoCard

/-- THE SECOND FORM's CARD OF 'vigillaw08.RevokeNil'. -/
def revokeNilUptoCard : Claim7 := { stood := { row := revokeNilUptoRow, standIns := [], harness := (true, "af03d54d1f440e873e588b79c22222c6ecdddc3ab10cc1fa15ab7789035fb68f"), looks := false }, kinds := [], alts := [], laidByText := true, laidKinds := [.data, .data], laidTests := true, laidLooks := .later }
def RevokeNilUptoCardSaid : Prop := Claim7.holds Tryd.pinned (.plain (OpenSpec.upto revokeNilSpec)) revokeNilUptoCard

/-- THE SECOND FORM's CARD OF 'vigillaw08.RevokeGrows'. -/
def revokeGrowsUptoCard : Claim7 := { stood := { row := revokeGrowsUptoRow, standIns := [], harness := (true, "af03d54d1f440e873e588b79c22222c6ecdddc3ab10cc1fa15ab7789035fb68f"), looks := false }, kinds := [], alts := [], laidByText := true, laidKinds := [.data], laidTests := true, laidLooks := .later }
def RevokeGrowsUptoCardSaid : Prop := Claim7.holds Tryd.pinned (.plain (OpenSpec.upto revokeGrowsSpec)) revokeGrowsUptoCard
end Rows
end Go.Proofs.YtmfhdhggpepbbaaDoor
