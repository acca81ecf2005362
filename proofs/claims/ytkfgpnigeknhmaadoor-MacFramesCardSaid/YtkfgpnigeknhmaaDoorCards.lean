/-
  DERIVED. GIVEN WITH THE SEED: THE CARDS: each row of YtkfgpnigeknhmaaDoorRows.lean that lists a variable, with what it lists TIED to the program's text (the seventh form; the later family's looks); each row that meets fmt, with fmt's text TOLD by the authors' own Lean function (tested against real Go, not proved from fmt's source: count such statements apart). THE CARD IS WHAT COUNTS. Prove the row's statement (the work); the ties are given (YtkfgpnigeknhmaaDoorTie.lean); close each card by the builder's one call (the guide's Derived/Test/ToyasCard.lean, 'card_holds'). Laid BY PROGRAM, IN A SANDBOX (cutbox-door.mjs). By AI agents, Wed Nov 11 2026. No macro, syntax, notation, axiom, sorry.
-/
import Derived.Test.YtkfgpnigeknhmaaDoorRows
import GoSem.ClaimSeven
namespace Go.Proofs.YtkfgpnigeknhmaaDoor
namespace Rows

/-- THE TIED CARD OF 'vigillaw01.DigestSums'. -/
def digestSumsCard : Claim7 := { stood := { row := digestSumsRow, standIns := [], harness := (true, "d2a49db65edd25e9921b66ab99775adef58a571fde34a0485c27fff4e173a2d4"), looks := false }, kinds := [], alts := [], laidByText := true, laidKinds := [.data], laidTests := true, laidLooks := .later }
def DigestSumsCardSaid : Prop := Claim7.holds Tryd.pinned (.plain (OpenSpec.ofChange digestSumsSpec)) digestSumsCard

/-- THE TIED CARD OF 'vigillaw01.DigestRunning'. -/
def digestRunningCard : Claim7 := { stood := { row := digestRunningRow, standIns := [], harness := (true, "d2a49db65edd25e9921b66ab99775adef58a571fde34a0485c27fff4e173a2d4"), looks := false }, kinds := [], alts := [], laidByText := true, laidKinds := [.data], laidTests := true, laidLooks := .later }
def DigestRunningCardSaid : Prop := Claim7.holds Tryd.pinned (.plain (OpenSpec.ofChange digestRunningSpec)) digestRunningCard

/-- THE TIED CARD OF 'vigillaw01.DigestSigns'. -/
def digestSignsCard : Claim7 := { stood := { row := digestSignsRow, standIns := [], harness := (true, "d2a49db65edd25e9921b66ab99775adef58a571fde34a0485c27fff4e173a2d4"), looks := false }, kinds := [], alts := [], laidByText := true, laidKinds := [.data], laidTests := true, laidLooks := .later }
def DigestSignsCardSaid : Prop := Claim7.holds Tryd.pinned (.plain (OpenSpec.ofChange digestSignsSpec)) digestSignsCard

/-- THE TIED CARD OF 'vigillaw02.MacTags'. -/
def macTagsCard : Claim7 := { stood := { row := macTagsRow, standIns := [], harness := (true, "d2a49db65edd25e9921b66ab99775adef58a571fde34a0485c27fff4e173a2d4"), looks := false }, kinds := [], alts := [], laidByText := true, laidKinds := [.data], laidTests := true, laidLooks := .later }
def MacTagsCardSaid : Prop := Claim7.holds Tryd.pinned (.plain (OpenSpec.ofChange macTagsSpec)) macTagsCard

/-- THE TIED CARD OF 'vigillaw02.MacDerives'. -/
def macDerivesCard : Claim7 := { stood := { row := macDerivesRow, standIns := [], harness := (true, "d2a49db65edd25e9921b66ab99775adef58a571fde34a0485c27fff4e173a2d4"), looks := false }, kinds := [], alts := [], laidByText := true, laidKinds := [.data], laidTests := true, laidLooks := .later }
def MacDerivesCardSaid : Prop := Claim7.holds Tryd.pinned (.plain (OpenSpec.ofChange macDerivesSpec)) macDerivesCard

/-- THE TIED CARD OF 'vigillaw02.MacKeys'. -/
def macKeysCard : Claim7 := { stood := { row := macKeysRow, standIns := [], harness := (true, "d2a49db65edd25e9921b66ab99775adef58a571fde34a0485c27fff4e173a2d4"), looks := false }, kinds := [], alts := [], laidByText := true, laidKinds := [.data], laidTests := true, laidLooks := .later }
def MacKeysCardSaid : Prop := Claim7.holds Tryd.pinned (.plain (OpenSpec.ofChange macKeysSpec)) macKeysCard

/-- THE TIED CARD OF 'vigillaw02.MacEquals'. -/
def macEqualsCard : Claim7 := { stood := { row := macEqualsRow, standIns := [], harness := (true, "d2a49db65edd25e9921b66ab99775adef58a571fde34a0485c27fff4e173a2d4"), looks := false }, kinds := [], alts := [], laidByText := true, laidKinds := [.data], laidTests := true, laidLooks := .later }
def MacEqualsCardSaid : Prop := Claim7.holds Tryd.pinned (.plain (OpenSpec.ofChange macEqualsSpec)) macEqualsCard

/-- THE TIED CARD OF 'vigillaw02.MacFrames'. -/
def macFramesCard : Claim7 := { stood := { row := macFramesRow, standIns := [], harness := (true, "d2a49db65edd25e9921b66ab99775adef58a571fde34a0485c27fff4e173a2d4"), looks := false }, kinds := [], alts := [], laidByText := true, laidKinds := [.data], laidTests := true, laidLooks := .later }
def MacFramesCardSaid : Prop := Claim7.holds Tryd.pinned (.plain (OpenSpec.ofChange macFramesSpec)) macFramesCard

/-- THE SECOND FORM's CARD OF 'vigillaw01.DigestSums'. -/
def digestSumsUptoCard : Claim7 := { stood := { row := digestSumsUptoRow, standIns := [], harness := (true, "d2a49db65edd25e9921b66ab99775adef58a571fde34a0485c27fff4e173a2d4"), looks := false }, kinds := [], alts := [], laidByText := true, laidKinds := [.data], laidTests := true, laidLooks := .later }
def DigestSumsUptoCardSaid : Prop := Claim7.holds Tryd.pinned (.plain (OpenSpec.upto digestSumsSpec)) digestSumsUptoCard

/-- THE SECOND FORM's CARD OF 'vigillaw01.DigestRunning'. -/
def digestRunningUptoCard : Claim7 := { stood := { row := digestRunningUptoRow, standIns := [], harness := (true, "d2a49db65edd25e9921b66ab99775adef58a571fde34a0485c27fff4e173a2d4"), looks := false }, kinds := [], alts := [], laidByText := true, laidKinds := [.data], laidTests := true, laidLooks := .later }
def DigestRunningUptoCardSaid : Prop := Claim7.holds Tryd.pinned (.plain (OpenSpec.upto digestRunningSpec)) digestRunningUptoCard

/-- THE SECOND FORM's CARD OF 'vigillaw01.DigestSigns'. -/
def digestSignsUptoCard : Claim7 := { stood := { row := digestSignsUptoRow, standIns := [], harness := (true, "d2a49db65edd25e9921b66ab99775adef58a571fde34a0485c27fff4e173a2d4"), looks := false }, kinds := [], alts := [], laidByText := true, laidKinds := [.data], laidTests := true, laidLooks := .later }
def DigestSignsUptoCardSaid : Prop := Claim7.holds Tryd.pinned (.plain (OpenSpec.upto digestSignsSpec)) digestSignsUptoCard

/-- THE SECOND FORM's CARD OF 'vigillaw02.MacTags'. -/
def macTagsUptoCard : Claim7 := { stood := { row := macTagsUptoRow, standIns := [], harness := (true, "d2a49db65edd25e9921b66ab99775adef58a571fde34a0485c27fff4e173a2d4"), looks := false }, kinds := [], alts := [], laidByText := true, laidKinds := [.data], laidTests := true, laidLooks := .later }
def MacTagsUptoCardSaid : Prop := Claim7.holds Tryd.pinned (.plain (OpenSpec.upto macTagsSpec)) macTagsUptoCard

/-- THE SECOND FORM's CARD OF 'vigillaw02.MacDerives'. -/
def macDerivesUptoCard : Claim7 := { stood := { row := macDerivesUptoRow, standIns := [], harness := (true, "d2a49db65edd25e9921b66ab99775adef58a571fde34a0485c27fff4e173a2d4"), looks := false }, kinds := [], alts := [], laidByText := true, laidKinds := [.data], laidTests := true, laidLooks := .later }
def MacDerivesUptoCardSaid : Prop := Claim7.holds Tryd.pinned (.plain (OpenSpec.upto macDerivesSpec)) macDerivesUptoCard

/-- THE SECOND FORM's CARD OF 'vigillaw02.MacKeys'. -/
def macKeysUptoCard : Claim7 := { stood := { row := macKeysUptoRow, standIns := [], harness := (true, "d2a49db65edd25e9921b66ab99775adef58a571fde34a0485c27fff4e173a2d4"), looks := false }, kinds := [], alts := [], laidByText := true, laidKinds := [.data], laidTests := true, laidLooks := .later }
def MacKeysUptoCardSaid : Prop := Claim7.holds Tryd.pinned (.plain (OpenSpec.upto macKeysSpec)) macKeysUptoCard

/-- THE SECOND FORM's CARD OF 'vigillaw02.MacEquals'. -/
def macEqualsUptoCard : Claim7 := { stood := { row := macEqualsUptoRow, standIns := [], harness := (true, "d2a49db65edd25e9921b66ab99775adef58a571fde34a0485c27fff4e173a2d4"), looks := false }, kinds := [], alts := [], laidByText := true, laidKinds := [.data], laidTests := true, laidLooks := .later }
def MacEqualsUptoCardSaid : Prop := Claim7.holds Tryd.pinned (.plain (OpenSpec.upto macEqualsSpec)) macEqualsUptoCard

/-- THE SECOND FORM's CARD OF 'vigillaw02.MacFrames'. -/
def macFramesUptoCard : Claim7 := { stood := { row := macFramesUptoRow, standIns := [], harness := (true, "d2a49db65edd25e9921b66ab99775adef58a571fde34a0485c27fff4e173a2d4"), looks := false }, kinds := [], alts := [], laidByText := true, laidKinds := [.data], laidTests := true, laidLooks := .later }
def MacFramesUptoCardSaid : Prop := Claim7.holds Tryd.pinned (.plain (OpenSpec.upto macFramesSpec)) macFramesUptoCard
end Rows
end Go.Proofs.YtkfgpnigeknhmaaDoor
