/-
  DERIVED. GIVEN WITH THE SEED: THE CARDS: each row of YtkpoincpnooinaaDoorRows.lean that lists a variable, with what it lists TIED to the program's text (the seventh form; the later family's looks); each row that meets fmt, with fmt's text TOLD by the authors' own Lean function (tested against real Go, not proved from fmt's source: count such statements apart). THE CARD IS WHAT COUNTS. Prove the row's statement (the work); the ties are given (YtkpoincpnooinaaDoorTie.lean); close each card by the builder's one call (the guide's Derived/Test/ToyasCard.lean, 'card_holds'). Laid BY PROGRAM, IN A SANDBOX (cutbox-door.mjs). By AI agents, Wed Nov 11 2026. No macro, syntax, notation, axiom, sorry.
-/
import Derived.Test.YtkpoincpnooinaaDoorRows
import GoSem.ClaimSeven
namespace Go.Proofs.YtkpoincpnooinaaDoor
namespace Rows

/-- THE TIED CARD OF 'vigillaw01.DigestSums'. -/
def digestSumsCard : Claim7 := { stood := { row := digestSumsRow, standIns := [], harness := (true, "f692d587a03bb20563db1f10e9781f7089e331df9677fa507d6b692f43ea4359"), looks := false }, kinds := [], alts := [], laidByText := true, laidKinds := [.data], laidTests := true, laidLooks := .later }
def DigestSumsCardSaid : Prop := Claim7.holds Tryd.pinned (.plain (OpenSpec.ofChange digestSumsSpec)) digestSumsCard

/-- THE TIED CARD OF 'vigillaw01.DigestRunning'. -/
def digestRunningCard : Claim7 := { stood := { row := digestRunningRow, standIns := [], harness := (true, "f692d587a03bb20563db1f10e9781f7089e331df9677fa507d6b692f43ea4359"), looks := false }, kinds := [], alts := [], laidByText := true, laidKinds := [.data], laidTests := true, laidLooks := .later }
def DigestRunningCardSaid : Prop := Claim7.holds Tryd.pinned (.plain (OpenSpec.ofChange digestRunningSpec)) digestRunningCard

/-- THE TIED CARD OF 'vigillaw01.DigestSigns'. -/
def digestSignsCard : Claim7 := { stood := { row := digestSignsRow, standIns := [], harness := (true, "f692d587a03bb20563db1f10e9781f7089e331df9677fa507d6b692f43ea4359"), looks := false }, kinds := [], alts := [], laidByText := true, laidKinds := [.data], laidTests := true, laidLooks := .later }
def DigestSignsCardSaid : Prop := Claim7.holds Tryd.pinned (.plain (OpenSpec.ofChange digestSignsSpec)) digestSignsCard

/-- THE SECOND FORM's CARD OF 'vigillaw01.DigestSums'. -/
def digestSumsUptoCard : Claim7 := { stood := { row := digestSumsUptoRow, standIns := [], harness := (true, "f692d587a03bb20563db1f10e9781f7089e331df9677fa507d6b692f43ea4359"), looks := false }, kinds := [], alts := [], laidByText := true, laidKinds := [.data], laidTests := true, laidLooks := .later }
def DigestSumsUptoCardSaid : Prop := Claim7.holds Tryd.pinned (.plain (OpenSpec.upto digestSumsSpec)) digestSumsUptoCard

/-- THE SECOND FORM's CARD OF 'vigillaw01.DigestRunning'. -/
def digestRunningUptoCard : Claim7 := { stood := { row := digestRunningUptoRow, standIns := [], harness := (true, "f692d587a03bb20563db1f10e9781f7089e331df9677fa507d6b692f43ea4359"), looks := false }, kinds := [], alts := [], laidByText := true, laidKinds := [.data], laidTests := true, laidLooks := .later }
def DigestRunningUptoCardSaid : Prop := Claim7.holds Tryd.pinned (.plain (OpenSpec.upto digestRunningSpec)) digestRunningUptoCard

/-- THE SECOND FORM's CARD OF 'vigillaw01.DigestSigns'. -/
def digestSignsUptoCard : Claim7 := { stood := { row := digestSignsUptoRow, standIns := [], harness := (true, "f692d587a03bb20563db1f10e9781f7089e331df9677fa507d6b692f43ea4359"), looks := false }, kinds := [], alts := [], laidByText := true, laidKinds := [.data], laidTests := true, laidLooks := .later }
def DigestSignsUptoCardSaid : Prop := Claim7.holds Tryd.pinned (.plain (OpenSpec.upto digestSignsSpec)) digestSignsUptoCard
end Rows
end Go.Proofs.YtkpoincpnooinaaDoor
