/-
  DERIVED. GIVEN WITH THE SEED: THE CARDS: each row of YtdionedinmkeiaaDoorRows.lean that lists a variable, with what it lists TIED to the program's text (the seventh form; the later family's looks); each row that meets fmt, with fmt's text TOLD by the authors' own Lean function (tested against real Go, not proved from fmt's source: count such statements apart). THE CARD IS WHAT COUNTS. Prove the row's statement (the work); the ties are given (YtdionedinmkeiaaDoorTie.lean); close each card by the builder's one call (the guide's Derived/Test/ToyasCard.lean, 'card_holds'). Laid BY PROGRAM, IN A SANDBOX (cutbox-door.mjs). By AI agents, Wed Nov 11 2026. No macro, syntax, notation, axiom, sorry.
-/
import Derived.Test.YtdionedinmkeiaaDoorRows
import GoSem.ClaimSeven
namespace Go.Proofs.YtdionedinmkeiaaDoor
namespace Rows

/-- THE TIED CARD OF 'vigillaw07.KeysDerive'. -/
def keysDeriveCard : Claim7 := { stood := { row := keysDeriveRow, standIns := [], harness := (true, "78f50a1935387eed6317e2862a200c856a085375f3d872c96759024980da3991"), looks := false }, kinds := [], alts := [], laidByText := true, laidKinds := [.data], laidTests := true, laidLooks := .later }
def KeysDeriveCardSaid : Prop := Claim7.holds Tryd.pinned (.plain (OpenSpec.ofChange keysDeriveSpec)) keysDeriveCard

/-- THE TIED CARD OF 'vigillaw07.KeysNil'. -/
def keysNilCard : Claim7 := { stood := { row := keysNilRow, standIns := [], harness := (true, "78f50a1935387eed6317e2862a200c856a085375f3d872c96759024980da3991"), looks := false }, kinds := [], alts := [], laidByText := true, laidKinds := [.data], laidTests := true, laidLooks := .later }
def KeysNilCardSaid : Prop := Claim7.holds Tryd.pinned (.plain (OpenSpec.ofChange keysNilSpec)) keysNilCard

/-- THE TIED CARD OF 'vigillaw07.KeysApart'. -/
def keysApartCard : Claim7 := { stood := { row := keysApartRow, standIns := [], harness := (true, "78f50a1935387eed6317e2862a200c856a085375f3d872c96759024980da3991"), looks := false }, kinds := [], alts := [], laidByText := true, laidKinds := [.data], laidTests := true, laidLooks := .later }
def KeysApartCardSaid : Prop := Claim7.holds Tryd.pinned (.plain (OpenSpec.ofChange keysApartSpec)) keysApartCard

/-- THE SECOND FORM's CARD OF 'vigillaw07.KeysDerive'. -/
def keysDeriveUptoCard : Claim7 := { stood := { row := keysDeriveUptoRow, standIns := [], harness := (true, "78f50a1935387eed6317e2862a200c856a085375f3d872c96759024980da3991"), looks := false }, kinds := [], alts := [], laidByText := true, laidKinds := [.data], laidTests := true, laidLooks := .later }
def KeysDeriveUptoCardSaid : Prop := Claim7.holds Tryd.pinned (.plain (OpenSpec.upto keysDeriveSpec)) keysDeriveUptoCard

/-- THE SECOND FORM's CARD OF 'vigillaw07.KeysNil'. -/
def keysNilUptoCard : Claim7 := { stood := { row := keysNilUptoRow, standIns := [], harness := (true, "78f50a1935387eed6317e2862a200c856a085375f3d872c96759024980da3991"), looks := false }, kinds := [], alts := [], laidByText := true, laidKinds := [.data], laidTests := true, laidLooks := .later }
def KeysNilUptoCardSaid : Prop := Claim7.holds Tryd.pinned (.plain (OpenSpec.upto keysNilSpec)) keysNilUptoCard

/-- THE SECOND FORM's CARD OF 'vigillaw07.KeysApart'. -/
def keysApartUptoCard : Claim7 := { stood := { row := keysApartUptoRow, standIns := [], harness := (true, "78f50a1935387eed6317e2862a200c856a085375f3d872c96759024980da3991"), looks := false }, kinds := [], alts := [], laidByText := true, laidKinds := [.data], laidTests := true, laidLooks := .later }
def KeysApartUptoCardSaid : Prop := Claim7.holds Tryd.pinned (.plain (OpenSpec.upto keysApartSpec)) keysApartUptoCard
end Rows
end Go.Proofs.YtdionedinmkeiaaDoor
