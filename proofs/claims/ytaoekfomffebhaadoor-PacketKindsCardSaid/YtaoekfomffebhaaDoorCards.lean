/-
  DERIVED. GIVEN WITH THE SEED: THE CARDS: each row of YtaoekfomffebhaaDoorRows.lean that lists a variable, with what it lists TIED to the program's text (the seventh form; the later family's looks); each row that meets fmt, with fmt's text TOLD by the authors' own Lean function (tested against real Go, not proved from fmt's source: count such statements apart). THE CARD IS WHAT COUNTS. Prove the row's statement (the work); the ties are given (YtaoekfomffebhaaDoorTie.lean); close each card by the builder's one call (the guide's Derived/Test/ToyasCard.lean, 'card_holds'). Laid BY PROGRAM, IN A SANDBOX (cutbox-door.mjs). By AI agents, Wed Nov 11 2026. No macro, syntax, notation, axiom, sorry.
-/
import Derived.Test.YtaoekfomffebhaaDoorRows
import GoSem.ClaimSeven
namespace Go.Proofs.YtaoekfomffebhaaDoor
namespace Rows

/-- THE TIED CARD OF 'vigillaw14.PacketTags'. -/
def packetTagsCard : Claim7 := { stood := { row := packetTagsRow, standIns := [], harness := (true, "f84c20a86592c0b05871ec134b4afb7683ca31d7a2fe60a9a85550f974f87b70"), looks := false }, kinds := [], alts := [], laidByText := true, laidKinds := [.data], laidTests := true, laidLooks := .later }
def PacketTagsCardSaid : Prop := Claim7.holds Tryd.pinned (.plain (OpenSpec.ofChange packetTagsSpec)) packetTagsCard

/-- THE TIED CARD OF 'vigillaw14.PacketTurns'. -/
def packetTurnsCard : Claim7 := { stood := { row := packetTurnsRow, standIns := [], harness := (true, "f84c20a86592c0b05871ec134b4afb7683ca31d7a2fe60a9a85550f974f87b70"), looks := false }, kinds := [], alts := [], laidByText := true, laidKinds := [.data], laidTests := true, laidLooks := .later }
def PacketTurnsCardSaid : Prop := Claim7.holds Tryd.pinned (.plain (OpenSpec.ofChange packetTurnsSpec)) packetTurnsCard

/-- THE TIED CARD OF 'vigillaw14.PacketKinds'. -/
def packetKindsCard : Claim7 := { stood := { row := packetKindsRow, standIns := [], harness := (true, "f84c20a86592c0b05871ec134b4afb7683ca31d7a2fe60a9a85550f974f87b70"), looks := false }, kinds := [], alts := [], laidByText := true, laidKinds := [.data], laidTests := true, laidLooks := .later }
def PacketKindsCardSaid : Prop := Claim7.holds Tryd.pinned (.plain (OpenSpec.ofChange packetKindsSpec)) packetKindsCard

/-- THE SECOND FORM's CARD OF 'vigillaw14.PacketTags'. -/
def packetTagsUptoCard : Claim7 := { stood := { row := packetTagsUptoRow, standIns := [], harness := (true, "f84c20a86592c0b05871ec134b4afb7683ca31d7a2fe60a9a85550f974f87b70"), looks := false }, kinds := [], alts := [], laidByText := true, laidKinds := [.data], laidTests := true, laidLooks := .later }
def PacketTagsUptoCardSaid : Prop := Claim7.holds Tryd.pinned (.plain (OpenSpec.upto packetTagsSpec)) packetTagsUptoCard

/-- THE SECOND FORM's CARD OF 'vigillaw14.PacketTurns'. -/
def packetTurnsUptoCard : Claim7 := { stood := { row := packetTurnsUptoRow, standIns := [], harness := (true, "f84c20a86592c0b05871ec134b4afb7683ca31d7a2fe60a9a85550f974f87b70"), looks := false }, kinds := [], alts := [], laidByText := true, laidKinds := [.data], laidTests := true, laidLooks := .later }
def PacketTurnsUptoCardSaid : Prop := Claim7.holds Tryd.pinned (.plain (OpenSpec.upto packetTurnsSpec)) packetTurnsUptoCard

/-- THE SECOND FORM's CARD OF 'vigillaw14.PacketKinds'. -/
def packetKindsUptoCard : Claim7 := { stood := { row := packetKindsUptoRow, standIns := [], harness := (true, "f84c20a86592c0b05871ec134b4afb7683ca31d7a2fe60a9a85550f974f87b70"), looks := false }, kinds := [], alts := [], laidByText := true, laidKinds := [.data], laidTests := true, laidLooks := .later }
def PacketKindsUptoCardSaid : Prop := Claim7.holds Tryd.pinned (.plain (OpenSpec.upto packetKindsSpec)) packetKindsUptoCard
end Rows
end Go.Proofs.YtaoekfomffebhaaDoor
