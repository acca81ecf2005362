/-
  DERIVED. GIVEN WITH THE SEED: THE CARDS: each row of YtncbhnkhbohejaaDoorRows.lean that lists a variable, with what it lists TIED to the program's text (the seventh form; the later family's looks); each row that meets fmt, with fmt's text TOLD by the authors' own Lean function (tested against real Go, not proved from fmt's source: count such statements apart). THE CARD IS WHAT COUNTS. Prove the row's statement (the work); the ties are given (YtncbhnkhbohejaaDoorTie.lean); close each card by the builder's one call (the guide's Derived/Test/ToyasCard.lean, 'card_holds'). Laid BY PROGRAM, IN A SANDBOX (cutbox-door.mjs). By AI agents, Wed Nov 11 2026. No macro, syntax, notation, axiom, sorry.
-/
import Derived.Test.YtncbhnkhbohejaaDoorRows
import GoSem.ClaimSeven
namespace Go.Proofs.YtncbhnkhbohejaaDoor
namespace Rows

/-- THE TIED CARD OF 'vigillaw10.CookieBakes'. -/
def cookieBakesCard : Claim7 := { stood := { row := cookieBakesRow, standIns := [], harness := (true, "5d435b618fe2efdf5b12d3fad72cf15213a59276787fc8c4b1302234893aef2a"), looks := false }, kinds := [], alts := [], laidByText := true, laidKinds := [.data], laidTests := true, laidLooks := .later }
def CookieBakesCardSaid : Prop := Claim7.holds Tryd.pinned (.plain (OpenSpec.ofChange cookieBakesSpec)) cookieBakesCard

/-- THE TIED CARD OF 'vigillaw10.CookieChecks'. -/
def cookieChecksCard : Claim7 := { stood := { row := cookieChecksRow, standIns := [], harness := (true, "5d435b618fe2efdf5b12d3fad72cf15213a59276787fc8c4b1302234893aef2a"), looks := false }, kinds := [], alts := [], laidByText := true, laidKinds := [.data], laidTests := true, laidLooks := .later }
def CookieChecksCardSaid : Prop := Claim7.holds Tryd.pinned (.plain (OpenSpec.ofChange cookieChecksSpec)) cookieChecksCard

/-- THE TIED CARD OF 'vigillaw10.CookieCounts'. -/
def cookieCountsCard : Claim7 := { stood := { row := cookieCountsRow, standIns := [], harness := (true, "5d435b618fe2efdf5b12d3fad72cf15213a59276787fc8c4b1302234893aef2a"), looks := false }, kinds := [], alts := [], laidByText := true, laidKinds := [.data], laidTests := true, laidLooks := .later }
def CookieCountsCardSaid : Prop := Claim7.holds Tryd.pinned (.plain (OpenSpec.ofChange cookieCountsSpec)) cookieCountsCard

/-- THE TIED CARD OF 'vigillaw10.CookieNil'. -/
def cookieNilCard : Claim7 := { stood := { row := cookieNilRow, standIns := [], harness := (true, "5d435b618fe2efdf5b12d3fad72cf15213a59276787fc8c4b1302234893aef2a"), looks := false }, kinds := [], alts := [], laidByText := true, laidKinds := [.data], laidTests := true, laidLooks := .later }
def CookieNilCardSaid : Prop := Claim7.holds Tryd.pinned (.plain (OpenSpec.ofChange cookieNilSpec)) cookieNilCard

/-- THE SECOND FORM's CARD OF 'vigillaw10.CookieBakes'. -/
def cookieBakesUptoCard : Claim7 := { stood := { row := cookieBakesUptoRow, standIns := [], harness := (true, "5d435b618fe2efdf5b12d3fad72cf15213a59276787fc8c4b1302234893aef2a"), looks := false }, kinds := [], alts := [], laidByText := true, laidKinds := [.data], laidTests := true, laidLooks := .later }
def CookieBakesUptoCardSaid : Prop := Claim7.holds Tryd.pinned (.plain (OpenSpec.upto cookieBakesSpec)) cookieBakesUptoCard

/-- THE SECOND FORM's CARD OF 'vigillaw10.CookieChecks'. -/
def cookieChecksUptoCard : Claim7 := { stood := { row := cookieChecksUptoRow, standIns := [], harness := (true, "5d435b618fe2efdf5b12d3fad72cf15213a59276787fc8c4b1302234893aef2a"), looks := false }, kinds := [], alts := [], laidByText := true, laidKinds := [.data], laidTests := true, laidLooks := .later }
def CookieChecksUptoCardSaid : Prop := Claim7.holds Tryd.pinned (.plain (OpenSpec.upto cookieChecksSpec)) cookieChecksUptoCard

/-- THE SECOND FORM's CARD OF 'vigillaw10.CookieCounts'. -/
def cookieCountsUptoCard : Claim7 := { stood := { row := cookieCountsUptoRow, standIns := [], harness := (true, "5d435b618fe2efdf5b12d3fad72cf15213a59276787fc8c4b1302234893aef2a"), looks := false }, kinds := [], alts := [], laidByText := true, laidKinds := [.data], laidTests := true, laidLooks := .later }
def CookieCountsUptoCardSaid : Prop := Claim7.holds Tryd.pinned (.plain (OpenSpec.upto cookieCountsSpec)) cookieCountsUptoCard

/-- THE SECOND FORM's CARD OF 'vigillaw10.CookieNil'. -/
def cookieNilUptoCard : Claim7 := { stood := { row := cookieNilUptoRow, standIns := [], harness := (true, "5d435b618fe2efdf5b12d3fad72cf15213a59276787fc8c4b1302234893aef2a"), looks := false }, kinds := [], alts := [], laidByText := true, laidKinds := [.data], laidTests := true, laidLooks := .later }
def CookieNilUptoCardSaid : Prop := Claim7.holds Tryd.pinned (.plain (OpenSpec.upto cookieNilSpec)) cookieNilUptoCard
end Rows
end Go.Proofs.YtncbhnkhbohejaaDoor
