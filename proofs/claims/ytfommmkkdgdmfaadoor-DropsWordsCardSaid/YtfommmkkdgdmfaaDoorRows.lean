/-
  NARROWER THAN 'FOR EVERY INPUT', by the rows' own cells (each row's printed sentence says how): DropsWords: laid.
  DERIVED. THE GIVEN ROWS OF THIS SEAT. 1 by the template 'for every input the law returns true; each argument reads behind the call as it read before'; 0 by the template 'total and deterministic' (their statements: YtfommmkkdgdmfaaDoorTotals.lean).
  GIVEN WITH THE SEED: the statements are not yours to turn. If you find one false, say at which input.
  Laid BY PROGRAM, IN A SANDBOX (cutbox-rows.mjs): the forced cells as the released guide's own fill.sh prints them over the translation 74ae2fa844b03091… (all of the seat's roots in one cut). By AI agents, Wed Nov 11 2026. No macro, syntax, notation, axiom, sorry.
-/
import Derived.Test.YtfommmkkdgdmfaaDoorChecked
import GoSem.Claim
import GoSem.ClaimJoined
import GoSem.ClaimMapViews
import Derived.JoinedTies
import Derived.KernelRfl
namespace Go.Proofs.YtfommmkkdgdmfaaDoor
/- THE CELL 'sum', in the pinned program and in every row, IS THE sha256 OF THE DUMP (.gsa) THAT YtfommmkkdgdmfaaDoorProg.lean LOADS. Nothing in Lean hashes anything: it is a label: what it is worth is what the hold of that sum in a sandbox is worth. -/
noncomputable def Tryd.pinned : Pinned := { name := "ytfommmkkdgdmfaadoor", sum := "74ae2fa844b030916a8b9ad917295334bbd4c0e88c4ff17a7315948580644dcd", checked := Tryd.checked }
namespace Rows
def none {H : Type} : Left H := { results := [], args := [] }

/- WHAT THE LISTED PACKAGE-LEVEL VARIABLES READ AS WHEN THE CALL BEGINS. Each datum BY PROGRAM (the guide's laid-datum.mjs) off the statement by which the dump's own 'gosem.cut.vars' lays the variable. In a bare row this is a premise. The card (YtfommmkkdgdmfaaDoorCards.lean) ties it to the program's text. -/
def laid_vigil_drops_words {H : Type} : DataW H := .agg [.lit (.string []), .lit (.string [97, 114, 103]), .lit (.string [108, 111, 110, 103]), .lit (.string [102, 111, 114, 109]), .lit (.string [101, 110, 100]), .lit (.string [116, 97, 103]), .lit (.string [102, 117, 108, 108]), .lit (.string [110, 111, 110, 101]), .lit (.string [116, 119, 105, 99, 101]), .lit (.string [111, 108, 100]), .lit (.string [114, 97, 110, 103, 101]), .lit (.string [115, 116, 97, 116, 101]), .lit (.string [114, 111, 108, 101]), .lit (.string [107, 105, 110, 100]), .lit (.string [103, 111, 110, 101]), .lit (.string [113, 117, 111, 116, 97])]

/-- 'vigillaw13.DropsWords': WHATEVER THE INPUT: true; the input reads as it did. -/
def dropsWordsSpec : ChangeSpec := { name := "dropsWords", fn := fun _ => fun
  | [d] => { results := [.lit (.bool true)], args := [d] }
  | _ => none }
def dropsWordsRow : OpenClaim := { program := "ytfommmkkdgdmfaadoor", sum := "74ae2fa844b030916a8b9ad917295334bbd4c0e88c4ff17a7315948580644dcd", func := "vigil/vigillaw13.DropsWords", spec := "dropsWords", unfollowed := true, recurses := true, named := ["vigil/drops.words"], apart := false, laid := [("vigil/drops.words", laid_vigil_drops_words)] }
def DropsWordsSaid : Prop := dropsWordsRow.holds Tryd.pinned (OpenSpec.ofChange dropsWordsSpec)

/-- ITS FALSE NEIGHBOUR: 'it returns false'. Refute it at one input. -/
def dropsWordsWrong : ChangeSpec := { name := "dropsWords", fn := fun _ => fun
  | [d] => { results := [.lit (.bool false)], args := [d] }
  | _ => none }
def DropsWordsWrongFalsely : Prop := dropsWordsRow.holds Tryd.pinned (OpenSpec.ofChange dropsWordsWrong)

/- THE SECOND FORM. 'bulk': how many values and letters a reading holds, each counted each time it is reached (what is shared counts as often as it is met; a slice's spare places count too). A statement '..UptoSaid' is the law's where the arguments, and the package variables that the reading takes, are together of bulk at most 1048576: NARROWER than '..Said'. Prove '..Said' where nothing that the law and all that it calls make is longer than what came in: it says more and counts as full. Else prove '..UptoSaid'. A law counts once. -/
mutual
def uptoBulk {H : Type} : DataW H → Nat
  | .lit (.string bytes) => bytes.length + 1
  | .lit _ => 1
  | .nil => 1
  | .ptr d => uptoBulk d + 1
  | .slice elems spare => uptoBulkAll elems + uptoBulkAll spare + 1
  | .agg parts => uptoBulkAll parts + 1
  | .iface _ d => uptoBulk d + 1
  | .map entries => uptoBulkEntries entries + 1
  | .held _ => 1
def uptoBulkAll {H : Type} : List (DataW H) → Nat
  | [] => 0
  | d :: r => uptoBulk d + uptoBulkAll r
def uptoBulkEntries {H : Type} : List (Lit × DataW H) → Nat
  | [] => 0
  | x :: r => uptoBulkEntry x + uptoBulkEntries r
def uptoBulkEntry {H : Type} : Lit × DataW H → Nat
  | (.string bytes, d) => bytes.length + uptoBulk d + 1
  | (_, d) => uptoBulk d + 1
 end
def uptoSmall : (H : Type) → List (DataW H) → Bool := fun _ ds => decide (uptoBulkAll ds ≤ 1048576)
def OpenSpec.upto (s : _root_.Go.ChangeSpec) : _root_.Go.OpenSpec := { _root_.Go.OpenSpec.ofChange s with cond := some uptoSmall }

/-- 'vigillaw13.DropsWords', WHERE WHAT IT READS IS OF BULK AT MOST 1048576: true; the input reads as it did. -/
def dropsWordsUptoRow : OpenClaim := { program := "ytfommmkkdgdmfaadoor", sum := "74ae2fa844b030916a8b9ad917295334bbd4c0e88c4ff17a7315948580644dcd", func := "vigil/vigillaw13.DropsWords", spec := "dropsWords", unfollowed := true, recurses := true, named := ["vigil/drops.words"], apart := false, laid := [("vigil/drops.words", laid_vigil_drops_words)], narrowed := true }
def DropsWordsUptoSaid : Prop := dropsWordsUptoRow.holds Tryd.pinned (OpenSpec.upto dropsWordsSpec)

end Rows
end Go.Proofs.YtfommmkkdgdmfaaDoor
