/-
  No cell of these rows narrows 'for every input' (looked for: loops, veiled, ifaces, maps, wideKeys, modest, calm, conditions, laid).
  DERIVED. THE GIVEN ROWS OF THIS SEAT. 4 by the template 'for every input the law returns true; each argument reads behind the call as it read before'; 0 by the template 'total and deterministic' (their statements: YtiomjknhlfhlhaaTotals.lean).
  GIVEN WITH THE SEED: the statements are not yours to turn. If you find one false, say at which input.
  Laid BY PROGRAM, IN A SANDBOX (cutbox-rows.mjs): the forced cells as the released guide's own fill.sh prints them over the translation d1f9afbcc7094fc5… (all of the seat's roots in one cut). By AI agents, Wed Nov 11 2026. No macro, syntax, notation, axiom, sorry.
-/
import Derived.Test.YtiomjknhlfhlhaaChecked
import GoSem.Claim
import GoSem.ClaimJoined
import GoSem.ClaimMapViews
import Derived.JoinedTies
import Derived.KernelRfl
namespace Go.Proofs.Ytiomjknhlfhlhaa
/- THE CELL 'sum', in the pinned program and in every row, IS THE sha256 OF THE DUMP (.gsa) THAT YtiomjknhlfhlhaaProg.lean LOADS. Nothing in Lean hashes anything: it is a label: what it is worth is what the hold of that sum in a sandbox is worth. -/
noncomputable def Try.pinned : Pinned := { name := "ytiomjknhlfhlhaa", sum := "d1f9afbcc7094fc53cf9d5576d8a4136f3f6c5ef38287c10888501ca449e0912", checked := Try.checked }
namespace Rows
def none {H : Type} : Left H := { results := [], args := [] }

/-- 'vigillaw05.ClaimsBytes': WHATEVER THE INPUT: true; the input reads as it did. -/
def claimsBytesSpec : ChangeSpec := { name := "claimsBytes", fn := fun _ => fun
  | [d1, d2] => { results := [.lit (.bool true)], args := [d1, d2] }
  | _ => none }
def claimsBytesRow : OpenClaim := { program := "ytiomjknhlfhlhaa", sum := "d1f9afbcc7094fc53cf9d5576d8a4136f3f6c5ef38287c10888501ca449e0912", func := "vigil/vigillaw05.ClaimsBytes", spec := "claimsBytes", apart := false }
def ClaimsBytesSaid : Prop := claimsBytesRow.holds Try.pinned (OpenSpec.ofChange claimsBytesSpec)

/-- ITS FALSE NEIGHBOUR: 'it returns false'. Refute it at one input. -/
def claimsBytesWrong : ChangeSpec := { name := "claimsBytes", fn := fun _ => fun
  | [d1, d2] => { results := [.lit (.bool false)], args := [d1, d2] }
  | _ => none }
def ClaimsBytesWrongFalsely : Prop := claimsBytesRow.holds Try.pinned (OpenSpec.ofChange claimsBytesWrong)

/-- 'vigillaw05.ClaimsReads': WHATEVER THE INPUT: true; the input reads as it did. -/
def claimsReadsSpec : ChangeSpec := { name := "claimsReads", fn := fun _ => fun
  | [d] => { results := [.lit (.bool true)], args := [d] }
  | _ => none }
def claimsReadsRow : OpenClaim := { program := "ytiomjknhlfhlhaa", sum := "d1f9afbcc7094fc53cf9d5576d8a4136f3f6c5ef38287c10888501ca449e0912", func := "vigil/vigillaw05.ClaimsReads", spec := "claimsReads", apart := false }
def ClaimsReadsSaid : Prop := claimsReadsRow.holds Try.pinned (OpenSpec.ofChange claimsReadsSpec)

/-- ITS FALSE NEIGHBOUR: 'it returns false'. Refute it at one input. -/
def claimsReadsWrong : ChangeSpec := { name := "claimsReads", fn := fun _ => fun
  | [d] => { results := [.lit (.bool false)], args := [d] }
  | _ => none }
def ClaimsReadsWrongFalsely : Prop := claimsReadsRow.holds Try.pinned (OpenSpec.ofChange claimsReadsWrong)

/-- 'vigillaw05.ClaimsRoles': WHATEVER THE INPUT: true; the input reads as it did. -/
def claimsRolesSpec : ChangeSpec := { name := "claimsRoles", fn := fun _ => fun
  | [d1, d2, d3] => { results := [.lit (.bool true)], args := [d1, d2, d3] }
  | _ => none }
def claimsRolesRow : OpenClaim := { program := "ytiomjknhlfhlhaa", sum := "d1f9afbcc7094fc53cf9d5576d8a4136f3f6c5ef38287c10888501ca449e0912", func := "vigil/vigillaw05.ClaimsRoles", spec := "claimsRoles", apart := false }
def ClaimsRolesSaid : Prop := claimsRolesRow.holds Try.pinned (OpenSpec.ofChange claimsRolesSpec)

/-- ITS FALSE NEIGHBOUR: 'it returns false'. Refute it at one input. -/
def claimsRolesWrong : ChangeSpec := { name := "claimsRoles", fn := fun _ => fun
  | [d1, d2, d3] => { results := [.lit (.bool false)], args := [d1, d2, d3] }
  | _ => none }
def ClaimsRolesWrongFalsely : Prop := claimsRolesRow.holds Try.pinned (OpenSpec.ofChange claimsRolesWrong)

/-- 'vigillaw05.ClaimsCovers': WHATEVER THE INPUT: true; the input reads as it did. -/
def claimsCoversSpec : ChangeSpec := { name := "claimsCovers", fn := fun _ => fun
  | [d1, d2, d3] => { results := [.lit (.bool true)], args := [d1, d2, d3] }
  | _ => none }
def claimsCoversRow : OpenClaim := { program := "ytiomjknhlfhlhaa", sum := "d1f9afbcc7094fc53cf9d5576d8a4136f3f6c5ef38287c10888501ca449e0912", func := "vigil/vigillaw05.ClaimsCovers", spec := "claimsCovers", apart := false }
def ClaimsCoversSaid : Prop := claimsCoversRow.holds Try.pinned (OpenSpec.ofChange claimsCoversSpec)

/-- ITS FALSE NEIGHBOUR: 'it returns false'. Refute it at one input. -/
def claimsCoversWrong : ChangeSpec := { name := "claimsCovers", fn := fun _ => fun
  | [d1, d2, d3] => { results := [.lit (.bool false)], args := [d1, d2, d3] }
  | _ => none }
def ClaimsCoversWrongFalsely : Prop := claimsCoversRow.holds Try.pinned (OpenSpec.ofChange claimsCoversWrong)

/- THE SECOND FORM. 'bulk': how many values and letters a reading holds, each counted each time it is reached (what is shared counts as often as it is met; a slice's spare places count too). A statement '..UptoSaid' is the law's where the arguments, and the package variables that the reading takes, are together of bulk at most 1048576: NARROWER than '..Said'. Prove '..Said' where nothing that the law and all that it calls make is longer than what came in: it says more and counts as full. Else prove '..UptoSaid'. A law counts once. -/
mutual
def uptoBulk {H : Type} : DataW H → Nat
  | .lit (.string bytes) => bytes.length + 1
  | .lit _ => 1
  | .nil => 1
  | .ptr d => uptoBulk d + 1
  | .slice elems spare => uptoBulkAll elems + uptoBulkAll spare + 1
  | .agg parts => uptoBulkAll parts + 1
  | .iface _ d => uptoBulk d + 1
  | .map entries => uptoBulkEntries entries + 1
  | .held _ => 1
def uptoBulkAll {H : Type} : List (DataW H) → Nat
  | [] => 0
  | d :: r => uptoBulk d + uptoBulkAll r
def uptoBulkEntries {H : Type} : List (Lit × DataW H) → Nat
  | [] => 0
  | x :: r => uptoBulkEntry x + uptoBulkEntries r
def uptoBulkEntry {H : Type} : Lit × DataW H → Nat
  | (.string bytes, d) => bytes.length + uptoBulk d + 1
  | (_, d) => uptoBulk d + 1
 end
def uptoSmall : (H : Type) → List (DataW H) → Bool := fun _ ds => decide (uptoBulkAll ds ≤ 1048576)
def OpenSpec.upto (s : _root_.Go.ChangeSpec) : _root_.Go.OpenSpec := { _root_.Go.OpenSpec.ofChange s with cond := some uptoSmall }

/-- 'vigillaw05.ClaimsBytes', WHERE WHAT IT READS IS OF BULK AT MOST 1048576: true; the input reads as it did. -/
def claimsBytesUptoRow : OpenClaim := { program := "ytiomjknhlfhlhaa", sum := "d1f9afbcc7094fc53cf9d5576d8a4136f3f6c5ef38287c10888501ca449e0912", func := "vigil/vigillaw05.ClaimsBytes", spec := "claimsBytes", apart := false, narrowed := true }
def ClaimsBytesUptoSaid : Prop := claimsBytesUptoRow.holds Try.pinned (OpenSpec.upto claimsBytesSpec)

/-- 'vigillaw05.ClaimsReads', WHERE WHAT IT READS IS OF BULK AT MOST 1048576: true; the input reads as it did. -/
def claimsReadsUptoRow : OpenClaim := { program := "ytiomjknhlfhlhaa", sum := "d1f9afbcc7094fc53cf9d5576d8a4136f3f6c5ef38287c10888501ca449e0912", func := "vigil/vigillaw05.ClaimsReads", spec := "claimsReads", apart := false, narrowed := true }
def ClaimsReadsUptoSaid : Prop := claimsReadsUptoRow.holds Try.pinned (OpenSpec.upto claimsReadsSpec)

/-- 'vigillaw05.ClaimsRoles', WHERE WHAT IT READS IS OF BULK AT MOST 1048576: true; the input reads as it did. -/
def claimsRolesUptoRow : OpenClaim := { program := "ytiomjknhlfhlhaa", sum := "d1f9afbcc7094fc53cf9d5576d8a4136f3f6c5ef38287c10888501ca449e0912", func := "vigil/vigillaw05.ClaimsRoles", spec := "claimsRoles", apart := false, narrowed := true }
def ClaimsRolesUptoSaid : Prop := claimsRolesUptoRow.holds Try.pinned (OpenSpec.upto claimsRolesSpec)

/-- 'vigillaw05.ClaimsCovers', WHERE WHAT IT READS IS OF BULK AT MOST 1048576: true; the input reads as it did. -/
def claimsCoversUptoRow : OpenClaim := { program := "ytiomjknhlfhlhaa", sum := "d1f9afbcc7094fc53cf9d5576d8a4136f3f6c5ef38287c10888501ca449e0912", func := "vigil/vigillaw05.ClaimsCovers", spec := "claimsCovers", apart := false, narrowed := true }
def ClaimsCoversUptoSaid : Prop := claimsCoversUptoRow.holds Try.pinned (OpenSpec.upto claimsCoversSpec)

end Rows
end Go.Proofs.Ytiomjknhlfhlhaa
