/-
  No cell of these rows narrows 'for every input' (looked for: loops, veiled, ifaces, maps, wideKeys, modest, calm, conditions, laid).
  DERIVED. THE GIVEN ROWS OF THIS SEAT. 5 by the template 'for every input the law returns true; each argument reads behind the call as it read before'; 0 by the template 'total and deterministic' (their statements: YtplkoijgokkmfaaTotals.lean).
  GIVEN WITH THE SEED: the statements are not yours to turn. If you find one false, say at which input.
  Laid BY PROGRAM, IN A SANDBOX (cutbox-rows.mjs): the forced cells as the released guide's own fill.sh prints them over the translation f2b0343ef7608797… (all of the seat's roots in one cut). By AI agents, Wed Nov 11 2026. No macro, syntax, notation, axiom, sorry.
-/
import Derived.Test.YtplkoijgokkmfaaChecked
import GoSem.Claim
import GoSem.ClaimJoined
import GoSem.ClaimMapViews
import Derived.JoinedTies
import Derived.KernelRfl
namespace Go.Proofs.Ytplkoijgokkmfaa
/- THE CELL 'sum', in the pinned program and in every row, IS THE sha256 OF THE DUMP (.gsa) THAT YtplkoijgokkmfaaProg.lean LOADS. Nothing in Lean hashes anything: it is a label: what it is worth is what the hold of that sum in a sandbox is worth. -/
noncomputable def Try.pinned : Pinned := { name := "ytplkoijgokkmfaa", sum := "f2b0343ef760879725437417919aaedff66681ebf2cbe41f112ccaded51d0990", checked := Try.checked }
namespace Rows
def none {H : Type} : Left H := { results := [], args := [] }

/-- 'vigillaw11.QuotaPlays': WHATEVER THE INPUT: true; the input reads as it did. -/
def quotaPlaysSpec : ChangeSpec := { name := "quotaPlays", fn := fun _ => fun
  | [d1, d2, d3, d4] => { results := [.lit (.bool true)], args := [d1, d2, d3, d4] }
  | _ => none }
def quotaPlaysRow : OpenClaim := { program := "ytplkoijgokkmfaa", sum := "f2b0343ef760879725437417919aaedff66681ebf2cbe41f112ccaded51d0990", func := "vigil/vigillaw11.QuotaPlays", spec := "quotaPlays", unfollowed := true, recurses := true, apart := false }
def QuotaPlaysSaid : Prop := quotaPlaysRow.holds Try.pinned (OpenSpec.ofChange quotaPlaysSpec)

/-- ITS FALSE NEIGHBOUR: 'it returns false'. Refute it at one input. -/
def quotaPlaysWrong : ChangeSpec := { name := "quotaPlays", fn := fun _ => fun
  | [d1, d2, d3, d4] => { results := [.lit (.bool false)], args := [d1, d2, d3, d4] }
  | _ => none }
def QuotaPlaysWrongFalsely : Prop := quotaPlaysRow.holds Try.pinned (OpenSpec.ofChange quotaPlaysWrong)

/-- 'vigillaw11.QuotaBounds': WHATEVER THE INPUT: true; the input reads as it did. -/
def quotaBoundsSpec : ChangeSpec := { name := "quotaBounds", fn := fun _ => fun
  | [d1, d2] => { results := [.lit (.bool true)], args := [d1, d2] }
  | _ => none }
def quotaBoundsRow : OpenClaim := { program := "ytplkoijgokkmfaa", sum := "f2b0343ef760879725437417919aaedff66681ebf2cbe41f112ccaded51d0990", func := "vigil/vigillaw11.QuotaBounds", spec := "quotaBounds", unfollowed := true, recurses := true, apart := false }
def QuotaBoundsSaid : Prop := quotaBoundsRow.holds Try.pinned (OpenSpec.ofChange quotaBoundsSpec)

/-- ITS FALSE NEIGHBOUR: 'it returns false'. Refute it at one input. -/
def quotaBoundsWrong : ChangeSpec := { name := "quotaBounds", fn := fun _ => fun
  | [d1, d2] => { results := [.lit (.bool false)], args := [d1, d2] }
  | _ => none }
def QuotaBoundsWrongFalsely : Prop := quotaBoundsRow.holds Try.pinned (OpenSpec.ofChange quotaBoundsWrong)

/-- 'vigillaw11.QuotaReplies': WHATEVER THE INPUT: true; the input reads as it did. -/
def quotaRepliesSpec : ChangeSpec := { name := "quotaReplies", fn := fun _ => fun
  | [d1, d2, d3] => { results := [.lit (.bool true)], args := [d1, d2, d3] }
  | _ => none }
def quotaRepliesRow : OpenClaim := { program := "ytplkoijgokkmfaa", sum := "f2b0343ef760879725437417919aaedff66681ebf2cbe41f112ccaded51d0990", func := "vigil/vigillaw11.QuotaReplies", spec := "quotaReplies", apart := false }
def QuotaRepliesSaid : Prop := quotaRepliesRow.holds Try.pinned (OpenSpec.ofChange quotaRepliesSpec)

/-- ITS FALSE NEIGHBOUR: 'it returns false'. Refute it at one input. -/
def quotaRepliesWrong : ChangeSpec := { name := "quotaReplies", fn := fun _ => fun
  | [d1, d2, d3] => { results := [.lit (.bool false)], args := [d1, d2, d3] }
  | _ => none }
def QuotaRepliesWrongFalsely : Prop := quotaRepliesRow.holds Try.pinned (OpenSpec.ofChange quotaRepliesWrong)

/-- 'vigillaw11.QuotaNil': WHATEVER THE INPUT: true; the input reads as it did. -/
def quotaNilSpec : ChangeSpec := { name := "quotaNil", fn := fun _ => fun
  | [d1, d2] => { results := [.lit (.bool true)], args := [d1, d2] }
  | _ => none }
def quotaNilRow : OpenClaim := { program := "ytplkoijgokkmfaa", sum := "f2b0343ef760879725437417919aaedff66681ebf2cbe41f112ccaded51d0990", func := "vigil/vigillaw11.QuotaNil", spec := "quotaNil", unfollowed := true, recurses := true, apart := false }
def QuotaNilSaid : Prop := quotaNilRow.holds Try.pinned (OpenSpec.ofChange quotaNilSpec)

/-- ITS FALSE NEIGHBOUR: 'it returns false'. Refute it at one input. -/
def quotaNilWrong : ChangeSpec := { name := "quotaNil", fn := fun _ => fun
  | [d1, d2] => { results := [.lit (.bool false)], args := [d1, d2] }
  | _ => none }
def QuotaNilWrongFalsely : Prop := quotaNilRow.holds Try.pinned (OpenSpec.ofChange quotaNilWrong)

/-- 'vigillaw11.QuotaFair': WHATEVER THE INPUT: true; the input reads as it did. -/
def quotaFairSpec : ChangeSpec := { name := "quotaFair", fn := fun _ => fun
  | [d1, d2] => { results := [.lit (.bool true)], args := [d1, d2] }
  | _ => none }
def quotaFairRow : OpenClaim := { program := "ytplkoijgokkmfaa", sum := "f2b0343ef760879725437417919aaedff66681ebf2cbe41f112ccaded51d0990", func := "vigil/vigillaw11.QuotaFair", spec := "quotaFair", apart := false }
def QuotaFairSaid : Prop := quotaFairRow.holds Try.pinned (OpenSpec.ofChange quotaFairSpec)

/-- ITS FALSE NEIGHBOUR: 'it returns false'. Refute it at one input. -/
def quotaFairWrong : ChangeSpec := { name := "quotaFair", fn := fun _ => fun
  | [d1, d2] => { results := [.lit (.bool false)], args := [d1, d2] }
  | _ => none }
def QuotaFairWrongFalsely : Prop := quotaFairRow.holds Try.pinned (OpenSpec.ofChange quotaFairWrong)

/- THE SECOND FORM. 'bulk': how many values and letters a reading holds, each counted each time it is reached (what is shared counts as often as it is met; a slice's spare places count too). A statement '..UptoSaid' is the law's where the arguments, and the package variables that the reading takes, are together of bulk at most 1048576: NARROWER than '..Said'. Prove '..Said' where nothing that the law and all that it calls make is longer than what came in: it says more and counts as full. Else prove '..UptoSaid'. A law counts once. -/
mutual
def uptoBulk {H : Type} : DataW H → Nat
  | .lit (.string bytes) => bytes.length + 1
  | .lit _ => 1
  | .nil => 1
  | .ptr d => uptoBulk d + 1
  | .slice elems spare => uptoBulkAll elems + uptoBulkAll spare + 1
  | .agg parts => uptoBulkAll parts + 1
  | .iface _ d => uptoBulk d + 1
  | .map entries => uptoBulkEntries entries + 1
  | .held _ => 1
def uptoBulkAll {H : Type} : List (DataW H) → Nat
  | [] => 0
  | d :: r => uptoBulk d + uptoBulkAll r
def uptoBulkEntries {H : Type} : List (Lit × DataW H) → Nat
  | [] => 0
  | x :: r => uptoBulkEntry x + uptoBulkEntries r
def uptoBulkEntry {H : Type} : Lit × DataW H → Nat
  | (.string bytes, d) => bytes.length + uptoBulk d + 1
  | (_, d) => uptoBulk d + 1
 end
def uptoSmall : (H : Type) → List (DataW H) → Bool := fun _ ds => decide (uptoBulkAll ds ≤ 1048576)
def OpenSpec.upto (s : _root_.Go.ChangeSpec) : _root_.Go.OpenSpec := { _root_.Go.OpenSpec.ofChange s with cond := some uptoSmall }

/-- 'vigillaw11.QuotaPlays', WHERE WHAT IT READS IS OF BULK AT MOST 1048576: true; the input reads as it did. -/
def quotaPlaysUptoRow : OpenClaim := { program := "ytplkoijgokkmfaa", sum := "f2b0343ef760879725437417919aaedff66681ebf2cbe41f112ccaded51d0990", func := "vigil/vigillaw11.QuotaPlays", spec := "quotaPlays", unfollowed := true, recurses := true, apart := false, narrowed := true }
def QuotaPlaysUptoSaid : Prop := quotaPlaysUptoRow.holds Try.pinned (OpenSpec.upto quotaPlaysSpec)

/-- 'vigillaw11.QuotaBounds', WHERE WHAT IT READS IS OF BULK AT MOST 1048576: true; the input reads as it did. -/
def quotaBoundsUptoRow : OpenClaim := { program := "ytplkoijgokkmfaa", sum := "f2b0343ef760879725437417919aaedff66681ebf2cbe41f112ccaded51d0990", func := "vigil/vigillaw11.QuotaBounds", spec := "quotaBounds", unfollowed := true, recurses := true, apart := false, narrowed := true }
def QuotaBoundsUptoSaid : Prop := quotaBoundsUptoRow.holds Try.pinned (OpenSpec.upto quotaBoundsSpec)

/-- 'vigillaw11.QuotaReplies', WHERE WHAT IT READS IS OF BULK AT MOST 1048576: true; the input reads as it did. -/
def quotaRepliesUptoRow : OpenClaim := { program := "ytplkoijgokkmfaa", sum := "f2b0343ef760879725437417919aaedff66681ebf2cbe41f112ccaded51d0990", func := "vigil/vigillaw11.QuotaReplies", spec := "quotaReplies", apart := false, narrowed := true }
def QuotaRepliesUptoSaid : Prop := quotaRepliesUptoRow.holds Try.pinned (OpenSpec.upto quotaRepliesSpec)

/-- 'vigillaw11.QuotaNil', WHERE WHAT IT READS IS OF BULK AT MOST 1048576: true; the input reads as it did. -/
def quotaNilUptoRow : OpenClaim := { program := "ytplkoijgokkmfaa", sum := "f2b0343ef760879725437417919aaedff66681ebf2cbe41f112ccaded51d0990", func := "vigil/vigillaw11.QuotaNil", spec := "quotaNil", unfollowed := true, recurses := true, apart := false, narrowed := true }
def QuotaNilUptoSaid : Prop := quotaNilUptoRow.holds Try.pinned (OpenSpec.upto quotaNilSpec)

/-- 'vigillaw11.QuotaFair', WHERE WHAT IT READS IS OF BULK AT MOST 1048576: true; the input reads as it did. -/
def quotaFairUptoRow : OpenClaim := { program := "ytplkoijgokkmfaa", sum := "f2b0343ef760879725437417919aaedff66681ebf2cbe41f112ccaded51d0990", func := "vigil/vigillaw11.QuotaFair", spec := "quotaFair", apart := false, narrowed := true }
def QuotaFairUptoSaid : Prop := quotaFairUptoRow.holds Try.pinned (OpenSpec.upto quotaFairSpec)

end Rows
end Go.Proofs.Ytplkoijgokkmfaa
