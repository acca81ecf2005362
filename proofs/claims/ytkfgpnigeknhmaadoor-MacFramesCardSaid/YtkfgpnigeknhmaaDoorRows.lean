/-
  NARROWER THAN 'FOR EVERY INPUT', by the rows' own cells (each row's printed sentence says how): DigestSums: laid · DigestRunning: laid · DigestSigns: laid · MacTags: laid · MacDerives: laid · MacKeys: laid · MacEquals: laid · MacFrames: laid.
  DERIVED. THE GIVEN ROWS OF THIS SEAT. 8 by the template 'for every input the law returns true; each argument reads behind the call as it read before'; 0 by the template 'total and deterministic' (their statements: YtkfgpnigeknhmaaDoorTotals.lean).
  GIVEN WITH THE SEED: the statements are not yours to turn. If you find one false, say at which input.
  Laid BY PROGRAM, IN A SANDBOX (cutbox-rows.mjs): the forced cells as the released guide's own fill.sh prints them over the translation a02983ea3250d661… (all of the seat's roots in one cut). By AI agents, Wed Nov 11 2026. No macro, syntax, notation, axiom, sorry.
-/
import Derived.Test.YtkfgpnigeknhmaaDoorChecked
import GoSem.Claim
import GoSem.ClaimJoined
import GoSem.ClaimMapViews
import Derived.JoinedTies
import Derived.KernelRfl
namespace Go.Proofs.YtkfgpnigeknhmaaDoor
/- THE CELL 'sum', in the pinned program and in every row, IS THE sha256 OF THE DUMP (.gsa) THAT YtkfgpnigeknhmaaDoorProg.lean LOADS. Nothing in Lean hashes anything: it is a label: what it is worth is what the hold of that sum in a sandbox is worth. -/
noncomputable def Tryd.pinned : Pinned := { name := "ytkfgpnigeknhmaadoor", sum := "a02983ea3250d661500a8c92562316a912ee8128cb9e976e10592af3595e137d", checked := Tryd.checked }
namespace Rows
def none {H : Type} : Left H := { results := [], args := [] }

/- WHAT THE LISTED PACKAGE-LEVEL VARIABLES READ AS WHEN THE CALL BEGINS. Each datum BY PROGRAM (the guide's laid-datum.mjs) off the statement by which the dump's own 'gosem.cut.vars' lays the variable. In a bare row this is a premise. The card (YtkfgpnigeknhmaaDoorCards.lean) ties it to the program's text. -/
def laid_vigil_digest_table {H : Type} : DataW H := .agg [.lit (.int .u32 1116352408), .lit (.int .u32 1899447441), .lit (.int .u32 3049323471), .lit (.int .u32 3921009573), .lit (.int .u32 961987163), .lit (.int .u32 1508970993), .lit (.int .u32 2453635748), .lit (.int .u32 2870763221), .lit (.int .u32 3624381080), .lit (.int .u32 310598401), .lit (.int .u32 607225278), .lit (.int .u32 1426881987), .lit (.int .u32 1925078388), .lit (.int .u32 2162078206), .lit (.int .u32 2614888103), .lit (.int .u32 3248222580), .lit (.int .u32 3835390401), .lit (.int .u32 4022224774), .lit (.int .u32 264347078), .lit (.int .u32 604807628), .lit (.int .u32 770255983), .lit (.int .u32 1249150122), .lit (.int .u32 1555081692), .lit (.int .u32 1996064986), .lit (.int .u32 2554220882), .lit (.int .u32 2821834349), .lit (.int .u32 2952996808), .lit (.int .u32 3210313671), .lit (.int .u32 3336571891), .lit (.int .u32 3584528711), .lit (.int .u32 113926993), .lit (.int .u32 338241895), .lit (.int .u32 666307205), .lit (.int .u32 773529912), .lit (.int .u32 1294757372), .lit (.int .u32 1396182291), .lit (.int .u32 1695183700), .lit (.int .u32 1986661051), .lit (.int .u32 2177026350), .lit (.int .u32 2456956037), .lit (.int .u32 2730485921), .lit (.int .u32 2820302411), .lit (.int .u32 3259730800), .lit (.int .u32 3345764771), .lit (.int .u32 3516065817), .lit (.int .u32 3600352804), .lit (.int .u32 4094571909), .lit (.int .u32 275423344), .lit (.int .u32 430227734), .lit (.int .u32 506948616), .lit (.int .u32 659060556), .lit (.int .u32 883997877), .lit (.int .u32 958139571), .lit (.int .u32 1322822218), .lit (.int .u32 1537002063), .lit (.int .u32 1747873779), .lit (.int .u32 1955562222), .lit (.int .u32 2024104815), .lit (.int .u32 2227730452), .lit (.int .u32 2361852424), .lit (.int .u32 2428436474), .lit (.int .u32 2756734187), .lit (.int .u32 3204031479), .lit (.int .u32 3329325298)]

/-- 'vigillaw01.DigestSums': WHATEVER THE INPUT: true; the input reads as it did. -/
def digestSumsSpec : ChangeSpec := { name := "digestSums", fn := fun _ => fun
  | [d] => { results := [.lit (.bool true)], args := [d] }
  | _ => none }
def digestSumsRow : OpenClaim := { program := "ytkfgpnigeknhmaadoor", sum := "a02983ea3250d661500a8c92562316a912ee8128cb9e976e10592af3595e137d", func := "vigil/vigillaw01.DigestSums", spec := "digestSums", unfollowed := true, recurses := true, named := ["vigil/digest.table"], apart := false, laid := [("vigil/digest.table", laid_vigil_digest_table)] }
def DigestSumsSaid : Prop := digestSumsRow.holds Tryd.pinned (OpenSpec.ofChange digestSumsSpec)

/-- ITS FALSE NEIGHBOUR: 'it returns false'. Refute it at one input. -/
def digestSumsWrong : ChangeSpec := { name := "digestSums", fn := fun _ => fun
  | [d] => { results := [.lit (.bool false)], args := [d] }
  | _ => none }
def DigestSumsWrongFalsely : Prop := digestSumsRow.holds Tryd.pinned (OpenSpec.ofChange digestSumsWrong)

/-- 'vigillaw01.DigestRunning': WHATEVER THE INPUT: true; the input reads as it did. -/
def digestRunningSpec : ChangeSpec := { name := "digestRunning", fn := fun _ => fun
  | [d1, d2] => { results := [.lit (.bool true)], args := [d1, d2] }
  | _ => none }
def digestRunningRow : OpenClaim := { program := "ytkfgpnigeknhmaadoor", sum := "a02983ea3250d661500a8c92562316a912ee8128cb9e976e10592af3595e137d", func := "vigil/vigillaw01.DigestRunning", spec := "digestRunning", unfollowed := true, recurses := true, named := ["vigil/digest.table"], apart := false, laid := [("vigil/digest.table", laid_vigil_digest_table)] }
def DigestRunningSaid : Prop := digestRunningRow.holds Tryd.pinned (OpenSpec.ofChange digestRunningSpec)

/-- ITS FALSE NEIGHBOUR: 'it returns false'. Refute it at one input. -/
def digestRunningWrong : ChangeSpec := { name := "digestRunning", fn := fun _ => fun
  | [d1, d2] => { results := [.lit (.bool false)], args := [d1, d2] }
  | _ => none }
def DigestRunningWrongFalsely : Prop := digestRunningRow.holds Tryd.pinned (OpenSpec.ofChange digestRunningWrong)

/-- 'vigillaw01.DigestSigns': WHATEVER THE INPUT: true; the input reads as it did. -/
def digestSignsSpec : ChangeSpec := { name := "digestSigns", fn := fun _ => fun
  | [d1, d2] => { results := [.lit (.bool true)], args := [d1, d2] }
  | _ => none }
def digestSignsRow : OpenClaim := { program := "ytkfgpnigeknhmaadoor", sum := "a02983ea3250d661500a8c92562316a912ee8128cb9e976e10592af3595e137d", func := "vigil/vigillaw01.DigestSigns", spec := "digestSigns", unfollowed := true, recurses := true, named := ["vigil/digest.table"], apart := false, laid := [("vigil/digest.table", laid_vigil_digest_table)] }
def DigestSignsSaid : Prop := digestSignsRow.holds Tryd.pinned (OpenSpec.ofChange digestSignsSpec)

/-- ITS FALSE NEIGHBOUR: 'it returns false'. Refute it at one input. -/
def digestSignsWrong : ChangeSpec := { name := "digestSigns", fn := fun _ => fun
  | [d1, d2] => { results := [.lit (.bool false)], args := [d1, d2] }
  | _ => none }
def DigestSignsWrongFalsely : Prop := digestSignsRow.holds Tryd.pinned (OpenSpec.ofChange digestSignsWrong)

/-- 'vigillaw02.MacTags': WHATEVER THE INPUT: true; the input reads as it did. -/
def macTagsSpec : ChangeSpec := { name := "macTags", fn := fun _ => fun
  | [d1, d2, d3] => { results := [.lit (.bool true)], args := [d1, d2, d3] }
  | _ => none }
def macTagsRow : OpenClaim := { program := "ytkfgpnigeknhmaadoor", sum := "a02983ea3250d661500a8c92562316a912ee8128cb9e976e10592af3595e137d", func := "vigil/vigillaw02.MacTags", spec := "macTags", unfollowed := true, recurses := true, named := ["vigil/digest.table"], apart := false, laid := [("vigil/digest.table", laid_vigil_digest_table)] }
def MacTagsSaid : Prop := macTagsRow.holds Tryd.pinned (OpenSpec.ofChange macTagsSpec)

/-- ITS FALSE NEIGHBOUR: 'it returns false'. Refute it at one input. -/
def macTagsWrong : ChangeSpec := { name := "macTags", fn := fun _ => fun
  | [d1, d2, d3] => { results := [.lit (.bool false)], args := [d1, d2, d3] }
  | _ => none }
def MacTagsWrongFalsely : Prop := macTagsRow.holds Tryd.pinned (OpenSpec.ofChange macTagsWrong)

/-- 'vigillaw02.MacDerives': WHATEVER THE INPUT: true; the input reads as it did. -/
def macDerivesSpec : ChangeSpec := { name := "macDerives", fn := fun _ => fun
  | [d1, d2, d3] => { results := [.lit (.bool true)], args := [d1, d2, d3] }
  | _ => none }
def macDerivesRow : OpenClaim := { program := "ytkfgpnigeknhmaadoor", sum := "a02983ea3250d661500a8c92562316a912ee8128cb9e976e10592af3595e137d", func := "vigil/vigillaw02.MacDerives", spec := "macDerives", unfollowed := true, recurses := true, named := ["vigil/digest.table"], apart := false, laid := [("vigil/digest.table", laid_vigil_digest_table)] }
def MacDerivesSaid : Prop := macDerivesRow.holds Tryd.pinned (OpenSpec.ofChange macDerivesSpec)

/-- ITS FALSE NEIGHBOUR: 'it returns false'. Refute it at one input. -/
def macDerivesWrong : ChangeSpec := { name := "macDerives", fn := fun _ => fun
  | [d1, d2, d3] => { results := [.lit (.bool false)], args := [d1, d2, d3] }
  | _ => none }
def MacDerivesWrongFalsely : Prop := macDerivesRow.holds Tryd.pinned (OpenSpec.ofChange macDerivesWrong)

/-- 'vigillaw02.MacKeys': WHATEVER THE INPUT: true; the input reads as it did. -/
def macKeysSpec : ChangeSpec := { name := "macKeys", fn := fun _ => fun
  | [d1, d2, d3] => { results := [.lit (.bool true)], args := [d1, d2, d3] }
  | _ => none }
def macKeysRow : OpenClaim := { program := "ytkfgpnigeknhmaadoor", sum := "a02983ea3250d661500a8c92562316a912ee8128cb9e976e10592af3595e137d", func := "vigil/vigillaw02.MacKeys", spec := "macKeys", unfollowed := true, recurses := true, named := ["vigil/digest.table"], apart := false, laid := [("vigil/digest.table", laid_vigil_digest_table)] }
def MacKeysSaid : Prop := macKeysRow.holds Tryd.pinned (OpenSpec.ofChange macKeysSpec)

/-- ITS FALSE NEIGHBOUR: 'it returns false'. Refute it at one input. -/
def macKeysWrong : ChangeSpec := { name := "macKeys", fn := fun _ => fun
  | [d1, d2, d3] => { results := [.lit (.bool false)], args := [d1, d2, d3] }
  | _ => none }
def MacKeysWrongFalsely : Prop := macKeysRow.holds Tryd.pinned (OpenSpec.ofChange macKeysWrong)

/-- 'vigillaw02.MacEquals': WHATEVER THE INPUT: true; the input reads as it did. -/
def macEqualsSpec : ChangeSpec := { name := "macEquals", fn := fun _ => fun
  | [d1, d2] => { results := [.lit (.bool true)], args := [d1, d2] }
  | _ => none }
def macEqualsRow : OpenClaim := { program := "ytkfgpnigeknhmaadoor", sum := "a02983ea3250d661500a8c92562316a912ee8128cb9e976e10592af3595e137d", func := "vigil/vigillaw02.MacEquals", spec := "macEquals", unfollowed := true, recurses := true, named := ["vigil/digest.table"], apart := false, laid := [("vigil/digest.table", laid_vigil_digest_table)] }
def MacEqualsSaid : Prop := macEqualsRow.holds Tryd.pinned (OpenSpec.ofChange macEqualsSpec)

/-- ITS FALSE NEIGHBOUR: 'it returns false'. Refute it at one input. -/
def macEqualsWrong : ChangeSpec := { name := "macEquals", fn := fun _ => fun
  | [d1, d2] => { results := [.lit (.bool false)], args := [d1, d2] }
  | _ => none }
def MacEqualsWrongFalsely : Prop := macEqualsRow.holds Tryd.pinned (OpenSpec.ofChange macEqualsWrong)

/-- 'vigillaw02.MacFrames': WHATEVER THE INPUT: true; the input reads as it did. -/
def macFramesSpec : ChangeSpec := { name := "macFrames", fn := fun _ => fun
  | [d1, d2, d3, d4, d5] => { results := [.lit (.bool true)], args := [d1, d2, d3, d4, d5] }
  | _ => none }
def macFramesRow : OpenClaim := { program := "ytkfgpnigeknhmaadoor", sum := "a02983ea3250d661500a8c92562316a912ee8128cb9e976e10592af3595e137d", func := "vigil/vigillaw02.MacFrames", spec := "macFrames", unfollowed := true, recurses := true, named := ["vigil/digest.table"], apart := false, laid := [("vigil/digest.table", laid_vigil_digest_table)] }
def MacFramesSaid : Prop := macFramesRow.holds Tryd.pinned (OpenSpec.ofChange macFramesSpec)

/-- ITS FALSE NEIGHBOUR: 'it returns false'. Refute it at one input. -/
def macFramesWrong : ChangeSpec := { name := "macFrames", fn := fun _ => fun
  | [d1, d2, d3, d4, d5] => { results := [.lit (.bool false)], args := [d1, d2, d3, d4, d5] }
  | _ => none }
def MacFramesWrongFalsely : Prop := macFramesRow.holds Tryd.pinned (OpenSpec.ofChange macFramesWrong)

/- THE SECOND FORM. 'bulk': how many values and letters a reading holds, each counted each time it is reached (what is shared counts as often as it is met; a slice's spare places count too). A statement '..UptoSaid' is the law's where the arguments, and the package variables that the reading takes, are together of bulk at most 1048576: NARROWER than '..Said'. Prove '..Said' where nothing that the law and all that it calls make is longer than what came in: it says more and counts as full. Else prove '..UptoSaid'. A law counts once. -/
mutual
def uptoBulk {H : Type} : DataW H → Nat
  | .lit (.string bytes) => bytes.length + 1
  | .lit _ => 1
  | .nil => 1
  | .ptr d => uptoBulk d + 1
  | .slice elems spare => uptoBulkAll elems + uptoBulkAll spare + 1
  | .agg parts => uptoBulkAll parts + 1
  | .iface _ d => uptoBulk d + 1
  | .map entries => uptoBulkEntries entries + 1
  | .held _ => 1
def uptoBulkAll {H : Type} : List (DataW H) → Nat
  | [] => 0
  | d :: r => uptoBulk d + uptoBulkAll r
def uptoBulkEntries {H : Type} : List (Lit × DataW H) → Nat
  | [] => 0
  | x :: r => uptoBulkEntry x + uptoBulkEntries r
def uptoBulkEntry {H : Type} : Lit × DataW H → Nat
  | (.string bytes, d) => bytes.length + uptoBulk d + 1
  | (_, d) => uptoBulk d + 1
 end
def uptoSmall : (H : Type) → List (DataW H) → Bool := fun _ ds => decide (uptoBulkAll ds ≤ 1048576)
def OpenSpec.upto (s : _root_.Go.ChangeSpec) : _root_.Go.OpenSpec := { _root_.Go.OpenSpec.ofChange s with cond := some uptoSmall }

/-- 'vigillaw01.DigestSums', WHERE WHAT IT READS IS OF BULK AT MOST 1048576: true; the input reads as it did. -/
def digestSumsUptoRow : OpenClaim := { program := "ytkfgpnigeknhmaadoor", sum := "a02983ea3250d661500a8c92562316a912ee8128cb9e976e10592af3595e137d", func := "vigil/vigillaw01.DigestSums", spec := "digestSums", unfollowed := true, recurses := true, named := ["vigil/digest.table"], apart := false, laid := [("vigil/digest.table", laid_vigil_digest_table)], narrowed := true }
def DigestSumsUptoSaid : Prop := digestSumsUptoRow.holds Tryd.pinned (OpenSpec.upto digestSumsSpec)

/-- 'vigillaw01.DigestRunning', WHERE WHAT IT READS IS OF BULK AT MOST 1048576: true; the input reads as it did. -/
def digestRunningUptoRow : OpenClaim := { program := "ytkfgpnigeknhmaadoor", sum := "a02983ea3250d661500a8c92562316a912ee8128cb9e976e10592af3595e137d", func := "vigil/vigillaw01.DigestRunning", spec := "digestRunning", unfollowed := true, recurses := true, named := ["vigil/digest.table"], apart := false, laid := [("vigil/digest.table", laid_vigil_digest_table)], narrowed := true }
def DigestRunningUptoSaid : Prop := digestRunningUptoRow.holds Tryd.pinned (OpenSpec.upto digestRunningSpec)

/-- 'vigillaw01.DigestSigns', WHERE WHAT IT READS IS OF BULK AT MOST 1048576: true; the input reads as it did. -/
def digestSignsUptoRow : OpenClaim := { program := "ytkfgpnigeknhmaadoor", sum := "a02983ea3250d661500a8c92562316a912ee8128cb9e976e10592af3595e137d", func := "vigil/vigillaw01.DigestSigns", spec := "digestSigns", unfollowed := true, recurses := true, named := ["vigil/digest.table"], apart := false, laid := [("vigil/digest.table", laid_vigil_digest_table)], narrowed := true }
def DigestSignsUptoSaid : Prop := digestSignsUptoRow.holds Tryd.pinned (OpenSpec.upto digestSignsSpec)

/-- 'vigillaw02.MacTags', WHERE WHAT IT READS IS OF BULK AT MOST 1048576: true; the input reads as it did. -/
def macTagsUptoRow : OpenClaim := { program := "ytkfgpnigeknhmaadoor", sum := "a02983ea3250d661500a8c92562316a912ee8128cb9e976e10592af3595e137d", func := "vigil/vigillaw02.MacTags", spec := "macTags", unfollowed := true, recurses := true, named := ["vigil/digest.table"], apart := false, laid := [("vigil/digest.table", laid_vigil_digest_table)], narrowed := true }
def MacTagsUptoSaid : Prop := macTagsUptoRow.holds Tryd.pinned (OpenSpec.upto macTagsSpec)

/-- 'vigillaw02.MacDerives', WHERE WHAT IT READS IS OF BULK AT MOST 1048576: true; the input reads as it did. -/
def macDerivesUptoRow : OpenClaim := { program := "ytkfgpnigeknhmaadoor", sum := "a02983ea3250d661500a8c92562316a912ee8128cb9e976e10592af3595e137d", func := "vigil/vigillaw02.MacDerives", spec := "macDerives", unfollowed := true, recurses := true, named := ["vigil/digest.table"], apart := false, laid := [("vigil/digest.table", laid_vigil_digest_table)], narrowed := true }
def MacDerivesUptoSaid : Prop := macDerivesUptoRow.holds Tryd.pinned (OpenSpec.upto macDerivesSpec)

/-- 'vigillaw02.MacKeys', WHERE WHAT IT READS IS OF BULK AT MOST 1048576: true; the input reads as it did. -/
def macKeysUptoRow : OpenClaim := { program := "ytkfgpnigeknhmaadoor", sum := "a02983ea3250d661500a8c92562316a912ee8128cb9e976e10592af3595e137d", func := "vigil/vigillaw02.MacKeys", spec := "macKeys", unfollowed := true, recurses := true, named := ["vigil/digest.table"], apart := false, laid := [("vigil/digest.table", laid_vigil_digest_table)], narrowed := true }
def MacKeysUptoSaid : Prop := macKeysUptoRow.holds Tryd.pinned (OpenSpec.upto macKeysSpec)

/-- 'vigillaw02.MacEquals', WHERE WHAT IT READS IS OF BULK AT MOST 1048576: true; the input reads as it did. -/
def macEqualsUptoRow : OpenClaim := { program := "ytkfgpnigeknhmaadoor", sum := "a02983ea3250d661500a8c92562316a912ee8128cb9e976e10592af3595e137d", func := "vigil/vigillaw02.MacEquals", spec := "macEquals", unfollowed := true, recurses := true, named := ["vigil/digest.table"], apart := false, laid := [("vigil/digest.table", laid_vigil_digest_table)], narrowed := true }
def MacEqualsUptoSaid : Prop := macEqualsUptoRow.holds Tryd.pinned (OpenSpec.upto macEqualsSpec)

/-- 'vigillaw02.MacFrames', WHERE WHAT IT READS IS OF BULK AT MOST 1048576: true; the input reads as it did. -/
def macFramesUptoRow : OpenClaim := { program := "ytkfgpnigeknhmaadoor", sum := "a02983ea3250d661500a8c92562316a912ee8128cb9e976e10592af3595e137d", func := "vigil/vigillaw02.MacFrames", spec := "macFrames", unfollowed := true, recurses := true, named := ["vigil/digest.table"], apart := false, laid := [("vigil/digest.table", laid_vigil_digest_table)], narrowed := true }
def MacFramesUptoSaid : Prop := macFramesUptoRow.holds Tryd.pinned (OpenSpec.upto macFramesSpec)

end Rows
end Go.Proofs.YtkfgpnigeknhmaaDoor
