/-
  No cell of these rows narrows 'for every input' (looked for: loops, veiled, ifaces, maps, wideKeys, modest, calm, conditions, laid).
  DERIVED. THE GIVEN ROWS OF THIS SEAT. 6 by the template 'for every input the law returns true; each argument reads behind the call as it read before'; 0 by the template 'total and deterministic' (their statements: YtoohcjdjmafliaaTotals.lean).
  GIVEN WITH THE SEED: the statements are not yours to turn. If you find one false, say at which input.
  Laid BY PROGRAM, IN A SANDBOX (cutbox-rows.mjs): the forced cells as the released guide's own fill.sh prints them over the translation a7bc4da74a1b629b… (all of the seat's roots in one cut). By AI agents, Wed Nov 11 2026. No macro, syntax, notation, axiom, sorry.
-/
import Derived.Test.YtoohcjdjmafliaaChecked
import GoSem.Claim
import GoSem.ClaimJoined
import GoSem.ClaimMapViews
import Derived.JoinedTies
import Derived.KernelRfl
namespace Go.Proofs.Ytoohcjdjmafliaa
/- THE CELL 'sum', in the pinned program and in every row, IS THE sha256 OF THE DUMP (.gsa) THAT YtoohcjdjmafliaaProg.lean LOADS. Nothing in Lean hashes anything: it is a label: what it is worth is what the hold of that sum in a sandbox is worth. -/
noncomputable def Try.pinned : Pinned := { name := "ytoohcjdjmafliaa", sum := "a7bc4da74a1b629b5025350cc51f07e0b4638fb282dee96fceccd78caa359d2d", checked := Try.checked }
namespace Rows
def none {H : Type} : Left H := { results := [], args := [] }

/-- 'vigillaw12.WindowPlays': WHATEVER THE INPUT: true; the input reads as it did. -/
def windowPlaysSpec : ChangeSpec := { name := "windowPlays", fn := fun _ => fun
  | [d1, d2] => { results := [.lit (.bool true)], args := [d1, d2] }
  | _ => none }
def windowPlaysRow : OpenClaim := { program := "ytoohcjdjmafliaa", sum := "a7bc4da74a1b629b5025350cc51f07e0b4638fb282dee96fceccd78caa359d2d", func := "vigil/vigillaw12.WindowPlays", spec := "windowPlays", apart := false }
def WindowPlaysSaid : Prop := windowPlaysRow.holds Try.pinned (OpenSpec.ofChange windowPlaysSpec)

/-- ITS FALSE NEIGHBOUR: 'it returns false'. Refute it at one input. -/
def windowPlaysWrong : ChangeSpec := { name := "windowPlays", fn := fun _ => fun
  | [d1, d2] => { results := [.lit (.bool false)], args := [d1, d2] }
  | _ => none }
def WindowPlaysWrongFalsely : Prop := windowPlaysRow.holds Try.pinned (OpenSpec.ofChange windowPlaysWrong)

/-- 'vigillaw12.WindowOnce': WHATEVER THE INPUT: true; the input reads as it did. -/
def windowOnceSpec : ChangeSpec := { name := "windowOnce", fn := fun _ => fun
  | [d] => { results := [.lit (.bool true)], args := [d] }
  | _ => none }
def windowOnceRow : OpenClaim := { program := "ytoohcjdjmafliaa", sum := "a7bc4da74a1b629b5025350cc51f07e0b4638fb282dee96fceccd78caa359d2d", func := "vigil/vigillaw12.WindowOnce", spec := "windowOnce", apart := false }
def WindowOnceSaid : Prop := windowOnceRow.holds Try.pinned (OpenSpec.ofChange windowOnceSpec)

/-- ITS FALSE NEIGHBOUR: 'it returns false'. Refute it at one input. -/
def windowOnceWrong : ChangeSpec := { name := "windowOnce", fn := fun _ => fun
  | [d] => { results := [.lit (.bool false)], args := [d] }
  | _ => none }
def WindowOnceWrongFalsely : Prop := windowOnceRow.holds Try.pinned (OpenSpec.ofChange windowOnceWrong)

/-- 'vigillaw12.WindowCounts': WHATEVER THE INPUT: true; the input reads as it did. -/
def windowCountsSpec : ChangeSpec := { name := "windowCounts", fn := fun _ => fun
  | [d1, d2, d3] => { results := [.lit (.bool true)], args := [d1, d2, d3] }
  | _ => none }
def windowCountsRow : OpenClaim := { program := "ytoohcjdjmafliaa", sum := "a7bc4da74a1b629b5025350cc51f07e0b4638fb282dee96fceccd78caa359d2d", func := "vigil/vigillaw12.WindowCounts", spec := "windowCounts", apart := false }
def WindowCountsSaid : Prop := windowCountsRow.holds Try.pinned (OpenSpec.ofChange windowCountsSpec)

/-- ITS FALSE NEIGHBOUR: 'it returns false'. Refute it at one input. -/
def windowCountsWrong : ChangeSpec := { name := "windowCounts", fn := fun _ => fun
  | [d1, d2, d3] => { results := [.lit (.bool false)], args := [d1, d2, d3] }
  | _ => none }
def WindowCountsWrongFalsely : Prop := windowCountsRow.holds Try.pinned (OpenSpec.ofChange windowCountsWrong)

/-- 'vigillaw12.WindowBytes': WHATEVER THE INPUT: true; the input reads as it did. -/
def windowBytesSpec : ChangeSpec := { name := "windowBytes", fn := fun _ => fun
  | [d1, d2, d3] => { results := [.lit (.bool true)], args := [d1, d2, d3] }
  | _ => none }
def windowBytesRow : OpenClaim := { program := "ytoohcjdjmafliaa", sum := "a7bc4da74a1b629b5025350cc51f07e0b4638fb282dee96fceccd78caa359d2d", func := "vigil/vigillaw12.WindowBytes", spec := "windowBytes", apart := false }
def WindowBytesSaid : Prop := windowBytesRow.holds Try.pinned (OpenSpec.ofChange windowBytesSpec)

/-- ITS FALSE NEIGHBOUR: 'it returns false'. Refute it at one input. -/
def windowBytesWrong : ChangeSpec := { name := "windowBytes", fn := fun _ => fun
  | [d1, d2, d3] => { results := [.lit (.bool false)], args := [d1, d2, d3] }
  | _ => none }
def WindowBytesWrongFalsely : Prop := windowBytesRow.holds Try.pinned (OpenSpec.ofChange windowBytesWrong)

/-- 'vigillaw12.WindowNil': WHATEVER THE INPUT: true; the input reads as it did. -/
def windowNilSpec : ChangeSpec := { name := "windowNil", fn := fun _ => fun
  | [d] => { results := [.lit (.bool true)], args := [d] }
  | _ => none }
def windowNilRow : OpenClaim := { program := "ytoohcjdjmafliaa", sum := "a7bc4da74a1b629b5025350cc51f07e0b4638fb282dee96fceccd78caa359d2d", func := "vigil/vigillaw12.WindowNil", spec := "windowNil", apart := false }
def WindowNilSaid : Prop := windowNilRow.holds Try.pinned (OpenSpec.ofChange windowNilSpec)

/-- ITS FALSE NEIGHBOUR: 'it returns false'. Refute it at one input. -/
def windowNilWrong : ChangeSpec := { name := "windowNil", fn := fun _ => fun
  | [d] => { results := [.lit (.bool false)], args := [d] }
  | _ => none }
def WindowNilWrongFalsely : Prop := windowNilRow.holds Try.pinned (OpenSpec.ofChange windowNilWrong)

/-- 'vigillaw12.WindowShuffles': WHATEVER THE INPUT: true; the input reads as it did. -/
def windowShufflesSpec : ChangeSpec := { name := "windowShuffles", fn := fun _ => fun
  | [d1, d2, d3] => { results := [.lit (.bool true)], args := [d1, d2, d3] }
  | _ => none }
def windowShufflesRow : OpenClaim := { program := "ytoohcjdjmafliaa", sum := "a7bc4da74a1b629b5025350cc51f07e0b4638fb282dee96fceccd78caa359d2d", func := "vigil/vigillaw12.WindowShuffles", spec := "windowShuffles", apart := false }
def WindowShufflesSaid : Prop := windowShufflesRow.holds Try.pinned (OpenSpec.ofChange windowShufflesSpec)

/-- ITS FALSE NEIGHBOUR: 'it returns false'. Refute it at one input. -/
def windowShufflesWrong : ChangeSpec := { name := "windowShuffles", fn := fun _ => fun
  | [d1, d2, d3] => { results := [.lit (.bool false)], args := [d1, d2, d3] }
  | _ => none }
def WindowShufflesWrongFalsely : Prop := windowShufflesRow.holds Try.pinned (OpenSpec.ofChange windowShufflesWrong)

/- THE SECOND FORM. 'bulk': how many values and letters a reading holds, each counted each time it is reached (what is shared counts as often as it is met; a slice's spare places count too). A statement '..UptoSaid' is the law's where the arguments, and the package variables that the reading takes, are together of bulk at most 1048576: NARROWER than '..Said'. Prove '..Said' where nothing that the law and all that it calls make is longer than what came in: it says more and counts as full. Else prove '..UptoSaid'. A law counts once. -/
mutual
def uptoBulk {H : Type} : DataW H → Nat
  | .lit (.string bytes) => bytes.length + 1
  | .lit _ => 1
  | .nil => 1
  | .ptr d => uptoBulk d + 1
  | .slice elems spare => uptoBulkAll elems + uptoBulkAll spare + 1
  | .agg parts => uptoBulkAll parts + 1
  | .iface _ d => uptoBulk d + 1
  | .map entries => uptoBulkEntries entries + 1
  | .held _ => 1
def uptoBulkAll {H : Type} : List (DataW H) → Nat
  | [] => 0
  | d :: r => uptoBulk d + uptoBulkAll r
def uptoBulkEntries {H : Type} : List (Lit × DataW H) → Nat
  | [] => 0
  | x :: r => uptoBulkEntry x + uptoBulkEntries r
def uptoBulkEntry {H : Type} : Lit × DataW H → Nat
  | (.string bytes, d) => bytes.length + uptoBulk d + 1
  | (_, d) => uptoBulk d + 1
 end
def uptoSmall : (H : Type) → List (DataW H) → Bool := fun _ ds => decide (uptoBulkAll ds ≤ 1048576)
def OpenSpec.upto (s : _root_.Go.ChangeSpec) : _root_.Go.OpenSpec := { _root_.Go.OpenSpec.ofChange s with cond := some uptoSmall }

/-- 'vigillaw12.WindowPlays', WHERE WHAT IT READS IS OF BULK AT MOST 1048576: true; the input reads as it did. -/
def windowPlaysUptoRow : OpenClaim := { program := "ytoohcjdjmafliaa", sum := "a7bc4da74a1b629b5025350cc51f07e0b4638fb282dee96fceccd78caa359d2d", func := "vigil/vigillaw12.WindowPlays", spec := "windowPlays", apart := false, narrowed := true }
def WindowPlaysUptoSaid : Prop := windowPlaysUptoRow.holds Try.pinned (OpenSpec.upto windowPlaysSpec)

/-- 'vigillaw12.WindowOnce', WHERE WHAT IT READS IS OF BULK AT MOST 1048576: true; the input reads as it did. -/
def windowOnceUptoRow : OpenClaim := { program := "ytoohcjdjmafliaa", sum := "a7bc4da74a1b629b5025350cc51f07e0b4638fb282dee96fceccd78caa359d2d", func := "vigil/vigillaw12.WindowOnce", spec := "windowOnce", apart := false, narrowed := true }
def WindowOnceUptoSaid : Prop := windowOnceUptoRow.holds Try.pinned (OpenSpec.upto windowOnceSpec)

/-- 'vigillaw12.WindowCounts', WHERE WHAT IT READS IS OF BULK AT MOST 1048576: true; the input reads as it did. -/
def windowCountsUptoRow : OpenClaim := { program := "ytoohcjdjmafliaa", sum := "a7bc4da74a1b629b5025350cc51f07e0b4638fb282dee96fceccd78caa359d2d", func := "vigil/vigillaw12.WindowCounts", spec := "windowCounts", apart := false, narrowed := true }
def WindowCountsUptoSaid : Prop := windowCountsUptoRow.holds Try.pinned (OpenSpec.upto windowCountsSpec)

/-- 'vigillaw12.WindowBytes', WHERE WHAT IT READS IS OF BULK AT MOST 1048576: true; the input reads as it did. -/
def windowBytesUptoRow : OpenClaim := { program := "ytoohcjdjmafliaa", sum := "a7bc4da74a1b629b5025350cc51f07e0b4638fb282dee96fceccd78caa359d2d", func := "vigil/vigillaw12.WindowBytes", spec := "windowBytes", apart := false, narrowed := true }
def WindowBytesUptoSaid : Prop := windowBytesUptoRow.holds Try.pinned (OpenSpec.upto windowBytesSpec)

/-- 'vigillaw12.WindowNil', WHERE WHAT IT READS IS OF BULK AT MOST 1048576: true; the input reads as it did. -/
def windowNilUptoRow : OpenClaim := { program := "ytoohcjdjmafliaa", sum := "a7bc4da74a1b629b5025350cc51f07e0b4638fb282dee96fceccd78caa359d2d", func := "vigil/vigillaw12.WindowNil", spec := "windowNil", apart := false, narrowed := true }
def WindowNilUptoSaid : Prop := windowNilUptoRow.holds Try.pinned (OpenSpec.upto windowNilSpec)

/-- 'vigillaw12.WindowShuffles', WHERE WHAT IT READS IS OF BULK AT MOST 1048576: true; the input reads as it did. -/
def windowShufflesUptoRow : OpenClaim := { program := "ytoohcjdjmafliaa", sum := "a7bc4da74a1b629b5025350cc51f07e0b4638fb282dee96fceccd78caa359d2d", func := "vigil/vigillaw12.WindowShuffles", spec := "windowShuffles", apart := false, narrowed := true }
def WindowShufflesUptoSaid : Prop := windowShufflesUptoRow.holds Try.pinned (OpenSpec.upto windowShufflesSpec)

end Rows
end Go.Proofs.Ytoohcjdjmafliaa
