/-
  The table that is laid, and arguments opened.
-/
import Derived.Test.YtnfgamekjbkbkaaDoorAb
import Derived.Test.YtnfgamekjbkbkaaDoorGo
import Derived.Test.YtnfgamekjbkbkaaDoorRows
import Derived.ProofKit
import Derived.OpenShut
import Derived.ShutString
import Derived.ChangeOld
import Derived.Below
import Derived.Deep.DeepHandedRow
import Derived.Lib.LaidTab
import Derived.Deep.Matrix
namespace Go.Proofs.YtnfgamekjbkbkaaDoor
open Go Go.ChangeShapes Go.WideShapes Go.ChangeAt Go.RowKit
theorem gTab : Tryd.prog.globalNamed "vigil/digest.table" = some 1 := by kernel_rfl
theorem gTabType : (Tryd.prog.globals[1]?).map (·.type) = some 56 := by kernel_rfl
theorem cellsTab : Tryd.prog.cellsOf 56 = 64 := by kernel_rfl
theorem cellsWord : Tryd.prog.cellsOf 55 = 1 := by kernel_rfl
theorem laid_is : (Rows.laid_vigil_digest_table : DataW Unit) = Lib.tabData .u32 (kTab.map uv) := by kernel_rfl
/-- The listed variable's cells hold the table. -/
theorem tab_of {W : World} (h : laidMet Tryd.prog [("vigil/digest.table", Rows.laid_vigil_digest_table)] W) : Tab W := by
  rw [laid_is] at h
  have t := Lib.tabIs_of_head (rest := []) gTab gTabType Tryd.underlying56 Tryd.underlying55 cellsWord cellsTab h
  intro i hi
  rw [t.cell gTab i (by simpa [kTab] using hi)]
  congr 2
  have hk : i < kTab.length := hi
  simp [hk]
end Go.Proofs.YtnfgamekjbkbkaaDoor
namespace Go.Proofs.YtnfgamekjbkbkaaDoor
open Go Go.ChangeShapes Go.WideShapes Go.ChangeAt Go.RowKit
end Go.Proofs.YtnfgamekjbkbkaaDoor
