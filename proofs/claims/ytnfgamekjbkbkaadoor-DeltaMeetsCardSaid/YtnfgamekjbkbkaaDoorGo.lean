/-
  Arguments opened: bytes, and parts.
-/
import Derived.Test.YtnfgamekjbkbkaaDoorGa
import Derived.Test.YtnfgamekjbkbkaaDoorRows
import Derived.ProofKit
import Derived.OpenShut
import Derived.ShutString
import Derived.ChangeOld
import Derived.Below
import Derived.Deep.DeepHandedRow
import Derived.Lib.LaidTab
import Derived.Deep.Matrix
namespace Go.Proofs.YtnfgamekjbkbkaaDoor
open Go Go.ChangeShapes Go.WideShapes Go.ChangeAt Go.RowKit
theorem own : ownKnob Tryd.prog.godebug = none := by kernel_rfl
theorem laidOut : laidOutB Tryd.prog = true := by kernel_rfl
/-- A slice of bytes that came in. -/
def IsRow (w : World) (a : Option Addr) (len cap : Nat) (zs : List Int) : Prop :=
  (a = none ∧ len = 0 ∧ cap = 0 ∧ zs = []) ∨
  ∃ x, a = some x ∧ len ≤ cap ∧ cap ≤ maxLen ∧ zs.length = cap ∧ (∀ i, i < zs.length → w.cell? (x.add i) = some (.int .u8 (zs.getD i 0))) ∧ ∀ n ∈ zs, (Lit.int .u8 n).wf = true
theorem IsRow.bytes {w : World} {a : Option Addr} {len cap : Nat} {zs : List Int} (h : IsRow w a len cap zs) : ∃ bs, Bytes w (.slice a len cap) bs ∧ bs.length = len ∧ len ≤ 9223372036854775807 := by
  rcases h with ⟨rfl, rfl, rfl, rfl⟩ | ⟨x, rfl, hl, hm, hz, hc, hw⟩
  · exact ⟨[], ⟨none, 0, rfl, Nat.le_refl _, fun _ => rfl, fun h => by simp at h⟩, rfl, by omega⟩
  · have hm' : cap ≤ 9223372036854775807 := hm
    refine ⟨(zs.take len).map (fun z => UInt8.ofNat z.toNat), ⟨some x, cap, ?_, ?_, (fun h => by cases h), fun hp => ?_⟩, ?_, by omega⟩
    · rw [List.length_map, List.length_take, Nat.min_eq_left (by omega)]
    · rw [List.length_map, List.length_take]; omega
    · rw [List.length_map, List.length_take] at hp
      obtain ⟨b, off, rfl, hc'⟩ := ints_at hc (by omega)
      refine ⟨b, off, rfl, fun j hj => ?_⟩
      rw [List.length_map, List.length_take] at hj
      rw [hc' j (by omega)]
      congr 2
      have hjz : j < zs.length := by omega
      have hr : 0 ≤ zs[j] ∧ zs[j] ≤ 255 := bounds_u8 (hw _ (List.getElem_mem hjz))
      have e1 : zs.getD j 0 = zs[j] := by simp [hjz]
      have e2 : ((zs.take len).map (fun z => UInt8.ofNat z.toNat)).getD j 0 = UInt8.ofNat (zs[j]).toNat := by
        simp [hjz, show j < len by omega]
      rw [e1, e2]
      unfold ub
      rw [UInt8.toNat_ofNat']
      omega
    · rw [List.length_map, List.length_take]; omega
end Go.Proofs.YtnfgamekjbkbkaaDoor
