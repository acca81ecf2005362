/-
  Arguments opened: bytes, and parts.
-/
import Derived.Test.YtncbhnkhbohejaaDoorGa
import Derived.Test.YtncbhnkhbohejaaDoorRows
import Derived.ProofKit
import Derived.OpenShut
import Derived.ShutString
import Derived.ChangeOld
import Derived.Below
import Derived.Deep.DeepHandedRow
import Derived.Lib.LaidTab
import Derived.Deep.Matrix
import Derived.Test.YtncbhnkhbohejaaDoorAb
namespace Go.Proofs.YtncbhnkhbohejaaDoor
open Go Go.ChangeShapes Go.WideShapes Go.ChangeAt Go.RowKit
theorem own : ownKnob Tryd.prog.godebug = none := by kernel_rfl
theorem laidOut : laidOutB Tryd.prog = true := by kernel_rfl
/-- A slice of bytes that came in. -/
def IsRow (w : World) (a : Option Addr) (len cap : Nat) (zs : List Int) : Prop :=
  (a = none ∧ len = 0 ∧ cap = 0 ∧ zs = []) ∨
  ∃ x, a = some x ∧ len ≤ cap ∧ cap ≤ maxLen ∧ zs.length = cap ∧ (∀ i, i < zs.length → w.cell? (x.add i) = some (.int .u8 (zs.getD i 0))) ∧ ∀ n ∈ zs, (Lit.int .u8 n).wf = true
theorem IsRow.bytes {w : World} {a : Option Addr} {len cap : Nat} {zs : List Int} (h : IsRow w a len cap zs) : ∃ bs, Bytes w (.slice a len cap) bs ∧ bs.length = len ∧ len ≤ 9223372036854775807 := by
  rcases h with ⟨rfl, rfl, rfl, rfl⟩ | ⟨x, rfl, hl, hm, hz, hc, hw⟩
  · exact ⟨[], ⟨none, 0, rfl, Nat.le_refl _, fun _ => rfl, fun h => by simp at h⟩, rfl, by omega⟩
  · have hm' : cap ≤ 9223372036854775807 := hm
    refine ⟨(zs.take len).map (fun z => UInt8.ofNat z.toNat), ⟨some x, cap, ?_, ?_, (fun h => by cases h), fun hp => ?_⟩, ?_, by omega⟩
    · rw [List.length_map, List.length_take, Nat.min_eq_left (by omega)]
    · rw [List.length_map, List.length_take]; omega
    · rw [List.length_map, List.length_take] at hp
      obtain ⟨b, off, rfl, hc'⟩ := ints_at hc (by omega)
      refine ⟨b, off, rfl, fun j hj => ?_⟩
      rw [List.length_map, List.length_take] at hj
      rw [hc' j (by omega)]
      congr 2
      have hjz : j < zs.length := by omega
      have hr : 0 ≤ zs[j] ∧ zs[j] ≤ 255 := bounds_u8 (hw _ (List.getElem_mem hjz))
      have e1 : zs.getD j 0 = zs[j] := by simp [hjz]
      have e2 : ((zs.take len).map (fun z => UInt8.ofNat z.toNat)).getD j 0 = UInt8.ofNat (zs[j]).toNat := by
        simp [hjz, show j < len by omega]
      rw [e1, e2]
      unfold ub
      rw [UInt8.toNat_ofNat']
      omega
    · rw [List.length_map, List.length_take]; omega
theorem open_bytes {H : Type} {enc : TypeId × Value → H} {W : World} {a : Option Addr} {len cap : Nat} {d : DataW H} {p : List MemPlace} (h : DataW.Trod enc Tryd.prog W 0 (fun _ => true) true 22 (.slice a len cap) d p) :
    ∃ bs, Bytes W (.slice a len cap) bs ∧ bs.length ≤ 9223372036854775807 := by
  obtain ⟨z0, w0⟩ : ∃ zs, IsRow W a len cap zs := by
    obtain ⟨fuel, hf⟩ := h
    rcases open_ints Tryd.underlying22 Tryd.underlying5 (by kernel_rfl) hf with ⟨hcs, _⟩ | ⟨x, l, c, zs, hcs, _, hl, hm, hz, _, hcell, hwz⟩
    · simp [Value.cells] at hcs
      obtain ⟨rfl, rfl, rfl⟩ := hcs
      exact ⟨[], .inl ⟨rfl, rfl, rfl, rfl⟩⟩
    · simp [Value.cells] at hcs
      obtain ⟨rfl, rfl, rfl⟩ := hcs
      exact ⟨zs, .inr ⟨_, rfl, hl, hm, by simpa using hz, hcell, hwz⟩⟩
  obtain ⟨bs, hb, hbl, hbm⟩ := w0.bytes
  exact ⟨bs, hb, by omega⟩
theorem open_parts {H : Type} {enc : TypeId × Value → H} {W : World} {a : Option Addr} {len cap : Nat} {d : DataW H} {p : List MemPlace} (h : DataW.Trod enc Tryd.prog W 0 (fun _ => true) true 23 (.slice a len cap) d p) :
    ∃ pss, Parts W (.slice a len cap) pss ∧ pss.length ≤ 9223372036854775807 ∧ ∀ q ∈ pss, q.length ≤ 9223372036854775807 := by
  obtain ⟨fuel, hf⟩ := h
  rcases Deep.open_int_rows Tryd.underlying23 Tryd.underlying22 Tryd.underlying5 (by kernel_rfl) (by kernel_rfl) hf with ⟨hcs, _⟩ | ⟨x, l, c, A, L, C, Z, hcs, _, hl, hm, _, hr⟩
  · simp [Value.cells] at hcs
    obtain ⟨rfl, rfl, rfl⟩ := hcs
    exact ⟨[], ⟨none, 0, rfl, fun h => by simp at h⟩, by simp, fun q hq => by simp at hq⟩
  · simp [Value.cells] at hcs
    obtain ⟨rfl, rfl, rfl⟩ := hcs
    have hm' : cap ≤ 9223372036854775807 := hm
    have hrow : ∀ r, r < len → ∃ bs, Bytes W (.slice (A r) (L r) (C r)) bs ∧ bs.length ≤ 9223372036854775807 := fun r hrl => by
      obtain ⟨hc, h1, h2, h3, h4, h5, h6⟩ := hr r (by omega)
      have hI : IsRow W (A r) (L r) (C r) (Z r) := by
        match hA : A r with
        | none =>
          have hC := h5 hA
          exact .inl ⟨rfl, by omega, hC, List.length_eq_zero_iff.1 (by omega)⟩
        | some y => exact .inr ⟨y, rfl, h1, h2, h3, fun i hi => (h6 y hA).2 i (by omega), h4⟩
      obtain ⟨bs, hb, hbl, hbm⟩ := hI.bytes
      exact ⟨bs, hb, by omega⟩
    obtain ⟨f, hfb⟩ := Deep.choose_lt hrow
    have hlen : ((List.range len).map f).length = len := by simp
    refine ⟨(List.range len).map f, ⟨some x, cap, by rw [hlen], fun hp => ?_⟩, by rw [hlen]; omega, fun q hq => ?_⟩
    · rw [hlen] at hp
      obtain ⟨b, off, spot⟩ := x
      have hspot : spot = none := by simpa [Addr.add] using World.cell?_spot (hr 0 (by omega)).1
      subst hspot
      refine ⟨b, off, rfl, fun j hj => ?_⟩
      rw [hlen] at hj
      refine ⟨_, by rw [← Go.WideShapes.add_plain]; exact (hr j (by omega)).1, ?_⟩
      have e : ((List.range len).map f).getD j [] = f j := by simp [hj]
      rw [e]
      exact (hfb j hj).1
    · obtain ⟨r, hr1, rfl⟩ := List.mem_map.1 hq
      exact (hfb r (List.mem_range.1 hr1)).2
end Go.Proofs.YtncbhnkhbohejaaDoor
namespace Go.Proofs.YtncbhnkhbohejaaDoor
open Go Go.ChangeShapes Go.WideShapes Go.ChangeAt Go.RowKit
theorem gTab : Tryd.prog.globalNamed "vigil/digest.table" = some 0 := by kernel_rfl
theorem gTabType : (Tryd.prog.globals[0]?).map (·.type) = some 38 := by kernel_rfl
theorem cellsTab : Tryd.prog.cellsOf 38 = 64 := by kernel_rfl
theorem cellsWord : Tryd.prog.cellsOf 37 = 1 := by kernel_rfl
theorem laid_is : (Rows.laid_vigil_digest_table : DataW Unit) = Lib.tabData .u32 (kTab.map uv) := by kernel_rfl
/-- The listed variable's cells hold the table. -/
theorem tab_of {W : World} (h : laidMet Tryd.prog [("vigil/digest.table", Rows.laid_vigil_digest_table)] W) : Tab W := by
  rw [laid_is] at h
  have t := Lib.tabIs_of_head (rest := []) gTab gTabType Tryd.underlying38 Tryd.underlying37 cellsWord cellsTab h
  intro i hi
  rw [t.cell gTab i (by simpa [kTab] using hi)]
  congr 2
  have hk : i < kTab.length := hi
  simp [hk]
/-- A world for the witness: the settled one, the table holding what its initialiser lays. -/
noncomputable def laidWorld (os : Os) : World :=
  { World.holding Tryd.prog os ⟨#[], #[], []⟩ with heap := (World.holding Tryd.prog os ⟨#[], #[], []⟩).heap.modify 0 fun
      | .cells _ t frozen => .cells (u32s kTab) t frozen
      | o => o }
end Go.Proofs.YtncbhnkhbohejaaDoor
namespace Go.Proofs.YtncbhnkhbohejaaDoor
open Go Go.ChangeShapes Go.WideShapes Go.ChangeAt Go.RowKit
end Go.Proofs.YtncbhnkhbohejaaDoor
