/-
  How arguments are opened: bytes, and parts.
-/
import Derived.Test.YtkfgpnigeknhmaaDoorFrame
import Derived.Test.YtkfgpnigeknhmaaDoorLa
import Derived.Deep.Matrix
namespace Go.Proofs.YtkfgpnigeknhmaaDoor
open Go Go.ChangeShapes Go.WideShapes Go.ChangeAt Go.RowKit
theorem open_bytes {H : Type} {enc : TypeId × Value → H} {W : World} {a : Option Addr} {len cap : Nat} {d : DataW H} {p : List MemPlace} (h : DataW.Trod enc Tryd.prog W 0 (fun _ => true) true 23 (.slice a len cap) d p) :
    ∃ bs, Bytes W (.slice a len cap) bs ∧ bs.length ≤ 9223372036854775807 := by
  obtain ⟨z0, w0⟩ : ∃ zs, IsRow W a len cap zs := by
    obtain ⟨fuel, hf⟩ := h
    rcases open_ints Tryd.underlying23 Tryd.underlying5 (by kernel_rfl) hf with ⟨hcs, _⟩ | ⟨x, l, c, zs, hcs, _, hl, hm, hz, _, hcell, hwz⟩
    · simp [Value.cells] at hcs
      obtain ⟨rfl, rfl, rfl⟩ := hcs
      exact ⟨[], .inl ⟨rfl, rfl, rfl, rfl⟩⟩
    · simp [Value.cells] at hcs
      obtain ⟨rfl, rfl, rfl⟩ := hcs
      exact ⟨zs, .inr ⟨_, rfl, hl, hm, by simpa using hz, hcell, hwz⟩⟩
  obtain ⟨bs, hb, hbl, hbm⟩ := w0.bytes
  exact ⟨bs, hb, by omega⟩
theorem open_parts {H : Type} {enc : TypeId × Value → H} {W : World} {a : Option Addr} {len cap : Nat} {d : DataW H} {p : List MemPlace} (h : DataW.Trod enc Tryd.prog W 0 (fun _ => true) true 22 (.slice a len cap) d p) :
    ∃ pss, Parts W (.slice a len cap) pss ∧ pss.length ≤ 9223372036854775807 ∧ ∀ q ∈ pss, q.length ≤ 9223372036854775807 := by
  obtain ⟨fuel, hf⟩ := h
  rcases Deep.open_int_rows Tryd.underlying22 Tryd.underlying23 Tryd.underlying5 (by kernel_rfl) (by kernel_rfl) hf with ⟨hcs, _⟩ | ⟨x, l, c, A, L, C, Z, hcs, _, hl, hm, _, hr⟩
  · simp [Value.cells] at hcs
    obtain ⟨rfl, rfl, rfl⟩ := hcs
    exact ⟨[], ⟨none, 0, rfl, fun h => by simp at h⟩, by simp, fun q hq => by simp at hq⟩
  · simp [Value.cells] at hcs
    obtain ⟨rfl, rfl, rfl⟩ := hcs
    have hm' : cap ≤ 9223372036854775807 := hm
    have hrow : ∀ r, r < len → ∃ bs, Bytes W (.slice (A r) (L r) (C r)) bs ∧ bs.length ≤ 9223372036854775807 := fun r hrl => by
      obtain ⟨hc, h1, h2, h3, h4, h5, h6⟩ := hr r (by omega)
      have hI : IsRow W (A r) (L r) (C r) (Z r) := by
        match hA : A r with
        | none =>
          have hC := h5 hA
          exact .inl ⟨rfl, by omega, hC, List.length_eq_zero_iff.1 (by omega)⟩
        | some y => exact .inr ⟨y, rfl, h1, h2, h3, fun i hi => (h6 y hA).2 i (by omega), h4⟩
      obtain ⟨bs, hb, hbl, hbm⟩ := hI.bytes
      exact ⟨bs, hb, by omega⟩
    obtain ⟨f, hfb⟩ := Deep.choose_lt hrow
    have hlen : ((List.range len).map f).length = len := by simp
    refine ⟨(List.range len).map f, ⟨some x, cap, by rw [hlen], fun hp => ?_⟩, by rw [hlen]; omega, fun q hq => ?_⟩
    · rw [hlen] at hp
      obtain ⟨b, off, spot⟩ := x
      have hspot : spot = none := by simpa [Addr.add] using World.cell?_spot (hr 0 (by omega)).1
      subst hspot
      refine ⟨b, off, rfl, fun j hj => ?_⟩
      rw [hlen] at hj
      refine ⟨_, by rw [← Go.WideShapes.add_plain]; exact (hr j (by omega)).1, ?_⟩
      have e : ((List.range len).map f).getD j [] = f j := by simp [hj]
      rw [e]
      exact (hfb j hj).1
    · obtain ⟨r, hr1, rfl⟩ := List.mem_map.1 hq
      exact (hfb r (List.mem_range.1 hr1)).2
end Go.Proofs.YtkfgpnigeknhmaaDoor
