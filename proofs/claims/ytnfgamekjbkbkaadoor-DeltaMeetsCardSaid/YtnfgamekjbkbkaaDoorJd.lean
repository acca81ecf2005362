/-
  Arguments opened: four numbers, and four rows, by value.
-/
import Derived.Test.YtnfgamekjbkbkaaDoorEv
namespace Go.Proofs.YtnfgamekjbkbkaaDoor
open Go Go.ChangeShapes Go.WideShapes Go.ChangeAt Go.RowKit
theorem okWide_array8 {P : Program} {w : World} {r : Reach} {base : Nat} {t : TypeId} {v : Value} {n : Nat} {e : TypeId} (ht : P.underlying t = some (.array n e)) (h : Value.okWide P w r base t v) : ∃ cs, v = .agg cs := by
  simp only [Value.okWide, ht] at h
  obtain ⟨cs, h1, -⟩ := h
  exact ⟨cs, h1⟩
set_option maxRecDepth 100000 in
/-- Four numbers by value. -/
theorem open_four {H : Type} {enc : TypeId × Value → H} {W : World} {base : Nat} {v : Value} {d : DataW H} {p : List MemPlace} (hv : Value.okWide Tryd.prog W .any base 22 v) (h : DataW.Trod enc Tryd.prog W 0 (fun _ => true) true 22 v d p) :
    ∃ f : V4, v = f.v ∧ f.In := by
  obtain ⟨cs, rfl⟩ := okWide_array8 Tryd.underlying22 hv
  obtain ⟨fuel, hf⟩ := h
  have hf1 : DataW.trod enc Tryd.prog W 0 (fun _ => true) true fuel 22 cs.toList = some (d, p) := hf
  obtain ⟨f, he, hi⟩ := raw_four hf1
  refine ⟨f, ?_, hi⟩
  unfold V4.v
  congr 1
  exact Array.toList_inj.1 he
set_option maxRecDepth 100000 in
/-- Four rows by value. -/
theorem open_rows4 {H : Type} {enc : TypeId × Value → H} {W : World} {base : Nat} {v : Value} {d : DataW H} {p : List MemPlace} (hv : Value.okWide Tryd.prog W .any base 24 v) (h : DataW.Trod enc Tryd.prog W 0 (fun _ => true) true 24 v d p) :
    ∃ (u : VV) (m : L4), v = u.v ∧ RowsI W u m ∧ Most m 9223372036854775807 ∧ ∀ n, n ∈ m.a ∨ n ∈ m.b ∨ n ∈ m.c ∨ n ∈ m.d → in64 n := by
  obtain ⟨cs, rfl⟩ := okWide_array8 Tryd.underlying24 hv
  obtain ⟨fuel, hf⟩ := h
  have hf1 : DataW.trod enc Tryd.prog W 0 (fun _ => true) true fuel 24 cs.toList = some (d, p) := hf
  obtain ⟨u, m, he, hr, hm, hn⟩ := raw_rows hf1
  refine ⟨u, m, ?_, hr, hm, hn⟩
  unfold VV.v
  congr 1
  exact Array.toList_inj.1 he
end Go.Proofs.YtnfgamekjbkbkaaDoor
