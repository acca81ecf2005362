/-
  Arguments opened: digests by value.
-/
import Derived.Test.YtnfgamekjbkbkaaDoorJd
import Derived.Test.YtnfgamekjbkbkaaDoorD1
namespace Go.Proofs.YtnfgamekjbkbkaaDoor
open Go Go.ChangeShapes Go.WideShapes Go.ChangeAt Go.RowKit
set_option maxRecDepth 100000 in
theorem raw_p8 {H : Type} {enc : TypeId × Value → H} {W : World} {fuel : Nat} {cs : List Value} {x : DataW H × List MemPlace} (hf : DataW.trod enc Tryd.prog W 0 (fun _ => true) true fuel 48 cs = some x) :
    ∃ p : B8, cs = [.int .u8 (ub p.a), .int .u8 (ub p.b), .int .u8 (ub p.c), .int .u8 (ub p.d), .int .u8 (ub p.e), .int .u8 (ub p.f), .int .u8 (ub p.g), .int .u8 (ub p.h)] := by
  obtain ⟨xs, n, -, -, hlen, hxl, hg⟩ := DataW.trod_array Tryd.underlying48 hf
  have hl : cs.length = 8 := hlen.trans (by kernel_rfl)
  have hc : Tryd.prog.cellsOf 5 = 1 := by kernel_rfl
  rw [hc] at hg
  match cs, hl, xs, hxl with
  | [c0, c1, c2, c3, c4, c5, c6, c7], _, [y0, y1, y2, y3, y4, y5, y6, y7], _ =>
    have g0 : DataW.trod enc Tryd.prog W 0 (fun _ => true) true n 5 [c0] = some y0 := hg 0 (by decide)
    obtain ⟨n0, e0, -, w0⟩ := DataW.trod_int Tryd.underlying5 g0
    obtain ⟨b0, hb0⟩ := lit_u8 n0 w0
    simp at e0
    subst e0 hb0
    have g1 : DataW.trod enc Tryd.prog W 0 (fun _ => true) true n 5 [c1] = some y1 := hg 1 (by decide)
    obtain ⟨n1, e1, -, w1⟩ := DataW.trod_int Tryd.underlying5 g1
    obtain ⟨b1, hb1⟩ := lit_u8 n1 w1
    simp at e1
    subst e1 hb1
    have g2 : DataW.trod enc Tryd.prog W 0 (fun _ => true) true n 5 [c2] = some y2 := hg 2 (by decide)
    obtain ⟨n2, e2, -, w2⟩ := DataW.trod_int Tryd.underlying5 g2
    obtain ⟨b2, hb2⟩ := lit_u8 n2 w2
    simp at e2
    subst e2 hb2
    have g3 : DataW.trod enc Tryd.prog W 0 (fun _ => true) true n 5 [c3] = some y3 := hg 3 (by decide)
    obtain ⟨n3, e3, -, w3⟩ := DataW.trod_int Tryd.underlying5 g3
    obtain ⟨b3, hb3⟩ := lit_u8 n3 w3
    simp at e3
    subst e3 hb3
    have g4 : DataW.trod enc Tryd.prog W 0 (fun _ => true) true n 5 [c4] = some y4 := hg 4 (by decide)
    obtain ⟨n4, e4, -, w4⟩ := DataW.trod_int Tryd.underlying5 g4
    obtain ⟨b4, hb4⟩ := lit_u8 n4 w4
    simp at e4
    subst e4 hb4
    have g5 : DataW.trod enc Tryd.prog W 0 (fun _ => true) true n 5 [c5] = some y5 := hg 5 (by decide)
    obtain ⟨n5, e5, -, w5⟩ := DataW.trod_int Tryd.underlying5 g5
    obtain ⟨b5, hb5⟩ := lit_u8 n5 w5
    simp at e5
    subst e5 hb5
    have g6 : DataW.trod enc Tryd.prog W 0 (fun _ => true) true n 5 [c6] = some y6 := hg 6 (by decide)
    obtain ⟨n6, e6, -, w6⟩ := DataW.trod_int Tryd.underlying5 g6
    obtain ⟨b6, hb6⟩ := lit_u8 n6 w6
    simp at e6
    subst e6 hb6
    have g7 : DataW.trod enc Tryd.prog W 0 (fun _ => true) true n 5 [c7] = some y7 := hg 7 (by decide)
    obtain ⟨n7, e7, -, w7⟩ := DataW.trod_int Tryd.underlying5 g7
    obtain ⟨b7, hb7⟩ := lit_u8 n7 w7
    simp at e7
    subst e7 hb7
    exact ⟨⟨b0, b1, b2, b3, b4, b5, b6, b7⟩, rfl⟩
set_option maxRecDepth 100000 in
/-- A digest of the document by value. -/
theorem open_dg {H : Type} {enc : TypeId × Value → H} {W : World} {base : Nat} {v : Value} {d : DataW H} {p : List MemPlace} (hv : Value.okWide Tryd.prog W .any base 50 v) (h : DataW.Trod enc Tryd.prog W 0 (fun _ => true) true 50 v d p) :
    ∃ (f : V4) (g : B8), v = .agg (dgC f g) := by
  obtain ⟨cs, rfl, hsz⟩ := okWide_struct Tryd.underlying50 hv
  obtain ⟨fuel, hf⟩ := h
  have hf1 : DataW.trod enc Tryd.prog W 0 (fun _ => true) true fuel 50 cs.toList = some (d, p) := hf
  obtain ⟨xs, n, -, -, hlen, hxl, hg⟩ := DataW.trod_struct Tryd.underlying50 hf1
  have hl : cs.toList.length = 12 := hlen.trans (by kernel_rfl)
  have hx2 : xs.length = 2 := hxl
  obtain ⟨l⟩ := cs
  match l, hl, xs, hx2 with
  | [a0, a1, a2, a3, c0, c1, c2, c3, c4, c5, c6, c7], _, [y0, y1], _ =>
    have g0 : DataW.trod enc Tryd.prog W 0 (fun _ => true) true n 22 [a0, a1, a2, a3] = some y0 := hg 0 _ rfl
    have g1 : DataW.trod enc Tryd.prog W 0 (fun _ => true) true n 48 [c0, c1, c2, c3, c4, c5, c6, c7] = some y1 := hg 1 _ rfl
    obtain ⟨f, e0, -⟩ := raw_four g0
    obtain ⟨g, e1⟩ := raw_p8 g1
    refine ⟨f, g, ?_⟩
    congr 1
    apply Array.ext'
    show [a0, a1, a2, a3] ++ [c0, c1, c2, c3, c4, c5, c6, c7] = _
    rw [e0, e1]
    rfl
end Go.Proofs.YtnfgamekjbkbkaaDoor
