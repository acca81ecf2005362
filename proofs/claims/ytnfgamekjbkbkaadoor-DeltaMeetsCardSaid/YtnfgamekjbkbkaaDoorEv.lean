/-
  Arguments opened: deltas of the document, four numbers, four rows, and the laid variables.
  Calls of a set, as they come in.
-/
import Derived.Test.YtnfgamekjbkbkaaDoorEo
import Derived.Test.YtnfgamekjbkbkaaDoorCu
import Derived.Test.YtnfgamekjbkbkaaDoorOpn
import Derived.Laws.IdiomArrays
import Derived.LaidSub
import Derived.Deep.Slices
namespace Go.Proofs.YtnfgamekjbkbkaaDoor
open Go Go.ChangeShapes Go.WideShapes Go.ChangeAt Go.RowKit
structure V4.In (v : V4) : Prop where
  a : in64 v.a
  b : in64 v.b
  c : in64 v.c
  d : in64 v.d
theorem raw_ns {H : Type} {enc : TypeId × Value → H} {W : World} {fuel : Nat} {c : Value} {x : DataW H × List MemPlace} (hf : DataW.trod enc Tryd.prog W 0 (fun _ => true) true fuel 23 [c] = some x) :
    ∃ ns, Ints W c ns ∧ ns.length ≤ 9223372036854775807 ∧ ∀ n ∈ ns, in64 n := by
  have key : ∃ a len cap, c = .slice a len cap := by
    rcases open_ints Tryd.underlying23 Tryd.underlying3 (by kernel_rfl) hf with ⟨hcs, _⟩ | ⟨y, l, k, zs, hcs, _⟩
    · simp at hcs
      exact ⟨_, _, _, hcs⟩
    · simp at hcs
      exact ⟨_, _, _, hcs⟩
  obtain ⟨a, len, cap, rfl⟩ := key
  obtain ⟨d, p⟩ := x
  exact open_ns ⟨fuel, hf⟩
set_option maxRecDepth 100000 in
theorem raw_four {H : Type} {enc : TypeId × Value → H} {W : World} {fuel : Nat} {cs : List Value} {x : DataW H × List MemPlace} (hf : DataW.trod enc Tryd.prog W 0 (fun _ => true) true fuel 22 cs = some x) :
    ∃ v : V4, cs = [.int .i64 v.a, .int .i64 v.b, .int .i64 v.c, .int .i64 v.d] ∧ v.In := by
  have hl : cs.length = 4 := by
    obtain ⟨xs, n, -, -, hlen, -⟩ := DataW.trod_array Tryd.underlying22 hf
    exact hlen.trans (by kernel_rfl)
  match cs, hl with
  | [c0, c1, c2, c3], _ =>
    obtain ⟨y0, y1, y2, y3, n, -, g0, g1, g2, g3⟩ := trod_array4 Tryd.underlying22 (by kernel_rfl) hf
    obtain ⟨n0, e0, -, w0⟩ := DataW.trod_int Tryd.underlying3 g0
    obtain ⟨n1, e1, -, w1⟩ := DataW.trod_int Tryd.underlying3 g1
    obtain ⟨n2, e2, -, w2⟩ := DataW.trod_int Tryd.underlying3 g2
    obtain ⟨n3, e3, -, w3⟩ := DataW.trod_int Tryd.underlying3 g3
    simp at e0 e1 e2 e3
    subst e0
    subst e1
    subst e2
    subst e3
    exact ⟨⟨n0, n1, n2, n3⟩, rfl, lit_i64 n0 w0, lit_i64 n1 w1, lit_i64 n2 w2, lit_i64 n3 w3⟩
set_option maxRecDepth 100000 in
theorem raw_rows {H : Type} {enc : TypeId × Value → H} {W : World} {fuel : Nat} {cs : List Value} {x : DataW H × List MemPlace} (hf : DataW.trod enc Tryd.prog W 0 (fun _ => true) true fuel 24 cs = some x) :
    ∃ (u : VV) (m : L4), cs = [u.a, u.b, u.c, u.d] ∧ RowsI W u m ∧ Most m 9223372036854775807 ∧ ∀ n, n ∈ m.a ∨ n ∈ m.b ∨ n ∈ m.c ∨ n ∈ m.d → in64 n := by
  have hl : cs.length = 4 := by
    obtain ⟨xs, n, -, -, hlen, -⟩ := DataW.trod_array Tryd.underlying24 hf
    exact hlen.trans (by kernel_rfl)
  match cs, hl with
  | [c0, c1, c2, c3], _ =>
    obtain ⟨y0, y1, y2, y3, n, -, g0, g1, g2, g3⟩ := trod_array4 Tryd.underlying24 (by kernel_rfl) hf
    obtain ⟨n0, h0, l0, i0⟩ := raw_ns g0
    obtain ⟨n1, h1, l1, i1⟩ := raw_ns g1
    obtain ⟨n2, h2, l2, i2⟩ := raw_ns g2
    obtain ⟨n3, h3, l3, i3⟩ := raw_ns g3
    refine ⟨⟨c0, c1, c2, c3⟩, ⟨n0, n1, n2, n3⟩, rfl, ⟨h0, h1, h2, h3⟩, ⟨l0, l1, l2, l3⟩, fun n hn => ?_⟩
    rcases hn with hn | hn | hn | hn
    · exact i0 n hn
    · exact i1 n hn
    · exact i2 n hn
    · exact i3 n hn
theorem gFull : Tryd.prog.globalNamed "vigil/revoke.fullest" = some 0 := by kernel_rfl
theorem gFullType : (Tryd.prog.globals[0]?).map (·.type) = some 28 := by kernel_rfl
theorem cellsVers : Tryd.prog.cellsOf 28 = 4 := by kernel_rfl
theorem cellsInt : Tryd.prog.cellsOf 3 = 1 := by kernel_rfl
theorem laid_full : (Rows.laid_vigil_revoke_fullest : DataW Unit) = Lib.tabData .i64 [256, 256, 256, 256] := by kernel_rfl
set_option maxRecDepth 100000 in
/-- The listed variables' cells. -/
theorem full_of {W : World} (h : laidMet Tryd.prog [("vigil/revoke.fullest", Rows.laid_vigil_revoke_fullest)] W) : Full W ∧ 0 < W.heap.size := by
  rw [laid_full] at h
  have t := Lib.tabIs_of_head (rest := []) gFull gFullType Tryd.underlying28 Tryd.underlying3 cellsInt cellsVers h
  refine ⟨fun j v hv => ?_, World.block_lt_of_cell? _ _ (t.cell gFull 0 (by simp))⟩
  have hj : j < 4 := by have := (List.getElem?_eq_some_iff.1 hv).1; simpa using this
  rw [Nat.zero_add, t.cell gFull j (by simpa using hj)]
  match j, hj with
  | 0, _ => simpa using hv
  | 1, _ => simpa using hv
  | 2, _ => simpa using hv
  | 3, _ => simpa using hv
set_option maxRecDepth 100000 in
theorem two_of {W : World} (h : laidMet Tryd.prog [("vigil/digest.table", Rows.laid_vigil_digest_table), ("vigil/revoke.fullest", Rows.laid_vigil_revoke_fullest)] W) : (Full W ∧ 0 < W.heap.size) ∧ Tab W ∧ 1 < W.heap.size := by
  have h1 := laidMet.filter (fun x => x.1 == "vigil/revoke.fullest") h
  have h2 := laidMet.filter (fun x => x.1 == "vigil/digest.table") h
  have e1 : ([("vigil/digest.table", Rows.laid_vigil_digest_table), ("vigil/revoke.fullest", Rows.laid_vigil_revoke_fullest)] : List (String × DataW Unit)).filter (fun x => x.1 == "vigil/revoke.fullest") = [("vigil/revoke.fullest", Rows.laid_vigil_revoke_fullest)] := by simp
  have e2 : ([("vigil/digest.table", Rows.laid_vigil_digest_table), ("vigil/revoke.fullest", Rows.laid_vigil_revoke_fullest)] : List (String × DataW Unit)).filter (fun x => x.1 == "vigil/digest.table") = [("vigil/digest.table", Rows.laid_vigil_digest_table)] := by simp
  rw [e1] at h1
  rw [e2] at h2
  have hT := tab_of h2
  exact ⟨full_of h1, hT, World.block_lt_of_cell? _ _ (hT 0 (by omega))⟩
def layTab : Obj → Obj
  | .cells _ t frozen => .cells (u32s kTab) t frozen
  | o => o
def layFull : Obj → Obj
  | .cells _ t frozen => .cells #[.int .i64 256, .int .i64 256, .int .i64 256, .int .i64 256] t frozen
  | o => o
/-- A world for the witness: the settled one, the variables holding what their initialisers lay. -/
noncomputable def laidWorld8 (os : Os) : World :=
  { World.holding Tryd.prog os ⟨#[], #[], []⟩ with heap := ((World.holding Tryd.prog os ⟨#[], #[], []⟩).heap.modify 1 layTab).modify 0 layFull }
end Go.Proofs.YtnfgamekjbkbkaaDoor
namespace Go.Proofs.YtnfgamekjbkbkaaDoor
open Go Go.ChangeShapes Go.WideShapes Go.ChangeAt Go.RowKit
/-- A call: its kind, a seed, serials, a delta. -/
structure Ac8 where
  kd : Int
  n : Int
  l : List Int
  v : V4
  m : L4
def Ac8.zero : Ac8 := ⟨0, 0, [], V4.zero, L4.nil⟩
/-- A call's numbers are numbers. -/
structure Ac8.Fit (a : Ac8) : Prop where
  kd : in64 a.kd
  n : in64 a.n
  l : a.l.length ≤ 9223372036854775807
  l64 : ∀ x ∈ a.l, in64 x
  v : a.v.In
  m : Most a.m 9223372036854775807
  m64 : ∀ n, n ∈ a.m.a ∨ n ∈ a.m.b ∨ n ∈ a.m.c ∨ n ∈ a.m.d → in64 n
/-- Calls behind a slice. -/
def Acts8 (w : World) (v : Value) (acs : List Ac8) : Prop :=
  ∃ a cap, v = .slice a acs.length cap ∧ acs.length ≤ cap ∧ (a = none → cap = 0) ∧ (0 < acs.length → ∃ b o, a = some ⟨b, o, none⟩ ∧ ∀ i, i < acs.length → ∃ (vl : Value) (u : VV), w.rangeAt b (o + i * 11) [.int .i64 (acs.getD i Ac8.zero).kd, .int .i64 (acs.getD i Ac8.zero).n, vl, .int .i64 (acs.getD i Ac8.zero).v.a, .int .i64 (acs.getD i Ac8.zero).v.b, .int .i64 (acs.getD i Ac8.zero).v.c, .int .i64 (acs.getD i Ac8.zero).v.d, u.a, u.b, u.c, u.d] ∧ Ints w vl (acs.getD i Ac8.zero).l ∧ RowsI w u (acs.getD i Ac8.zero).m ∧ (acs.getD i Ac8.zero).Fit)
theorem range_acts8 {w w1 : World} {b o : Nat} {x : Value} {l : List Value} (h : w.rangeAt b o (x :: l)) (hb : Below w.heap.size w w1) : w1.rangeAt b o (x :: l) := fun j u hj => by
  have h1 := h j u hj
  rw [hb.cell (World.block_lt_of_cell? _ _ h1)]
  exact h1
theorem Acts8.later {w w1 : World} {v : Value} {acs : List Ac8} (h : Acts8 w v acs) (hb : Below w.heap.size w w1) : Acts8 w1 v acs := by
  obtain ⟨a, cap, hv, hc, hn, hr⟩ := h
  refine ⟨a, cap, hv, hc, hn, fun hp => ?_⟩
  obtain ⟨b, o, ha, hi⟩ := hr hp
  refine ⟨b, o, ha, fun i hil => ?_⟩
  obtain ⟨vl, u, h1, h2, h3, h4⟩ := hi i hil
  exact ⟨vl, u, range_acts8 h1 hb, h2.later hb, h3.later hb, h4⟩
end Go.Proofs.YtnfgamekjbkbkaaDoor
