/-
  Calls of a set, as they come in.
-/
import Derived.Test.YtmfhdhggpepbbaaDoorEv
import Derived.Deep.Slices
namespace Go.Proofs.YtmfhdhggpepbbaaDoor
open Go Go.ChangeShapes Go.WideShapes Go.ChangeAt Go.RowKit
/-- A call: its kind, a seed, serials, a delta. -/
structure Ac8 where
  kd : Int
  n : Int
  l : List Int
  v : V4
  m : L4
def Ac8.zero : Ac8 := ⟨0, 0, [], V4.zero, L4.nil⟩
/-- A call's numbers are numbers. -/
structure Ac8.Fit (a : Ac8) : Prop where
  kd : in64 a.kd
  n : in64 a.n
  l : a.l.length ≤ 9223372036854775807
  l64 : ∀ x ∈ a.l, in64 x
  v : a.v.In
  m : Most a.m 9223372036854775807
  m64 : ∀ n, n ∈ a.m.a ∨ n ∈ a.m.b ∨ n ∈ a.m.c ∨ n ∈ a.m.d → in64 n
/-- Calls behind a slice. -/
def Acts8 (w : World) (v : Value) (acs : List Ac8) : Prop :=
  ∃ a cap, v = .slice a acs.length cap ∧ acs.length ≤ cap ∧ (a = none → cap = 0) ∧ (0 < acs.length → ∃ b o, a = some ⟨b, o, none⟩ ∧ ∀ i, i < acs.length → ∃ (vl : Value) (u : VV), w.rangeAt b (o + i * 11) [.int .i64 (acs.getD i Ac8.zero).kd, .int .i64 (acs.getD i Ac8.zero).n, vl, .int .i64 (acs.getD i Ac8.zero).v.a, .int .i64 (acs.getD i Ac8.zero).v.b, .int .i64 (acs.getD i Ac8.zero).v.c, .int .i64 (acs.getD i Ac8.zero).v.d, u.a, u.b, u.c, u.d] ∧ Ints w vl (acs.getD i Ac8.zero).l ∧ RowsI w u (acs.getD i Ac8.zero).m ∧ (acs.getD i Ac8.zero).Fit)
theorem range_acts8 {w w1 : World} {b o : Nat} {x : Value} {l : List Value} (h : w.rangeAt b o (x :: l)) (hb : Below w.heap.size w w1) : w1.rangeAt b o (x :: l) := fun j u hj => by
  have h1 := h j u hj
  rw [hb.cell (World.block_lt_of_cell? _ _ h1)]
  exact h1
theorem Acts8.later {w w1 : World} {v : Value} {acs : List Ac8} (h : Acts8 w v acs) (hb : Below w.heap.size w w1) : Acts8 w1 v acs := by
  obtain ⟨a, cap, hv, hc, hn, hr⟩ := h
  refine ⟨a, cap, hv, hc, hn, fun hp => ?_⟩
  obtain ⟨b, o, ha, hi⟩ := hr hp
  refine ⟨b, o, ha, fun i hil => ?_⟩
  obtain ⟨vl, u, h1, h2, h3, h4⟩ := hi i hil
  exact ⟨vl, u, range_acts8 h1 hb, h2.later hb, h3.later hb, h4⟩
set_option maxRecDepth 100000 in
theorem act_in8 {H : Type} {enc : TypeId × Value → H} {W : World} {fuel : Nat} {cs : List Value} {x : DataW H × List MemPlace} (h : DataW.trod enc Tryd.prog W 0 (fun _ => true) true fuel 35 cs = some x) :
    ∃ (a : Ac8) (vl : Value) (u : VV), cs = [.int .i64 a.kd, .int .i64 a.n, vl, .int .i64 a.v.a, .int .i64 a.v.b, .int .i64 a.v.c, .int .i64 a.v.d, u.a, u.b, u.c, u.d] ∧ Ints W vl a.l ∧ RowsI W u a.m ∧ a.Fit := by
  obtain ⟨xs, n, -, -, hlen, hxl, hf⟩ := DataW.trod_struct Tryd.underlying35 h
  have hl11 : cs.length = 11 := hlen.trans (by kernel_rfl)
  have hx4 : xs.length = 4 := hxl
  match cs, hl11, xs, hx4 with
  | [c0, c1, c2, c3, c4, c5, c6, c7, c8, c9, c10], _, [y0, y1, y2, y3], _ =>
    have g0 : DataW.trod enc Tryd.prog W 0 (fun _ => true) true n 3 [c0] = some y0 := hf 0 _ rfl
    have g1 : DataW.trod enc Tryd.prog W 0 (fun _ => true) true n 3 [c1] = some y1 := hf 1 _ rfl
    have g2 : DataW.trod enc Tryd.prog W 0 (fun _ => true) true n 26 [c2] = some y2 := hf 2 _ rfl
    have g3 : DataW.trod enc Tryd.prog W 0 (fun _ => true) true n 33 [c3, c4, c5, c6, c7, c8, c9, c10] = some y3 := hf 3 _ rfl
    obtain ⟨s, e0, -, w0⟩ := DataW.trod_int Tryd.underlying3 g0
    obtain ⟨k, e1, -, w1⟩ := DataW.trod_int Tryd.underlying3 g1
    obtain ⟨ns, hi, hl, h64⟩ := raw_ns g2
    obtain ⟨v, u, m, hd⟩ := del_in g3
    simp at e0 e1
    subst e0 e1
    have e2 := hd.form
    unfold dC at e2
    refine ⟨⟨s, k, ns, v, m⟩, c2, u, ?_, hi, hd.r, ⟨lit_i64 s w0, lit_i64 k w1, hl, h64, hd.i, hd.most, hd.all64⟩⟩
    rw [e2]
set_option maxRecDepth 100000 in
theorem open_acts8 {H : Type} {enc : TypeId × Value → H} {W : World} {a : Option Addr} {len cap : Nat} {d : DataW H} {p : List MemPlace} (h : DataW.Trod enc Tryd.prog W 0 (fun _ => true) true 22 (.slice a len cap) d p) :
    ∃ acs, Acts8 W (.slice a len cap) acs ∧ acs.length ≤ 9223372036854775807 := by
  obtain ⟨fuel, hf⟩ := h
  rcases Deep.open_slice Tryd.underlying22 hf with ⟨hcs, _⟩ | ⟨x, l, c, m, n, D, Pl, hcs, _, hl, hm, hmm, _, hi⟩
  · simp [Value.cells] at hcs
    obtain ⟨rfl, rfl, rfl⟩ := hcs
    exact ⟨[], ⟨none, 0, rfl, Nat.le_refl _, fun _ => rfl, fun h => absurd h (by simp)⟩, by simp⟩
  · simp [Value.cells] at hcs
    obtain ⟨rfl, rfl, rfl⟩ := hcs
    have hcm : cap ≤ 9223372036854775807 := hm
    have hm2 : m = cap := by simpa using hmm
    have hC : Tryd.prog.cellsOf 35 = 11 := by kernel_rfl
    have hrow : ∀ i, i < len → ∃ A : Ac8, ∃ (vl : Value) (u : VV), (∀ j y, [Value.int .i64 A.kd, .int .i64 A.n, vl, .int .i64 A.v.a, .int .i64 A.v.b, .int .i64 A.v.c, .int .i64 A.v.d, u.a, u.b, u.c, u.d][j]? = some y → W.cell? (x.add (i * 11 + j)) = some y) ∧ Ints W vl A.l ∧ RowsI W u A.m ∧ A.Fit := fun i hil => by
      obtain ⟨cs', hc', ht⟩ := hi i (by omega)
      rw [hC] at hc'
      obtain ⟨_, hcl, hat⟩ := World.cells?_some hc'
      obtain ⟨o, vl, u, e, hr⟩ := act_in8 ht
      refine ⟨o, vl, u, fun j y hj => ?_, hr⟩
      have hj11 : j < 11 := by have := (List.getElem?_eq_some_iff.1 hj).1; simpa using this
      rw [← Deep.add_add, hat j hj11, e]
      exact hj
    haveI : Inhabited Ac8 := ⟨Ac8.zero⟩
    obtain ⟨f, hfb⟩ := Deep.choose_lt hrow
    have hlen : ((List.range len).map f).length = len := by simp
    refine ⟨(List.range len).map f, ⟨some x, cap, by rw [hlen], by rw [hlen]; exact hl, (fun h => by cases h), fun hp => ?_⟩, by rw [hlen]; omega⟩
    rw [hlen] at hp
    obtain ⟨vl0, u0, hc0, -⟩ := hfb 0 hp
    have h00 := hc0 0 _ rfl
    obtain ⟨b, off, spot⟩ := x
    have hspot : spot = none := by simpa [Addr.add] using World.cell?_spot h00
    subst hspot
    refine ⟨b, off, rfl, fun i hi2 => ?_⟩
    rw [hlen] at hi2
    have e : ((List.range len).map f).getD i Ac8.zero = f i := by simp [hi2]
    rw [e]
    obtain ⟨vl, u, hc1, hr1⟩ := hfb i hi2
    refine ⟨vl, u, fun j y hj => ?_, hr1⟩
    have := hc1 j y hj
    rw [Go.WideShapes.add_plain] at this
    show W.cell? ⟨b, off + i * 11 + j, none⟩ = some y
    rw [Nat.add_assoc]
    exact this
end Go.Proofs.YtmfhdhggpepbbaaDoor
