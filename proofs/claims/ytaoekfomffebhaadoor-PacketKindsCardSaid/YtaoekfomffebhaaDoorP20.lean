/-
  Packets opened.
-/
import Derived.Test.YtaoekfomffebhaaDoorP6
import Derived.Test.YtaoekfomffebhaaDoorP1
import Derived.OpenShut
import Derived.ChangeArms
import Derived.Deep.Slices
import Derived.Deep.Matrix
namespace Go.Proofs.YtaoekfomffebhaaDoor
open Go Go.ChangeShapes Go.WideShapes Go.ChangeAt Go.RowKit
set_option maxRecDepth 100000 in
theorem raw_u32 {H : Type} {enc : TypeId × Value → H} {W : World} {fuel : Nat} {cs : List Value} {x : DataW H × List MemPlace} (hf : DataW.trod enc Tryd.prog W 0 (fun _ => true) true fuel 27 cs = some x) : ∃ l : List UInt8, l.length = 32 ∧ cs = (u8s l).toList := by
  obtain ⟨xs, n, -, -, hlen, hxl, hg⟩ := DataW.trod_array Tryd.underlying27 hf
  have hl : cs.length = 32 := hlen.trans (by kernel_rfl)
  have hc : Tryd.prog.cellsOf 5 = 1 := by kernel_rfl
  rw [hc] at hg
  have hrow : ∀ i, i < 32 → ∃ b : UInt8, cs[i]? = some (.int .u8 (ub b)) := fun i hi => by
    have h1 := hg i hi
    rw [Nat.mul_one, List.getElem?_eq_getElem (by omega)] at h1
    have e : (cs.drop i).take 1 = [cs[i]'(by omega)] := by rw [List.drop_eq_getElem_cons (by omega)]; rfl
    rw [e] at h1
    obtain ⟨m, e1, -, w1⟩ := DataW.trod_int Tryd.underlying5 h1
    obtain ⟨b, hb⟩ := lit_u8 m w1
    simp at e1
    exact ⟨b, by rw [List.getElem?_eq_getElem (by omega), e1, hb]⟩
  obtain ⟨f, hfb⟩ := Deep.choose_lt hrow
  refine ⟨(List.range 32).map f, by simp, ?_⟩
  apply List.ext_getElem?
  intro i
  by_cases hi : i < 32
  · rw [hfb i hi, Array.getElem?_toList, u8s_get _ _ (by simpa using hi)]
    congr 3
    rw [List.getD_eq_getElem?_getD, List.getElem?_map, List.getElem?_range hi]
    rfl
  · rw [List.getElem?_eq_none (by omega), List.getElem?_eq_none (by rw [Array.length_toList, u8s_size]; simp; omega)]
set_option maxRecDepth 100000 in
theorem claims_in {H : Type} {enc : TypeId × Value → H} {W : World} {fuel : Nat} {a0 a1 a2 a3 : Value} {x : DataW H × List MemPlace} (h : DataW.trod enc Tryd.prog W 0 (fun _ => true) true fuel 23 [a0, a1, a2, a3] = some x) : ∃ c : Cl, [a0, a1, a2, a3] = clL c := by
  obtain ⟨xs, n, -, -, hlen, hxl, hf⟩ := DataW.trod_struct Tryd.underlying23 h
  have hx4 : xs.length = 4 := hxl
  match xs, hx4 with
  | [y0, y1, y2, y3], _ =>
    have g0 : DataW.trod enc Tryd.prog W 0 (fun _ => true) true n 3 [a0] = some y0 := hf 0 _ rfl
    have g1 : DataW.trod enc Tryd.prog W 0 (fun _ => true) true n 3 [a1] = some y1 := hf 1 _ rfl
    have g2 : DataW.trod enc Tryd.prog W 0 (fun _ => true) true n 3 [a2] = some y2 := hf 2 _ rfl
    have g3 : DataW.trod enc Tryd.prog W 0 (fun _ => true) true n 3 [a3] = some y3 := hf 3 _ rfl
    obtain ⟨n0, e0, -, -⟩ := DataW.trod_int Tryd.underlying3 g0
    obtain ⟨n1, e1, -, -⟩ := DataW.trod_int Tryd.underlying3 g1
    obtain ⟨n2, e2, -, -⟩ := DataW.trod_int Tryd.underlying3 g2
    obtain ⟨n3, e3, -, -⟩ := DataW.trod_int Tryd.underlying3 g3
    simp at e0 e1 e2 e3
    subst e0 e1 e2 e3
    exact ⟨⟨n0, n1, n2, n3⟩, rfl⟩
/-- A packet that came in. -/
def PkIn (W : World) (cs : List Value) (x : Pk) : Prop := ∃ u, cs = pkL x u ∧ Bytes W u x.b ∧ x.b.length ≤ 9223372036854775807 ∧ x.t.length = 32
set_option maxRecDepth 100000 in
set_option maxHeartbeats 2000000 in
theorem packet_in {H : Type} {enc : TypeId × Value → H} {W : World} {fuel : Nat} {cs : List Value} {x : DataW H × List MemPlace} (h : DataW.trod enc Tryd.prog W 0 (fun _ => true) true fuel 29 cs = some x) : ∃ y : Pk, PkIn W cs y := by
  obtain ⟨xs, n, -, -, hlen, hxl, hf⟩ := DataW.trod_struct Tryd.underlying29 h
  have hl : cs.length = 41 := hlen.trans (by kernel_rfl)
  have hx6 : xs.length = 6 := hxl
  match cs, hl, xs, hx6 with
  | c0 :: c1 :: c2 :: c3 :: c4 :: c5 :: c6 :: c7 :: c8 :: r, hl, [y0, y1, y2, y3, y4, y5], _ =>
    have hr : r.length = 32 := by simpa using hl
    have g0 : DataW.trod enc Tryd.prog W 0 (fun _ => true) true n 3 [c0] = some y0 := hf 0 _ rfl
    have g1 : DataW.trod enc Tryd.prog W 0 (fun _ => true) true n 23 [c1, c2, c3, c4] = some y1 := hf 1 _ rfl
    have g2 : DataW.trod enc Tryd.prog W 0 (fun _ => true) true n 3 [c5] = some y2 := hf 2 _ rfl
    have g3 : DataW.trod enc Tryd.prog W 0 (fun _ => true) true n 25 [c6, c7] = some y3 := hf 3 _ rfl
    have g4 : DataW.trod enc Tryd.prog W 0 (fun _ => true) true n 26 [c8] = some y4 := hf 4 _ rfl
    have g5' : DataW.trod enc Tryd.prog W 0 (fun _ => true) true n 27 (r.take 32) = some y5 := hf 5 _ rfl
    rw [List.take_of_length_le (by omega)] at g5'
    obtain ⟨n0, e0, -, -⟩ := DataW.trod_int Tryd.underlying3 g0
    obtain ⟨c, ec⟩ := claims_in g1
    obtain ⟨n2, e2, -, -⟩ := DataW.trod_int Tryd.underlying3 g2
    obtain ⟨nn, en, -⟩ := nonce_in g3
    obtain ⟨bs, hb, hbl⟩ := raw_bytes g4
    obtain ⟨l, hl32, el⟩ := raw_u32 g5'
    simp at e0 e2
    unfold clL at ec
    injection ec with p1 ec
    injection ec with p2 ec
    injection ec with p3 ec
    injection ec with p4 ec
    injection en with p6 en
    injection en with p7 en
    subst e0 e2 p1 p2 p3 p4 p6 p7 el
    exact ⟨⟨n0, c, n2, nn, bs, l⟩, c8, rfl, hb, hbl, hl32⟩
/-- Packets in a row, to be read. -/
structure PksR (W : World) (v : Value) (l : List Pk) : Prop where
  form : ∃ a cap, v = .slice a l.length cap ∧ l.length ≤ cap ∧ (0 < l.length → ∃ g o, a = some ⟨g, o, none⟩ ∧ ∀ i, i < l.length → ∃ u, W.rangeAt g (o + i * 41) (pkL (l.getD i Pk.zero) u) ∧ Bytes W u (l.getD i Pk.zero).b)
  all : ∀ x ∈ l, x.b.length ≤ 9223372036854775807 ∧ x.t.length = 32
theorem PksR.later {w w1 : World} {v : Value} {l : List Pk} (h : PksR w v l) (hb : Below w.heap.size w w1) : PksR w1 v l := by
  obtain ⟨a, cap, hv, h1, hr⟩ := h.form
  refine ⟨⟨a, cap, hv, h1, fun hp => ?_⟩, h.all⟩
  obtain ⟨g, o, ha, hc⟩ := hr hp
  refine ⟨g, o, ha, fun k hk => ?_⟩
  obtain ⟨u, h2, h3⟩ := hc k hk
  exact ⟨u, fun j y hj => (hb.cell (World.block_lt_of_cell? _ _ (h2 j y hj))).trans (h2 j y hj), h3.later hb⟩
theorem PksR.start {w : World} {v : Value} {l : List Pk} (h : PksR w v l) (hp : 0 < l.length) : ∃ g o cap, v = .slice (some ⟨g, o, none⟩) l.length cap := by
  obtain ⟨a, cap, hv, -, hr⟩ := h.form
  obtain ⟨g, o, ha, -⟩ := hr hp
  exact ⟨g, o, cap, by rw [hv, ha]⟩
theorem PksR.at {w : World} {g o n cap : Nat} {l : List Pk} (h : PksR w (.slice (some ⟨g, o, none⟩) n cap) l) (k : Nat) (hk : k < l.length) : ∃ u, w.rangeAt g (o + k * 41) (pkL (l.getD k Pk.zero) u) ∧ Bytes w u (l.getD k Pk.zero).b := by
  obtain ⟨a', cap', hv, -, hr⟩ := h.form
  obtain ⟨b', o', ha, hx⟩ := hr (by omega)
  injection hv with e1 e2 e3
  rw [ha] at e1
  injection e1 with e1
  injection e1 with e4 e5
  subst e4 e5
  exact hx k hk
set_option maxRecDepth 100000 in
/-- A slice of packets. -/
theorem open_packets {H : Type} {enc : TypeId × Value → H} {W : World} {a : Option Addr} {len cap : Nat} {d : DataW H} {p : List MemPlace} (h : DataW.Trod enc Tryd.prog W 0 (fun _ => true) true 59 (.slice a len cap) d p) :
    ∃ l, PksR W (.slice a len cap) l ∧ l.length ≤ 9223372036854775807 := by
  obtain ⟨fuel, hf⟩ := h
  rcases Deep.open_slice Tryd.underlying59 hf with ⟨hcs, _⟩ | ⟨x, l, c, m, n, D, Pl, hcs, _, hl, hm, hmm, _, hi⟩
  · simp [Value.cells] at hcs
    obtain ⟨rfl, rfl, rfl⟩ := hcs
    exact ⟨[], ⟨⟨none, 0, rfl, Nat.le_refl _, fun h => absurd h (by simp)⟩, fun n hn => by simp at hn⟩, by simp⟩
  · simp [Value.cells] at hcs
    obtain ⟨rfl, rfl, rfl⟩ := hcs
    have hcm : cap ≤ 9223372036854775807 := hm
    have hm2 : m = cap := by simpa using hmm
    have hC : Tryd.prog.cellsOf 29 = 41 := by kernel_rfl
    have hrow : ∀ i, i < len → ∃ A : Pk, ∃ u, (∀ j y, (pkL A u)[j]? = some y → W.cell? (x.add (i * 41 + j)) = some y) ∧ Bytes W u A.b ∧ A.b.length ≤ 9223372036854775807 ∧ A.t.length = 32 := fun i hil => by
      obtain ⟨cs', hc', ht⟩ := hi i (by omega)
      rw [hC] at hc'
      obtain ⟨_, hcl, hat⟩ := World.cells?_some hc'
      obtain ⟨o, u, e, hb, hbl, htl⟩ := packet_in ht
      refine ⟨o, u, fun j y hj => ?_, hb, hbl, htl⟩
      have hj3 : j < 41 := by have := (List.getElem?_eq_some_iff.1 hj).1; rw [pkL_len _ _ htl] at this; exact this
      rw [← Deep.add_add, hat j hj3, e]
      exact hj
    haveI : Inhabited Pk := ⟨Pk.zero⟩
    obtain ⟨f, hfb⟩ := Deep.choose_lt hrow
    have hlen : ((List.range len).map f).length = len := by simp
    refine ⟨(List.range len).map f, ⟨⟨some x, cap, by rw [hlen], by rw [hlen]; exact hl, fun hp => ?_⟩, fun n hn => ?_⟩, by rw [hlen]; omega⟩
    · rw [hlen] at hp
      obtain ⟨u0, hc0, -⟩ := hfb 0 hp
      have h00 := hc0 0 _ rfl
      obtain ⟨b, off, spot⟩ := x
      have hspot : spot = none := by simpa [Addr.add] using World.cell?_spot h00
      subst hspot
      refine ⟨b, off, rfl, fun i hi2 => ?_⟩
      rw [hlen] at hi2
      have e : ((List.range len).map f).getD i Pk.zero = f i := by simp [hi2]
      rw [e]
      obtain ⟨u, hc1, hb, -⟩ := hfb i hi2
      refine ⟨u, fun j y hj => ?_, hb⟩
      have h0 := hc1 j y hj
      rw [Go.WideShapes.add_plain, ← Nat.add_assoc] at h0
      exact h0
    · obtain ⟨i, hi2, rfl⟩ := List.mem_map.1 hn
      obtain ⟨u, -, -, h3⟩ := hfb i (by simpa using hi2)
      exact h3
end Go.Proofs.YtaoekfomffebhaaDoor
