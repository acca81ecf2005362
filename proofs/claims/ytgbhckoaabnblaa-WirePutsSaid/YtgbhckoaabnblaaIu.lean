/-
  Arguments opened: bytes, and fields of the document.
-/
import Derived.Test.YtgbhckoaabnblaaIq
import Derived.Test.YtgbhckoaabnblaaRows
import Derived.ProofKit
import Derived.OpenShut
import Derived.ShutString
import Derived.ChangeOld
import Derived.Below
import Derived.Deep.DeepHandedRow
import Derived.Lib.LaidTab
import Derived.Deep.Matrix
import Derived.Deep.Slices
namespace Go.Proofs.Ytgbhckoaabnblaa
open Go Go.ChangeShapes Go.WideShapes Go.ChangeAt Go.RowKit
theorem own : ownKnob Try.prog.godebug = none := by kernel_rfl
theorem laidOut : laidOutB Try.prog = true := by kernel_rfl
def IsRow (w : World) (a : Option Addr) (len cap : Nat) (zs : List Int) : Prop :=
  (a = none ∧ len = 0 ∧ cap = 0 ∧ zs = []) ∨
  ∃ x, a = some x ∧ len ≤ cap ∧ cap ≤ maxLen ∧ zs.length = cap ∧ (∀ i, i < zs.length → w.cell? (x.add i) = some (.int .u8 (zs.getD i 0))) ∧ ∀ n ∈ zs, (Lit.int .u8 n).wf = true
theorem IsRow.bytes {w : World} {a : Option Addr} {len cap : Nat} {zs : List Int} (h : IsRow w a len cap zs) : ∃ bs, Bytes w (.slice a len cap) bs ∧ bs.length = len ∧ len ≤ 9223372036854775807 := by
  rcases h with ⟨rfl, rfl, rfl, rfl⟩ | ⟨x, rfl, hl, hm, hz, hc, hw⟩
  · exact ⟨[], ⟨none, 0, rfl, Nat.le_refl _, fun _ => rfl, fun h => by simp at h⟩, rfl, by omega⟩
  · have hm' : cap ≤ 9223372036854775807 := hm
    refine ⟨(zs.take len).map (fun z => UInt8.ofNat z.toNat), ⟨some x, cap, ?_, ?_, (fun h => by cases h), fun hp => ?_⟩, ?_, by omega⟩
    · rw [List.length_map, List.length_take, Nat.min_eq_left (by omega)]
    · rw [List.length_map, List.length_take]; omega
    · rw [List.length_map, List.length_take] at hp
      obtain ⟨b, off, rfl, hc'⟩ := ints_at hc (by omega)
      refine ⟨b, off, rfl, fun j hj => ?_⟩
      rw [List.length_map, List.length_take] at hj
      rw [hc' j (by omega)]
      congr 2
      have hjz : j < zs.length := by omega
      have hr : 0 ≤ zs[j] ∧ zs[j] ≤ 255 := bounds_u8 (hw _ (List.getElem_mem hjz))
      have e1 : zs.getD j 0 = zs[j] := by simp [hjz]
      have e2 : ((zs.take len).map (fun z => UInt8.ofNat z.toNat)).getD j 0 = UInt8.ofNat (zs[j]).toNat := by
        simp [hjz, show j < len by omega]
      rw [e1, e2]
      unfold ub
      rw [UInt8.toNat_ofNat']
      omega
    · rw [List.length_map, List.length_take]; omega

/-- The bytes of a slice that came in. -/
theorem raw_bytes {H : Type} {enc : TypeId × Value → H} {W : World} {fuel : Nat} {c : Value} {x : DataW H × List MemPlace} (hf : DataW.trod enc Try.prog W 0 (fun _ => true) true fuel 30 [c] = some x) :
    ∃ bs, Bytes W c bs ∧ bs.length ≤ 9223372036854775807 := by
  rcases open_ints Try.underlying30 Try.underlying5 (by kernel_rfl) hf with ⟨hcs, _⟩ | ⟨y, l, k, zs, hcs, _, hl, hm, hz, _, hcell, hwz⟩
  · simp at hcs
    subst hcs
    exact ⟨[], Bytes.nil _, by simp⟩
  · simp at hcs
    subst hcs
    obtain ⟨bs, hb, hbl, hbm⟩ := IsRow.bytes (w := W) (a := some y) (len := l) (cap := k) (zs := zs) (.inr ⟨_, rfl, hl, hm, by simpa using hz, hcell, hwz⟩)
    exact ⟨bs, hb, by omega⟩
/-- A field that came in. -/
def InF (W : World) (cs : List Value) (f : Fd) : Prop := ∃ vb, cs = [.int .i64 f.s, .int .i64 f.n, vb] ∧ Bytes W vb f.b ∧ f.b.length ≤ 9223372036854775807 ∧ -9223372036854775808 ≤ f.n ∧ f.n ≤ 9223372036854775807
theorem fld_in {H : Type} {enc : TypeId × Value → H} {W : World} {fuel : Nat} {cs : List Value} {x : DataW H × List MemPlace} (h : DataW.trod enc Try.prog W 0 (fun _ => true) true fuel 33 cs = some x) : ∃ f, InF W cs f := by
  obtain ⟨xs, n, -, -, hlen, hxl, hf⟩ := DataW.trod_struct Try.underlying33 h
  have hl3 : cs.length = 3 := hlen.trans (by kernel_rfl)
  have hx3 : xs.length = 3 := hxl
  match cs, hl3, xs, hx3 with
  | [c0, c1, c2], _, [y0, y1, y2], _ =>
    have g0 : DataW.trod enc Try.prog W 0 (fun _ => true) true n 3 [c0] = some y0 := hf 0 _ rfl
    have g1 : DataW.trod enc Try.prog W 0 (fun _ => true) true n 3 [c1] = some y1 := hf 1 _ rfl
    have g2 : DataW.trod enc Try.prog W 0 (fun _ => true) true n 30 [c2] = some y2 := hf 2 _ rfl
    obtain ⟨s, e0, -, -⟩ := DataW.trod_int Try.underlying3 g0
    obtain ⟨m, e1, -, w1⟩ := DataW.trod_int Try.underlying3 g1
    obtain ⟨bs, hb, hbl⟩ := raw_bytes g2
    simp at e0 e1
    subst e0
    subst e1
    have hm := lit_i64 m w1
    exact ⟨⟨s, m, bs⟩, c2, rfl, hb, hbl, hm.1, hm.2⟩
/-- A field by value. -/
theorem open_field {H : Type} {enc : TypeId × Value → H} {W : World} {base : Nat} {v : Value} {d : DataW H} {p : List MemPlace} (hv : Value.okWide Try.prog W .any base 33 v) (h : DataW.Trod enc Try.prog W 0 (fun _ => true) true 33 v d p) :
    ∃ f, IsF W v f ∧ f.b.length ≤ 9223372036854775807 ∧ -9223372036854775808 ≤ f.n ∧ f.n ≤ 9223372036854775807 := by
  obtain ⟨cs, rfl, hsz⟩ := okWide_struct Try.underlying33 hv
  obtain ⟨fuel, hf⟩ := h
  obtain ⟨f, vb, e, hb, hr⟩ := fld_in hf
  obtain ⟨l⟩ := cs
  have e' : l = [.int .i64 f.s, .int .i64 f.n, vb] := e
  subst e'
  exact ⟨f, ⟨vb, rfl, hb⟩, hr⟩
/-- A slice of fields. -/
theorem open_flds {H : Type} {enc : TypeId × Value → H} {W : World} {a : Option Addr} {len cap : Nat} {d : DataW H} {p : List MemPlace} (h : DataW.Trod enc Try.prog W 0 (fun _ => true) true 22 (.slice a len cap) d p) :
    ∃ fs, FldsB W W.heap.size (.slice a len cap) fs ∧ fs.length ≤ 9223372036854775807 ∧ ∀ f ∈ fs, f.b.length ≤ 9223372036854775807 ∧ -9223372036854775808 ≤ f.n ∧ f.n ≤ 9223372036854775807 := by
  obtain ⟨fuel, hf⟩ := h
  rcases Deep.open_slice Try.underlying22 hf with ⟨hcs, _⟩ | ⟨x, l, c, m, n, D, Pl, hcs, _, hl, hm, hmm, _, hi⟩
  · simp [Value.cells] at hcs
    obtain ⟨rfl, rfl, rfl⟩ := hcs
    exact ⟨[], ⟨none, 0, rfl, Nat.le_refl _, fun h => absurd h (by simp)⟩, by simp, fun f hf => by cases hf⟩
  · simp [Value.cells] at hcs
    obtain ⟨rfl, rfl, rfl⟩ := hcs
    have hcm : cap ≤ 9223372036854775807 := hm
    have hm2 : m = cap := by simpa using hmm
    have hC : Try.prog.cellsOf 33 = 3 := by kernel_rfl
    have hrow : ∀ i, i < len → ∃ f : Fd, ∃ vb, (∀ j u, [Value.int .i64 f.s, .int .i64 f.n, vb][j]? = some u → W.cell? (x.add (i * 3 + j)) = some u) ∧ Bytes W vb f.b ∧ f.b.length ≤ 9223372036854775807 ∧ -9223372036854775808 ≤ f.n ∧ f.n ≤ 9223372036854775807 := fun i hil => by
      obtain ⟨cs', hc', ht⟩ := hi i (by omega)
      rw [hC] at hc'
      obtain ⟨_, hcl, hat⟩ := World.cells?_some hc'
      obtain ⟨f, vb, e, hb, hr⟩ := fld_in ht
      refine ⟨f, vb, fun j u hj => ?_, hb, hr⟩
      have hj3 : j < 3 := by have := (List.getElem?_eq_some_iff.1 hj).1; simpa using this
      rw [← Deep.add_add, hat j hj3, e]
      exact hj
    haveI : Inhabited Fd := ⟨Fd.zero⟩
    obtain ⟨f, hfb⟩ := Deep.choose_lt hrow
    have hlen : ((List.range len).map f).length = len := by simp
    refine ⟨(List.range len).map f, ⟨some x, cap, by rw [hlen], by rw [hlen]; exact hl, fun hp => ?_⟩, by rw [hlen]; omega, fun q hq => ?_⟩
    · rw [hlen] at hp
      obtain ⟨vb0, hc0, -⟩ := hfb 0 hp
      have h00 := hc0 0 _ rfl
      obtain ⟨b, off, spot⟩ := x
      have hspot : spot = none := by simpa [Addr.add] using World.cell?_spot h00
      subst hspot
      have hlt := World.block_lt_of_cell? _ _ h00
      refine ⟨b, off, rfl, by simpa [Addr.add] using hlt, fun i hi2 => ?_⟩
      rw [hlen] at hi2
      have e : ((List.range len).map f).getD i Fd.zero = f i := by simp [hi2]
      rw [e]
      obtain ⟨vb, hc1, hb1, -⟩ := hfb i hi2
      refine ⟨vb, fun j u hj => ?_, hb1, fun h0 => ?_⟩
      · have := hc1 j u hj
        rw [Go.WideShapes.add_plain] at this
        rw [Nat.add_assoc]
        exact this
      · obtain ⟨a', cap', rfl, -, -, hr⟩ := hb1
        obtain ⟨c', o', rfl, hcell⟩ := hr h0
        exact ⟨c', rfl, by have := World.block_lt_of_cell? _ _ (hcell 0 h0); simpa using this⟩
    · obtain ⟨r, hr1, rfl⟩ := List.mem_map.1 hq
      obtain ⟨vb, -, -, h3⟩ := hfb r (List.mem_range.1 hr1)
      exact h3
/-- A world to begin with. -/
noncomputable def laidWorld (os : Os) : World := World.holding Try.prog os ⟨#[], #[], []⟩
end Go.Proofs.Ytgbhckoaabnblaa
