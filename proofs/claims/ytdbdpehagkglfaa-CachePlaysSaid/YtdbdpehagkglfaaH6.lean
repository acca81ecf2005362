/-
  Maps whose keys are claims and whose elements are pointers, of whatever map type.
-/
import Derived.Test.YtdbdpehagkglfaaCu
import Derived.Maps.Keyed
import Derived.Maps.RangeWalk
import Derived.Maps.OwnSet
import Derived.LoopN
import Derived.Test.YtdbdpehagkglfaaSrt
namespace Go.Proofs.Ytdbdpehagkglfaa
open Go Go.RowKit
theorem clLaw : Go.WideMaps.KeyLaw Try.prog 34 := deep_law_laid laidOut (m := 2) (by omega) (of_decide_eq_true (by kernel_rfl)) (by kernel_rfl) (by kernel_rfl)
theorem clKeyed : Go.Maps.Keyed Try.prog 34 := Go.Maps.Keyed.of_law clLaw
/-- Claims whose numbers an int holds. -/
def Cl64 (c : Cl) : Prop := in64 c.id ∧ in64 c.ro ∧ in64 c.ex ∧ in64 c.se
theorem wf_in (n : Int) (h : in64 n) : (Lit.int .i64 n).wf = true := by
  unfold in64 at h
  simp [Lit.wf, IntKind.min, IntKind.max, IntKind.signed, IntKind.bits]
  omega
theorem keyLits_int (d : Nat) (n : Int) (h : in64 n) : Try.prog.keyLits (d + 1) 3 [.int .i64 n] = some [.int .i64 n] := by
  unfold Program.keyLits
  rw [Try.underlying3]
  simp [wf_in n h]
set_option maxRecDepth 100000 in
theorem key_cl (c : Cl) (h : Cl64 c) : ∃ kl, keyOf Try.prog 34 (clV c) = some kl := by
  obtain ⟨i, r, x, q⟩ := c
  obtain ⟨h1, h2, h3, h4⟩ := h
  unfold keyOf clV
  rw [Try.underlying34]
  simp only
  rw [if_pos (by kernel_rfl)]
  obtain ⟨d, hd⟩ : ∃ d, Try.prog.types.size + 1 = d + 1 + 1 := ⟨Try.prog.types.size - 1, by
    have h1 : 1 ≤ Try.prog.types.size := of_decide_eq_true (by kernel_rfl)
    omega⟩
  rw [hd]
  conv => enter [1, kl]; unfold Program.keyLits; rw [Try.underlying34]
  simp only
  rw [if_pos (by constructor <;> kernel_rfl)]
  have e3 : Try.prog.cellsOf 3 = 1 := by kernel_rfl
  have ec : (Value.agg #[Value.int IntKind.i64 i, Value.int IntKind.i64 r, Value.int IntKind.i64 x, Value.int IntKind.i64 q]).cells.toList = [Value.int IntKind.i64 i, Value.int IntKind.i64 r, Value.int IntKind.i64 x, Value.int IntKind.i64 q] := by simp [Value.cells]
  simp [ec, e3, keyLits_int d _ h1, keyLits_int d _ h2, keyLits_int d _ h3, keyLits_int d _ h4]
/-- A pointer to a block. -/
def ptr (p : Nat) : Value := .pointer (some ⟨p, 0, none⟩)
instance : DecidableEq Cl := fun a b => decidable_of_iff (a.id = b.id ∧ a.ro = b.ro ∧ a.ex = b.ex ∧ a.se = b.se) (by
  cases a; cases b; simp)
theorem clV_inj {c d : Cl} (h : clV c = clV d) : c = d := by
  obtain ⟨i, r, x, q⟩ := c
  obtain ⟨i', r', x', q'⟩ := d
  simpa [clV] using h
/-- A map of claims, as the list of its entries. -/
structure MapL (W : World) (M : Nat) (l : List (Cl × Nat)) : Prop where
  st : ∃ es clock, W.heap[M]? = some (.map es clock) ∧ Go.MapKept.Stamped es clock ∧ es.toList.map (fun e => (e.key, e.val)) = l.map fun x => (clV x.1, ptr x.2)
  wf : ∀ x ∈ l, Cl64 x.1
  nd : l.Pairwise (fun x y => x.1 ≠ y.1)
/-- Where the key of claims lies. -/
def atC (l : List (Cl × Nat)) (c : Cl) : Option Nat := (l.find? fun x => decide (x.1 = c)).map (·.2)
theorem map_keys {es : List MapEntry} {l : List (Cl × Nat)} (h : es.map (fun e => (e.key, e.val)) = l.map fun x => (clV x.1, ptr x.2)) (wf : ∀ x ∈ l, Cl64 x.1) : ∀ e ∈ es, ∃ kl, keyOf Try.prog 34 e.key = some kl := by
  intro e he
  have h1 : (e.key, e.val) ∈ l.map fun x => (clV x.1, ptr x.2) := by rw [← h]; exact List.mem_map.2 ⟨e, he, rfl⟩
  obtain ⟨x, hx, h2⟩ := List.mem_map.1 h1
  injection h2 with h3 h4
  rw [← h3]
  exact key_cl _ (wf x hx)
theorem map_at {es : List MapEntry} {l : List (Cl × Nat)} (h : es.map (fun e => (e.key, e.val)) = l.map fun x => (clV x.1, ptr x.2)) {j : Nat} {e : MapEntry} (hj : es[j]? = some e) : ∃ x, l[j]? = some x ∧ e.key = clV x.1 ∧ e.val = ptr x.2 := by
  have h1 : (es.map fun e => (e.key, e.val))[j]? = some (e.key, e.val) := by rw [List.getElem?_map, hj]; rfl
  rw [h, List.getElem?_map] at h1
  cases hx : l[j]? with
  | none => rw [hx] at h1; cases h1
  | some x =>
    rw [hx] at h1
    injection h1 with h1
    injection h1 with h2 h3
    exact ⟨x, rfl, h2.symm, h3.symm⟩
theorem find_none_of {es : List MapEntry} {l : List (Cl × Nat)} (h : es.map (fun e => (e.key, e.val)) = l.map fun x => (clV x.1, ptr x.2)) {c : Cl} (hn : ∀ e ∈ es, e.key ≠ clV c) : ∀ x ∈ l, x.1 ≠ c := by
  rintro x hx rfl
  have h1 : (clV x.1, ptr x.2) ∈ es.map fun e => (e.key, e.val) := by rw [h]; exact List.mem_map.2 ⟨x, hx, rfl⟩
  obtain ⟨e, he, h2⟩ := List.mem_map.1 h1
  injection h2 with h3 h4
  exact hn e he h3
theorem atC_none {l : List (Cl × Nat)} {c : Cl} (h : ∀ x ∈ l, x.1 ≠ c) : atC l c = none := by
  unfold atC
  rw [List.find?_eq_none.2 (fun x hx => by simpa using h x hx)]
  rfl
theorem atC_some {l : List (Cl × Nat)} (nd : l.Pairwise (fun x y => x.1 ≠ y.1)) {x : Cl × Nat} (hx : x ∈ l) : atC l x.1 = some x.2 := by
  induction l with
  | nil => cases hx
  | cons y l ih =>
    obtain ⟨h1, h2⟩ := List.pairwise_cons.1 nd
    unfold atC
    rw [List.find?_cons]
    rcases List.mem_cons.1 hx with rfl | hx
    · simp
    · rw [show decide (y.1 = x.1) = false from decide_eq_false (h1 x hx)]
      exact ih h2 hx
/-- What a look-up hands back. -/
def lookV (o : Option Nat) : Value := match o with | some p => .tuple #[ptr p, .bool true] | none => .tuple #[.pointer none, .bool false]
/-- The pointer that stands there. -/
def ptrO (o : Option Nat) : Value := match o with | some p => ptr p | none => .pointer none
theorem look_nilG (mt et : TypeId) (hu : Try.prog.underlying mt = some (.map 34 et)) (hz : ∀ W : World, (zeroValue et).run Try.prog W = .ok (.pointer none) W) (c : Cl) (h : Cl64 c) (b : Bool) (W : World) : (Instr.lookup mt (.map none) (clV c) b).run Try.prog W = .ok (if b then lookV none else .pointer none) W := by
  obtain ⟨kl, hk⟩ := key_cl c h
  rcases clKeyed.find W hk [] (fun e he => by cases he) with ⟨h1, _⟩ | ⟨j, e, _, h2, _⟩
  · simp [Instr.lookup, run_underlying hu, clKeyed.check W _ hk, h1, hz, Result.andThen, lookV]
  · simp at h2
theorem MapL.lookG {W : World} {M : Nat} {l : List (Cl × Nat)} (m : MapL W M l) (mt et : TypeId) (hu : Try.prog.underlying mt = some (.map 34 et)) (hz : ∀ W : World, (zeroValue et).run Try.prog W = .ok (.pointer none) W) (c : Cl) (h : Cl64 c) (b : Bool) : (Instr.lookup mt (.map (some M)) (clV c) b).run Try.prog W = .ok (if b then lookV (atC l c) else ptrO (atC l c)) W := by
  obtain ⟨es, clock, hb, hs, he⟩ := m.st
  obtain ⟨kl, hk⟩ := key_cl c h
  rcases clKeyed.find W hk es.toList (map_keys he m.wf) with ⟨h1, h2⟩ | ⟨j, e, h1, h2, h3⟩
  · rw [atC_none (find_none_of he h2)]
    simp [Instr.lookup, run_underlying hu, MapKept.run_getObj_map hb, clKeyed.check W _ hk, h1, hz, Result.andThen, lookV, ptrO]
  · obtain ⟨x, hx, h4, h5⟩ := map_at he h2
    obtain rfl : x.1 = c := clV_inj (h4.symm.trans h3)
    rw [atC_some m.nd (List.mem_of_getElem? hx)]
    simp [Instr.lookup, run_underlying hu, MapKept.run_getObj_map hb, clKeyed.check W _ hk, h1, h5, Result.andThen, lookV, ptrO]
theorem MapL.later {W W1 : World} {M : Nat} {l : List (Cl × Nat)} (m : MapL W M l) (h : W1.heap[M]? = W.heap[M]?) : MapL W1 M l := ⟨by rw [h]; exact m.st, m.wf, m.nd⟩
theorem mapL_made (W : World) : MapL (W.alloc (.map #[] 0)) W.heap.size [] := ⟨⟨#[], 0, hnew _ _ _ rfl, Go.MapKept.stamped_empty 0, rfl⟩, (fun x hx => by cases hx), List.Pairwise.nil⟩
/-- The map's block turned. -/
theorem setB_grown {W : World} {M : Nat} {es : Array MapEntry} {clock : Nat} (hb : W.heap[M]? = some (.map es clock)) (o : Obj) : W.grownBy (Go.ChangeMaps.setBlock W M o) (some M) := ⟨rfl, rfl, rfl, by simp [Go.ChangeMaps.setBlock], fun i _ hi => ChangeMaps.heap_setBlock_other hb _ (fun e => hi (by rw [e]))⟩
theorem MapL.putG {W : World} {M : Nat} {l : List (Cl × Nat)} (m : MapL W M l) (mt et : TypeId) (hu : Try.prog.underlying mt = some (.map 34 et)) (c : Cl) (p : Nat) (h : Cl64 c) (hn : ∀ x ∈ l, x.1 ≠ c) :
    ∃ W1, (Instr.mapUpdate mt (.map (some M)) (clV c) (ptr p)).run Try.prog W = .ok () W1 ∧ MapL W1 M (l ++ [(c, p)]) ∧ W.grownBy W1 (some M) := by
  obtain ⟨es, clock, hb, hs, he⟩ := m.st
  obtain ⟨kl, hk⟩ := key_cl c h
  have hne : ∀ e ∈ es.toList, e.key ≠ clV c := by
    intro e hm hc
    obtain ⟨j, hj⟩ := List.mem_iff_getElem?.1 hm
    obtain ⟨x, hx, h4, -⟩ := map_at he hj
    exact hn x (List.mem_of_getElem? hx) (clV_inj (h4.symm.trans hc))
  rcases clKeyed.find W hk es.toList (map_keys he m.wf) with ⟨h1, h2⟩ | ⟨j, e, h1, h2, h3⟩
  · refine ⟨Go.ChangeMaps.setBlock W M (.map (es.push ⟨clV c, ptr p, clock⟩) (clock + 1)), ?_, ⟨⟨_, _, ChangeMaps.heap_setBlock_same hb _, Go.MapKept.stamped_push hs hne, ?_⟩, ?_, ?_⟩, setB_grown hb _⟩
    · simp [Instr.mapUpdate, run_underlying hu, MapKept.run_getObj_map hb, clKeyed.check W false hk, h1, MapKept.run_setObj_map _ hb, Result.andThen, Go.ChangeMaps.setBlock]
    · simp [he]
    · intro x hx
      rcases List.mem_append.1 hx with hx | hx
      · exact m.wf x hx
      · obtain rfl : x = (c, p) := by simpa using hx
        exact h
    · rw [List.pairwise_append]
      exact ⟨m.nd, List.pairwise_singleton _ _, fun x hx y hy => by obtain rfl : y = (c, p) := by simpa using hy
                                                                    exact hn x hx⟩
  · exact absurd h3 (hne e (List.mem_of_getElem? h2))
theorem pairwise_erase {l : List (Cl × Nat)} (nd : l.Pairwise (fun x y => x.1 ≠ y.1)) {j : Nat} {x : Cl × Nat} (hx : l[j]? = some x) : l.eraseIdx j = l.filter fun y => decide (y.1 ≠ x.1) := by
  induction l generalizing j with
  | nil => rfl
  | cons y l ih =>
    obtain ⟨h1, h2⟩ := List.pairwise_cons.1 nd
    cases j with
    | zero =>
      obtain rfl : y = x := by simpa using hx
      rw [List.eraseIdx_cons_zero, List.filter_cons_of_neg (by simp)]
      exact (List.filter_eq_self.2 fun z hz => by simpa using (h1 z hz).symm).symm
    | succ j =>
      have hx' : l[j]? = some x := by simpa using hx
      rw [List.eraseIdx_cons_succ, List.filter_cons_of_pos (by simpa using h1 x (List.mem_of_getElem? hx')), ih h2 hx']
theorem MapL.dropG {W : World} {M : Nat} {l : List (Cl × Nat)} (m : MapL W M l) (mt et : TypeId) (hu : Try.prog.underlying mt = some (.map 34 et)) (c : Cl) (h : Cl64 c) (ty : TypeId) :
    ∃ W1, (Builtin.delete_ #[mt, 34] ty #[.map (some M), clV c]).run Try.prog W = .ok (.tuple #[]) W1 ∧ MapL W1 M (l.filter fun y => decide (y.1 ≠ c)) ∧ W.grownBy W1 (some M) := by
  obtain ⟨es, clock, hb, hs, he⟩ := m.st
  obtain ⟨kl, hk⟩ := key_cl c h
  rcases clKeyed.find W hk es.toList (map_keys he m.wf) with ⟨h1, h2⟩ | ⟨j, e, h1, h2, h3⟩
  · have hl : (l.filter fun y => decide (y.1 ≠ c)) = l := List.filter_eq_self.2 fun z hz => by simpa using find_none_of he h2 z hz
    refine ⟨Go.ChangeMaps.setBlock W M (.map es clock), ?_, ⟨⟨es, clock, ChangeMaps.heap_setBlock_same hb _, hs, by rw [hl]; exact he⟩, by rw [hl]; exact m.wf, by rw [hl]; exact m.nd⟩, setB_grown hb _⟩
    simp [Builtin.delete_, run_underlying hu, MapKept.run_getObj_map hb, clKeyed.check W _ hk, h1, MapKept.run_setObj_map _ hb, Result.andThen, Go.ChangeMaps.setBlock]
  · have hjl : j < es.toList.length := (List.getElem?_eq_some_iff.1 h2).1
    have hjs : j < es.size := by simpa using hjl
    have hsub : (es.eraseIdxIfInBounds j).toList = es.toList.eraseIdx j := by
      unfold Array.eraseIdxIfInBounds
      rw [dif_pos hjs]
      simp
    obtain ⟨x, hx, h4, h5⟩ := map_at he h2
    obtain rfl : x.1 = c := clV_inj (h4.symm.trans h3)
    have hl := pairwise_erase m.nd hx
    refine ⟨Go.ChangeMaps.setBlock W M (.map (es.eraseIdxIfInBounds j) clock), ?_, ⟨⟨_, clock, ChangeMaps.heap_setBlock_same hb _, Go.MapKept.stamped_erase hs j, ?_⟩, fun y hy => m.wf y (List.mem_filter.1 hy).1, m.nd.filter _⟩, setB_grown hb _⟩
    · simp [Builtin.delete_, run_underlying hu, MapKept.run_getObj_map hb, clKeyed.check W _ hk, h1, MapKept.run_setObj_map _ hb, Result.andThen, Go.ChangeMaps.setBlock]
    · rw [hsub, ← hl]
      have e1 := congrArg (fun z => z.eraseIdx j) he
      rw [← ChangeMaps.map_eraseIdx, ← ChangeMaps.map_eraseIdx] at e1
      exact e1
theorem MapL.lenG {W : World} {M : Nat} {l : List (Cl × Nat)} (m : MapL W M l) (mt et : TypeId) (hu : Try.prog.underlying mt = some (.map 34 et)) (ty : TypeId) : (Builtin.len_ #[mt] ty #[.map (some M)]).run Try.prog W = .ok (.int .i64 (l.length : Int)) W := by
  obtain ⟨es, clock, hb, hs, he⟩ := m.st
  have hl : es.size = l.length := by have := congrArg List.length he; simpa using this
  simp [Builtin.len_, run_underlying hu, MapKept.run_getObj_map hb, Result.andThen, hl]
  rfl
/-- The entry of who has one turned. -/
theorem MapL.setG {W : World} {M : Nat} {l : List (Cl × Nat)} (m : MapL W M l) (mt et : TypeId) (hu : Try.prog.underlying mt = some (.map 34 et)) (c : Cl) (p : Nat) (h : Cl64 c) (hin : ∃ x ∈ l, x.1 = c) :
    ∃ W1, (Instr.mapUpdate mt (.map (some M)) (clV c) (ptr p)).run Try.prog W = .ok () W1 ∧ MapL W1 M (l.map fun x => if x.1 = c then (c, p) else x) ∧ W.grownBy W1 (some M) := by
  obtain ⟨es, clock, hb, hs, he⟩ := m.st
  obtain ⟨kl, hk⟩ := key_cl c h
  rcases clKeyed.find W hk es.toList (map_keys he m.wf) with ⟨h1, h2⟩ | ⟨j, e, h1, h2, h3⟩
  · obtain ⟨x, hx, rfl⟩ := hin
    exact absurd rfl (find_none_of he h2 x hx)
  · obtain ⟨x, hx, h4, h5⟩ := map_at he h2
    obtain rfl : x.1 = c := clV_inj (h4.symm.trans h3)
    have hj : es[j]? = some e := by simpa using h2
    have hst := clKeyed.stays W hk
    refine ⟨Go.ChangeMaps.setBlock W M (.map (es.modify j fun e => { e with key := clV x.1, val := ptr p }) clock), ?_, ⟨⟨_, clock, ChangeMaps.heap_setBlock_same hb _, Go.MapKept.stamped_modify hs j _ (fun e _ => rfl) (fun e2 _ he2 => by
      have h7 : e = e2 := Option.some.inj (hj.symm.trans he2)
      subst h7
      exact h3.symm), ?_⟩, ?_, ?_⟩, setB_grown hb _⟩
    · simp [Instr.mapUpdate, run_underlying hu, MapKept.run_getObj_map hb, clKeyed.check W false hk, h1, hj, h3, hst, MapKept.run_setObj_map _ hb, Result.andThen, Go.ChangeMaps.setBlock]
    · apply List.ext_getElem?
      intro i
      have e1 := congrArg (fun z => z[i]?) he
      simp only [List.getElem?_map] at e1 ⊢
      rw [Array.getElem?_toList, Array.getElem?_modify]
      rw [Array.getElem?_toList] at e1
      by_cases hij : j = i
      · subst hij
        rw [if_pos rfl, hj, hx]
        simp
      · rw [if_neg hij, e1]
        cases hli : l[i]? with
        | none => rfl
        | some y =>
          have hne : y.1 ≠ x.1 := by
            intro e
            have := List.pairwise_iff_getElem.1 m.nd
            obtain ⟨a1, a2⟩ := List.getElem?_eq_some_iff.1 hx
            obtain ⟨b1, b2⟩ := List.getElem?_eq_some_iff.1 hli
            rcases Nat.lt_or_gt_of_ne hij with hlt | hlt
            · exact this j i a1 b1 hlt (by rw [a2, b2, e])
            · exact this i j b1 a1 hlt (by rw [a2, b2, e])
          simp [hne]
    · intro y hy
      obtain ⟨z, hz, rfl⟩ := List.mem_map.1 hy
      split
      · exact h
      · exact m.wf z hz
    · rw [List.pairwise_map]
      refine m.nd.imp fun {a b} hab => ?_
      split <;> split <;> simp_all
end Go.Proofs.Ytdbdpehagkglfaa
namespace Go.Proofs.Ytdbdpehagkglfaa
open Go Go.RowKit
end Go.Proofs.Ytdbdpehagkglfaa
namespace Go.Proofs.Ytdbdpehagkglfaa
open Go Go.RowKit
end Go.Proofs.Ytdbdpehagkglfaa
namespace Go.Proofs.Ytdbdpehagkglfaa
open Go Go.RowKit
/-- Bytes that lie in no writer's block. -/
def BytesN (w : World) (p : Nat) (v : Value) (l : List UInt8) : Prop := Bytes w v l ∧ (0 < l.length → v.ownBlock ≠ some p)
theorem BytesN.grown {w w1 : World} {p : Nat} {v : Value} {l : List UInt8} (h : BytesN w p v l) (hg : w.grownBy w1 (some p)) : BytesN w1 p v l := by
  obtain ⟨⟨a, cap, hv, hc, hn, hr⟩, h2⟩ := h
  refine ⟨⟨a, cap, hv, hc, hn, fun hp => ?_⟩, h2⟩
  obtain ⟨c, o, ha, hcell⟩ := hr hp
  refine ⟨c, o, ha, fun j hj => ?_⟩
  have hlt := World.block_lt_of_cell? _ _ (hcell j hj)
  rw [World.cell?_of_block (hg.block c hlt (fun e => h2 hp (by rw [hv, ha]; exact e)))]
  exact hcell j hj
theorem range_grown {w w1 : World} {p b o : Nat} {cs : List Value} (h : w.rangeAt b o cs) (hg : w.grownBy w1 (some p)) (hne : b ≠ p) : w1.rangeAt b o cs := by
  intro j v hj
  have hlt := World.block_lt_of_cell? _ _ (h j v hj)
  rw [World.cell?_of_block (hg.block b hlt (fun e => hne (by injection e)))]
  exact h j v hj
/-- Nothing. -/
def Fd.zero : Fd := ⟨0, 0, []⟩
/-- A row of fields, outside a writer's block. -/
def FldsN (w : World) (p : Nat) (v : Value) (fs : List Fd) : Prop :=
  ∃ a cap, v = .slice a fs.length cap ∧ fs.length ≤ cap ∧ (0 < fs.length → ∃ g o, a = some ⟨g, o, none⟩ ∧ g ≠ p ∧ ∀ i, i < fs.length → ∃ vb, w.rangeAt g (o + i * 3) [.int .i64 (fs.getD i Fd.zero).s, .int .i64 (fs.getD i Fd.zero).n, vb] ∧ BytesN w p vb (fs.getD i Fd.zero).b)
theorem FldsN.grown {w w1 : World} {p : Nat} {v : Value} {fs : List Fd} (h : FldsN w p v fs) (hg : w.grownBy w1 (some p)) : FldsN w1 p v fs := by
  obtain ⟨a, cap, hv, hc, hr⟩ := h
  refine ⟨a, cap, hv, hc, fun hp => ?_⟩
  obtain ⟨g, o, ha, hne, hf⟩ := hr hp
  refine ⟨g, o, ha, hne, fun i hi => ?_⟩
  obtain ⟨vb, h1, h2⟩ := hf i hi
  exact ⟨vb, range_grown h1 hg hne, h2.grown hg⟩
end Go.Proofs.Ytdbdpehagkglfaa
namespace Go.Proofs.Ytdbdpehagkglfaa
open Go Go.RowKit
end Go.Proofs.Ytdbdpehagkglfaa
namespace Go.Proofs.Ytdbdpehagkglfaa
open Go Go.RowKit
/-- A row of numbers. -/
def IntsN (w : World) (p : Nat) (v : Value) (ns : List Int) : Prop :=
  ∃ a cap, v = .slice a ns.length cap ∧ ns.length ≤ cap ∧ (0 < ns.length → ∃ g o, a = some ⟨g, o, none⟩ ∧ g ≠ p ∧ ∀ i, i < ns.length → w.cell? ⟨g, o + i, none⟩ = some (.int .i64 (ns.getD i 0)))
theorem IntsN.grown {w w1 : World} {p : Nat} {v : Value} {ns : List Int} (h : IntsN w p v ns) (hg : w.grownBy w1 (some p)) : IntsN w1 p v ns := by
  obtain ⟨a, cap, hv, hc, hr⟩ := h
  refine ⟨a, cap, hv, hc, fun hp => ?_⟩
  obtain ⟨g, o, ha, hne, hf⟩ := hr hp
  refine ⟨g, o, ha, hne, fun i hi => ?_⟩
  rw [World.cell?_of_block (hg.block g (World.block_lt_of_cell? _ _ (hf i hi)) (fun e => hne (by injection e)))]
  exact hf i hi
/-- A row of bytes. -/
def PartsN (w : World) (p : Nat) (v : Value) (pss : List (List UInt8)) : Prop :=
  ∃ a cap, v = .slice a pss.length cap ∧ pss.length ≤ cap ∧ (0 < pss.length → ∃ g o, a = some ⟨g, o, none⟩ ∧ g ≠ p ∧ ∀ i, i < pss.length → ∃ vb, w.cell? ⟨g, o + i, none⟩ = some vb ∧ BytesN w p vb (pss.getD i []))
theorem PartsN.grown {w w1 : World} {p : Nat} {v : Value} {pss : List (List UInt8)} (h : PartsN w p v pss) (hg : w.grownBy w1 (some p)) : PartsN w1 p v pss := by
  obtain ⟨a, cap, hv, hc, hr⟩ := h
  refine ⟨a, cap, hv, hc, fun hp => ?_⟩
  obtain ⟨g, o, ha, hne, hf⟩ := hr hp
  refine ⟨g, o, ha, hne, fun i hi => ?_⟩
  obtain ⟨vb, h1, h2⟩ := hf i hi
  refine ⟨vb, ?_, h2.grown hg⟩
  rw [World.cell?_of_block (hg.block g (World.block_lt_of_cell? _ _ h1) (fun e => hne (by injection e)))]
  exact h1
theorem BytesN.nil (w : World) (p : Nat) : BytesN w p (.slice none 0 0) [] := ⟨Bytes.nil w, fun h => absurd h (by simp)⟩
end Go.Proofs.Ytdbdpehagkglfaa
namespace Go.Proofs.Ytdbdpehagkglfaa
open Go Go.RowKit
end Go.Proofs.Ytdbdpehagkglfaa
namespace Go.Proofs.Ytdbdpehagkglfaa
open Go Go.RowKit
/-- The box of claims. -/
def clC (c : Cl) : Array Value := #[.int .i64 c.id, .int .i64 c.ro, .int .i64 c.ex, .int .i64 c.se]
theorem okC_iff (i r x s : Int) : okC ⟨i, r, x, s⟩ = true ↔ 1 ≤ i ∧ i ≤ 65535 ∧ 0 ≤ r ∧ r ≤ 255 ∧ 0 ≤ x ∧ x ≤ 1073741824 ∧ 1 ≤ s ∧ s ≤ 65535 := by
  simp [okC, and_assoc]
end Go.Proofs.Ytdbdpehagkglfaa
namespace Go.Proofs.Ytdbdpehagkglfaa
open Go Go.RowKit
set_option maxRecDepth 100000 in
theorem cto_any (c : Cl) (w : World) : Calls Try.prog 7 #[clV c] w fun e w' => e = .returned (clV c) ∧ Below w.heap.size w w' := by
  obtain ⟨i, r, x, s⟩ := c
  unfold clV
  simp only
  go_enter Try.func7, Try.ntmps7
  go_wp2
  refine bodyPost_ret (results_cell_row rfl _ _ (w.heap.size + 1) _ _ _ _ rfl (hnew _ _ _ (by simp)) Try.underlying34 rfl (by kernel_rfl)) rfl ?_
  exact ⟨rfl, (below_a _).trans ((below_a _).mono (by simp))⟩
set_option maxRecDepth 100000 in
theorem cof_any (c : Cl) (w : World) : Calls Try.prog 34 #[clV c] w fun e w' => e = .returned (clV c) ∧ Below w.heap.size w w' := by
  obtain ⟨i, r, x, s⟩ := c
  unfold clV
  simp only
  go_enter Try.func34, Try.ntmps34
  go_wp2
  refine bodyPost_ret (results_cell_row rfl _ _ (w.heap.size + 1) _ _ _ _ rfl (hnew _ _ _ (by simp)) Try.underlying24 rfl (by kernel_rfl)) rfl ?_
  exact ⟨rfl, (below_a _).trans ((below_a _).mono (by simp))⟩
set_option maxRecDepth 100000 in
theorem cright_any (c : Cl) (w : World) : Calls Try.prog 30 #[clV c] w fun e w' => e = .returned (.bool (okC c)) ∧ Below w.heap.size w w' := by
  obtain ⟨i, r, x, s⟩ := c
  have HB := Bx.mk (below_a (W := w) (.cells #[.int .i64 i, .int .i64 r, .int .i64 x, .int .i64 s] 24))
  unfold clV
  simp only
  go_enter Try.func30, Try.ntmps30
  go_wp2
  all_goals go_ret
  all_goals refine ⟨ret_bool ?_, HB.out⟩
  all_goals rw [Bool.eq_iff_iff, okC_iff]
  all_goals simp only [decide_eq_true_eq, Bool.false_eq_true, false_iff]
  all_goals omega
/-- What stays while the document's bytes are written. -/
structure DB (w : World) (B : Nat) (c : Cl) (W : World) : Prop where
  box : W.heap[B]? = some (.cells (clC c) 24 (0, 0))
  below : Below B w W
theorem DB.later {w : World} {B : Nat} {c : Cl} {W W1 : World} (h : DB w B c W) {K : Nat} (hb : Below K W W1) (hK : B < K) : DB w B c W1 :=
  ⟨by rw [hb.block B hK]; exact h.box, h.below.trans (hb.mono (Nat.le_of_lt hK))⟩
theorem DB.lt {w : World} {B : Nat} {c : Cl} {W : World} (h : DB w B c W) : B < W.heap.size := (Array.getElem?_eq_some_iff.1 h.box).1
theorem DB.cell {w : World} {B : Nat} {c : Cl} {W : World} (h : DB w B c W) (k : Nat) (v : Value) (hv : (clC c)[k]? = some v) : W.cell? ⟨B, k, none⟩ = some v := by rw [cell_of_row _ _ _ _ _ _ h.box]; exact hv
end Go.Proofs.Ytdbdpehagkglfaa
namespace Go.Proofs.Ytdbdpehagkglfaa
open Go Go.RowKit
/-- Which of two numbers is the smaller. -/
def sg (x y : Int) : Int := if x < y then -1 else if y < x then 1 else 0
set_option maxRecDepth 100000 in
theorem cmp_any (x y : Int) (w : World) : Calls Try.prog 66 #[.int .i64 x, .int .i64 y] w fun e w' => e = .returned (.int .i64 (sg x y)) ∧ w' = w := by
  unfold sg
  by_cases h1 : x < y
  · rw [if_pos h1]
    go_enter Try.func66, Try.ntmps66
    go_wp2
    go_ret
    exact ⟨rfl, rfl⟩
  · rw [if_neg h1]
    by_cases h2 : y < x
    · rw [if_pos h2]
      go_enter Try.func66, Try.ntmps66
      go_wp2
      go_ret
      exact ⟨rfl, rfl⟩
    · rw [if_neg h2]
      go_enter Try.func66, Try.ntmps66
      go_wp2
      go_ret
      exact ⟨rfl, rfl⟩
/-- The first of four numbers that is not 0. -/
def or4 (a b c d : Int) : Int := if a ≠ 0 then a else if b ≠ 0 then b else if c ≠ 0 then c else d
set_option maxRecDepth 100000 in
set_option maxHeartbeats 1000000 in
theorem or_any (a b c d : Int) (g : Nat) (w : World) (h : w.heap[g]? = some (.cells #[.int .i64 a, .int .i64 b, .int .i64 c, .int .i64 d] 3 (0, 0))) :
    Calls Try.prog 65 #[.slice (some ⟨g, 0, none⟩) 4 4] w fun e w' => e = .returned (.int .i64 (or4 a b c d)) ∧ w' = w := by
  have k0 : w.cell? ⟨g, 0, none⟩ = some (.int .i64 a) := by rw [cell_of_row _ _ _ _ _ _ h]; rfl
  have k1 : w.cell? ⟨g, 1, none⟩ = some (.int .i64 b) := by rw [cell_of_row _ _ _ _ _ _ h]; rfl
  have k2 : w.cell? ⟨g, 2, none⟩ = some (.int .i64 c) := by rw [cell_of_row _ _ _ _ _ _ h]; rfl
  have k3 : w.cell? ⟨g, 3, none⟩ = some (.int .i64 d) := by rw [cell_of_row _ _ _ _ _ _ h]; rfl
  clear h
  obtain ⟨V, hV⟩ : ∃ V, or4 a b c d = V := ⟨_, rfl⟩
  rw [hV]
  have HV := Bx.mk hV
  clear hV
  go_enter Try.func65, Try.ntmps65
  go_wp2
  refine wp_loop_rounds 5 ?_
  rw [rounds_succ]
  by_cases h0 : ¬ a = 0
  · have hb0 : (a != 0) = true := by simp [h0]
    have HE : Bx (V = a) := Bx.mk (by rw [← HV.out]; unfold or4; simp [h0])
    clear HV
    go_wp2
    go_ret
    exact ⟨by rw [HE.out]; rfl, rfl⟩
  obtain rfl : a = 0 := Decidable.not_not.mp h0
  clear h0
  go_wp2
  rw [rounds_succ]
  by_cases h1 : ¬ b = 0
  · have hb1 : (b != 0) = true := by simp [h1]
    have HE : Bx (V = b) := Bx.mk (by rw [← HV.out]; unfold or4; simp [h1])
    clear HV
    go_wp2
    go_ret
    exact ⟨by rw [HE.out]; rfl, rfl⟩
  obtain rfl : b = 0 := Decidable.not_not.mp h1
  clear h1
  go_wp2
  rw [rounds_succ]
  by_cases h2 : ¬ c = 0
  · have hb2 : (c != 0) = true := by simp [h2]
    have HE : Bx (V = c) := Bx.mk (by rw [← HV.out]; unfold or4; simp [h2])
    clear HV
    go_wp2
    go_ret
    exact ⟨by rw [HE.out]; rfl, rfl⟩
  obtain rfl : c = 0 := Decidable.not_not.mp h2
  clear h2
  go_wp2
  rw [rounds_succ]
  by_cases h3 : ¬ d = 0
  · have hb3 : (d != 0) = true := by simp [h3]
    have HE : Bx (V = d) := Bx.mk (by rw [← HV.out]; unfold or4; simp [h3])
    clear HV
    go_wp2
    go_ret
    exact ⟨by rw [HE.out]; rfl, rfl⟩
  obtain rfl : d = 0 := Decidable.not_not.mp h3
  clear h3
  go_wp2
  rw [rounds_succ]
  go_wp2
  go_ret
  exact ⟨by rw [← HV.out]; rfl, rfl⟩
/-- The order of claims. -/
def cmpC (a b : Cl) : Int := or4 (sg a.se b.se) (sg a.id b.id) (sg a.ex b.ex) (sg a.ro b.ro)
/-- What stays while two claims are compared. -/
structure CS (w : World) (B : Nat) (a b : Cl) (W : World) : Prop where
  one : W.heap[B]? = some (.cells (clC a) 34 (0, 0))
  two : W.heap[B + 1]? = some (.cells (clC b) 34 (0, 0))
  below : Below B w W
  dr : w.drawn ≤ W.drawn
theorem CS.later {w : World} {B : Nat} {a b : Cl} {W W1 : World} (h : CS w B a b W) (hb : Below W.heap.size W W1) (hd : W.drawn ≤ W1.drawn) : CS w B a b W1 :=
  have h0 : B + 1 < W.heap.size := (Array.getElem?_eq_some_iff.1 h.two).1
  ⟨by rw [hb.block B (by omega)]; exact h.one, by rw [hb.block (B + 1) h0]; exact h.two, h.below.trans (hb.mono (by omega)), Nat.le_trans h.dr hd⟩
theorem CS.x0 {w : World} {B : Nat} {a0 a1 a2 a3 : Int} {b : Cl} {W : World} (h : CS w B ⟨a0, a1, a2, a3⟩ b W) : W.cell? ⟨B, 0, none⟩ = some (.int .i64 a0) := by rw [cell_of_row _ _ _ _ _ _ h.one]; rfl
theorem CS.y0 {w : World} {B : Nat} {b0 b1 b2 b3 : Int} {a : Cl} {W : World} (h : CS w B a ⟨b0, b1, b2, b3⟩ W) : W.cell? ⟨B + 1, 0, none⟩ = some (.int .i64 b0) := by rw [cell_of_row _ _ _ _ _ _ h.two]; rfl
theorem CS.x1 {w : World} {B : Nat} {a0 a1 a2 a3 : Int} {b : Cl} {W : World} (h : CS w B ⟨a0, a1, a2, a3⟩ b W) : W.cell? ⟨B, 1, none⟩ = some (.int .i64 a1) := by rw [cell_of_row _ _ _ _ _ _ h.one]; rfl
theorem CS.y1 {w : World} {B : Nat} {b0 b1 b2 b3 : Int} {a : Cl} {W : World} (h : CS w B a ⟨b0, b1, b2, b3⟩ W) : W.cell? ⟨B + 1, 1, none⟩ = some (.int .i64 b1) := by rw [cell_of_row _ _ _ _ _ _ h.two]; rfl
theorem CS.x2 {w : World} {B : Nat} {a0 a1 a2 a3 : Int} {b : Cl} {W : World} (h : CS w B ⟨a0, a1, a2, a3⟩ b W) : W.cell? ⟨B, 2, none⟩ = some (.int .i64 a2) := by rw [cell_of_row _ _ _ _ _ _ h.one]; rfl
theorem CS.y2 {w : World} {B : Nat} {b0 b1 b2 b3 : Int} {a : Cl} {W : World} (h : CS w B a ⟨b0, b1, b2, b3⟩ W) : W.cell? ⟨B + 1, 2, none⟩ = some (.int .i64 b2) := by rw [cell_of_row _ _ _ _ _ _ h.two]; rfl
theorem CS.x3 {w : World} {B : Nat} {a0 a1 a2 a3 : Int} {b : Cl} {W : World} (h : CS w B ⟨a0, a1, a2, a3⟩ b W) : W.cell? ⟨B, 3, none⟩ = some (.int .i64 a3) := by rw [cell_of_row _ _ _ _ _ _ h.one]; rfl
theorem CS.y3 {w : World} {B : Nat} {b0 b1 b2 b3 : Int} {a : Cl} {W : World} (h : CS w B a ⟨b0, b1, b2, b3⟩ W) : W.cell? ⟨B + 1, 3, none⟩ = some (.int .i64 b3) := by rw [cell_of_row _ _ _ _ _ _ h.two]; rfl
/-- Are claims the same? -/
def sameC (a b : Cl) : Bool := decide (a.id = b.id) && decide (a.ro = b.ro) && decide (a.ex = b.ex) && decide (a.se = b.se)
theorem sameC_iff (a b : Cl) : sameC a b = true ↔ a = b := by
  obtain ⟨a0, a1, a2, a3⟩ := a
  obtain ⟨b0, b1, b2, b3⟩ := b
  simp [sameC, and_assoc]
theorem eqC (a0 a1 a2 a3 b0 b1 b2 b3 : Int) (W : World) : (binOp BinOp.eql 34 (.agg #[.int .i64 a0, .int .i64 a1, .int .i64 a2, .int .i64 a3]) (.agg #[.int .i64 b0, .int .i64 b1, .int .i64 b2, .int .i64 b3])).run Try.prog W = .ok (.bool (sameC ⟨a0, a1, a2, a3⟩ ⟨b0, b1, b2, b3⟩)) W := by
  go_simp
  unfold sameC
  simp only
  by_cases h0 : a0 = b0 <;> by_cases h1 : a1 = b1 <;> by_cases h2 : a2 = b2 <;> by_cases h3 : a3 = b3 <;> simp [h0, h1, h2, h3]
theorem cmpC_self (a : Cl) : cmpC a a = 0 := by simp [cmpC, sg, or4]
set_option maxRecDepth 100000 in
set_option maxHeartbeats 2000000 in
theorem compare_anyD (a b : Cl) (w : World) : Calls Try.prog 54 #[clV a, clV b] w fun e w' => e = .returned (.int .i64 (cmpC a b)) ∧ Below w.heap.size w w' ∧ w.drawn ≤ w'.drawn := by
  obtain ⟨B, hB⟩ : ∃ B, w.heap.size = B := ⟨_, rfl⟩
  rw [hB]
  have H0 : Bx (CS w B a b ((w.alloc (.cells (clC a) 34)).alloc (.cells (clC b) 34))) := Bx.mk ⟨by rw [hold _ _ _ (by simp; omega)]; exact hnew _ _ _ hB.symm, hnew _ _ _ (by simp; omega), by rw [← hB]; exact (below_a _).alloc (by simp) _, Nat.le_refl _⟩
  by_cases hab : sameC a b = true
  · have hq := (sameC_iff a b).mp hab
    subst hq
    rw [cmpC_self]
    obtain ⟨a0, a1, a2, a3⟩ := a
    have heq := fun W => eqC a0 a1 a2 a3 a0 a1 a2 a3 W
    rw [hab] at heq
    unfold clC at H0
    unfold clV
    simp only at H0 ⊢
    go_enter Try.func54, Try.ntmps54
    go_wp2
    go_ret
    exact ⟨rfl, H0.out.below, H0.out.dr⟩
  · have hab2 : sameC a b = false := by simpa using hab
    obtain ⟨a0, a1, a2, a3⟩ := a
    obtain ⟨b0, b1, b2, b3⟩ := b
    have heq := fun W => eqC a0 a1 a2 a3 b0 b1 b2 b3 W
    rw [hab2] at heq
    unfold clV cmpC
    have HC : Bx (CS w B ⟨a0, a1, a2, a3⟩ ⟨b0, b1, b2, b3⟩ ((w.alloc (.cells #[.int .i64 a0, .int .i64 a1, .int .i64 a2, .int .i64 a3] 34)).alloc (.cells #[.int .i64 b0, .int .i64 b1, .int .i64 b2, .int .i64 b3] 34)).drew) := Bx.mk (H0.out.later (Below.refl _ _).drew (Nat.le_succ _))
    simp only
    clear hab hab2 H0
    go_enter Try.func54, Try.ntmps54
    go_upto_region 3 with (fail)
    generalize (w.alloc (.cells #[.int .i64 a0, .int .i64 a1, .int .i64 a2, .int .i64 a3] 34)).alloc (.cells #[.int .i64 b0, .int .i64 b1, .int .i64 b2, .int .i64 b3] 34) = w1 at *
    clear heq
    refine wp_region_noPanic ?_
    refine wp_region_held_drew (S := fun W => W.cell? ⟨B, 0, none⟩ = some (.int .i64 a0) ∧ W.cell? ⟨B, 1, none⟩ = some (.int .i64 a1) ∧ W.cell? ⟨B, 2, none⟩ = some (.int .i64 a2) ∧ W.cell? ⟨B, 3, none⟩ = some (.int .i64 a3) ∧ W.cell? ⟨B + 1, 0, none⟩ = some (.int .i64 b0) ∧ W.cell? ⟨B + 1, 1, none⟩ = some (.int .i64 b1) ∧ W.cell? ⟨B + 1, 2, none⟩ = some (.int .i64 b2) ∧ W.cell? ⟨B + 1, 3, none⟩ = some (.int .i64 b3)) (by kernel_rfl) (⟨HC.out.x0, HC.out.x1, HC.out.x2, HC.out.x3, HC.out.y0, HC.out.y1, HC.out.y2, HC.out.y3⟩) (fun hHeld => ?_)
    generalize w1.drew = W0 at *
    refine takeL 0 (v := ?_) rfl (by kernel_rfl) (by kernel_rfl) (by kernel_rfl) (fun _ _ _ h => h) (Or.inl ⟨by rfl, ?_⟩) hHeld ?_
    rotate_left 1
    · (intro w hSw; go_simp; try with_reducible rfl)
    try simp only [Act.put, List.setIfInBounds_toArray, List.set_cons_zero, List.set_cons_succ]
    refine takeL 1 (v := ?_) rfl (by kernel_rfl) (by kernel_rfl) (by kernel_rfl) (fun _ _ _ h => h) (Or.inl ⟨by rfl, ?_⟩) hHeld ?_
    rotate_left 1
    · (intro w hSw; go_simp; try with_reducible rfl)
    try simp only [Act.put, List.setIfInBounds_toArray, List.set_cons_zero, List.set_cons_succ]
    refine takeL 2 (v := ?_) rfl (by kernel_rfl) (by kernel_rfl) (by kernel_rfl) (fun _ _ _ h => h) (Or.inl ⟨by rfl, ?_⟩) hHeld ?_
    rotate_left 1
    · (intro w hSw; go_simp; try with_reducible rfl)
    try simp only [Act.put, List.setIfInBounds_toArray, List.set_cons_zero, List.set_cons_succ]
    refine takeL 3 (v := ?_) rfl (by kernel_rfl) (by kernel_rfl) (by kernel_rfl) (fun _ _ _ h => h) (Or.inl ⟨by rfl, ?_⟩) hHeld ?_
    rotate_left 1
    · (intro w hSw; go_simp; try with_reducible rfl)
    try simp only [Act.put, List.setIfInBounds_toArray, List.set_cons_zero, List.set_cons_succ]
    refine takeL 5 (v := ?_) rfl (by kernel_rfl) (by kernel_rfl) (by kernel_rfl) (fun _ _ _ h => h) (Or.inl ⟨by rfl, ?_⟩) hHeld ?_
    rotate_left 1
    · (intro w hSw; go_simp; try with_reducible rfl)
    try simp only [Act.put, List.setIfInBounds_toArray, List.set_cons_zero, List.set_cons_succ]
    refine takeL 6 (v := ?_) rfl (by kernel_rfl) (by kernel_rfl) (by kernel_rfl) (fun _ _ _ h => h) (Or.inl ⟨by rfl, ?_⟩) hHeld ?_
    rotate_left 1
    · (intro w hSw; go_simp; try with_reducible rfl)
    try simp only [Act.put, List.setIfInBounds_toArray, List.set_cons_zero, List.set_cons_succ]
    refine takeL 7 (v := ?_) rfl (by kernel_rfl) (by kernel_rfl) (by kernel_rfl) (fun _ _ _ h => h) (Or.inl ⟨by rfl, ?_⟩) hHeld ?_
    rotate_left 1
    · (intro w hSw; go_simp; try with_reducible rfl)
    try simp only [Act.put, List.setIfInBounds_toArray, List.set_cons_zero, List.set_cons_succ]
    refine takeL 8 (v := ?_) rfl (by kernel_rfl) (by kernel_rfl) (by kernel_rfl) (fun _ _ _ h => h) (Or.inl ⟨by rfl, ?_⟩) hHeld ?_
    rotate_left 1
    · (intro w hSw; go_simp; try with_reducible rfl)
    try simp only [Act.put, List.setIfInBounds_toArray, List.set_cons_zero, List.set_cons_succ]
    refine takeL 10 (v := ?_) rfl (by kernel_rfl) (by kernel_rfl) (by kernel_rfl) (fun _ _ _ h => h) (Or.inl ⟨by rfl, ?_⟩) hHeld ?_
    rotate_left 1
    · (intro w hSw; go_simp; try with_reducible rfl)
    try simp only [Act.put, List.setIfInBounds_toArray, List.set_cons_zero, List.set_cons_succ]
    refine takeL 11 (v := ?_) rfl (by kernel_rfl) (by kernel_rfl) (by kernel_rfl) (fun _ _ _ h => h) (Or.inl ⟨by rfl, ?_⟩) hHeld ?_
    rotate_left 1
    · (intro w hSw; go_simp; try with_reducible rfl)
    try simp only [Act.put, List.setIfInBounds_toArray, List.set_cons_zero, List.set_cons_succ]
    refine takeL 12 (v := ?_) rfl (by kernel_rfl) (by kernel_rfl) (by kernel_rfl) (fun _ _ _ h => h) (Or.inl ⟨by rfl, ?_⟩) hHeld ?_
    rotate_left 1
    · (intro w hSw; go_simp; try with_reducible rfl)
    try simp only [Act.put, List.setIfInBounds_toArray, List.set_cons_zero, List.set_cons_succ]
    refine takeL 13 (v := ?_) rfl (by kernel_rfl) (by kernel_rfl) (by kernel_rfl) (fun _ _ _ h => h) (Or.inl ⟨by rfl, ?_⟩) hHeld ?_
    rotate_left 1
    · (intro w hSw; go_simp; try with_reducible rfl)
    try simp only [Act.put, List.setIfInBounds_toArray, List.set_cons_zero, List.set_cons_succ]
    refine takeL 15 (v := ?_) rfl (by kernel_rfl) (by kernel_rfl) (by kernel_rfl) (fun _ _ _ h => h) (Or.inl ⟨by rfl, ?_⟩) hHeld ?_
    rotate_left 1
    · (intro w hSw; go_simp; try with_reducible rfl)
    try simp only [Act.put, List.setIfInBounds_toArray, List.set_cons_zero, List.set_cons_succ]
    refine takeL 16 (v := ?_) rfl (by kernel_rfl) (by kernel_rfl) (by kernel_rfl) (fun _ _ _ h => h) (Or.inl ⟨by rfl, ?_⟩) hHeld ?_
    rotate_left 1
    · (intro w hSw; go_simp; try with_reducible rfl)
    try simp only [Act.put, List.setIfInBounds_toArray, List.set_cons_zero, List.set_cons_succ]
    refine takeL 17 (v := ?_) rfl (by kernel_rfl) (by kernel_rfl) (by kernel_rfl) (fun _ _ _ h => h) (Or.inl ⟨by rfl, ?_⟩) hHeld ?_
    rotate_left 1
    · (intro w hSw; go_simp; try with_reducible rfl)
    try simp only [Act.put, List.setIfInBounds_toArray, List.set_cons_zero, List.set_cons_succ]
    refine takeL 18 (v := ?_) rfl (by kernel_rfl) (by kernel_rfl) (by kernel_rfl) (fun _ _ _ h => h) (Or.inl ⟨by rfl, ?_⟩) hHeld ?_
    rotate_left 1
    · (intro w hSw; go_simp; try with_reducible rfl)
    try simp only [Act.put, List.setIfInBounds_toArray, List.set_cons_zero, List.set_cons_succ]
    refine stepL 4 (by kernel_rfl) rfl (fun K hK => ?_)
    go_simp
    refine (cmp_any a3 b3 W0).mono ?_
    rintro e Wx ⟨rfl, hw⟩
    rw [hw]
    clear hw Wx
    show K _ _
    refine hK.out _ _ ⟨HC.out.x0, HC.out.x1, HC.out.x2, HC.out.x3, HC.out.y0, HC.out.y1, HC.out.y2, HC.out.y3⟩ (fun hHeld => ?_)
    clear hK K
    try simp only [Act.put, List.setIfInBounds_toArray, List.set_cons_zero, List.set_cons_succ]
    refine stepL 9 (by kernel_rfl) rfl (fun K hK => ?_)
    go_simp
    refine (cmp_any a0 b0 W0).mono ?_
    rintro e Wx ⟨rfl, hw⟩
    rw [hw]
    clear hw Wx
    show K _ _
    refine hK.out _ _ ⟨HC.out.x0, HC.out.x1, HC.out.x2, HC.out.x3, HC.out.y0, HC.out.y1, HC.out.y2, HC.out.y3⟩ (fun hHeld => ?_)
    clear hK K
    try simp only [Act.put, List.setIfInBounds_toArray, List.set_cons_zero, List.set_cons_succ]
    refine stepL 14 (by kernel_rfl) rfl (fun K hK => ?_)
    go_simp
    refine (cmp_any a2 b2 W0).mono ?_
    rintro e Wx ⟨rfl, hw⟩
    rw [hw]
    clear hw Wx
    show K _ _
    refine hK.out _ _ ⟨HC.out.x0, HC.out.x1, HC.out.x2, HC.out.x3, HC.out.y0, HC.out.y1, HC.out.y2, HC.out.y3⟩ (fun hHeld => ?_)
    clear hK K
    try simp only [Act.put, List.setIfInBounds_toArray, List.set_cons_zero, List.set_cons_succ]
    refine stepL 19 (by kernel_rfl) rfl (fun K hK => ?_)
    go_simp
    refine (cmp_any a1 b1 W0).mono ?_
    rintro e Wx ⟨rfl, hw⟩
    rw [hw]
    clear hw Wx
    show K _ _
    refine hK.out _ _ ⟨HC.out.x0, HC.out.x1, HC.out.x2, HC.out.x3, HC.out.y0, HC.out.y1, HC.out.y2, HC.out.y3⟩ (fun hHeld => ?_)
    clear hK K
    try simp only [Act.put, List.setIfInBounds_toArray, List.set_cons_zero, List.set_cons_succ]
    refine stepL 20 (by kernel_rfl) rfl (fun K hK => ?_)
    go_simp
    have HR : Bx ((W0.alloc (.cells #[.int .i64 (sg a3 b3), .int .i64 (sg a0 b0), .int .i64 (sg a2 b2), .int .i64 (sg a1 b1)] 3)).heap[W0.heap.size]? = some (.cells #[.int .i64 (sg a3 b3), .int .i64 (sg a0 b0), .int .i64 (sg a2 b2), .int .i64 (sg a1 b1)] 3 (0, 0))) := Bx.mk (hnew _ _ _ rfl)
    have HC := Bx.mk (HC.out.later (below_a (.cells #[.int .i64 (sg a3 b3), .int .i64 (sg a0 b0), .int .i64 (sg a2 b2), .int .i64 (sg a1 b1)] 3)) (Nat.le_refl _))
    refine hK.out _ _ ⟨HC.out.x0, HC.out.x1, HC.out.x2, HC.out.x3, HC.out.y0, HC.out.y1, HC.out.y2, HC.out.y3⟩ (fun hHeld => ?_)
    clear hK K
    try simp only [Act.put, List.setIfInBounds_toArray, List.set_cons_zero, List.set_cons_succ]
    generalize W0.alloc (.cells #[.int .i64 (sg a3 b3), .int .i64 (sg a0 b0), .int .i64 (sg a2 b2), .int .i64 (sg a1 b1)] 3) = W1 at *
    generalize W0.heap.size = G at *
    refine stepL 21 (by kernel_rfl) rfl (fun K hK => ?_)
    go_simp
    refine (or_any _ _ _ _ G W1 HR.out).mono ?_
    rintro e Wx ⟨rfl, hw⟩
    rw [hw]
    clear hw Wx
    show K _ _
    refine hK.out _ _ ⟨HC.out.x0, HC.out.x1, HC.out.x2, HC.out.x3, HC.out.y0, HC.out.y1, HC.out.y2, HC.out.y3⟩ (fun hHeld => ?_)
    clear hK K
    try simp only [Act.put, List.setIfInBounds_toArray, List.set_cons_zero, List.set_cons_succ]
    refine takeL 22 (v := ?_) rfl (by kernel_rfl) (by kernel_rfl) (by kernel_rfl) (fun _ _ _ h => h) (Or.inl ⟨by rfl, ?_⟩) hHeld ?_
    rotate_left 1
    · (intro w hSw; go_simp; try with_reducible rfl)
    try simp only [Act.put, List.setIfInBounds_toArray, List.set_cons_zero, List.set_cons_succ]
    refine wpAnyH_done (by kernel_rfl) ?_ _
    refine NoPanic.normal ?_
    clear hHeld
    go_wp2
    go_ret
    exact ⟨rfl, HC.out.below, HC.out.dr⟩
end Go.Proofs.Ytdbdpehagkglfaa
namespace Go.Proofs.Ytdbdpehagkglfaa
open Go Go.RowKit
/-- Is one of four pairs ahead? -/
def less4 (p0 q0 p1 q1 p2 q2 p3 q3 : Int) : Bool := if p0 ≠ q0 then decide (p0 < q0) else if p1 ≠ q1 then decide (p1 < q1) else if p2 ≠ q2 then decide (p2 < q2) else if p3 ≠ q3 then decide (p3 < q3) else false
/-- Are claims ahead of others? -/
def lessC (a b : Cl) : Bool := less4 a.se b.se a.id b.id a.ex b.ex a.ro b.ro
set_option maxRecDepth 100000 in
set_option maxHeartbeats 4000000 in
theorem less_any (a b : Cl) (w : World) : Calls Try.prog 31 #[clV a, clV b] w fun e w' => e = .returned (.bool (lessC a b)) ∧ Below w.heap.size w w' := by
  obtain ⟨p1, p3, p2, p0⟩ := a
  obtain ⟨q1, q3, q2, q0⟩ := b
  unfold clV lessC
  simp only
  obtain ⟨V, hV⟩ : ∃ V, less4 p0 q0 p1 q1 p2 q2 p3 q3 = V := ⟨_, rfl⟩
  rw [hV]
  have HV := Bx.mk hV
  clear hV
  obtain ⟨B, hB⟩ : ∃ B, w.heap.size = B := ⟨_, rfl⟩
  rw [hB]
  have H0 : Bx (Below B w ((((w.alloc (.cells #[.int .i64 p1, .int .i64 p3, .int .i64 p2, .int .i64 p0] 24)).alloc (.cells #[.int .i64 q1, .int .i64 q3, .int .i64 q2, .int .i64 q0] 24)).alloc (.cells #[.int .i64 p0, .int .i64 p1, .int .i64 p2, .int .i64 p3] 98)).alloc (.cells #[.int .i64 q0, .int .i64 q1, .int .i64 q2, .int .i64 q3] 98))) := Bx.mk (by rw [← hB]; exact (((below_a _).alloc (by simp) _).alloc (by simp; omega) _).alloc (by simp; omega) _)
  have HX : Bx (((((w.alloc (.cells #[.int .i64 p1, .int .i64 p3, .int .i64 p2, .int .i64 p0] 24)).alloc (.cells #[.int .i64 q1, .int .i64 q3, .int .i64 q2, .int .i64 q0] 24)).alloc (.cells #[.int .i64 p0, .int .i64 p1, .int .i64 p2, .int .i64 p3] 98)).alloc (.cells #[.int .i64 q0, .int .i64 q1, .int .i64 q2, .int .i64 q3] 98)).heap[B + 1 + 1]? = some (.cells #[.int .i64 p0, .int .i64 p1, .int .i64 p2, .int .i64 p3] 98 (0, 0)) ∧ ((((w.alloc (.cells #[.int .i64 p1, .int .i64 p3, .int .i64 p2, .int .i64 p0] 24)).alloc (.cells #[.int .i64 q1, .int .i64 q3, .int .i64 q2, .int .i64 q0] 24)).alloc (.cells #[.int .i64 p0, .int .i64 p1, .int .i64 p2, .int .i64 p3] 98)).alloc (.cells #[.int .i64 q0, .int .i64 q1, .int .i64 q2, .int .i64 q3] 98)).heap[B + 1 + 1 + 1]? = some (.cells #[.int .i64 q0, .int .i64 q1, .int .i64 q2, .int .i64 q3] 98 (0, 0))) := Bx.mk ⟨by rw [hold _ _ _ (by simp; omega)]; exact hnew _ _ _ (by simp; omega), hnew _ _ _ (by simp; omega)⟩
  go_enter Try.func31, Try.ntmps31
  go_wp2
  generalize (((w.alloc (.cells #[.int .i64 p1, .int .i64 p3, .int .i64 p2, .int .i64 p0] 24)).alloc (.cells #[.int .i64 q1, .int .i64 q3, .int .i64 q2, .int .i64 q0] 24)).alloc (.cells #[.int .i64 p0, .int .i64 p1, .int .i64 p2, .int .i64 p3] 98)).alloc (.cells #[.int .i64 q0, .int .i64 q1, .int .i64 q2, .int .i64 q3] 98) = w0 at *
  obtain ⟨X, hX⟩ : ∃ X, B + 1 + 1 = X := ⟨_, rfl⟩
  obtain ⟨Y, hY⟩ : ∃ Y, B + 1 + 1 + 1 = Y := ⟨_, rfl⟩
  rw [hY, hX] at HX
  rw [hY, hX]
  clear hX hY
  have kx : ∀ n, (w0.drewN n).heap[X]? = some (.cells #[.int .i64 p0, .int .i64 p1, .int .i64 p2, .int .i64 p3] 98 (0, 0)) := fun n => HX.out.1
  have ky : ∀ n, (w0.drewN n).heap[Y]? = some (.cells #[.int .i64 q0, .int .i64 q1, .int .i64 q2, .int .i64 q3] 98 (0, 0)) := fun n => HX.out.2
  have x0 : w0.cell? ⟨X, 0, none⟩ = some (.int .i64 p0) := by rw [cell_of_row _ _ _ _ _ _ HX.out.1]; rfl
  have y0 : w0.cell? ⟨Y, 0, none⟩ = some (.int .i64 q0) := by rw [cell_of_row _ _ _ _ _ _ HX.out.2]; rfl
  have x1 : w0.cell? ⟨X, 1, none⟩ = some (.int .i64 p1) := by rw [cell_of_row _ _ _ _ _ _ HX.out.1]; rfl
  have y1 : w0.cell? ⟨Y, 1, none⟩ = some (.int .i64 q1) := by rw [cell_of_row _ _ _ _ _ _ HX.out.2]; rfl
  have x2 : w0.cell? ⟨X, 2, none⟩ = some (.int .i64 p2) := by rw [cell_of_row _ _ _ _ _ _ HX.out.1]; rfl
  have y2 : w0.cell? ⟨Y, 2, none⟩ = some (.int .i64 q2) := by rw [cell_of_row _ _ _ _ _ _ HX.out.2]; rfl
  have x3 : w0.cell? ⟨X, 3, none⟩ = some (.int .i64 p3) := by rw [cell_of_row _ _ _ _ _ _ HX.out.1]; rfl
  have y3 : w0.cell? ⟨Y, 3, none⟩ = some (.int .i64 q3) := by rw [cell_of_row _ _ _ _ _ _ HX.out.2]; rfl
  clear kx ky HX
  refine wp_loop_rounds 5 ?_
  rw [rounds_succ]
  by_cases h0 : ¬ p0 = q0
  · have hb0 : (p0 != q0) = true := by simp [h0]
    have HE : Bx (V = decide (p0 < q0)) := Bx.mk (by rw [← HV.out]; unfold less4; simp [h0])
    clear HV
    go_wp2
    go_region
    go_wp2
    go_region
    go_wp2
    go_ret
    exact ⟨by rw [HE.out]; rfl, H0.out.drew.drew⟩
  obtain rfl : p0 = q0 := Decidable.not_not.mp h0
  have hb0 : (p0 != p0) = false := by simp
  clear h0
  go_wp2
  go_region
  go_wp2
  rw [rounds_succ]
  by_cases h1 : ¬ p1 = q1
  · have hb1 : (p1 != q1) = true := by simp [h1]
    have HE : Bx (V = decide (p1 < q1)) := Bx.mk (by rw [← HV.out]; unfold less4; simp [h1])
    clear HV
    go_wp2
    go_region
    go_wp2
    go_region
    go_wp2
    go_ret
    exact ⟨by rw [HE.out]; rfl, H0.out.drew.drew.drew⟩
  obtain rfl : p1 = q1 := Decidable.not_not.mp h1
  have hb1 : (p1 != p1) = false := by simp
  clear h1
  go_wp2
  go_region
  go_wp2
  rw [rounds_succ]
  by_cases h2 : ¬ p2 = q2
  · have hb2 : (p2 != q2) = true := by simp [h2]
    have HE : Bx (V = decide (p2 < q2)) := Bx.mk (by rw [← HV.out]; unfold less4; simp [h2])
    clear HV
    go_wp2
    go_region
    go_wp2
    go_region
    go_wp2
    go_ret
    exact ⟨by rw [HE.out]; rfl, H0.out.drew.drew.drew.drew⟩
  obtain rfl : p2 = q2 := Decidable.not_not.mp h2
  have hb2 : (p2 != p2) = false := by simp
  clear h2
  go_wp2
  go_region
  go_wp2
  rw [rounds_succ]
  by_cases h3 : ¬ p3 = q3
  · have hb3 : (p3 != q3) = true := by simp [h3]
    have HE : Bx (V = decide (p3 < q3)) := Bx.mk (by rw [← HV.out]; unfold less4; simp [h3])
    clear HV
    go_wp2
    go_region
    go_wp2
    go_region
    go_wp2
    go_ret
    exact ⟨by rw [HE.out]; rfl, H0.out.drew.drew.drew.drew.drew⟩
  obtain rfl : p3 = q3 := Decidable.not_not.mp h3
  have hb3 : (p3 != p3) = false := by simp
  clear h3
  go_wp2
  go_region
  go_wp2
  rw [rounds_succ]
  go_wp2
  go_ret
  exact ⟨by rw [← HV.out]; unfold less4; simp, H0.out.drew.drew.drew.drew⟩
theorem cmpC_neg (a b : Cl) : decide (cmpC a b < 0) = lessC a b := by
  obtain ⟨p1, p3, p2, p0⟩ := a
  obtain ⟨q1, q3, q2, q0⟩ := b
  unfold cmpC lessC or4 less4 sg
  simp only
  rw [Bool.eq_iff_iff]
  rcases Int.lt_trichotomy p0 q0 with h0 | h0 | h0
  · simp [h0, Int.ne_of_lt h0]
  · subst h0
    rcases Int.lt_trichotomy p1 q1 with h1 | h1 | h1
    · simp [h1, Int.ne_of_lt h1]
    · subst h1
      rcases Int.lt_trichotomy p2 q2 with h2 | h2 | h2
      · simp [h2, Int.ne_of_lt h2]
      · subst h2
        rcases Int.lt_trichotomy p3 q3 with h3 | h3 | h3
        · simp [h3, Int.ne_of_lt h3]
        · subst h3
          simp
        · simp [h3, Int.ne_of_gt h3, Int.not_lt.mpr (Int.le_of_lt h3)]
      · simp [h2, Int.ne_of_gt h2, Int.not_lt.mpr (Int.le_of_lt h2)]
    · simp [h1, Int.ne_of_gt h1, Int.not_lt.mpr (Int.le_of_lt h1)]
  · simp [h0, Int.ne_of_gt h0, Int.not_lt.mpr (Int.le_of_lt h0)]
theorem lessC_iff (p0 p1 p2 p3 q0 q1 q2 q3 : Int) : lessC ⟨p1, p3, p2, p0⟩ ⟨q1, q3, q2, q0⟩ = true ↔ (p0 < q0 ∨ (p0 = q0 ∧ (p1 < q1 ∨ (p1 = q1 ∧ (p2 < q2 ∨ (p2 = q2 ∧ p3 < q3)))))) := by
  unfold lessC less4
  simp only
  by_cases a0 : p0 = q0
  · rw [if_neg (by simp [a0])]
    by_cases a1 : p1 = q1
    · rw [if_neg (by simp [a1])]
      by_cases a2 : p2 = q2
      · rw [if_neg (by simp [a2])]
        by_cases a3 : p3 = q3
        · rw [if_neg (by simp [a3])]
          simp only [Bool.false_eq_true, false_iff]
          omega
        · rw [if_pos a3, decide_eq_true_eq]
          omega
      · rw [if_pos a2, decide_eq_true_eq]
        omega
    · rw [if_pos a1, decide_eq_true_eq]
      omega
  · rw [if_pos a0, decide_eq_true_eq]
    omega
theorem less_trans (a b c : Cl) (h : lessC a b = true) (k : lessC b c = true) : lessC a c = true := by
  obtain ⟨p1, p3, p2, p0⟩ := a
  obtain ⟨q1, q3, q2, q0⟩ := b
  obtain ⟨r1, r3, r2, r0⟩ := c
  rw [lessC_iff] at *
  omega
end Go.Proofs.Ytdbdpehagkglfaa
namespace Go.Proofs.Ytdbdpehagkglfaa
open Go Go.RowKit Go.Maps Go.Sort Go.Shelf
/-- The cells of claims, one behind the other. -/
def flatC (ss : List Cl) : List Value := ss.flatMap fun c => (clC c).toList
/-- What is older stays, and the draws only grow: so new blocks and draws are all. -/
theorem grow_of {W W1 : World} (hb : Go.RowKit.Below W.heap.size W W1) (hd : W.drawn ≤ W1.drawn) : ∃ q os, W1 = grow (W.drewN q) os := by
  refine ⟨W1.drawn - W.drawn, W1.heap.extract W.heap.size W1.heap.size, ?_⟩
  obtain ⟨h, t, d, o, u⟩ := W
  obtain ⟨h1, t1, d1, o1, u1⟩ := W1
  obtain ⟨e1, e2, e3, e4, e5⟩ := hb
  simp only at e1 e2 e3 e4 e5 hd
  subst e1 e2 e3
  have eh : h1 = h ++ h1.extract h.size h1.size := by
    apply Array.ext_getElem?
    intro i
    by_cases hi : i < h.size
    · rw [Array.getElem?_append_left hi]; exact e5 i hi
    · rw [Array.getElem?_append_right (by omega), Array.getElem?_extract]
      by_cases hj : i < h1.size
      · rw [if_pos (by omega)]; congr 1; omega
      · rw [if_neg (by omega)]; exact Array.getElem?_eq_none (by omega)
  show (⟨h1, t1, d1, o1, u1⟩ : World) = ⟨h ++ h1.extract h.size h1.size, t1, d + (d1 - d), o1, u1⟩
  rw [← eh, show d + (d1 - d) = d1 by omega]
instance : Inhabited Cl := ⟨c0⟩
/-- The cells of claims. -/
def encC (c : Cl) : List Value := (clC c).toList
theorem cmp_lays (g off size : Nat) (w : World) : CmpLays Try.prog 54 #[] encC 4 cmpC g off size w := by
  intro m os dk _ x y
  refine (compare_anyD x y _).mono ?_
  rintro e w' ⟨rfl, hb, hd⟩
  exact ⟨rfl, grow_of hb hd⟩
theorem lt_less (a b : Cl) : ltOf cmpC a b = lessC a b := by unfold ltOf; exact cmpC_neg a b
theorem less_cases (a b : Cl) : lessC a b = true ∨ a = b ∨ lessC b a = true := by
  obtain ⟨a1, a3, a2, a0⟩ := a
  obtain ⟨b1, b3, b2, b0⟩ := b
  rw [lessC_iff, lessC_iff, Cl.mk.injEq]
  omega
theorem less_irr (a : Cl) : lessC a a = false := by
  cases h : lessC a a
  · rfl
  · obtain ⟨a1, a3, a2, a0⟩ := a
    rw [lessC_iff] at h
    omega
theorem less_asymm {a b : Cl} (h : lessC a b = true) : lessC b a = false := by
  cases k : lessC b a
  · rfl
  · have := less_trans a b a h k
    rw [less_irr] at this
    cases this
theorem cmp_swo : SWO (ltOf cmpC) where
  irrefl x := by rw [lt_less, less_irr]
  trans x y z h k := by rw [lt_less] at *; exact less_trans x y z h k
  ntrans x y z h k := by
    rw [lt_less] at *
    rcases less_cases x y with h1 | rfl | h1
    · rw [h1] at h; cases h
    · exact k
    · rcases less_cases y z with k1 | rfl | k1
      · rw [k1] at k; cases k
      · exact h
      · exact less_asymm (less_trans z y x k1 h1)
/-- Claims in order. -/
def sortC (ss : List Cl) : List Cl := ss.mergeSort fun x y => !(ltOf cmpC) y x
theorem sortC_perm (ss : List Cl) : (sortC ss).Perm ss := List.mergeSort_perm _ _
theorem sortC_length (ss : List Cl) : (sortC ss).length = ss.length := (sortC_perm ss).length_eq
theorem flatC_get (ss : List Cl) (j i : Nat) (hj : j < ss.length) (hi : i < 4) : (flatC ss)[j * 4 + i]? = (encC (ss.getD j c0))[i]? := by
  induction ss generalizing j with
  | nil => simp at hj
  | cons c ss ih =>
    have hl : (clC c).toList.length = 4 := by simp [clC]
    unfold flatC
    rw [List.flatMap_cons]
    cases j with
    | zero => rw [List.getElem?_append_left (by omega)]; simp [encC]
    | succ j =>
      rw [List.getElem?_append_right (by omega), hl, show (j + 1) * 4 + i - 4 = j * 4 + i by omega]
      have := ih j (by simpa using hj)
      simpa [flatC] using this
/-- A row of claims. -/
def RowC (W : World) (v : Value) (ss : List Cl) : Prop := (ss = [] ∧ v = .slice none 0 0) ∨ ∃ g cap, v = .slice (some ⟨g, 0, none⟩) ss.length cap ∧ ∀ j, j < ss.length → W.rangeAt g (j * 4) (encC (ss.getD j c0))
theorem RowC.later {W W1 : World} {v : Value} {ss : List Cl} (h : RowC W v ss) (hb : Go.RowKit.Below W.heap.size W W1) : RowC W1 v ss := by
  rcases h with h | ⟨g, cap, hv, hr⟩
  · exact .inl h
  · refine .inr ⟨g, cap, hv, fun j hj i u hu => ?_⟩
    have hc := hr j hj i u hu
    rw [show W1.cell? ⟨g, j * 4 + i, none⟩ = W.cell? ⟨g, j * 4 + i, none⟩ from hb.cell (p := ⟨g, j * 4 + i, none⟩) (World.block_lt_of_cell? _ _ hc)]
    exact hc
theorem holds_row {W : World} {base g cap : Nat} {ss : List Cl} (h : W.ownsRow base 34 4 (.slice (some ⟨g, 0, none⟩) ss.length cap) ss.length (flatC ss)) : HoldsK encC 4 W g 0 ss.toArray := by
  rcases h.2 with ⟨h1, -⟩ | ⟨g', cap', cur, hv, -, hg, hc1, hc2, hc3, hc4⟩
  · cases h1
  · injection hv with hv1 hv2 hv3
    injection hv1 with hv1
    injection hv1 with hv1
    subst hv1
    intro t ht
    rw [size_flatK] at ht
    have ht2 : t < ss.length * 4 := by simpa using ht
    have e1 : t = t / 4 * 4 + t % 4 := by omega
    have e2 := flatC_get ss (t / 4) (t % 4) (by omega) (by omega)
    rw [← e1, ← hc4, List.getElem?_take_of_lt ht2] at e2
    refine ⟨?_, frozen_of_row _ _ _ _ _ hg⟩
    rw [cell_of_row _ _ _ _ _ _ hg, Nat.zero_add, ← Array.getElem?_toList, e2, get_flatK _ _ _ _ ht]
    have e3 : ss.toArray[t / 4]! = ss.getD (t / 4) c0 := by
      have : t / 4 < ss.length := by omega
      simp [this]
    rw [e3]
    have e4 : t % 4 < (encC (ss.getD (t / 4) c0)).length := by simp [encC, clC]; omega
    rw [List.getElem?_eq_getElem e4, getElem!_pos (encC (ss.getD (t / 4) c0)) (t % 4) e4]
    rfl
theorem row_holds {W : World} {g cap n : Nat} {ss : List Cl} (h : HoldsK encC 4 W g 0 ss.toArray) (hn : n = ss.length) : RowC W (.slice (some ⟨g, 0, none⟩) n cap) ss := by
  subst hn
  refine .inr ⟨g, cap, rfl, fun j hj i u hu => ?_⟩
  have hi : i < 4 := by have := (List.getElem?_eq_some_iff.1 hu).1; simpa [encC, clC] using this
  have h1 := (h (j * 4 + i) (by rw [size_flatK]; simp; omega)).1
  rw [get_flatK _ _ _ _ (by simp; omega), show (j * 4 + i) / 4 = j by omega, show (j * 4 + i) % 4 = i by omega, Nat.zero_add] at h1
  show W.cell? ⟨g, j * 4 + i, none⟩ = some u
  rw [h1]
  have e3 : ss.toArray[j]! = ss.getD j c0 := by simp [hj]
  rw [e3]
  obtain ⟨h5, h6⟩ := List.getElem?_eq_some_iff.1 hu
  rw [getElem!_pos (encC (ss.getD j c0)) i h5, h6]
  rfl
theorem below_sortW {B : Nat} (w : World) (blk off m : Nat) (dk : Array Cl) (os : Array Obj) (h1 : B ≤ blk) (h2 : B ≤ w.heap.size) : Go.RowKit.Below B w (sortWorldK encC 4 w blk off m dk os) := by
  refine ⟨rfl, rfl, rfl, ?_, fun k hk => ?_⟩
  · exact size_sortWorldK_c encC 4 w blk off m dk os
  · show (_ ++ os)[k]? = _
    rw [Array.getElem?_append_left (by show k < (putRowK encC 4 _ blk off dk).heap.size; rw [size_putRowK]; show k < w.heap.size; omega)]
    show (w.heap.modify blk _)[k]? = _
    rw [Array.getElem?_modify, if_neg (by omega)]
theorem sortC_of_perm {a b : List Cl} (h : a.Perm b) : sortC a = sortC b := by
  have tr : ∀ x y z : Cl, (!(Go.Proofs.ltOf cmpC) y x) = true → (!(Go.Proofs.ltOf cmpC) z y) = true → (!(Go.Proofs.ltOf cmpC) z x) = true := fun x y z h1 h2 => by
    simp only [Bool.not_eq_true'] at *
    exact cmp_swo.ntrans z y x h2 h1
  have to : ∀ x y : Cl, ((!(Go.Proofs.ltOf cmpC) y x) || (!(Go.Proofs.ltOf cmpC) x y)) = true := fun x y => by
    rw [lt_less, lt_less]
    cases h : lessC y x
    · rfl
    · rw [less_asymm h]; rfl
  refine List.Perm.eq_of_pairwise (le := fun x y => (!(Go.Proofs.ltOf cmpC) y x) = true) (fun x y _ _ h1 h2 => ?_) (List.pairwise_mergeSort tr to a) (List.pairwise_mergeSort tr to b) (((sortC_perm a).trans h).trans (sortC_perm b).symm)
  rw [lt_less, Bool.not_eq_true'] at h1 h2
  rcases less_cases x y with k | k | k
  · rw [k] at h2; cases h2
  · exact k
  · rw [k] at h1; cases h1
end Go.Proofs.Ytdbdpehagkglfaa
