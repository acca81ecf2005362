/-
  Maps whose keys are claims and whose elements are pointers.
-/
import Derived.Test.YtnefpjdjnjcmbaaGreatDoorCu
import Derived.Maps.Keyed
import Derived.Maps.RangeWalk
import Derived.Maps.OwnSet
import Derived.Shelf.SlIter.Collect
namespace Go.Proofs.YtnefpjdjnjcmbaaGreatDoor
open Go Go.RowKit
theorem clLaw : Go.WideMaps.KeyLaw Tryz.prog 26 := deep_law_laid laidOut (m := 2) (by omega) (of_decide_eq_true (by kernel_rfl)) (by kernel_rfl) (by kernel_rfl)
theorem clKeyed : Go.Maps.Keyed Tryz.prog 26 := Go.Maps.Keyed.of_law clLaw
/-- Claims whose numbers an int holds. -/
def Cl64 (c : Cl) : Prop := in64 c.id ∧ in64 c.ro ∧ in64 c.ex ∧ in64 c.se
theorem wf_in (n : Int) (h : in64 n) : (Lit.int .i64 n).wf = true := by
  unfold in64 at h
  simp [Lit.wf, IntKind.min, IntKind.max, IntKind.signed, IntKind.bits]
  omega
theorem keyLits_int (d : Nat) (n : Int) (h : in64 n) : Tryz.prog.keyLits (d + 1) 3 [.int .i64 n] = some [.int .i64 n] := by
  unfold Program.keyLits
  rw [Tryz.underlying3]
  simp [wf_in n h]
set_option maxRecDepth 100000 in
theorem key_cl (c : Cl) (h : Cl64 c) : ∃ kl, keyOf Tryz.prog 26 (clV c) = some kl := by
  obtain ⟨i, r, x, q⟩ := c
  obtain ⟨h1, h2, h3, h4⟩ := h
  unfold keyOf clV
  rw [Tryz.underlying26]
  simp only
  rw [if_pos (by kernel_rfl)]
  obtain ⟨d, hd⟩ : ∃ d, Tryz.prog.types.size + 1 = d + 1 + 1 := ⟨Tryz.prog.types.size - 1, by
    have h1 : 1 ≤ Tryz.prog.types.size := of_decide_eq_true (by kernel_rfl)
    omega⟩
  rw [hd]
  conv => enter [1, kl]; unfold Program.keyLits; rw [Tryz.underlying26]
  simp only
  rw [if_pos (by constructor <;> kernel_rfl)]
  have e3 : Tryz.prog.cellsOf 3 = 1 := by kernel_rfl
  have ec : (Value.agg #[Value.int IntKind.i64 i, Value.int IntKind.i64 r, Value.int IntKind.i64 x, Value.int IntKind.i64 q]).cells.toList = [Value.int IntKind.i64 i, Value.int IntKind.i64 r, Value.int IntKind.i64 x, Value.int IntKind.i64 q] := by simp [Value.cells]
  simp [ec, e3, keyLits_int d _ h1, keyLits_int d _ h2, keyLits_int d _ h3, keyLits_int d _ h4]
/-- A pointer to a block. -/
def ptr (p : Nat) : Value := .pointer (some ⟨p, 0, none⟩)
instance : DecidableEq Cl := fun a b => decidable_of_iff (a.id = b.id ∧ a.ro = b.ro ∧ a.ex = b.ex ∧ a.se = b.se) (by
  cases a; cases b; simp)
theorem clV_inj {c d : Cl} (h : clV c = clV d) : c = d := by
  obtain ⟨i, r, x, q⟩ := c
  obtain ⟨i', r', x', q'⟩ := d
  simpa [clV] using h
/-- A map of claims, as the list of its entries. -/
structure MapL (W : World) (M : Nat) (l : List (Cl × Nat)) : Prop where
  st : ∃ es clock, W.heap[M]? = some (.map es clock) ∧ Go.MapKept.Stamped es clock ∧ es.toList.map (fun e => (e.key, e.val)) = l.map fun x => (clV x.1, ptr x.2)
  wf : ∀ x ∈ l, Cl64 x.1
  nd : l.Pairwise (fun x y => x.1 ≠ y.1)
/-- Where the key of claims lies. -/
def atC (l : List (Cl × Nat)) (c : Cl) : Option Nat := (l.find? fun x => decide (x.1 = c)).map (·.2)
theorem map_keys {es : List MapEntry} {l : List (Cl × Nat)} (h : es.map (fun e => (e.key, e.val)) = l.map fun x => (clV x.1, ptr x.2)) (wf : ∀ x ∈ l, Cl64 x.1) : ∀ e ∈ es, ∃ kl, keyOf Tryz.prog 26 e.key = some kl := by
  intro e he
  have h1 : (e.key, e.val) ∈ l.map fun x => (clV x.1, ptr x.2) := by rw [← h]; exact List.mem_map.2 ⟨e, he, rfl⟩
  obtain ⟨x, hx, h2⟩ := List.mem_map.1 h1
  injection h2 with h3 h4
  rw [← h3]
  exact key_cl _ (wf x hx)
theorem map_at {es : List MapEntry} {l : List (Cl × Nat)} (h : es.map (fun e => (e.key, e.val)) = l.map fun x => (clV x.1, ptr x.2)) {j : Nat} {e : MapEntry} (hj : es[j]? = some e) : ∃ x, l[j]? = some x ∧ e.key = clV x.1 ∧ e.val = ptr x.2 := by
  have h1 : (es.map fun e => (e.key, e.val))[j]? = some (e.key, e.val) := by rw [List.getElem?_map, hj]; rfl
  rw [h, List.getElem?_map] at h1
  cases hx : l[j]? with
  | none => rw [hx] at h1; cases h1
  | some x =>
    rw [hx] at h1
    injection h1 with h1
    injection h1 with h2 h3
    exact ⟨x, rfl, h2.symm, h3.symm⟩
theorem find_none_of {es : List MapEntry} {l : List (Cl × Nat)} (h : es.map (fun e => (e.key, e.val)) = l.map fun x => (clV x.1, ptr x.2)) {c : Cl} (hn : ∀ e ∈ es, e.key ≠ clV c) : ∀ x ∈ l, x.1 ≠ c := by
  rintro x hx rfl
  have h1 : (clV x.1, ptr x.2) ∈ es.map fun e => (e.key, e.val) := by rw [h]; exact List.mem_map.2 ⟨x, hx, rfl⟩
  obtain ⟨e, he, h2⟩ := List.mem_map.1 h1
  injection h2 with h3 h4
  exact hn e he h3
theorem atC_none {l : List (Cl × Nat)} {c : Cl} (h : ∀ x ∈ l, x.1 ≠ c) : atC l c = none := by
  unfold atC
  rw [List.find?_eq_none.2 (fun x hx => by simpa using h x hx)]
  rfl
theorem atC_some {l : List (Cl × Nat)} (nd : l.Pairwise (fun x y => x.1 ≠ y.1)) {x : Cl × Nat} (hx : x ∈ l) : atC l x.1 = some x.2 := by
  induction l with
  | nil => cases hx
  | cons y l ih =>
    obtain ⟨h1, h2⟩ := List.pairwise_cons.1 nd
    unfold atC
    rw [List.find?_cons]
    rcases List.mem_cons.1 hx with rfl | hx
    · simp
    · rw [show decide (y.1 = x.1) = false from decide_eq_false (h1 x hx)]
      exact ih h2 hx
/-- What a look-up hands back. -/
def lookV (o : Option Nat) : Value := match o with | some p => .tuple #[ptr p, .bool true] | none => .tuple #[.pointer none, .bool false]
theorem zero_kp (W : World) : (zeroValue 45).run Tryz.prog W = .ok (.pointer none) W := by kernel_rfl
theorem look_nil (c : Cl) (h : Cl64 c) (W : World) : (Instr.lookup 70 (.map none) (clV c) true).run Tryz.prog W = .ok (lookV none) W := by
  obtain ⟨kl, hk⟩ := key_cl c h
  rcases clKeyed.find W hk [] (fun e he => by cases he) with ⟨h1, _⟩ | ⟨j, e, _, h2, _⟩
  · simp [Instr.lookup, run_underlying Tryz.underlying70, clKeyed.check W _ hk, h1, zero_kp, Result.andThen, lookV]
  · simp at h2
theorem MapL.look {W : World} {M : Nat} {l : List (Cl × Nat)} (m : MapL W M l) (c : Cl) (h : Cl64 c) : (Instr.lookup 70 (.map (some M)) (clV c) true).run Tryz.prog W = .ok (lookV (atC l c)) W := by
  obtain ⟨es, clock, hb, hs, he⟩ := m.st
  obtain ⟨kl, hk⟩ := key_cl c h
  rcases clKeyed.find W hk es.toList (map_keys he m.wf) with ⟨h1, h2⟩ | ⟨j, e, h1, h2, h3⟩
  · rw [atC_none (find_none_of he h2)]
    simp [Instr.lookup, run_underlying Tryz.underlying70, MapKept.run_getObj_map hb, clKeyed.check W _ hk, h1, zero_kp, Result.andThen, lookV]
  · obtain ⟨x, hx, h4, h5⟩ := map_at he h2
    obtain rfl : x.1 = c := clV_inj (h4.symm.trans h3)
    rw [atC_some m.nd (List.mem_of_getElem? hx)]
    simp [Instr.lookup, run_underlying Tryz.underlying70, MapKept.run_getObj_map hb, clKeyed.check W _ hk, h1, h5, Result.andThen, lookV]
theorem MapL.later {W W1 : World} {M : Nat} {l : List (Cl × Nat)} (m : MapL W M l) (h : W1.heap[M]? = W.heap[M]?) : MapL W1 M l := ⟨by rw [h]; exact m.st, m.wf, m.nd⟩
theorem mapL_made (W : World) : MapL (W.alloc (.map #[] 0)) W.heap.size [] := ⟨⟨#[], 0, hnew _ _ _ rfl, Go.MapKept.stamped_empty 0, rfl⟩, (fun x hx => by cases hx), List.Pairwise.nil⟩
/-- The map's block turned. -/
theorem setB_grown {W : World} {M : Nat} {es : Array MapEntry} {clock : Nat} (hb : W.heap[M]? = some (.map es clock)) (o : Obj) : W.grownBy (Go.ChangeMaps.setBlock W M o) (some M) := ⟨rfl, rfl, rfl, by simp [Go.ChangeMaps.setBlock], fun i _ hi => ChangeMaps.heap_setBlock_other hb _ (fun e => hi (by rw [e]))⟩
theorem MapL.put {W : World} {M : Nat} {l : List (Cl × Nat)} (m : MapL W M l) (c : Cl) (p : Nat) (h : Cl64 c) (hn : ∀ x ∈ l, x.1 ≠ c) :
    ∃ W1, (Instr.mapUpdate 70 (.map (some M)) (clV c) (ptr p)).run Tryz.prog W = .ok () W1 ∧ MapL W1 M (l ++ [(c, p)]) ∧ W.grownBy W1 (some M) := by
  obtain ⟨es, clock, hb, hs, he⟩ := m.st
  obtain ⟨kl, hk⟩ := key_cl c h
  have hne : ∀ e ∈ es.toList, e.key ≠ clV c := by
    intro e hm hc
    obtain ⟨j, hj⟩ := List.mem_iff_getElem?.1 hm
    obtain ⟨x, hx, h4, -⟩ := map_at he hj
    exact hn x (List.mem_of_getElem? hx) (clV_inj (h4.symm.trans hc))
  rcases clKeyed.find W hk es.toList (map_keys he m.wf) with ⟨h1, h2⟩ | ⟨j, e, h1, h2, h3⟩
  · refine ⟨Go.ChangeMaps.setBlock W M (.map (es.push ⟨clV c, ptr p, clock⟩) (clock + 1)), ?_, ⟨⟨_, _, ChangeMaps.heap_setBlock_same hb _, Go.MapKept.stamped_push hs hne, ?_⟩, ?_, ?_⟩, setB_grown hb _⟩
    · simp [Instr.mapUpdate, run_underlying Tryz.underlying70, MapKept.run_getObj_map hb, clKeyed.check W false hk, h1, MapKept.run_setObj_map _ hb, Result.andThen, Go.ChangeMaps.setBlock]
    · simp [he]
    · intro x hx
      rcases List.mem_append.1 hx with hx | hx
      · exact m.wf x hx
      · obtain rfl : x = (c, p) := by simpa using hx
        exact h
    · rw [List.pairwise_append]
      exact ⟨m.nd, List.pairwise_singleton _ _, fun x hx y hy => by obtain rfl : y = (c, p) := by simpa using hy
                                                                    exact hn x hx⟩
  · exact absurd h3 (hne e (List.mem_of_getElem? h2))
theorem pairwise_erase {l : List (Cl × Nat)} (nd : l.Pairwise (fun x y => x.1 ≠ y.1)) {j : Nat} {x : Cl × Nat} (hx : l[j]? = some x) : l.eraseIdx j = l.filter fun y => decide (y.1 ≠ x.1) := by
  induction l generalizing j with
  | nil => rfl
  | cons y l ih =>
    obtain ⟨h1, h2⟩ := List.pairwise_cons.1 nd
    cases j with
    | zero =>
      obtain rfl : y = x := by simpa using hx
      rw [List.eraseIdx_cons_zero, List.filter_cons_of_neg (by simp)]
      exact (List.filter_eq_self.2 fun z hz => by simpa using (h1 z hz).symm).symm
    | succ j =>
      have hx' : l[j]? = some x := by simpa using hx
      rw [List.eraseIdx_cons_succ, List.filter_cons_of_pos (by simpa using h1 x (List.mem_of_getElem? hx')), ih h2 hx']
theorem MapL.drop {W : World} {M : Nat} {l : List (Cl × Nat)} (m : MapL W M l) (c : Cl) (h : Cl64 c) (ty : TypeId) :
    ∃ W1, (Builtin.delete_ #[70, 26] ty #[.map (some M), clV c]).run Tryz.prog W = .ok (.tuple #[]) W1 ∧ MapL W1 M (l.filter fun y => decide (y.1 ≠ c)) ∧ W.grownBy W1 (some M) := by
  obtain ⟨es, clock, hb, hs, he⟩ := m.st
  obtain ⟨kl, hk⟩ := key_cl c h
  rcases clKeyed.find W hk es.toList (map_keys he m.wf) with ⟨h1, h2⟩ | ⟨j, e, h1, h2, h3⟩
  · have hl : (l.filter fun y => decide (y.1 ≠ c)) = l := List.filter_eq_self.2 fun z hz => by simpa using find_none_of he h2 z hz
    refine ⟨Go.ChangeMaps.setBlock W M (.map es clock), ?_, ⟨⟨es, clock, ChangeMaps.heap_setBlock_same hb _, hs, by rw [hl]; exact he⟩, by rw [hl]; exact m.wf, by rw [hl]; exact m.nd⟩, setB_grown hb _⟩
    simp [Builtin.delete_, run_underlying Tryz.underlying70, MapKept.run_getObj_map hb, clKeyed.check W _ hk, h1, MapKept.run_setObj_map _ hb, Result.andThen, Go.ChangeMaps.setBlock]
  · have hjl : j < es.toList.length := (List.getElem?_eq_some_iff.1 h2).1
    have hjs : j < es.size := by simpa using hjl
    have hsub : (es.eraseIdxIfInBounds j).toList = es.toList.eraseIdx j := by
      unfold Array.eraseIdxIfInBounds
      rw [dif_pos hjs]
      simp
    obtain ⟨x, hx, h4, h5⟩ := map_at he h2
    obtain rfl : x.1 = c := clV_inj (h4.symm.trans h3)
    have hl := pairwise_erase m.nd hx
    refine ⟨Go.ChangeMaps.setBlock W M (.map (es.eraseIdxIfInBounds j) clock), ?_, ⟨⟨_, clock, ChangeMaps.heap_setBlock_same hb _, Go.MapKept.stamped_erase hs j, ?_⟩, fun y hy => m.wf y (List.mem_filter.1 hy).1, m.nd.filter _⟩, setB_grown hb _⟩
    · simp [Builtin.delete_, run_underlying Tryz.underlying70, MapKept.run_getObj_map hb, clKeyed.check W _ hk, h1, MapKept.run_setObj_map _ hb, Result.andThen, Go.ChangeMaps.setBlock]
    · rw [hsub, ← hl]
      have e1 := congrArg (fun z => z.eraseIdx j) he
      rw [← ChangeMaps.map_eraseIdx, ← ChangeMaps.map_eraseIdx] at e1
      exact e1
theorem MapL.len {W : World} {M : Nat} {l : List (Cl × Nat)} (m : MapL W M l) (ty : TypeId) : (Builtin.len_ #[70] ty #[.map (some M)]).run Tryz.prog W = .ok (.int .i64 (l.length : Int)) W := by
  obtain ⟨es, clock, hb, hs, he⟩ := m.st
  have hl : es.size = l.length := by have := congrArg List.length he; simpa using this
  simp [Builtin.len_, run_underlying Tryz.underlying70, MapKept.run_getObj_map hb, Result.andThen, hl]
  rfl
theorem len_nilmap (ty : TypeId) (W : World) : (Builtin.len_ #[70] ty #[.map none]).run Tryz.prog W = .ok (.int .i64 0) W := by kernel_rfl
end Go.Proofs.YtnefpjdjnjcmbaaGreatDoor
namespace Go.Proofs.YtnefpjdjnjcmbaaGreatDoor
open Go Go.RowKit Go.Maps Go.Sort Go.Shelf
/-- How elements read: in one way. -/
def RP : Value → Option (DataW Unit × List MemPlace) := fun _ => some (.lit (.bool true), [])
/-- Which keys a map's datum has. -/
def KeysD (D : DataW Unit) (l : List (Cl × Nat)) : Prop := (∀ x ∈ l, ∀ kl, keyOf Tryz.prog 26 (clV x.1) = some kl → Maps.has D kl = true) ∧ ∀ kl, Maps.has D kl = true → ∃ x ∈ l, keyOf Tryz.prog 26 (clV x.1) = some kl
set_option maxRecDepth 100000 in
theorem MapL.owns {W : World} {M : Nat} {l : List (Cl × Nat)} (m : MapL W M l) (hl : l.length ≤ 1000) : ∃ D : DataW Unit, W.ownsMap Tryz.prog 26 RP M l.length D ∧ KeysD D l ∧ Maps.size D = l.length := by
  obtain ⟨es, clock, hb, hs, he⟩ := m.st
  have hsz : es.size = l.length := by have := congrArg List.length he; simpa using this
  have hrd : ∀ x ∈ es.toList, ∃ y, Go.WideElems.rd Tryz.prog 26 RP x = some y := fun x hx => by
    obtain ⟨kl, hk⟩ := map_keys he m.wf x hx
    exact ⟨_, Go.WideElems.rd_mk (key := x.key) (val := x.val) hk rfl⟩
  have F : Go.WideElems.Fit Tryz.prog 26 RP es clock := ⟨by rw [hsz]; unfold maxLen; omega, hs, hrd⟩
  refine ⟨_, ⟨es, clock, hb, F, by omega, rfl⟩, ⟨?_, ?_⟩, ?_⟩
  · intro x hx kl hk
    have h1 : (clV x.1, ptr x.2) ∈ es.toList.map fun e => (e.key, e.val) := by rw [he]; exact List.mem_map.2 ⟨x, hx, rfl⟩
    obtain ⟨e, hm, h2⟩ := List.mem_map.1 h1
    injection h2 with h3 h4
    obtain ⟨y, hy⟩ := hrd e hm
    have hk2 := Go.WideElems.rd_key hy
    rw [h3, hk] at hk2
    refine List.any_eq_true.2 ⟨Go.WideElems.rg Tryz.prog 26 RP e, mem_sorted.2 (List.mem_map.2 ⟨e, hm, rfl⟩), ?_⟩
    rw [Go.WideElems.rg_of hy, ← Option.some.inj hk2]
    exact WideAt.sameKey_self (clKeyed.key hk)
  · intro kl hh
    obtain ⟨p, hp, hpk⟩ := List.any_eq_true.1 hh
    obtain ⟨e, hm, rfl⟩ := List.mem_map.1 (mem_sorted.1 hp)
    obtain ⟨y, hy⟩ := hrd e hm
    have hk2 := Go.WideElems.rd_key hy
    rw [Go.WideElems.rg_of hy] at hpk
    have h5 := WideAt.sameKey_eq hpk
    obtain ⟨j, hj⟩ := List.mem_iff_getElem?.1 hm
    obtain ⟨x, hx, h6, -⟩ := map_at he hj
    exact ⟨x, List.mem_of_getElem? hx, by rw [← h6, hk2, h5]⟩
  · simp [Maps.size, length_sorted, hsz]
/-- What has come so far, and what is left. -/
structure Coll (l : List (Cl × Nat)) (left : Lit → Bool) (ss : List Cl) : Prop where
  nd : ss.Nodup
  sub : ∀ c ∈ ss, ∃ x ∈ l, x.1 = c
  lft : ∀ x ∈ l, ∀ kl, keyOf Tryz.prog 26 (clV x.1) = some kl → x.1 ∉ ss → left kl = true
  key : ∀ kl, left kl = true → ∃ x ∈ l, keyOf Tryz.prog 26 (clV x.1) = some kl ∧ x.1 ∉ ss
theorem Coll.start {l : List (Cl × Nat)} {D : DataW Unit} (h : KeysD D l) : Coll l (Maps.has D) [] :=
  ⟨List.nodup_nil, (fun c hc => by cases hc), (fun x hx kl hk _ => h.1 x hx kl hk), (fun kl hk => by
    obtain ⟨x, hx, h2⟩ := h.2 kl hk
    exact ⟨x, hx, h2, List.not_mem_nil⟩)⟩
theorem Coll.step {l : List (Cl × Nat)} {left : Lit → Bool} {ss : List Cl} (h : Coll l left ss) {v : Value} {kl : Lit} (hk : keyOf Tryz.prog 26 v = some kl) (hl : left kl = true) :
    ∃ c, v = clV c ∧ Coll l (fun z => left z && !z.sameKey kl) (ss ++ [c]) := by
  obtain ⟨x, hx, h2, h3⟩ := h.key kl hl
  refine ⟨x.1, clKeyed.inj hk h2, ⟨?_, ?_, ?_, ?_⟩⟩
  · rw [List.nodup_append]
    exact ⟨h.nd, by simp, fun a ha b hb e => by
      obtain rfl : b = x.1 := by simpa using hb
      exact h3 (e ▸ ha)⟩
  · intro c hc
    rcases List.mem_append.1 hc with hc | hc
    · exact h.sub c hc
    · obtain rfl : c = x.1 := by simpa using hc
      exact ⟨x, hx, rfl⟩
  · intro y hy ky hky hn
    have hn1 : y.1 ∉ ss := fun e => hn (List.mem_append.2 (.inl e))
    have hn2 : y.1 ≠ x.1 := fun e => hn (List.mem_append.2 (.inr (by simp [e])))
    have hs : ky.sameKey kl = false := by
      cases hs : ky.sameKey kl
      · rfl
      · have e1 := WideAt.sameKey_eq hs
        exact absurd (clV_inj (clKeyed.inj hky (e1 ▸ h2))) hn2
    rw [h.lft y hy ky hky hn1, hs]
    rfl
  · intro z hz
    rw [Bool.and_eq_true] at hz
    obtain ⟨y, hy, hky, hn⟩ := h.key z hz.1
    refine ⟨y, hy, hky, fun hm => ?_⟩
    rcases List.mem_append.1 hm with hm | hm
    · exact hn hm
    · have e1 : y.1 = x.1 := by simpa using hm
      rw [e1, h2] at hky
      have e2 := Option.some.inj hky
      rw [← e2, WideAt.sameKey_self (clKeyed.key h2)] at hz
      simp at hz
theorem Coll.perm {l : List (Cl × Nat)} {left : Lit → Bool} {ss : List Cl} (h : Coll l left ss) (wf : ∀ x ∈ l, Cl64 x.1) (nd : l.Pairwise (fun x y => x.1 ≠ y.1)) (h0 : ∀ kl, left kl = false) : ss.Perm (l.map (·.1)) := by
  refine (List.perm_ext_iff_of_nodup h.nd ?_).2 fun c => ⟨fun hc => ?_, fun hc => ?_⟩
  · exact List.pairwise_map.2 nd
  · obtain ⟨x, hx, rfl⟩ := h.sub c hc
    exact List.mem_map.2 ⟨x, hx, rfl⟩
  · obtain ⟨x, hx, rfl⟩ := List.mem_map.1 hc
    obtain ⟨kl, hk⟩ := key_cl x.1 (wf x hx)
    cases Classical.em (x.1 ∈ ss) with
    | inl hm => exact hm
    | inr hm =>
      have := h.lft x hx kl hk hm
      rw [h0 kl] at this
      cases this
set_option maxRecDepth 100000 in
set_option maxHeartbeats 1000000 in
theorem keys1_in (F : Fence) (n : Nat) (h10 : F.fn 50) (hro : F.round = none) (hn : 1 ≤ n) (l Bm M : Nat) (L : List (Cl × Nat)) (J : List Cl → World → Prop)
    (hY : ∀ pre x W, J pre W → pre.length < L.length → YieldAt F (n - 1) Tryz.prog l #[clV x] W fun e W' => e = .returned (.bool true) ∧ J (pre ++ [x]) W' ∧ KeepsWalks W W')
    (W : World) (hJ : AbidesFrom W.heap.size J) (hm : W.cell? ⟨Bm, 0, none⟩ = some (.map (some M))) (m : MapL W M L) (hL : L.length ≤ 1000) (h0 : J [] W) :
    CallsIn F n Tryz.prog 50 #[.func (.yield l) #[] #[], .pointer (some ⟨Bm, 0, none⟩)] W fun e W' => (∃ v, e = .returned v) ∧ ∃ ss : List Cl, ss.Perm (L.map (·.1)) ∧ J ss W' := by
  obtain ⟨D0, hown, hkd, hsz⟩ := m.owns hL
  have HM := Bx.mk m
  have HKD := Bx.mk hkd
  have HSZ := Bx.mk hsz
  obtain ⟨nn, hnn⟩ : ∃ nn, L.length = nn := ⟨_, rfl⟩
  rw [hnn] at hown hY HSZ
  have HN := Bx.mk hnn
  clear hkd hsz m hnn
  refine callsIn_of_wp Tryz.func50 rfl h10 ?_ hro
  simp only [Tryz.ntmps50, List.size_toArray, List.length_cons, List.length_nil, Nat.reduceAdd, Nat.reduceSub, Array.replicate_succ, Array.replicate_zero, List.push_toArray, List.append_toArray, List.nil_append, List.cons_append]
  gi_wp2_with (first
    | (gi_at_range; refine wpListIn_range_own _ rfl _ 70 rfl 26 45 clKeyed Tryz.underlying70 _ M nn _ rfl hown ?_; intro w0 hrg0 hg0 hs0)
    | gi_in)
  go_frame
  gi_loopw [3] (fun _ wr => ∃ (left : Lit → Bool) (cnt : Nat) (ss : List Cl), wr.ranges Tryz.prog 26 RP M W.heap.size nn D0 left cnt ∧ ss.length + cnt ≤ nn ∧ Bx (Coll L left ss) ∧ J ss wr)
    (fun _ wr => wr.rangeLeft M W.heap.size)
  case atStart =>
    exact ⟨_, _, [], hrg0, by rw [HSZ.out]; simp, Bx.mk (Coll.start HKD.out), hJ [] W w0 none h0 hg0 (fun r e => by cases e)⟩
  case round =>
    obtain ⟨left, cnt, ss, hrg, hcs, hC, hJs⟩ := hrel
    gi_wp2_with (first
      | (gi_at_next; refine wpListIn_next_ranges (α := Value) (β := Value) _ rfl _ rfl 26 clKeyed RP id id (fun key kl hk => ⟨key, rfl⟩) (fun v _ _ => ⟨v, rfl⟩) M W.heap.size nn _ _ _ rfl hrg ?_ ?_)
      | gi_in)
    · intro hc0 hl0
      gi_wp2
      go_end0
      exact ⟨⟨_, rfl⟩, ss, hC.out.perm HM.out.wf HM.out.nd hl0, hJs⟩
    · intro x c kl yd yp w2 cnt2 hkey hlk hv hat hrg2 hlt hg2 hs2 hen
      obtain ⟨cc, hcc, hC2⟩ := hC.out.step hkey hlk
      have HC2 := Bx.mk hC2
      obtain rfl : x = clV cc := hcc
      obtain ⟨i, r, xx, q⟩ := cc
      have hJ2 : J ss w2 := hJ ss wr w2 (some W.heap.size) hJs hg2 (fun r e => by cases e; exact ⟨Nat.le_refl _, hrg.iter_walk⟩)
      have hJ3 : J ss (w2.alloc (.cells #[.int .i64 i, .int .i64 r, .int .i64 xx, .int .i64 q] 26)) := hJ ss w2 _ none hJ2 (World.grownBy_alloc w2 _ none) (fun r e => by cases e)
      have hrg3 := hrg2.alloc (.cells #[.int .i64 i, .int .i64 r, .int .i64 xx, .int .i64 q] 26)
      obtain ⟨fn, tmps, assign, body, hy, hR⟩ := hY ss ⟨i, r, xx, q⟩ _ hJ3 (by omega)
      unfold clV at *
      simp only at hy hen hR ⊢
      have HC3 : Bx (Coll L (fun z => left z && !z.sameKey kl) (ss ++ [⟨i, r, xx, q⟩])) := HC2
      clear hs2 HC2 hC2 hkey hlk hv hat
      gi_wp2
      refine hR.mono ?_
      rintro e W3 ⟨rfl, hJ4, hk4⟩
      gi_wp2
      have hrg4 := hrg3.of_walks hk4
      go_roundw
      case rel => exact ⟨_, cnt2, ss ++ [⟨i, r, xx, q⟩], hrg4, by simp; omega, HC3, hJ4⟩
      case measure => rw [hrg4.left_eq, hrg.left_eq]; exact hlt
set_option maxRecDepth 100000 in
theorem keys0_in (F : Fence) (n : Nat) (h7 : F.fn 38) (hro : F.round = none) (mb : Option Nat) (w : World) :
    CallsIn F n Tryz.prog 38 #[.map mb] w fun e w' => e = .returned (.func (.func 50) #[] #[.pointer (some ⟨w.heap.size, 0, none⟩)]) ∧ w' = w.alloc (.cells #[.map mb] 70) := by
  refine callsIn_of_wp Tryz.func38 rfl h7 ?_ hro
  simp only [Tryz.ntmps38, List.size_toArray, List.length_cons, List.length_nil, Nat.reduceAdd, Nat.reduceSub, Array.replicate_succ, Array.replicate_zero, List.push_toArray, List.append_toArray, List.nil_append, List.cons_append]
  gi_wp2
  go_ret
  exact ⟨rfl, rfl⟩
theorem keys_gives (F : Fence) (n : Nat) (h10 : F.fn 50) (hro : F.round = none) (hn : 1 ≤ n) (Bm M : Nat) (L : List (Cl × Nat)) (w : World) (hBm : Bm < w.heap.size) (hm : w.cell? ⟨Bm, 0, none⟩ = some (.map (some M))) (m : MapL w M L) (hL : L.length ≤ 1000) :
    SeqGives F n Tryz.prog 50 #[.pointer (some ⟨Bm, 0, none⟩)] clV (fun ss => ss.Perm (L.map (·.1))) L.length w := fun l J W hW hJ hY h0 => by
  have hM : M < w.heap.size := by obtain ⟨es, clock, hb, -, -⟩ := m.st; exact (Array.getElem?_eq_some_iff.1 hb).1
  exact keys1_in F n h10 hro hn l Bm M L J hY W hJ ((hW.cell (p := ⟨Bm, 0, none⟩) hBm).trans hm) (m.later (hW.block M hM)) hL h0
/-- The cells of claims, one behind the other. -/
def flatC (ss : List Cl) : List Value := ss.flatMap fun c => (clC c).toList
theorem flatC_snoc (ss : List Cl) (c : Cl) : flatC (ss ++ [c]) = flatC ss ++ (clC c).toList := by simp [flatC]
def apAssign : Code := Code.region 2 #[{ dst := some 5, op := Op.alloc 26, type := 0, pos := "iter.go:51", after := #[], guard := none }, { dst := none, op := Op.store 26 (Operand.tmp 5) (Operand.tmp 7), type := 0, pos := "iter.go:51", after := #[{ on := 0, ground := Ground.data }, { on := 0, ground := Ground.phase }], guard := none }] false
def apBody : Code := Code.block 1 (Code.region 3 #[{ dst := some 8, op := Op.load 59 (Operand.tmp 2), type := 59, pos := "iter.go:52", after := #[], guard := none }, { dst := some 9, op := Op.load 26 (Operand.tmp 5), type := 26, pos := "iter.go:52", after := #[], guard := none }, { dst := some 10, op := Op.buildSlice 59 1 #[(0, Operand.tmp 9)], type := 59, pos := "iter.go:52", after := #[{ on := 1, ground := Ground.data }], guard := none }, { dst := some 11, op := Op.call { callee := Callee.builtin Builtin.append, args := #[Operand.tmp 8, Operand.tmp 10], argTypes := #[59, 59] }, type := 59, pos := "iter.go:52", after := #[{ on := 0, ground := Ground.data }, { on := 2, ground := Ground.data }], guard := none }, { dst := none, op := Op.store 59 (Operand.tmp 2) (Operand.tmp 11), type := 0, pos := "iter.go:52", after := #[{ on := 3, ground := Ground.data }, { on := 3, ground := Ground.chain }, { on := 0, ground := Ground.phase }, { on := 1, ground := Ground.phase }, { on := 2, ground := Ground.phase }, { on := 3, ground := Ground.phase }], guard := none }] false)
/-- The loop's record. -/
def apRec (fn : FuncId) (sv : Value) (Bs D : Nat) (st : LoopState) (pend : Option Code) : Loop :=
  { state := st, pending := pend, fn, tmps := #[.slice none 0 0, sv, .pointer (some ⟨Bs, 0, none⟩), undef, .slice none 0 0, undef, sv, undef, undef, undef, undef, undef, undef], params := #[7], assign := apAssign, body := apBody, defers := D }
/-- Between two rounds. -/
structure ApAt (w0 : World) (fn : FuncId) (sv : Value) (Bs l D : Nat) (ss : List Cl) (W : World) : Prop where
  box : ∃ v, W.heap[Bs]? = some (.cells #[v] 59 (0, 0)) ∧ W.ownsRow w0.heap.size 26 4 v ss.length (flatC ss) ∧ (v = .slice none 0 0 ↔ ss = [])
  L : W.heap[l]? = some (.loop (apRec fn sv Bs D .ready none))
  K : W.heap[D]? = some (.deferred (some []))
  below : Below w0.heap.size w0 W
theorem ap_abides (w0 : World) (fn : FuncId) (sv : Value) (Bs l D B : Nat) (hB : w0.heap.size ≤ B) : AbidesFrom B (ApAt w0 fn sv Bs l D) := fun s W W' row h hg hrow => by
  have hrow' : ∀ r, row = some r → ∃ o : Obj, W.heap[r]? = some o ∧ o.isWalk = true := fun r e => (hrow r e).2
  obtain ⟨v, hv, hr, hn⟩ := h.box
  exact ⟨⟨v, (grownBy_keeps hg hrow' hv rfl).trans hv, ownsRow_abides_a hr hg hrow', hn⟩, (grownBy_keeps hg hrow' h.L rfl).trans h.L, (grownBy_keeps hg hrow' h.K rfl).trans h.K,
    h.below.grown hg h.below.size (fun k e => Nat.le_trans hB (hrow k e).1)⟩
theorem info_cl : (Tryz.prog.info? 26).map (fun i => (i.zero, i.size, i.bytes)) = some (some (.agg #[.int .i64 0, .int .i64 0, .int .i64 0, .int .i64 0]), 4, 32) := by kernel_rfl
set_option maxRecDepth 100000 in
set_option maxHeartbeats 4000000 in
theorem apYield (F : Fence) (m : Nat) (w0 : World) (fn : FuncId) (hfn : F.fn fn) (sv : Value) (Bs l D : Nat) (hBl : Bs ≠ l) (hDl : D ≠ l) (hDB : D ≠ Bs) (h0B : w0.heap.size ≤ Bs) (h0l : w0.heap.size ≤ l)
    (N : Nat) (hN : N ≤ maxLen) (hNb : N * 32 ≤ 140737488355328) (ss : List Cl) (x : Cl) (W : World) (h : ApAt w0 fn sv Bs l D ss W) (hlen : ss.length < N) :
    YieldAt F m Tryz.prog l #[clV x] W fun e W' => e = .returned (.bool true) ∧ ApAt w0 fn sv Bs l D (ss ++ [x]) W' ∧ KeepsWalks W W' := by
  have hne : 59 ≠ 26 := by decide
  obtain ⟨i0, hi, hz0, hz1, hz2⟩ := info_parts info_cl
  obtain ⟨v, hv, hrow, _⟩ := h.box
  refine ⟨fn, #[.slice none 0 0, sv, .pointer (some ⟨Bs, 0, none⟩), undef, .slice none 0 0, undef, sv, clV x, undef, undef, undef, undef, undef], apAssign, apBody, by simpa [apRec] using run_yield (P := Tryz.prog) (args := #[clV x]) h.L rfl, roundIn_of_wpIn hfn ?_⟩
  obtain ⟨i, r, xx, q⟩ := x
  unfold clV
  simp only
  obtain ⟨Wa, hWa⟩ : ∃ Wa, W.alloc (.cells #[.int .i64 i, .int .i64 r, .int .i64 xx, .int .i64 q] 26) = Wa := ⟨_, rfl⟩
  obtain ⟨E, hE⟩ : ∃ E, W.heap.size = E := ⟨_, rfl⟩
  have hola : ∀ k, k < W.heap.size → Wa.heap[k]? = W.heap[k]? := fun k hk => by rw [← hWa]; exact Below.heap_alloc _ _ k hk
  have hnwa : Wa.heap[E]? = some (.cells #[.int .i64 i, .int .i64 r, .int .i64 xx, .int .i64 q] 26 (0, 0)) := by rw [← hWa, ← hE]; exact hnew _ _ _ rfl
  have hva : Wa.heap[Bs]? = some (.cells #[v] 59 (0, 0)) := (hola Bs (Array.getElem?_eq_some_iff.1 hv).1).trans hv
  have hKa : Wa.heap[D]? = some (.deferred (some [])) := (hola D (Array.getElem?_eq_some_iff.1 h.K).1).trans h.K
  have hLa : Wa.heap[l]? = some (.loop (apRec fn sv Bs D .ready none)) := (hola l (Array.getElem?_eq_some_iff.1 h.L).1).trans h.L
  have hEl : E ≠ l := by have := (Array.getElem?_eq_some_iff.1 h.L).1; omega
  have hrowa : Wa.ownsRow w0.heap.size 26 4 v ss.length (flatC ss) := by rw [← hWa]; exact hrow.alloc _
  have hba : Below w0.heap.size w0 Wa := by rw [← hWa]; exact h.below.alloc h.below.size _
  have hka : KeepsWalks W Wa := by rw [← hWa]; exact KeepsWalks.alloc _ _
  have hl : l < Wa.heap.size := (Array.getElem?_eq_some_iff.1 hLa).1
  have hbr := run_beginRound (P := Tryz.prog) hLa rfl
  obtain ⟨W2, hW2⟩ : ∃ W2, Wa.putObj l (.loop { apRec fn sv Bs D .ready none with state := .busy }) = W2 := ⟨_, rfl⟩
  rw [hW2] at hbr
  have hg2 : Wa.grownBy W2 (some l) := by rw [← hW2]; exact grownBy_putObj_a _ _ _
  have hk2 : KeepsWalks W W2 := hka.trans (by rw [← hW2]; exact KeepsWalks.putObj _ hLa rfl)
  have hv2 : W2.heap[Bs]? = some (.cells #[v] 59 (0, 0)) := by rw [← hW2]; exact (World.putObj_heap_other hBl).trans hva
  have hK2 : W2.heap[D]? = some (.deferred (some [])) := by rw [← hW2]; exact (World.putObj_heap_other hDl).trans hKa
  have hL2 : W2.heap[l]? = some (.loop { apRec fn sv Bs D .ready none with state := .busy }) := by rw [← hW2]; exact World.putObj_heap_same hl
  have hE2 : W2.heap[E]? = some (.cells #[.int .i64 i, .int .i64 r, .int .i64 xx, .int .i64 q] 26 (0, 0)) := by rw [← hW2]; exact (World.putObj_heap_other hEl).trans hnwa
  have hrow2 : W2.ownsRow w0.heap.size 26 4 v ss.length (flatC ss) := hrowa.kept hg2 (ownsRow_ne_a hrowa hLa (fun cur e => by cases e))
  have hb2 : Below w0.heap.size w0 W2 := hba.grown hg2 hba.size (fun k e => by cases e; exact h0l)
  obtain ⟨k0, k1, k2, k3⟩ := cells4 hE2
  obtain ⟨hc2, hf2⟩ := cell_of_box_a hv2
  have hBlt : Bs < W2.heap.size := (Array.getElem?_eq_some_iff.1 hv2).1
  have hl2 : l < W2.heap.size := (Array.getElem?_eq_some_iff.1 hL2).1
  have hDlt : D < W2.heap.size := (Array.getElem?_eq_some_iff.1 hK2).1
  have ne_of : ∀ {j : Nat} {o : Obj}, W2.heap[j]? = some o → (∀ cur, o ≠ .cells cur 26 (0, 0)) → some j ≠ v.ownBlock := fun hj hno => by
    rcases ownsRow_ne_a hrow2 hj hno with e | e
    · rw [e]; simp
    · exact fun e' => e e'.symm
  clear hW2 hrowa hba hka hva hKa hLa hnwa hola hg2
  unfold apAssign
  gi_wp2_with gi_round_op_a
  clear hWa hE hbr
  unfold apBody
  gi_wp2_with (first
    | (gi_at_builtin; refine wpListIn_append_own _ rfl _ _ 59 rfl w0.heap.size 26 i0 (.agg #[.int .i64 0, .int .i64 0, .int .i64 0, .int .i64 0]) 4 32 Tryz.underlying59 hi hz0 hz1 hz2 rfl (by decide) _ _ _ rfl (hrow2.alloc _) ⟨W2.heap.size, 0, none⟩ 1 1 [.int .i64 i, .int .i64 r, .int .i64 xx, .int .i64 q] rfl rfl (fun j u hj => by rw [show (⟨W2.heap.size, 0, none⟩ : Addr).add j = ⟨W2.heap.size, 0 + j, none⟩ from by unfold Addr.add; split <;> simp_all, cell_of_row _ _ _ _ _ _ (hnew W2 _ _ rfl), Nat.zero_add, ← Array.getElem?_toList]; exact hj) (by simp [Value.oneCell']) (by omega) (by omega) (by have := hb2.size; simp; omega) ?_; intro v' w3 hown' hg3 hnil3
       have hv3 : w3.heap[Bs]? = some (.cells #[v] 59 (0, 0)) := (hg3.block Bs (by simp; omega) (ne_of hv2 (fun cur e => by cases e))).trans ((Below.heap_alloc _ _ Bs hBlt).trans hv2)
       obtain ⟨hc3, hf3⟩ := cell_of_box_a hv3
       obtain ⟨g', cap', cur', rfl, hbase', hgb', hr1, hr2, hr3, hr4⟩ : ∃ g' cap' cur', v' = .slice (some ⟨g', 0, none⟩) (ss.length + 1) cap' ∧ w0.heap.size ≤ g' ∧ w3.heap[g']? = some (.cells cur' 26 (0, 0)) ∧ ss.length + 1 ≤ cap' ∧ cap' ≤ maxLen ∧ cur'.size = cap' * 4 ∧ cur'.toList.take ((ss.length + 1) * 4) = flatC ss ++ [.int .i64 i, .int .i64 r, .int .i64 xx, .int .i64 q] := by
         rcases hown'.2 with ⟨_, h0⟩ | h'
         · exact absurd h0 (by omega)
         · exact h'
       go_frame)
    | gi_round_op_a)
  have hg3' : (W2.alloc (.cells #[.int .i64 i, .int .i64 r, .int .i64 xx, .int .i64 q] 26)).grownBy w3 v.ownBlock := hg3
  have hL3 : w3.heap[l]? = some (.loop { apRec fn sv Bs D .ready none with state := .busy }) := (hg3'.block l (by simp; omega) (ne_of hL2 (fun cur e => by cases e))).trans ((Below.heap_alloc _ _ l hl2).trans hL2)
  have hK3 : w3.heap[D]? = some (.deferred (some [])) := (hg3'.block D (by simp; omega) (ne_of hK2 (fun cur e => by cases e))).trans ((Below.heap_alloc _ _ D hDlt).trans hK2)
  obtain ⟨w4, hw4⟩ : ∃ w4, w3.setCell ⟨Bs, 0, none⟩ (.slice (some ⟨g', 0, none⟩) (ss.length + 1) cap') = w4 := ⟨_, rfl⟩
  rw [hw4]
  have hg4 : w3.grownBy w4 (some Bs) := by rw [← hw4]; exact grownBy_setCell0_a _ _ _
  have hv4 : w4.heap[Bs]? = some (.cells #[.slice (some ⟨g', 0, none⟩) (ss.length + 1) cap'] 59 (0, 0)) := by rw [← hw4]; exact heap_setCell_box_a _ hv3
  have hL4 : w4.heap[l]? = some (.loop { apRec fn sv Bs D .ready none with state := .busy }) := (hg4.block l (Array.getElem?_eq_some_iff.1 hL3).1 (fun e => hBl (by cases e; rfl))).trans hL3
  have hK4 : w4.heap[D]? = some (.deferred (some [])) := (hg4.block D (Array.getElem?_eq_some_iff.1 hK3).1 (fun e => hDB (by cases e; rfl))).trans hK3
  have hrow4 := hown'.kept hg4 (ownsRow_ne_a hown' hv3 (fun cur e => by cases e))
  have hl4 : l < w4.heap.size := (Array.getElem?_eq_some_iff.1 hL4).1
  have hb3 : Below w0.heap.size w0 w3 := (hb2.alloc hb2.size _).grown hg3' (by have := hb2.size; simp; omega) (fun k e => (hrow2.lt k e).1)
  have hb4 : Below w0.heap.size w0 w4 := hb3.grown hg4 hb3.size (fun k e => by cases e; exact h0B)
  have hk4 : KeepsWalks W w4 := ((hk2.trans (KeepsWalks.alloc _ _)).trans (KeepsWalks.of_grownBy hg3' (ownsRow_not_walk_a (hrow2.alloc _)))).trans (by rw [← hw4]; exact KeepsWalks.setCell _ _ _)
  clear hw4
  refine ⟨_, _, run_endRound none hL4, rfl, ⟨⟨_, (World.putObj_heap_other hBl).trans hv4, ?_, by simp⟩, World.putObj_heap_same hl4, (World.putObj_heap_other hDl).trans hK4, hb4.grown (grownBy_putObj_a _ _ _) hb4.size (fun k e => by cases e; exact h0l)⟩, hk4.trans (KeepsWalks.putObj _ hL4 rfl)⟩
  have := hrow4.kept (grownBy_putObj_a w4 l (.loop { { apRec fn sv Bs D .ready none with state := .busy } with state := if (none : Option Code).isNone then .ready else .done, pending := none })) (ownsRow_ne_a hrow4 hL4 (fun cur e => by cases e))
  rw [flatC_snoc, List.length_append]
  simpa [clC] using this
set_option maxRecDepth 100000 in
set_option maxHeartbeats 4000000 in
theorem appendSeq_in (F : Fence) (n : Nat) (h11 : F.fn 56) (hro : F.round = none) (hn : 2 ≤ n) (g : Nat) (lb : Array Value) (hFg : F.fn g) (eg : ∀ args w, (callFunc g args).run Tryz.prog w = .ok (.enter g args) w)
    (S : List Cl → Prop) (N : Nat) (hN : N ≤ maxLen) (hNb : N * 32 ≤ 140737488355328) (w : World) (hseq : SeqGives F (n - 1) Tryz.prog g lb clV S N w) :
    CallsIn F n Tryz.prog 56 #[.slice none 0 0, .func (.func g) #[] lb] w fun e w' => ∃ (v : Value) (ss : List Cl), e = .returned v ∧ S ss ∧ w'.ownsRow w.heap.size 26 4 v ss.length (flatC ss) ∧ (v = .slice none 0 0 ↔ ss = []) ∧ Below w.heap.size w w' := by
  have h1 : 1 ≤ n := by omega
  refine callsIn_of_wp_marks Tryz.func56 rfl h11 ?_ hro
  simp only [Tryz.ntmps56, List.size_toArray, List.length_cons, List.length_nil, Nat.reduceAdd, Nat.reduceSub, Array.replicate_succ, Array.replicate_zero, List.push_toArray, List.append_toArray, List.nil_append, List.cons_append]
  gi_wp2
  refine wpIn_rangeFunc ?_
  intro fn hfn
  rw [hro]
  obtain ⟨W0, hW0⟩ : ∃ W0, w.alloc (.cells #[.slice none 0 0] 59) = W0 := ⟨_, rfl⟩
  have hs0 : W0.heap.size = w.heap.size + 1 := by rw [← hW0]; simp
  have hv0 : W0.heap[w.heap.size]? = some (.cells #[.slice none 0 0] 59 (0, 0)) := by rw [← hW0]; exact World.alloc_heap_new w _
  have hb0 : Below w.heap.size w W0 := by rw [← hW0]; exact (Below.refl _ w).alloc (Nat.le_refl _) _
  rw [hW0]
  obtain ⟨W1, hW1⟩ : ∃ W1, (W0.alloc (.deferred (some []))).alloc (.loop (apRec fn (.func (.func g) #[] lb) w.heap.size W0.heap.size .ready none)) = W1 := ⟨_, rfl⟩
  have hold : ∀ k, k < W0.heap.size → W1.heap[k]? = W0.heap[k]? := fun k hk => by
    rw [← hW1]; exact (Below.heap_alloc _ _ k (by simp; omega)).trans (Below.heap_alloc _ _ k hk)
  have hb1 : Below w.heap.size w W1 := by rw [← hW1]; exact (hb0.alloc hb0.size _).alloc (by have := hb0.size; simp; omega) _
  have hM : ApAt w fn (.func (.func g) #[] lb) w.heap.size (W0.heap.size + 1) W0.heap.size [] W1 :=
    ⟨⟨_, (hold w.heap.size (by omega)).trans hv0, ⟨rfl, .inl ⟨rfl, rfl⟩⟩, by simp⟩,
     by rw [← hW1]; have := World.alloc_heap_new (W0.alloc (.deferred (some []))) (.loop (apRec fn (.func (.func g) #[] lb) w.heap.size W0.heap.size .ready none)); rwa [World.size_alloc] at this,
     by rw [← hW1]; exact (Below.heap_alloc _ _ _ (by simp)).trans (World.alloc_heap_new W0 _), hb1⟩
  refine ⟨W0.heap.size + 1, [{ target := .collected W0.heap.size, args := #[] }], W1, { target := .fn (.func g) lb, args := #[.func (.yield (W0.heap.size + 1)) #[] #[]] }, W1, g,
    #[.func (.yield (W0.heap.size + 1)) #[] #[]] ++ lb, W1, ?_, ?_, ?_, ?_, fun _ => h1, ?_⟩
  · rw [← hW1]; exact run_enterLoop_outer _ _ _ _ _
  · simp [resolve, go_sem]
  · intro f' hf'; simp [Target.leads] at hf'; subst hf'; exact hFg
  · simp [invoke, go_sem, eg]
  · refine (hseq (W0.heap.size + 1) (ApAt w fn (.func (.func g) #[] lb) w.heap.size (W0.heap.size + 1) W0.heap.size) W1 hb1 (ap_abides _ _ _ _ _ _ _ hb1.size)
      (fun pre x W hJ hl => apYield F (n - 1 - 1) w fn hfn _ w.heap.size (W0.heap.size + 1) W0.heap.size (by omega) (by omega) (by omega) (Nat.le_refl _) (by omega) N hN hNb pre x W hJ hl) hM).mono ?_
    rintro e W2 ⟨⟨v0, rfl⟩, ss, hS, h2⟩
    obtain ⟨v, hv, hrow, hnil⟩ := h2.box
    have hend := run_endLoop (P := Tryz.prog) h2.L (by simp [apRec])
    obtain ⟨W3, hW3⟩ : ∃ W3, W2.putObj (W0.heap.size + 1) (.loop { apRec fn (.func (.func g) #[] lb) w.heap.size W0.heap.size .ready none with state := .exhausted }) = W3 := ⟨_, rfl⟩
    rw [hW3] at hend
    have hg3 : W2.grownBy W3 (some (W0.heap.size + 1)) := by rw [← hW3]; exact grownBy_putObj_a _ _ _
    have hv3 : W3.heap[w.heap.size]? = some (.cells #[v] 59 (0, 0)) := by rw [← hW3]; exact (World.putObj_heap_other (by omega)).trans hv
    have hK3 : W3.heap[W0.heap.size]? = some (.deferred (some [])) := by rw [← hW3]; exact (World.putObj_heap_other (by omega)).trans h2.K
    have hrow3 := hrow.kept hg3 (ownsRow_ne_a hrow h2.L (fun cur e => by cases e))
    have hb3 : Below w.heap.size w W3 := h2.below.grown hg3 h2.below.size (fun k e => by cases e; omega)
    obtain ⟨hc3, hf3⟩ := cell_of_box_a hv3
    clear hW3
    refine ⟨none, W3, hend, ?_⟩
    gi_wp2
    rw [← hs0]
    refine ⟨by simp, .inl ⟨_, _, rfl, run_takeDeferred hK3, ?_⟩⟩
    exact ⟨_, results_tmp rfl _ _ _, v, ss, rfl, hS, hrow3.kept (grownBy_putObj_a _ _ _) (ownsRow_ne_a hrow3 hK3 (fun cur e => by cases e)), hnil, hb3.grown (grownBy_putObj_a _ _ _) hb3.size (fun k e => by cases e; omega)⟩
set_option maxRecDepth 100000 in
set_option maxHeartbeats 1000000 in
theorem collect_in (F : Fence) (n : Nat) (h8 : F.fn 48) (h11 : F.fn 56) (hro : F.round = none) (hn : 3 ≤ n) (g : Nat) (lb : Array Value) (hFg : F.fn g) (eg : ∀ args w, (callFunc g args).run Tryz.prog w = .ok (.enter g args) w)
    (S : List Cl → Prop) (N : Nat) (hN : N ≤ maxLen) (hNb : N * 32 ≤ 140737488355328) (w : World) (hseq : SeqGives F (n - 1 - 1) Tryz.prog g lb clV S N w) :
    CallsIn F n Tryz.prog 48 #[.func (.func g) #[] lb] w fun e w' => ∃ (v : Value) (ss : List Cl), e = .returned v ∧ S ss ∧ w'.ownsRow w.heap.size 26 4 v ss.length (flatC ss) ∧ (v = .slice none 0 0 ↔ ss = []) ∧ Below w.heap.size w w' := by
  refine callsIn_of_wp Tryz.func48 rfl h8 ?_ hro
  simp only [Tryz.ntmps48, List.size_toArray, List.length_cons, List.length_nil, Nat.reduceAdd, Nat.reduceSub, Array.replicate_succ, Array.replicate_zero, List.push_toArray, List.append_toArray, List.nil_append, List.cons_append]
  gi_wp2_with fail
  refine ⟨fun _ => (by omega), ?_⟩
  refine (appendSeq_in F (n - 1) h11 hro (by omega) g lb hFg eg S N hN hNb _ hseq).mono ?_
  rintro e w' ⟨v, ss, rfl, hS, hrow, hnil, hb⟩
  gi_wp2
  go_ret
  exact ⟨v, ss, rfl, hS, hrow, hnil, hb⟩
end Go.Proofs.YtnefpjdjnjcmbaaGreatDoor
