/-
  Revocations: numbers seen, rows made longer, rows compared.
-/
import Derived.Test.YtmfhdhggpepbbaaDoorEa
import Derived.Test.YtmfhdhggpepbbaaDoorCu
namespace Go.Proofs.YtmfhdhggpepbbaaDoor
open Go Go.RowKit
theorem inKeyed : Go.Maps.Keyed Tryd.prog 3 := Go.Maps.int_keyed Tryd.underlying3
theorem wf_in' (n : Int) (h : in64 n) : (Lit.int .i64 n).wf = true := by
  unfold in64 at h
  simp [Lit.wf, IntKind.min, IntKind.max, IntKind.signed, IntKind.bits]
  omega
theorem key_in (n : Int) (h : in64 n) : ∃ kl, keyOf Tryd.prog 3 (.int .i64 n) = some kl := ⟨_, Go.Maps.keyOf_int_mk Tryd.underlying3 (wf_in' n h)⟩
/-- A set of numbers, as the list of its entries. -/
structure MapS (W : World) (M : Nat) (l : List Int) : Prop where
  st : ∃ es clock, W.heap[M]? = some (.map es clock) ∧ Go.MapKept.Stamped es clock ∧ es.toList.map (fun e => (e.key, e.val)) = l.map fun n => (Value.int .i64 n, Value.agg #[])
  wf : ∀ x ∈ l, in64 x
theorem set_keys {es : List MapEntry} {l : List Int} (h : es.map (fun e => (e.key, e.val)) = l.map fun n => (Value.int .i64 n, Value.agg #[])) (wf : ∀ x ∈ l, in64 x) : ∀ e ∈ es, ∃ kl, keyOf Tryd.prog 3 e.key = some kl := by
  intro e he
  have h1 : (e.key, e.val) ∈ l.map fun n => (Value.int .i64 n, Value.agg #[]) := by rw [← h]; exact List.mem_map.2 ⟨e, he, rfl⟩
  obtain ⟨x, hx, h2⟩ := List.mem_map.1 h1
  injection h2 with h3 h4
  rw [← h3]
  exact key_in _ (wf x hx)
theorem set_at {es : List MapEntry} {l : List Int} (h : es.map (fun e => (e.key, e.val)) = l.map fun n => (Value.int .i64 n, Value.agg #[])) {j : Nat} {e : MapEntry} (hj : es[j]? = some e) : ∃ x, x ∈ l ∧ e.key = .int .i64 x ∧ e.val = .agg #[] := by
  have h1 : (e.key, e.val) ∈ es.map fun e => (e.key, e.val) := List.mem_map.2 ⟨e, List.mem_of_getElem? hj, rfl⟩
  rw [h] at h1
  obtain ⟨x, hx, h2⟩ := List.mem_map.1 h1
  injection h2 with h3 h4
  exact ⟨x, hx, h3.symm, h4.symm⟩
theorem set_none {es : List MapEntry} {l : List Int} (h : es.map (fun e => (e.key, e.val)) = l.map fun n => (Value.int .i64 n, Value.agg #[])) {c : Int} (hn : ∀ e ∈ es, e.key ≠ .int .i64 c) : c ∉ l := by
  intro hx
  have h1 : (Value.int .i64 c, Value.agg #[]) ∈ es.map fun e => (e.key, e.val) := by rw [h]; exact List.mem_map.2 ⟨c, hx, rfl⟩
  obtain ⟨e, he, h2⟩ := List.mem_map.1 h1
  injection h2 with h3 h4
  exact hn e he h3
theorem zero_unit (W : World) : (zeroValue 133).run Tryd.prog W = .ok (.agg #[]) W := by kernel_rfl
set_option maxRecDepth 100000 in
theorem MapS.look {W : World} {M : Nat} {l : List Int} (m : MapS W M l) (c : Int) (h : in64 c) : (Instr.lookup 132 (.map (some M)) (.int .i64 c) true).run Tryd.prog W = .ok (.tuple #[.agg #[], .bool (decide (c ∈ l))]) W := by
  obtain ⟨es, clock, hb, hs, he⟩ := m.st
  obtain ⟨kl, hk⟩ := key_in c h
  rcases inKeyed.find W hk es.toList (set_keys he m.wf) with ⟨h1, h2⟩ | ⟨j, e, h1, h2, h3⟩
  · rw [decide_eq_false (set_none he h2)]
    simp [Instr.lookup, run_underlying Tryd.underlying132, MapKept.run_getObj_map hb, inKeyed.check W _ hk, h1, Result.andThen]
  · obtain ⟨x, hx, h4, h5⟩ := set_at he h2
    have e1 := h4.symm.trans h3
    injection e1 with _ e2
    subst e2
    rw [decide_eq_true hx]
    simp [Instr.lookup, run_underlying Tryd.underlying132, MapKept.run_getObj_map hb, inKeyed.check W _ hk, h1, h5, Result.andThen]
theorem MapS.later {W W1 : World} {M : Nat} {l : List Int} (m : MapS W M l) (h : W1.heap[M]? = W.heap[M]?) : MapS W1 M l := ⟨by rw [h]; exact m.st, m.wf⟩
theorem mapS_made (W : World) : MapS (W.alloc (.map #[] 0)) W.heap.size [] := ⟨⟨#[], 0, hnew _ _ _ rfl, Go.MapKept.stamped_empty 0, rfl⟩, (fun x hx => by cases hx)⟩
theorem setM_grown {W : World} {M : Nat} {es : Array MapEntry} {clock : Nat} (hb : W.heap[M]? = some (.map es clock)) (o : Obj) : W.grownBy (Go.ChangeMaps.setBlock W M o) (some M) := ⟨rfl, rfl, rfl, by simp [Go.ChangeMaps.setBlock], fun i _ hi => ChangeMaps.heap_setBlock_other hb _ (fun e => hi (by rw [e]))⟩
set_option maxRecDepth 100000 in
theorem MapS.put {W : World} {M : Nat} {l : List Int} (m : MapS W M l) (c : Int) (h : in64 c) :
    ∃ W1, (Instr.mapUpdate 132 (.map (some M)) (.int .i64 c) (.agg #[])).run Tryd.prog W = .ok () W1 ∧ (c ∉ l → MapS W1 M (l ++ [c])) ∧ W.grownBy W1 (some M) := by
  obtain ⟨es, clock, hb, hs, he⟩ := m.st
  obtain ⟨kl, hk⟩ := key_in c h
  rcases inKeyed.find W hk es.toList (set_keys he m.wf) with ⟨h1, h2⟩ | ⟨j, e, h1, h2, h3⟩
  · refine ⟨Go.ChangeMaps.setBlock W M (.map (es.push ⟨.int .i64 c, .agg #[], clock⟩) (clock + 1)), ?_, fun hn => ⟨⟨_, _, ChangeMaps.heap_setBlock_same hb _, Go.MapKept.stamped_push hs h2, ?_⟩, ?_⟩, setM_grown hb _⟩
    · simp [Instr.mapUpdate, run_underlying Tryd.underlying132, MapKept.run_getObj_map hb, inKeyed.check W false hk, h1, MapKept.run_setObj_map _ hb, Result.andThen, Go.ChangeMaps.setBlock]
    · simp [he]
    · intro x hx
      rcases List.mem_append.1 hx with hx | hx
      · exact m.wf x hx
      · obtain rfl : x = c := by simpa using hx
        exact h
  · obtain ⟨x, hx, h4, h5⟩ := set_at he h2
    have e1 := h4.symm.trans h3
    injection e1 with _ e2
    subst e2
    refine ⟨Go.ChangeMaps.setBlock W M (.map (es.modify j (fun e' => { e' with key := .int .i64 x, val := .agg #[] })) clock), ?_, fun hn => absurd hx hn, setM_grown hb _⟩
    have hj : es[j]? = some e := by simpa using h2
    simp [Instr.mapUpdate, run_underlying Tryd.underlying132, MapKept.run_getObj_map hb, inKeyed.check W false hk, h1, hj, h3, inKeyed.stays W hk, MapKept.run_setObj_map _ hb, Result.andThen, Go.ChangeMaps.setBlock]
set_option maxRecDepth 100000 in
theorem seen_any (x : Int) (B M : Nat) (l : List Int) (w : World) (hB : w.heap[B]? = some (.cells #[.map (some M)] 132 (0, 0))) (hM : MapS w M l) (hx : in64 x) :
    Calls Tryd.prog 72 #[.int .i64 x, .pointer (some ⟨B, 0, none⟩)] w fun e w' => e = .returned (.bool (decide (x ∈ l))) ∧ w.grownBy w' (some M) ∧ (x ∉ l → MapS w' M (l ++ [x])) := by
  have hMl : M < w.heap.size := by
    obtain ⟨es, clock, hb, _⟩ := hM.st
    exact (Array.getElem?_eq_some_iff.1 hb).1
  have hc : w.cell? ⟨B, 0, none⟩ = some (.map (some M)) := by rw [cell_of_row _ _ _ _ _ _ hB]; rfl
  have hlk := hM.look x hx
  obtain ⟨z, hz⟩ : ∃ z, decide (x ∈ l) = z := ⟨_, rfl⟩
  rw [hz] at hlk ⊢
  have hc2 : (w.alloc (.cells #[] 133)).cell? ⟨B, 0, none⟩ = some (.map (some M)) := by
    rw [cell_of_row _ _ _ _ _ _ ((hold w _ B (Array.getElem?_eq_some_iff.1 hB).1).trans hB)]; rfl
  obtain ⟨w2, hp, hk, hg⟩ := (hM.later (W1 := w.alloc (.cells #[] 133)) (hold _ _ _ hMl)).put x hx
  have HK := Bx.mk hk
  have HG : Bx (w.grownBy w2 (some M)) := ⟨kb_trans (kb_below _ (below_a _)) hg⟩
  clear hM hMl hB hk hg hz
  go_enter Tryd.func72, Tryd.ntmps72
  go_wp2
  go_ret
  exact ⟨rfl, HG.out, HK.out⟩
/-- Does one stand twice? -/
def Dup (l : List Int) : Prop := ∃ k, k < l.length ∧ l.getD k 0 ∈ l.take k
theorem take_snoc (l : List Int) (k : Nat) (h : k < l.length) : l.take (k + 1) = l.take k ++ [l.getD k 0] := by
  rw [List.take_add_one, List.getElem?_eq_getElem h, List.getD_eq_getElem?_getD, List.getElem?_eq_getElem h]
  rfl
theorem mem_in64 {l : List Int} (h : ∀ x ∈ l, in64 x) (k : Nat) (hk : k < l.length) : in64 (l.getD k 0) := by
  rw [List.getD_eq_getElem?_getD, List.getElem?_eq_getElem hk]
  exact h _ (List.getElem_mem hk)
set_option maxRecDepth 100000 in
theorem hasTwice_any (l : List Int) (v : Value) (w : World) (hv : IsL w v l) (hl : l.length ≤ 1000000) (h64 : ∀ x ∈ l, in64 x) :
    Calls Tryd.prog 44 #[v] w fun e w' => ∃ z : Bool, e = .returned (.bool z) ∧ (z = true ↔ Dup l) ∧ Below w.heap.size w w' := by
  obtain ⟨a, cap, hv1⟩ := hv.form
  subst hv1
  have HV := Bx.mk hv
  have H64 := Bx.mk h64
  obtain ⟨W2, hW2⟩ : ∃ W2, ((w.alloc (.map #[] 0)).alloc (.cells #[.map (some w.heap.size)] 132)) = W2 := ⟨_, rfl⟩
  have hs2 : W2.heap.size = w.heap.size + 2 := by rw [← hW2]; simp
  have hbel : Below w.heap.size w W2 := by rw [← hW2]; exact ((Below.refl _ _).alloc (Nat.le_refl _) _).trans ((Below.refl _ _).alloc (by simp) _)
  have hB : W2.heap[w.heap.size + 1]? = some (.cells #[.map (some w.heap.size)] 132 (0, 0)) := by rw [← hW2]; exact hnew _ _ _ (by simp)
  have hM : MapS W2 w.heap.size [] := (mapS_made w).later (by rw [← hW2]; exact hold _ _ _ (by simp))
  have HC : Bx (Calls Tryd.prog 70 #[.slice a l.length cap, .func (.func 72) #[] #[.pointer (some ⟨w.heap.size + 1, 0, none⟩)]] W2 fun e w' => ∃ z : Bool, e = .returned (.bool z) ∧ (z = true ↔ Dup l) ∧ Below w.heap.size w w') := Bx.mk (by
    refine (conF_any l _ 72 #[.pointer (some ⟨w.heap.size + 1, 0, none⟩)] (fun k => decide (l.getD k 0 ∈ l.take k))
      (fun k w' => Below w.heap.size w w' ∧ w.heap.size + 2 ≤ w'.heap.size ∧ w'.heap[w.heap.size + 1]? = some (.cells #[.map (some w.heap.size)] 132 (0, 0)) ∧ ((∀ j, j < k → decide (l.getD j 0 ∈ l.take j) = false) → MapS w' w.heap.size (l.take k))) W2 (fun args w => by kernel_rfl) ⟨hbel, by omega, hB, fun _ => hM⟩ hl ?_ ?_).mono ?_
    · rintro k w' ⟨h1, -⟩
      exact (HV.out.later h1).ints
    · rintro k w' hk hr ⟨h1, h2, h3, h4⟩
      refine (seen_any (l.getD k 0) _ _ (l.take k) w' h3 (h4 hr) (mem_in64 H64.out k hk)).mono ?_
      rintro e w2 ⟨rfl, hg, hm⟩
      refine ⟨rfl, h1.trans (grown_below hg (Nat.le_refl _) (by omega)), by have := hg.size; omega, by rw [hg.block _ (by omega) (fun e => by injection e with e; omega)]; exact h3, fun hq => ?_⟩
      have h5 := hq k (by omega)
      simp only [decide_eq_false_iff_not] at h5
      rw [take_snoc l k hk]
      exact hm h5
    · rintro e w' ⟨z, rfl, ⟨rfl, k, hk, h1, h2, h3⟩ | ⟨rfl, h1, h2⟩⟩
      · exact ⟨_, rfl, ⟨fun _ => ⟨k, hk, of_decide_eq_true h2⟩, fun _ => rfl⟩, h3.1⟩
      · exact ⟨_, rfl, ⟨fun h => (by cases h), fun ⟨k, hk, h⟩ => absurd h (of_decide_eq_false (h1 k hk))⟩, h2.1⟩)
  subst hW2
  have hmk : ∀ W : World, (Instr.makeMap 132 none).run Tryd.prog W = .ok (.map (some W.heap.size)) (W.alloc (.map #[] 0)) := fun W => by kernel_rfl
  clear hs2 hbel hB hM hv h64 HV H64 hl
  go_enter Tryd.func44, Tryd.ntmps44
  go_wp2_with fail
  refine HC.out.mono ?_
  rintro e w1 ⟨z, rfl, hz, hb⟩
  have HZ := Bx.mk hz
  have HBl := Bx.mk hb
  clear hz hb HC
  go_wp2
  go_ret
  exact ⟨z, rfl, HZ.out, HBl.out⟩
end Go.Proofs.YtmfhdhggpepbbaaDoor
