/-
  Revocations: rows of serials that stay, a set of numbers, rows looked through by a function.
  Revocations: numbers seen, rows made longer, rows compared.
  Revocations: rows made longer, rows compared, versions.
  Revocations: versions, rows compared, two rows joined.
  Revocations: parts of rows, rows compared.
  Revocations: a set, its logs, its versions.
  Revocations: a set's versions, its logs.
-/
import Derived.Test.YtnfgamekjbkbkaaDoorCc
import Derived.Test.YtnfgamekjbkbkaaDoorIi
import Derived.Maps.Keyed
import Derived.Maps.RangeWalk
import Derived.Maps.OwnSet
import Derived.Shelf.SlicesE.IndexFunc
import Derived.Test.YtnfgamekjbkbkaaDoorCu
import Derived.Deep.AppendSrc
import Derived.Laws.AppendOwn
import Derived.Stop.BytesEq
namespace Go.Proofs.YtnfgamekjbkbkaaDoor
open Go Go.RowKit
/-- A row of numbers in a block of numbers. -/
def IsL (W : World) (v : Value) (l : List Int) : Prop :=
  ∃ a cap, v = .slice a l.length cap ∧ l.length ≤ cap ∧ (a = none → cap = 0) ∧ (0 < l.length → ∃ c o cs fr, a = some ⟨c, o, none⟩ ∧ W.heap[c]? = some (.cells cs 3 fr) ∧ ∀ i, i < l.length → cs[o + i]? = some (.int .i64 (l.getD i 0)))
theorem IsL.nil (W : World) : IsL W (.slice none 0 0) [] := ⟨none, 0, rfl, Nat.le_refl _, fun _ => rfl, fun h => absurd h (by simp)⟩
theorem IsL.later {W W1 : World} {v : Value} {l : List Int} (h : IsL W v l) (hb : Below W.heap.size W W1) : IsL W1 v l := by
  obtain ⟨a, cap, hv, hc, hn, hr⟩ := h
  refine ⟨a, cap, hv, hc, hn, fun hp => ?_⟩
  obtain ⟨c, o, cs, fr, ha, hh, hcs⟩ := hr hp
  exact ⟨c, o, cs, fr, ha, by rw [hb.block c (Array.getElem?_eq_some_iff.1 hh).1]; exact hh, hcs⟩
/-- A row stays where a block of another kind changes. -/
theorem IsL.grown {W W1 : World} {p : Nat} {v : Value} {l : List Int} {T : TypeId} {cs : Array Value} {fr : Nat × Nat} (h : IsL W v l) (hg : W.grownBy W1 (some p)) (hp : W.heap[p]? = some (.cells cs T fr)) (hT : T ≠ 3) : IsL W1 v l := by
  obtain ⟨a, cap, hv, hc, hn, hr⟩ := h
  refine ⟨a, cap, hv, hc, hn, fun hp' => ?_⟩
  obtain ⟨c, o, cs', fr', ha, hh, hcs⟩ := hr hp'
  refine ⟨c, o, cs', fr', ha, ?_, hcs⟩
  rw [hg.block c (Array.getElem?_eq_some_iff.1 hh).1 (fun e => by
    injection e with e
    subst e
    rw [hp] at hh
    injection hh with hh
    injection hh with _ e2 _
    exact hT e2)]
  exact hh
theorem IsL.ints {W : World} {v : Value} {l : List Int} (h : IsL W v l) : Ints W v l := by
  obtain ⟨a, cap, hv, hc, hn, hr⟩ := h
  refine ⟨a, cap, hv, hc, hn, fun hp => ?_⟩
  obtain ⟨c, o, cs, fr, ha, hh, hcs⟩ := hr hp
  refine ⟨c, o, ha, fun i hi => ?_⟩
  rw [cell_of_row _ _ _ _ _ _ hh]
  exact hcs i hi
theorem IsL.form {W : World} {v : Value} {l : List Int} (h : IsL W v l) : ∃ a cap, v = .slice a l.length cap := by
  obtain ⟨a, cap, hv, _⟩ := h
  exact ⟨a, cap, hv⟩
/-- A row of numbers that the call has made is one. -/
theorem OwnI.isL {W : World} {base : Nat} {v : Value} {l : List Int} (h : OwnI W base v l) : IsL W v l := by
  rcases h.2 with ⟨rfl, h0⟩ | ⟨g, cap, cur, rfl, hb, hg, hn, hm, hs, hc⟩
  · have : l = [] := List.eq_nil_of_length_eq_zero h0
    subst this
    exact IsL.nil W
  · refine ⟨_, cap, rfl, hn, (fun hx => by cases hx), fun _ => ⟨g, 0, cur, (0, 0), rfl, hg, fun j hj => ?_⟩⟩
    rw [Nat.zero_add, ← Array.getElem?_toList]
    have h1 : (cur.toList.take (l.length * 1))[j]? = (i64s l)[j]? := by rw [hc]
    rw [List.getElem?_take, if_pos (by omega), i64s_get l j hj] at h1
    exact h1
/-- A part of a row. -/
theorem IsL.cut {W : World} {a : Option Addr} {n cap : Nat} {l : List Int} (h : IsL W (.slice a n cap) l) (m : Nat) (hm : m ≤ n) : ∀ cap', m ≤ cap' → (a = none → cap' = 0) → IsL W (.slice a m cap') (l.take m) := by
  obtain ⟨a', cap0, hv, hc, hn, hr⟩ := h
  injection hv with e1 e2 e3
  subst e1 e2 e3
  intro cap' hc' hn'
  refine ⟨a, cap', by rw [List.length_take, Nat.min_eq_left hm], by rw [List.length_take]; omega, hn', fun hp => ?_⟩
  rw [List.length_take] at hp
  obtain ⟨c, o, cs, fr, ha, hh, hcs⟩ := hr (by omega)
  refine ⟨c, o, cs, fr, ha, hh, fun i hi => ?_⟩
  rw [List.length_take] at hi
  rw [hcs i (by omega)]
  simp [List.getD_eq_getElem?_getD, show i < m by omega]
theorem IsL.from_ {W : World} {c o n cap : Nat} {l : List Int} (h : IsL W (.slice (some ⟨c, o, none⟩) n cap) l) (m : Nat) (hm : m ≤ n) : IsL W (.slice (some ⟨c, o + m, none⟩) (n - m) (cap - m)) (l.drop m) := by
  obtain ⟨a', cap0, hv, hc, hn, hr⟩ := h
  injection hv with e1 e2 e3
  subst e1 e2 e3
  refine ⟨_, _, by rw [List.length_drop], by rw [List.length_drop]; omega, (fun h => by cases h), fun hp => ?_⟩
  rw [List.length_drop] at hp
  obtain ⟨c', o', cs, fr, ha, hh, hcs⟩ := hr (by omega)
  injection ha with ha
  injection ha with e1 e2 e3
  subst e1 e2
  refine ⟨c, o + m, cs, fr, rfl, hh, fun i hi => ?_⟩
  rw [List.length_drop] at hi
  rw [Nat.add_assoc, hcs (m + i) (by omega)]
  simp [List.getD_eq_getElem?_getD, List.getElem?_drop]
/-- Blocks that stay, and what lies below them. -/
structure KR (w : World) (B : Nat) (rs : List (Nat × Obj)) (W : World) : Prop where
  rows : ∀ x ∈ rs, W.heap[x.1]? = some x.2
  below : Below B w W
  le : B ≤ W.heap.size
theorem KR.start (w : World) : KR w w.heap.size [] w := ⟨fun _ h => (List.not_mem_nil h).elim, Below.refl _ _, Nat.le_refl _⟩
theorem KR.lt {w : World} {B : Nat} {rs : List (Nat × Obj)} {W : World} (h : KR w B rs W) {x : Nat × Obj} (hx : x ∈ rs) : x.1 < W.heap.size := (Array.getElem?_eq_some_iff.1 (h.rows x hx)).1
theorem KR.later {w : World} {B : Nat} {rs : List (Nat × Obj)} {W W1 : World} (h : KR w B rs W) (hb : Below W.heap.size W W1) : KR w B rs W1 :=
  ⟨fun x hx => by rw [hb.block _ (h.lt hx)]; exact h.rows x hx, h.below.trans (hb.mono h.le), Nat.le_trans h.le hb.size⟩
theorem KR.drew {w : World} {B : Nat} {rs : List (Nat × Obj)} {W : World} (h : KR w B rs W) : KR w B rs W.drew := h.later (Below.refl _ _).drew
theorem KR.new {w : World} {B : Nat} {rs : List (Nat × Obj)} {W : World} (h : KR w B rs W) (o : Obj) : KR w B ((W.heap.size, o) :: rs) (W.alloc o) := by
  have h1 := h.later (below_a o)
  refine ⟨fun x hx => ?_, h1.below, h1.le⟩
  rcases List.mem_cons.1 hx with rfl | hx
  · exact hnew _ _ _ rfl
  · exact h1.rows x hx
theorem KR.sub {w : World} {B : Nat} {rs rs' : List (Nat × Obj)} {W : World} (h : KR w B rs W) (hs : ∀ x ∈ rs', x ∈ rs) : KR w B rs' W := ⟨fun x hx => h.rows x (hs x hx), h.below, h.le⟩
/-- A block of its own changes. -/
theorem KR.grown {w : World} {B p : Nat} {rs : List (Nat × Obj)} {W W1 : World} (h : KR w B rs W) (hg : W.grownBy W1 (some p)) (hB : B ≤ p) (hp : ∀ x ∈ rs, x.1 ≠ p) : KR w B rs W1 :=
  ⟨fun x hx => by rw [hg.block _ (h.lt hx) (fun e => by injection e with e; exact hp x hx e)]; exact h.rows x hx, h.below.trans (grown_below hg hB h.le), Nat.le_trans h.le hg.size⟩
theorem row_rng8 {W : World} {g : Nat} {l : List Value} {t : TypeId} (h : W.heap[g]? = some (.cells l.toArray t (0, 0))) : W.rangeAt g 0 l := fun j v hv => by
  rw [cell_of_row _ _ _ _ _ _ h, Nat.zero_add]
  simpa using hv
/-- May it be a serial? -/
def okS (n : Int) : Bool := decide (1 ≤ n) && decide (n ≤ 65535)
theorem serial_any (n : Int) (w : World) : Calls Tryd.prog 89 #[.int .i64 n] w fun e w' => e = .returned (.bool (!okS n)) ∧ w' = w := by
  by_cases h1 : n < 1
  · have HO : okS n = false := by unfold okS; simp; omega
    go_enter Tryd.func89, Tryd.ntmps89
    go_wp2
    go_ret
    refine ⟨ret_bool ?_, rfl⟩
    simp [HO]
  by_cases h2 : 65535 < n
  · have HO : okS n = false := by unfold okS; simp; omega
    go_enter Tryd.func89, Tryd.ntmps89
    go_wp2
    go_ret
    refine ⟨ret_bool ?_, rfl⟩
    simp
  have HO : okS n = true := by unfold okS; simp; omega
  go_enter Tryd.func89, Tryd.ntmps89
  go_wp2
  go_ret
  refine ⟨ret_bool ?_, rfl⟩
  simp
/-- A row looked through by a function: the first place at which it says yes. -/
theorem idxF_any (ns : List Int) (v : Value) (g : Nat) (lb : Array Value) (r : Nat → Bool) (I : Nat → World → Prop) (w : World) (eg : ∀ args w, (callFunc g args).run Tryd.prog w = .ok (.enter g args) w)
    (h0 : I 0 w) (hl : ns.length ≤ 1000000) (hrow : ∀ k w', I k w' → Ints w' v ns)
    (hstep : ∀ k w', k < ns.length → (∀ j, j < k → r j = false) → I k w' → Calls Tryd.prog g (#[.int .i64 (ns.getD k 0)] ++ lb) w' fun e w'' => e = .returned (.bool (r k)) ∧ I (k + 1) w'') :
    Calls Tryd.prog 103 #[v, .func (.func g) #[] lb] w fun e w' => ∃ i : Int, e = .returned (.int .i64 i) ∧ ((∃ k, k < ns.length ∧ (∀ j, j < k → r j = false) ∧ r k = true ∧ i = (k : Int) ∧ I (k + 1) w') ∨ ((∀ j, j < ns.length → r j = false) ∧ i = -1 ∧ I ns.length w')) := by
  obtain ⟨a, cap, rfl, hcap, -⟩ := hrow 0 w h0
  have HR : Bx (∀ k w', I k w' → Ints w' (.slice a ns.length cap) ns) := ⟨hrow⟩
  have HS := Bx.mk hstep
  have H0 := Bx.mk h0
  obtain ⟨Q, hQ⟩ : ∃ Q : Ending → World → Prop, (fun (e : Ending) (w' : World) => ∃ i : Int, e = .returned (.int .i64 i) ∧ ((∃ k, k < ns.length ∧ (∀ j, j < k → r j = false) ∧ r k = true ∧ i = (k : Int) ∧ I (k + 1) w') ∨ ((∀ j, j < ns.length → r j = false) ∧ i = -1 ∧ I ns.length w'))) = Q := ⟨_, rfl⟩
  rw [hQ]
  have HQ := Bx.mk hQ
  obtain ⟨n, hn⟩ : ∃ n, ns.length = n := ⟨_, rfl⟩
  have HN := Bx.mk hn
  rw [hn] at HR HS hl ⊢
  clear hrow hstep h0 hQ hn hcap
  have hl1 : (n : Int) ≤ 1000000 := by omega
  go_enter Tryd.func103, Tryd.ntmps103
  go_wp2
  go_loopw [5, 8] (fun _ i wr => ∃ k : Nat, k ≤ n ∧ i = .int .i64 (k : Int) ∧ Bx (∀ j, j < k → r j = false) ∧ Bx (I k wr)) (fun _ i _ => n - (intOf i).toNat)
  case atStart => exact ⟨0, Nat.zero_le _, rfl, ⟨fun j hj => absurd hj (Nat.not_lt_zero _)⟩, H0⟩
  case round =>
    obtain ⟨k, hk, rfl, HA, HI⟩ := hrel
    by_cases hlt : k < n
    · have hk1 : (k : Int) < (n : Int) := by omega
      obtain ⟨_, _, hv, _, _, hr⟩ := HR.out k _ HI.out
      injection hv with e1 e2 e3
      clear e2 e3
      subst e1
      obtain ⟨c, o, rfl, hf⟩ := hr (by rw [HN.out]; omega)
      have hc := hf k (by rw [HN.out]; exact hlt)
      have HC := Bx.mk (HS.out k _ hlt HA.out HI.out)
      obtain ⟨x, hx⟩ : ∃ x, ns.getD k 0 = x := ⟨_, rfl⟩
      rw [hx] at HC hc
      clear hf hr hx HI H0
      have HT : Bx (r k = true → ∀ w1, I (k + 1) w1 → Q (.returned (.int .i64 (k : Int))) w1) := Bx.mk (fun h w1 h1 => by
        rw [← HQ.out]
        exact ⟨_, rfl,   .inl ⟨k, (by rw [HN.out]; exact hlt), HA.out, h, rfl, h1⟩⟩)
      cases hq : r k with
      | true =>
        have HE := Bx.mk (HT.out hq)
        have HC2 : Bx _ := HC
        rw [hq] at HC2
        clear HC HT HA hq HR HS HQ
        go_wp2_with (go_at_fn g; refine HC2.out.mono ?_; rintro e w1 ⟨rfl, h1⟩; have H1 := Bx.mk (HE.out w1 h1); clear h1 HE)
        exact H1.out
      | false =>
        have HA2 : Bx (∀ j, j < k + 1 → r j = false) := Bx.mk (fun j hj => by
          by_cases e : j = k
          · subst e; exact hq
          · exact HA.out j (by omega))
        have HC2 : Bx _ := HC
        rw [hq] at HC2
        clear HC HT HA hq HR HS HQ
        go_wp2_with (go_at_fn g; refine HC2.out.mono ?_; rintro e w1 ⟨rfl, h1⟩; have H1 := Bx.mk h1; clear h1)
        go_roundw
        case rel => exact ⟨k + 1, by omega, by go_num, HA2, H1⟩
        case measure => simp [intOf]; omega
    · obtain rfl : k = n := by omega
      have HE : Bx (Q (.returned (.int .i64 (-1))) _) := Bx.mk (by
        rw [← HQ.out]
        exact ⟨_, rfl, .inr ⟨(by rw [HN.out]; exact HA.out), rfl, (by rw [HN.out]; exact HI.out)⟩⟩)
      clear HA HI HR HS HQ H0
      go_wp2
      exact HE.out
/-- Does the function say yes of one? -/
theorem conF_any (ns : List Int) (v : Value) (g : Nat) (lb : Array Value) (r : Nat → Bool) (I : Nat → World → Prop) (w : World) (eg : ∀ args w, (callFunc g args).run Tryd.prog w = .ok (.enter g args) w)
    (h0 : I 0 w) (hl : ns.length ≤ 1000000) (hrow : ∀ k w', I k w' → Ints w' v ns)
    (hstep : ∀ k w', k < ns.length → (∀ j, j < k → r j = false) → I k w' → Calls Tryd.prog g (#[.int .i64 (ns.getD k 0)] ++ lb) w' fun e w'' => e = .returned (.bool (r k)) ∧ I (k + 1) w'') :
    Calls Tryd.prog 85 #[v, .func (.func g) #[] lb] w fun e w' => ∃ z : Bool, e = .returned (.bool z) ∧ ((z = true ∧ ∃ k, k < ns.length ∧ (∀ j, j < k → r j = false) ∧ r k = true ∧ I (k + 1) w') ∨ (z = false ∧ (∀ j, j < ns.length → r j = false) ∧ I ns.length w')) := by
  have HC := Bx.mk (idxF_any ns v g lb r I w eg h0 hl hrow hstep)
  obtain ⟨a, cap, rfl, hcap, -⟩ := hrow 0 w h0
  obtain ⟨Q, hQ⟩ : ∃ Q : Ending → World → Prop, (fun (e : Ending) (w' : World) => ∃ z : Bool, e = .returned (.bool z) ∧ ((z = true ∧ ∃ k, k < ns.length ∧ (∀ j, j < k → r j = false) ∧ r k = true ∧ I (k + 1) w') ∨ (z = false ∧ (∀ j, j < ns.length → r j = false) ∧ I ns.length w'))) = Q := ⟨_, rfl⟩
  rw [hQ]
  have HQ : Bx (∀ (i : Int) (w1 : World), ((∃ k, k < ns.length ∧ (∀ j, j < k → r j = false) ∧ r k = true ∧ i = (k : Int) ∧ I (k + 1) w1) ∨ ((∀ j, j < ns.length → r j = false) ∧ i = -1 ∧ I ns.length w1)) → Q (.returned (.bool (decide (0 ≤ i)))) w1) := Bx.mk (fun i w1 h => by
    rw [← hQ]
    rcases h with ⟨k, h1, h2, h3, rfl, h4⟩ | ⟨h1, rfl, h2⟩
    · exact ⟨_, rfl, .inl ⟨decide_eq_true (by omega), k, h1, h2, h3, h4⟩⟩
    · exact ⟨_, rfl, .inr ⟨rfl, h1, h2⟩⟩)
  clear hQ h0 hrow hstep hcap hl
  go_enter Tryd.func85, Tryd.ntmps85
  go_wp2_with fail
  refine HC.out.mono ?_
  rintro e w1 ⟨i, rfl, h1⟩
  have H1 := Bx.mk (HQ.out i w1 h1)
  clear h1 HQ HC
  go_wp2
  exact H1.out
end Go.Proofs.YtnfgamekjbkbkaaDoor
namespace Go.Proofs.YtnfgamekjbkbkaaDoor
open Go Go.RowKit
theorem inKeyed : Go.Maps.Keyed Tryd.prog 3 := Go.Maps.int_keyed Tryd.underlying3
theorem wf_in' (n : Int) (h : in64 n) : (Lit.int .i64 n).wf = true := by
  unfold in64 at h
  simp [Lit.wf, IntKind.min, IntKind.max, IntKind.signed, IntKind.bits]
  omega
theorem key_in (n : Int) (h : in64 n) : ∃ kl, keyOf Tryd.prog 3 (.int .i64 n) = some kl := ⟨_, Go.Maps.keyOf_int_mk Tryd.underlying3 (wf_in' n h)⟩
/-- A set of numbers, as the list of its entries. -/
structure MapS (W : World) (M : Nat) (l : List Int) : Prop where
  st : ∃ es clock, W.heap[M]? = some (.map es clock) ∧ Go.MapKept.Stamped es clock ∧ es.toList.map (fun e => (e.key, e.val)) = l.map fun n => (Value.int .i64 n, Value.agg #[])
  wf : ∀ x ∈ l, in64 x
theorem set_keys {es : List MapEntry} {l : List Int} (h : es.map (fun e => (e.key, e.val)) = l.map fun n => (Value.int .i64 n, Value.agg #[])) (wf : ∀ x ∈ l, in64 x) : ∀ e ∈ es, ∃ kl, keyOf Tryd.prog 3 e.key = some kl := by
  intro e he
  have h1 : (e.key, e.val) ∈ l.map fun n => (Value.int .i64 n, Value.agg #[]) := by rw [← h]; exact List.mem_map.2 ⟨e, he, rfl⟩
  obtain ⟨x, hx, h2⟩ := List.mem_map.1 h1
  injection h2 with h3 h4
  rw [← h3]
  exact key_in _ (wf x hx)
theorem set_at {es : List MapEntry} {l : List Int} (h : es.map (fun e => (e.key, e.val)) = l.map fun n => (Value.int .i64 n, Value.agg #[])) {j : Nat} {e : MapEntry} (hj : es[j]? = some e) : ∃ x, x ∈ l ∧ e.key = .int .i64 x ∧ e.val = .agg #[] := by
  have h1 : (e.key, e.val) ∈ es.map fun e => (e.key, e.val) := List.mem_map.2 ⟨e, List.mem_of_getElem? hj, rfl⟩
  rw [h] at h1
  obtain ⟨x, hx, h2⟩ := List.mem_map.1 h1
  injection h2 with h3 h4
  exact ⟨x, hx, h3.symm, h4.symm⟩
theorem set_none {es : List MapEntry} {l : List Int} (h : es.map (fun e => (e.key, e.val)) = l.map fun n => (Value.int .i64 n, Value.agg #[])) {c : Int} (hn : ∀ e ∈ es, e.key ≠ .int .i64 c) : c ∉ l := by
  intro hx
  have h1 : (Value.int .i64 c, Value.agg #[]) ∈ es.map fun e => (e.key, e.val) := by rw [h]; exact List.mem_map.2 ⟨c, hx, rfl⟩
  obtain ⟨e, he, h2⟩ := List.mem_map.1 h1
  injection h2 with h3 h4
  exact hn e he h3
set_option maxRecDepth 100000 in
theorem MapS.look {W : World} {M : Nat} {l : List Int} (m : MapS W M l) (c : Int) (h : in64 c) : (Instr.lookup 154 (.map (some M)) (.int .i64 c) true).run Tryd.prog W = .ok (.tuple #[.agg #[], .bool (decide (c ∈ l))]) W := by
  obtain ⟨es, clock, hb, hs, he⟩ := m.st
  obtain ⟨kl, hk⟩ := key_in c h
  rcases inKeyed.find W hk es.toList (set_keys he m.wf) with ⟨h1, h2⟩ | ⟨j, e, h1, h2, h3⟩
  · rw [decide_eq_false (set_none he h2)]
    simp [Instr.lookup, run_underlying Tryd.underlying154, MapKept.run_getObj_map hb, inKeyed.check W _ hk, h1, Result.andThen]
  · obtain ⟨x, hx, h4, h5⟩ := set_at he h2
    have e1 := h4.symm.trans h3
    injection e1 with _ e2
    subst e2
    rw [decide_eq_true hx]
    simp [Instr.lookup, run_underlying Tryd.underlying154, MapKept.run_getObj_map hb, inKeyed.check W _ hk, h1, h5, Result.andThen]
theorem MapS.later {W W1 : World} {M : Nat} {l : List Int} (m : MapS W M l) (h : W1.heap[M]? = W.heap[M]?) : MapS W1 M l := ⟨by rw [h]; exact m.st, m.wf⟩
theorem mapS_made (W : World) : MapS (W.alloc (.map #[] 0)) W.heap.size [] := ⟨⟨#[], 0, hnew _ _ _ rfl, Go.MapKept.stamped_empty 0, rfl⟩, (fun x hx => by cases hx)⟩
theorem setM_grown {W : World} {M : Nat} {es : Array MapEntry} {clock : Nat} (hb : W.heap[M]? = some (.map es clock)) (o : Obj) : W.grownBy (Go.ChangeMaps.setBlock W M o) (some M) := ⟨rfl, rfl, rfl, by simp [Go.ChangeMaps.setBlock], fun i _ hi => ChangeMaps.heap_setBlock_other hb _ (fun e => hi (by rw [e]))⟩
set_option maxRecDepth 100000 in
theorem MapS.put {W : World} {M : Nat} {l : List Int} (m : MapS W M l) (c : Int) (h : in64 c) :
    ∃ W1, (Instr.mapUpdate 154 (.map (some M)) (.int .i64 c) (.agg #[])).run Tryd.prog W = .ok () W1 ∧ (c ∉ l → MapS W1 M (l ++ [c])) ∧ W.grownBy W1 (some M) := by
  obtain ⟨es, clock, hb, hs, he⟩ := m.st
  obtain ⟨kl, hk⟩ := key_in c h
  rcases inKeyed.find W hk es.toList (set_keys he m.wf) with ⟨h1, h2⟩ | ⟨j, e, h1, h2, h3⟩
  · refine ⟨Go.ChangeMaps.setBlock W M (.map (es.push ⟨.int .i64 c, .agg #[], clock⟩) (clock + 1)), ?_, fun hn => ⟨⟨_, _, ChangeMaps.heap_setBlock_same hb _, Go.MapKept.stamped_push hs h2, ?_⟩, ?_⟩, setM_grown hb _⟩
    · simp [Instr.mapUpdate, run_underlying Tryd.underlying154, MapKept.run_getObj_map hb, inKeyed.check W false hk, h1, MapKept.run_setObj_map _ hb, Result.andThen, Go.ChangeMaps.setBlock]
    · simp [he]
    · intro x hx
      rcases List.mem_append.1 hx with hx | hx
      · exact m.wf x hx
      · obtain rfl : x = c := by simpa using hx
        exact h
  · obtain ⟨x, hx, h4, h5⟩ := set_at he h2
    have e1 := h4.symm.trans h3
    injection e1 with _ e2
    subst e2
    refine ⟨Go.ChangeMaps.setBlock W M (.map (es.modify j (fun e' => { e' with key := .int .i64 x, val := .agg #[] })) clock), ?_, fun hn => absurd hx hn, setM_grown hb _⟩
    have hj : es[j]? = some e := by simpa using h2
    simp [Instr.mapUpdate, run_underlying Tryd.underlying154, MapKept.run_getObj_map hb, inKeyed.check W false hk, h1, hj, h3, inKeyed.stays W hk, MapKept.run_setObj_map _ hb, Result.andThen, Go.ChangeMaps.setBlock]
set_option maxRecDepth 100000 in
theorem seen_any (x : Int) (B M : Nat) (l : List Int) (w : World) (hB : w.heap[B]? = some (.cells #[.map (some M)] 154 (0, 0))) (hM : MapS w M l) (hx : in64 x) :
    Calls Tryd.prog 90 #[.int .i64 x, .pointer (some ⟨B, 0, none⟩)] w fun e w' => e = .returned (.bool (decide (x ∈ l))) ∧ w.grownBy w' (some M) ∧ (x ∉ l → MapS w' M (l ++ [x])) := by
  have hMl : M < w.heap.size := by
    obtain ⟨es, clock, hb, _⟩ := hM.st
    exact (Array.getElem?_eq_some_iff.1 hb).1
  have hc : w.cell? ⟨B, 0, none⟩ = some (.map (some M)) := by rw [cell_of_row _ _ _ _ _ _ hB]; rfl
  have hlk := hM.look x hx
  obtain ⟨z, hz⟩ : ∃ z, decide (x ∈ l) = z := ⟨_, rfl⟩
  rw [hz] at hlk ⊢
  have hc2 : (w.alloc (.cells #[] 155)).cell? ⟨B, 0, none⟩ = some (.map (some M)) := by
    rw [cell_of_row _ _ _ _ _ _ ((hold w _ B (Array.getElem?_eq_some_iff.1 hB).1).trans hB)]; rfl
  obtain ⟨w2, hp, hk, hg⟩ := (hM.later (W1 := w.alloc (.cells #[] 155)) (hold _ _ _ hMl)).put x hx
  have HK := Bx.mk hk
  have HG : Bx (w.grownBy w2 (some M)) := ⟨kb_trans (kb_below _ (below_a _)) hg⟩
  clear hM hMl hB hk hg hz
  go_enter Tryd.func90, Tryd.ntmps90
  go_wp2
  go_ret
  exact ⟨rfl, HG.out, HK.out⟩
/-- Does one stand twice? -/
def Dup (l : List Int) : Prop := ∃ k, k < l.length ∧ l.getD k 0 ∈ l.take k
theorem take_snoc (l : List Int) (k : Nat) (h : k < l.length) : l.take (k + 1) = l.take k ++ [l.getD k 0] := by
  rw [List.take_add_one, List.getElem?_eq_getElem h, List.getD_eq_getElem?_getD, List.getElem?_eq_getElem h]
  rfl
theorem mem_in64 {l : List Int} (h : ∀ x ∈ l, in64 x) (k : Nat) (hk : k < l.length) : in64 (l.getD k 0) := by
  rw [List.getD_eq_getElem?_getD, List.getElem?_eq_getElem hk]
  exact h _ (List.getElem_mem hk)
set_option maxRecDepth 100000 in
theorem hasTwice_any (l : List Int) (v : Value) (w : World) (hv : IsL w v l) (hl : l.length ≤ 1000000) (h64 : ∀ x ∈ l, in64 x) :
    Calls Tryd.prog 72 #[v] w fun e w' => ∃ z : Bool, e = .returned (.bool z) ∧ (z = true ↔ Dup l) ∧ Below w.heap.size w w' := by
  obtain ⟨a, cap, hv1⟩ := hv.form
  subst hv1
  have HV := Bx.mk hv
  have H64 := Bx.mk h64
  obtain ⟨W2, hW2⟩ : ∃ W2, ((w.alloc (.map #[] 0)).alloc (.cells #[.map (some w.heap.size)] 154)) = W2 := ⟨_, rfl⟩
  have hs2 : W2.heap.size = w.heap.size + 2 := by rw [← hW2]; simp
  have hbel : Below w.heap.size w W2 := by rw [← hW2]; exact ((Below.refl _ _).alloc (Nat.le_refl _) _).trans ((Below.refl _ _).alloc (by simp) _)
  have hB : W2.heap[w.heap.size + 1]? = some (.cells #[.map (some w.heap.size)] 154 (0, 0)) := by rw [← hW2]; exact hnew _ _ _ (by simp)
  have hM : MapS W2 w.heap.size [] := (mapS_made w).later (by rw [← hW2]; exact hold _ _ _ (by simp))
  have HC : Bx (Calls Tryd.prog 85 #[.slice a l.length cap, .func (.func 90) #[] #[.pointer (some ⟨w.heap.size + 1, 0, none⟩)]] W2 fun e w' => ∃ z : Bool, e = .returned (.bool z) ∧ (z = true ↔ Dup l) ∧ Below w.heap.size w w') := Bx.mk (by
    refine (conF_any l _ 90 #[.pointer (some ⟨w.heap.size + 1, 0, none⟩)] (fun k => decide (l.getD k 0 ∈ l.take k))
      (fun k w' => Below w.heap.size w w' ∧ w.heap.size + 2 ≤ w'.heap.size ∧ w'.heap[w.heap.size + 1]? = some (.cells #[.map (some w.heap.size)] 154 (0, 0)) ∧ ((∀ j, j < k → decide (l.getD j 0 ∈ l.take j) = false) → MapS w' w.heap.size (l.take k))) W2 (fun args w => by kernel_rfl) ⟨hbel, by omega, hB, fun _ => hM⟩ hl ?_ ?_).mono ?_
    · rintro k w' ⟨h1, -⟩
      exact (HV.out.later h1).ints
    · rintro k w' hk hr ⟨h1, h2, h3, h4⟩
      refine (seen_any (l.getD k 0) _ _ (l.take k) w' h3 (h4 hr) (mem_in64 H64.out k hk)).mono ?_
      rintro e w2 ⟨rfl, hg, hm⟩
      refine ⟨rfl, h1.trans (grown_below hg (Nat.le_refl _) (by omega)), by have := hg.size; omega, by rw [hg.block _ (by omega) (fun e => by injection e with e; omega)]; exact h3, fun hq => ?_⟩
      have h5 := hq k (by omega)
      simp only [decide_eq_false_iff_not] at h5
      rw [take_snoc l k hk]
      exact hm h5
    · rintro e w' ⟨z, rfl, ⟨rfl, k, hk, h1, h2, h3⟩ | ⟨rfl, h1, h2⟩⟩
      · exact ⟨_, rfl, ⟨fun _ => ⟨k, hk, of_decide_eq_true h2⟩, fun _ => rfl⟩, h3.1⟩
      · exact ⟨_, rfl, ⟨fun h => (by cases h), fun ⟨k, hk, h⟩ => absurd h (of_decide_eq_false (h1 k hk))⟩, h2.1⟩)
  subst hW2
  have hmk : ∀ W : World, (Instr.makeMap 154 none).run Tryd.prog W = .ok (.map (some W.heap.size)) (W.alloc (.map #[] 0)) := fun W => by kernel_rfl
  clear hs2 hbel hB hM hv h64 HV H64 hl
  go_enter Tryd.func72, Tryd.ntmps72
  go_wp2_with fail
  refine HC.out.mono ?_
  rintro e w1 ⟨z, rfl, hz, hb⟩
  have HZ := Bx.mk hz
  have HBl := Bx.mk hb
  clear hz hb HC
  go_wp2
  go_ret
  exact ⟨z, rfl, HZ.out, HBl.out⟩
end Go.Proofs.YtnfgamekjbkbkaaDoor
namespace Go.Proofs.YtnfgamekjbkbkaaDoor
open Go Go.RowKit
theorem i64s_len (l : List Int) : (i64s l).length = l.length := by simp [i64s]
theorem IsL.cells {W : World} {ad : Addr} {n cap : Nat} {l : List Int} (h : IsL W (.slice (some ad) n cap) l) : ∀ j u, (i64s l)[j]? = some u → W.cell? (ad.add j) = some u := by
  intro j u hu
  have hj : j < l.length := by have := (List.getElem?_eq_some_iff.1 hu).1; simpa [i64s] using this
  obtain ⟨a', cap0, hv, hc, hn, hr⟩ := h
  injection hv with e1 e2 e3
  subst e1
  obtain ⟨c, o, cs, fr, ha, hh, hcs⟩ := hr (by omega)
  injection ha with ha
  subst ha
  rw [Addr.add_lit, cell_of_row _ _ _ _ _ _ hh, hcs j hj, ← i64s_get l j hj]
  exact hu
theorem isL_new (W : World) (l : List Int) (rest : Array Value) (cap : Nat) (hc : l.length ≤ cap) : IsL (W.alloc (.cells ((i64s l).toArray ++ rest) 3)) (.slice (some ⟨W.heap.size, 0, none⟩) l.length cap) l := by
  refine ⟨_, cap, rfl, hc, (fun h => by cases h), fun _ => ⟨W.heap.size, 0, _, _, rfl, hnew _ _ _ rfl, fun i hi => ?_⟩⟩
  rw [Nat.zero_add, Array.getElem?_append_left (by simp [i64s_len]; exact hi)]
  simpa using i64s_get l i hi
set_option maxRecDepth 100000 in
/-- A row that is full, and more behind it: a row of its own. -/
theorem run_longer (w : World) (a : Option Addr) (v2 : Value) (l1 l2 : List Int) (h1 : IsL w (.slice a l1.length l1.length) l1) (h2 : IsL w v2 l2) (hn : l1.length + l2.length ≤ 1000000) (ty : TypeId) :
    ∃ v' w', (Builtin.append_ #[23, 23] ty #[.slice a l1.length l1.length, v2]).run Tryd.prog w = .ok v' w' ∧ IsL w' v' (l1 ++ l2) ∧ Below w.heap.size w w' := by
  have hi : Tryd.prog.info? 3 = some ((Tryd.prog.info? 3).getD default) := by kernel_rfl
  have hz : ((Tryd.prog.info? 3).getD default).zero = some (.int .i64 0) := by kernel_rfl
  have hsz : ((Tryd.prog.info? 3).getD default).size = 1 := by kernel_rfl
  have hby : ((Tryd.prog.info? 3).getD default).bytes = 8 := by kernel_rfl
  generalize (Tryd.prog.info? 3).getD default = inf at hi hz hsz hby
  obtain ⟨a2, c2, rfl, hc2, hn2, hr2⟩ := id h2
  by_cases hl : l2.length = 0
  · have h0 : l2 = [] := List.eq_nil_of_length_eq_zero hl
    subst h0
    rw [List.append_nil]
    refine ⟨_, w, ?_, h1, Below.refl _ _⟩
    have hrun : ∀ W : World, (Builtin.firstCells inf.size 0 (.slice a2 0 c2)).run Tryd.prog W = .ok #[] W := fun W => by
      cases a2 with
      | none => simpa using run_firstCells_none (P := Tryd.prog) W inf.size 0 0 c2
      | some ad => simpa using run_firstCells_some (P := Tryd.prog) W inf.size 0 ad 0 c2 [] (by simp) (by simp)
    cases a <;> simp [Builtin.append_, run_underlying Tryd.underlying23, sizeOf, typeInfo, hi, Builtin.lenOf, hrun, storeCells]
  · obtain ⟨c, o, cs, fr, rfl, hh, hcs⟩ := hr2 (by omega)
    have hcells := h2.cells
    rcases a with _ | ad
    · have hl1 : l1.length = 0 := by
        obtain ⟨a', cap0, hv, _, hn', _⟩ := h1
        injection hv with e1 e2 e3
        rw [← e3] at hn'
        exact hn' e1.symm
      have h10 : l1 = [] := List.eq_nil_of_length_eq_zero hl1
      subst h10
      have hrun := run_append_nil (P := Tryd.prog) (w := w) 23 ty 3 inf _ Tryd.underlying23 hi hz ⟨c, o, none⟩ l2.length c2 (i64s l2) (by rw [i64s_len, hsz]; omega) hcells (by omega) (by omega) (by rw [hby]; omega)
      refine ⟨_, _, hrun, ?_, (Below.refl _ _).drew.trans ((Below.refl _ _).alloc (by simp) _)⟩
      exact isL_new w.drew l2 _ _ (grownCap_ge w _ _ _)
    · have hcells1 := h1.cells
      have hrun := run_append_grow (P := Tryd.prog) (w := w) 23 ty 3 inf _ Tryd.underlying23 hi hz ad l1.length l1.length (i64s l1) (by rw [i64s_len, hsz]; omega) hcells1 ⟨c, o, none⟩ l2.length c2 (i64s l2) (by rw [i64s_len, hsz]; omega) hcells (by omega) (by omega)
        (growslice_fits (by omega) (by rw [hby]; omega))
      refine ⟨_, _, hrun, ?_, (Below.refl _ _).drew.trans ((Below.refl _ _).alloc (by simp) _)⟩
      have := isL_new w.drew (l1 ++ l2) (Builtin.zeroCells (Value.int .i64 0).cells (grownCap w (l1.length + l2.length) l1.length 3 - (l1.length + l2.length))) (grownCap w (l1.length + l2.length) l1.length 3) (by rw [List.length_append]; exact grownCap_ge w _ _ _)
      rw [List.length_append] at this
      rw [show (i64s l1).toArray ++ (i64s l2).toArray = (i64s (l1 ++ l2)).toArray by simp [i64s]]
      exact this
set_option maxRecDepth 100000 in
theorem cut_three_i (a : Option Addr) (n cap m : Nat) (hc : m ≤ cap) (W : World) : (Instr.slice 23 (.slice a n cap) none (some (.int .i64 (m : Int))) (some (.int .i64 (m : Int)))).run Tryd.prog W = .ok (.slice a m m) W := by
  have he : Tryd.prog.elem 23 = 3 := by kernel_rfl
  have hs : ((sizeOf 3).run Tryd.prog W) = .ok 1 W := by kernel_rfl
  rw [run_slice_hm W 23 a n cap (by rw [he]; exact Tryd.underlying23) .i64 .i64 (m : Int) (m : Int) (by omega) (by omega) (by omega), he, hs]
  simp only [Result.andThen, sliced, Int.toNat_natCast, Nat.zero_mul, Nat.sub_zero]
  congr 2
  rcases a with _ | ad
  · simp
  · simp [Addr.add]
/-- At the list of a plain region's operations. -/
theorem wpList_longer {w : World} {ops : Array Oper} {rest : List Oper} {o : Oper} {a : Act} {Q : Exit → Act → World → Prop} (hgd : o.guard = none) (s x : Operand)
    (ho : o.op = .call { callee := .builtin .append, args := #[s, x], argTypes := #[23, 23] }) (a0 : Option Addr) (v2 : Value) (l1 l2 : List Int) (hs : a.eval s = .slice a0 l1.length l1.length) (hx : a.eval x = v2)
    (h1 : IsL w (.slice a0 l1.length l1.length) l1) (h2 : IsL w v2 l2) (hn : l1.length + l2.length ≤ 1000000)
    (h : ∀ v' w', IsL w' v' (l1 ++ l2) → Below w.heap.size w w' → wpList Tryd.prog ops Q rest (a.put o.dst v') w') : wpList Tryd.prog ops Q (o :: rest) a w := by
  refine wpList_plain hgd fun K hK => ?_
  obtain ⟨v', w', hrun, h1, h2⟩ := run_longer w a0 v2 l1 l2 h1 h2 hn o.type
  unfold Oper.wp
  simp [execOp, ho, resolve, invoke, builtin, hs, hx, hrun, Result.andThen]
  exact hK _ _ (h v' w' h1 h2)
set_option maxRecDepth 100000 in
theorem longer_any (l1 l2 : List Int) (v1 v2 : Value) (w : World) (h1 : IsL w v1 l1) (h2 : IsL w v2 l2) (hn : l1.length + l2.length ≤ 1000000) :
    Calls Tryd.prog 71 #[v1, v2] w fun e w' => ∃ v, e = .returned v ∧ IsL w' v (l1 ++ l2) ∧ Below w.heap.size w w' := by
  obtain ⟨a, cap, rfl, hc, hn1, hr1⟩ := id h1
  have hcut := fun W => cut_three_i a l1.length cap l1.length hc W
  have h1' : IsL w (.slice a l1.length l1.length) l1 := by
    have := h1.cut l1.length (Nat.le_refl _) l1.length (Nat.le_refl _) (fun e => by have := hn1 e; omega)
    rw [List.take_length] at this
    exact this
  obtain ⟨a2, cap2, hv2⟩ := h2.form
  subst hv2
  have H1 := Bx.mk h1'
  have H2 := Bx.mk h2
  have HN := Bx.mk hn
  clear h1 h1' h2 hn hc hn1 hr1
  go_enter Tryd.func71, Tryd.ntmps71
  go_wp2_with (refine wpList_longer rfl _ _ rfl a _ l1 l2 rfl rfl H1.out H2.out HN.out ?_; intro v' w' hl hb; have HL := Bx.mk hl; have HB := Bx.mk hb; clear hl hb H1 H2 HN)
  go_ret
  exact ⟨_, rfl, HL.out, HB.out⟩
theorem isSeed_any (n : Int) (w : World) : Calls Tryd.prog 69 #[.int .i64 n] w fun e w' => e = .returned (.bool (decide (0 ≤ n ∧ n < 4))) ∧ w' = w := by
  by_cases h1 : n < 0
  · go_enter Tryd.func69, Tryd.ntmps69
    go_wp2
    go_ret
    refine ⟨ret_bool ?_, rfl⟩
    simp; omega
  · go_enter Tryd.func69, Tryd.ntmps69
    go_wp2
    go_ret
    refine ⟨ret_bool ?_, rfl⟩
    simp
    try omega
/-- Are all of them serials? -/
def allS (l : List Int) : Bool := l.all okS
theorem allSerials_any (l : List Int) (v : Value) (w : World) (hv : IsL w v l) (hl : l.length ≤ 1000000) :
    Calls Tryd.prog 70 #[v] w fun e w' => e = .returned (.bool (allS l)) ∧ Below w.heap.size w w' := by
  obtain ⟨z, hz⟩ : ∃ z, allS l = z := ⟨_, rfl⟩
  rw [hz]
  have HC : Bx (Calls Tryd.prog 85 #[v, .func (.func 89) #[] #[]] w fun e w' => e = .returned (.bool (!z)) ∧ Below w.heap.size w w') := Bx.mk (by
    refine (conF_any l v 89 #[] (fun k => !okS (l.getD k 0)) (fun _ w' => Below w.heap.size w w') w (fun args w => by kernel_rfl) (Below.refl _ _) hl ?_ ?_).mono ?_
    · intro k w' h1
      exact (hv.later h1).ints
    · intro k w' hk hr h1
      refine (serial_any (l.getD k 0) w').mono ?_
      rintro e w2 ⟨rfl, rfl⟩
      exact ⟨rfl, h1⟩
    · rintro e w' ⟨y, rfl, ⟨rfl, k, hk, h1, h2, h3⟩ | ⟨rfl, h1, h2⟩⟩
      · refine ⟨?_, h3⟩
        have : z = false := by
          rw [← hz]
          unfold allS
          rw [List.all_eq_false]
          refine ⟨l.getD k 0, ?_, by simpa using h2⟩
          rw [List.getD_eq_getElem?_getD, List.getElem?_eq_getElem hk]
          exact List.getElem_mem hk
        rw [this]
        rfl
      · refine ⟨?_, h2⟩
        have : z = true := by
          rw [← hz]
          unfold allS
          rw [List.all_eq_true]
          intro x hx
          obtain ⟨k, hk, rfl⟩ := List.getElem_of_mem hx
          have := h1 k hk
          rw [List.getD_eq_getElem?_getD, List.getElem?_eq_getElem hk] at this
          simpa using this
        rw [this]
        rfl)
  clear hv hl hz
  go_enter Tryd.func70, Tryd.ntmps70
  go_wp2_with fail
  refine HC.out.mono ?_
  rintro e w1 ⟨rfl, hb⟩
  go_wp2
  go_ret
  exact ⟨ret_bool (by simp), hb⟩
end Go.Proofs.YtnfgamekjbkbkaaDoor
namespace Go.Proofs.YtnfgamekjbkbkaaDoor
open Go Go.RowKit
/-- Four versions. -/
structure V4 where
  a : Int
  b : Int
  c : Int
  d : Int
deriving DecidableEq
def V4.v (x : V4) : Value := .agg #[.int .i64 x.a, .int .i64 x.b, .int .i64 x.c, .int .i64 x.d]
def joinV (x y : V4) : V4 := ⟨max x.a y.a, max x.b y.b, max x.c y.c, max x.d y.d⟩
/-- Is none of the first below the second? -/
def covV (x y : V4) : Bool := decide (y.a ≤ x.a ∧ y.b ≤ x.b ∧ y.c ≤ x.c ∧ y.d ≤ x.d)
theorem idxV0 (p q r s : Int) (W : World) : (Instr.index 28 (.agg #[.int .i64 p, .int .i64 q, .int .i64 r, .int .i64 s]) (.int .i64 0)).run Tryd.prog W = .ok (.int .i64 p) W := by kernel_rfl
theorem idxV1 (p q r s : Int) (W : World) : (Instr.index 28 (.agg #[.int .i64 p, .int .i64 q, .int .i64 r, .int .i64 s]) (.int .i64 1)).run Tryd.prog W = .ok (.int .i64 q) W := by kernel_rfl
theorem idxV2 (p q r s : Int) (W : World) : (Instr.index 28 (.agg #[.int .i64 p, .int .i64 q, .int .i64 r, .int .i64 s]) (.int .i64 2)).run Tryd.prog W = .ok (.int .i64 r) W := by kernel_rfl
theorem idxV3 (p q r s : Int) (W : World) : (Instr.index 28 (.agg #[.int .i64 p, .int .i64 q, .int .i64 r, .int .i64 s]) (.int .i64 3)).run Tryd.prog W = .ok (.int .i64 s) W := by kernel_rfl
set_option maxRecDepth 100000 in
set_option maxHeartbeats 1000000 in
theorem join_any8 (x y : V4) (w : World) : Calls Tryd.prog 75 #[x.v, y.v] w fun e w' => e = .returned (joinV x y).v ∧ Below w.heap.size w w' := by
  obtain ⟨a, b, c, d⟩ := x
  obtain ⟨p, q, r, s⟩ := y
  simp only [V4.v, joinV]
  have i0 := idxV0 p q r s
  have i1 := idxV1 p q r s
  have i2 := idxV2 p q r s
  have i3 := idxV3 p q r s
  go_enter Tryd.func75, Tryd.ntmps75
  go_wp2
  refine wp_loop_rounds 5 ?_
  rw [rounds_succ]
  go_wp2
  rw [rounds_succ]
  go_wp2
  rw [rounds_succ]
  go_wp2
  rw [rounds_succ]
  go_wp2
  rw [rounds_succ]
  go_wp2
  refine bodyPost_ret (results_cell_row rfl _ _ (w.heap.size + 1 + 1) _ _ _ _ rfl (hnew _ _ _ (by simp)) Tryd.underlying28 rfl (by kernel_rfl)) rfl ?_
  refine ⟨rfl, ?_⟩
  exact (((Below.refl _ _).alloc (Nat.le_refl _) _).alloc (by simp) _).alloc (by simp; omega) _
/-- Cells of numbers, compared. -/
def i64c (n : Int) : Value := .int .i64 n
theorem all_range_eqI : ∀ (xs ys : List Int), xs.length = ys.length → ((List.range xs.length).all fun i => xs.getD i 0 == ys.getD i 0) = (xs == ys)
  | [], [], _ => rfl
  | x :: xs, y :: ys, h => by
    have ih := all_range_eqI xs ys (by simpa using h)
    rw [List.length_cons, List.range_succ_eq_map, List.all_cons, List.all_map]
    simp only [List.getD_cons_zero, Function.comp_def, List.getD_cons_succ, ih]
    simp [List.cons_beq_cons]
  | [], _ :: _, h => by simp at h
  | _ :: _, [], h => by simp at h
theorem equalIn_ints {P : Program} (w : World) (d : Nat) (t e : TypeId) (n : Nat) (ht : P.underlying t = some (.array n e)) (he : P.underlying e = some (.int .i64)) (hsz : ∀ w, (sizeOf e).run P w = .ok 1 w)
    (xs ys : List Int) (hx : xs.length = n) (hy : ys.length = n) :
    (Op.equalIn (d + 2) t (.agg (xs.map i64c).toArray) (.agg (ys.map i64c).toArray)).run P w = .ok (xs == ys) w := by
  rw [← all_range_eqI xs ys (hx.trans hy.symm), hx, List.range_eq_range', Op.equalIn]
  simp only [Sem.run_bind, run_underlying ht, Result.andThen_ok, hsz, Std.Legacy.Range.forIn_eq_forIn_range', Std.Legacy.Range.size, Nat.sub_zero, Nat.add_sub_cancel, Nat.div_one]
  have hl : ∀ i ∈ List.range' 0 n 1, i < n := fun i hi => by simpa using (List.mem_range'_1.1 hi).2
  generalize List.range' 0 n 1 = l at hl ⊢
  induction l with
  | nil => simp
  | cons i l ih =>
    have hi : i < n := hl i (by simp)
    have px : (part e (xs.map i64c).toArray (i * 1)).run P w = .ok (i64c (xs.getD i 0)) w := by
      simp [part, isAgg, run_underlying he, List.getD, List.getElem?_eq_getElem (show i < xs.length by omega)]
    have py : (part e (ys.map i64c).toArray (i * 1)).run P w = .ok (i64c (ys.getD i 0)) w := by
      simp [part, isAgg, run_underlying he, List.getD, List.getElem?_eq_getElem (show i < ys.length by omega)]
    have pe : (Op.equalIn (d + 1) e (i64c (xs.getD i 0)) (i64c (ys.getD i 0))).run P w = .ok (xs.getD i 0 == ys.getD i 0) w := by
      rw [i64c, i64c, run_equalIn_int w d e .i64 .i64 _ _ he]
      try congr 1
    simp only [List.forIn_cons, Sem.run_bind, px, py, pe, Result.andThen_ok, List.all_cons]
    cases hb : (xs.getD i 0 == ys.getD i 0)
    · simp
    · simp only [Bool.not_true, Bool.false_eq_true, if_false, Sem.run_pure, Result.andThen_ok, Bool.true_and]
      exact ih fun j hj => hl j (by simp [hj])
theorem i_size (W : World) : (sizeOf 3).run Tryd.prog W = .ok 1 W := by kernel_rfl
theorem vers_eql (a b c d p q r s : Int) (W : World) : (binOp BinOp.eql 28 (.agg #[.int .i64 a, .int .i64 b, .int .i64 c, .int .i64 d]) (.agg #[.int .i64 p, .int .i64 q, .int .i64 r, .int .i64 s])).run Tryd.prog W = .ok (.bool ([a, b, c, d] == [p, q, r, s])) W := by
  have h := equalIn_ints (P := Tryd.prog) W 9998 28 3 4 Tryd.underlying28 Tryd.underlying3 i_size [a, b, c, d] [p, q, r, s] rfl rfl
  rw [run_eql_struct]
  exact (congrArg (fun z => z.andThen fun b w' => Result.ok (Value.bool b) w') h).trans rfl
theorem cov_join (x y : V4) : ([(joinV x y).a, (joinV x y).b, (joinV x y).c, (joinV x y).d] == [x.a, x.b, x.c, x.d]) = covV x y := by
  obtain ⟨a, b, c, d⟩ := x
  obtain ⟨p, q, r, s⟩ := y
  unfold covV joinV
  rw [Bool.eq_iff_iff]
  simp
  omega
set_option maxRecDepth 100000 in
theorem covers_any8 (x y : V4) (w : World) : Calls Tryd.prog 44 #[x.v, y.v] w fun e w' => e = .returned (.bool (covV x y)) ∧ Below w.heap.size w w' := by
  have HC := Bx.mk (join_any8 x y)
  have heq : ∀ W : World, (binOp BinOp.eql 28 (joinV x y).v x.v).run Tryd.prog W = .ok (.bool (covV x y)) W := fun W => by
    rw [← cov_join]
    exact vers_eql _ _ _ _ _ _ _ _ W
  generalize covV x y = z at *
  generalize joinV x y = u at *
  simp only [V4.v] at *
  obtain ⟨E, hE⟩ : ∃ E, w.heap.size = E := ⟨_, rfl⟩
  have K0 : Bx (KR w E [(E + 1, .cells (List.toArray [.int .i64 y.a, .int .i64 y.b, .int .i64 y.c, .int .i64 y.d]) 28), (E, .cells (List.toArray [.int .i64 x.a, .int .i64 x.b, .int .i64 x.c, .int .i64 x.d]) 28)] ((w.alloc (.cells #[.int .i64 x.a, .int .i64 x.b, .int .i64 x.c, .int .i64 x.d] 28)).alloc (.cells #[.int .i64 y.a, .int .i64 y.b, .int .i64 y.c, .int .i64 y.d] 28))) := Bx.mk (by
    subst hE
    have h := ((KR.start w).new (.cells #[.int .i64 x.a, .int .i64 x.b, .int .i64 x.c, .int .i64 x.d] 28)).new (.cells #[.int .i64 y.a, .int .i64 y.b, .int .i64 y.c, .int .i64 y.d] 28)
    simpa using h)
  have HK : Bx (∀ W, KR w E [(E + 1, .cells (List.toArray [.int .i64 y.a, .int .i64 y.b, .int .i64 y.c, .int .i64 y.d]) 28), (E, .cells (List.toArray [.int .i64 x.a, .int .i64 x.b, .int .i64 x.c, .int .i64 x.d]) 28)] W →
      W.rangeAt E 0 [.int .i64 x.a, .int .i64 x.b, .int .i64 x.c, .int .i64 x.d] ∧ W.rangeAt (E + 1) 0 [.int .i64 y.a, .int .i64 y.b, .int .i64 y.c, .int .i64 y.d]) := Bx.mk fun W h =>
    ⟨row_rng8 (h.rows _ (.tail _ (.head _))), row_rng8 (h.rows _ (.head _))⟩
  rw [hE]
  go_enter Tryd.func44, Tryd.ntmps44
  go_upto_region 1 with fail
  generalize ((w.alloc (.cells #[.int .i64 x.a, .int .i64 x.b, .int .i64 x.c, .int .i64 x.d] 28)).alloc (.cells #[.int .i64 y.a, .int .i64 y.b, .int .i64 y.c, .int .i64 y.d] 28)) = w0 at *
  have R0 := Bx.mk K0.out.drew
  clear K0
  refine wp_region_noPanic ?_
  refine wp_region_held_drew (S := fun W => W.rangeAt E 0 [.int .i64 x.a, .int .i64 x.b, .int .i64 x.c, .int .i64 x.d] ∧ W.rangeAt (E + 1) 0 [.int .i64 y.a, .int .i64 y.b, .int .i64 y.c, .int .i64 y.d]) (by kernel_rfl) (HK.out _ R0.out) (fun hHeld => ?_)
  generalize w0.drew = W0 at *
  refine takeL 0 rfl (by kernel_rfl) (by kernel_rfl) (by kernel_rfl) (fun _ _ _ h => h) (yieldsIf_load_mid (by rfl) _ _ rfl _ _ rfl _ _ (fun w hSw => hSw.1) Tryd.underlying28 rfl (by kernel_rfl)) hHeld ?_
  try simp only [Act.put, List.setIfInBounds_toArray, List.set_cons_zero, List.set_cons_succ]
  refine takeL 1 rfl (by kernel_rfl) (by kernel_rfl) (by kernel_rfl) (fun _ _ _ h => h) (yieldsIf_load_mid (by rfl) _ _ rfl _ _ rfl _ _ (fun w hSw => hSw.2) Tryd.underlying28 rfl (by kernel_rfl)) hHeld ?_
  try simp only [Act.put, List.setIfInBounds_toArray, List.set_cons_zero, List.set_cons_succ]
  refine takeL 3 rfl (by kernel_rfl) (by kernel_rfl) (by kernel_rfl) (fun _ _ _ h => h) (yieldsIf_load_mid (by rfl) _ _ rfl _ _ rfl _ _ (fun w hSw => hSw.1) Tryd.underlying28 rfl (by kernel_rfl)) hHeld ?_
  try simp only [Act.put, List.setIfInBounds_toArray, List.set_cons_zero, List.set_cons_succ]
  refine stepL 2 (by kernel_rfl) rfl (fun K hK => ?_)
  go_simp
  refine (HC.out W0).mono ?_
  rintro e W1 ⟨rfl, hb⟩
  show K _ _
  have R1 := Bx.mk (R0.out.later hb)
  clear hb
  refine hK.out _ _ (HK.out _ R1.out) (fun hHeld => ?_)
  clear hK K
  try simp only [Act.put, List.setIfInBounds_toArray, List.set_cons_zero, List.set_cons_succ]
  refine takeL 4 (v := ?_) rfl (by kernel_rfl) (by kernel_rfl) (by kernel_rfl) (fun _ _ _ h => h) (Or.inl ⟨by rfl, ?_⟩) hHeld ?_
  rotate_left 1
  · (intro w hSw; have h := heq w; go_simp; try with_reducible rfl)
  try simp only [Act.put, List.setIfInBounds_toArray, List.set_cons_zero, List.set_cons_succ]
  refine takeL 5 (v := ?_) rfl (by kernel_rfl) (by kernel_rfl) (by kernel_rfl) (fun _ _ _ h => h) (Or.inl ⟨by rfl, ?_⟩) hHeld ?_
  rotate_left 1
  · (intro w hSw; go_simp; try with_reducible rfl)
  try simp only [Act.put, List.setIfInBounds_toArray, List.set_cons_zero, List.set_cons_succ]
  refine wpAnyH_done (by kernel_rfl) ?_ _
  refine NoPanic.normal ?_
  clear hHeld
  go_wp2
  go_ret
  exact ⟨rfl, R1.out.below⟩
end Go.Proofs.YtnfgamekjbkbkaaDoor
namespace Go.Proofs.YtnfgamekjbkbkaaDoor
open Go Go.RowKit
/-- A part of a slice. -/
def sl (a : Option Addr) (cap lo hi : Nat) : Value := .slice (if cap = lo then a else a.map (·.add lo)) (hi - lo) (cap - lo)
set_option maxRecDepth 100000 in
theorem cut_lh (a : Option Addr) (n cap lo hi : Nat) (h1 : lo ≤ hi) (h2 : hi ≤ cap) (W : World) : (Instr.slice 23 (.slice a n cap) (some (.int .i64 (lo : Int))) (some (.int .i64 (hi : Int))) none).run Tryd.prog W = .ok (sl a cap lo hi) W := by
  have he : Tryd.prog.elem 23 = 3 := by kernel_rfl
  have hs : ((sizeOf 3).run Tryd.prog W) = .ok 1 W := by kernel_rfl
  rw [run_slice_lh W 23 a n cap (by rw [he]; exact Tryd.underlying23) .i64 .i64 (lo : Int) (hi : Int) (by omega) (by omega) (by omega), he, hs]
  simp only [Result.andThen, sliced, Int.toNat_natCast, Nat.mul_one, sl]
set_option maxRecDepth 100000 in
theorem cut_h (a : Option Addr) (n cap hi : Nat) (h2 : hi ≤ cap) (W : World) : (Instr.slice 23 (.slice a n cap) none (some (.int .i64 (hi : Int))) none).run Tryd.prog W = .ok (.slice a hi cap) W := by
  have he : Tryd.prog.elem 23 = 3 := by kernel_rfl
  have hs : ((sizeOf 3).run Tryd.prog W) = .ok 1 W := by kernel_rfl
  rw [run_slice_h W 23 a n cap (by rw [he]; exact Tryd.underlying23) .i64 (hi : Int) (by omega) (by omega), he, hs]
  simp only [Result.andThen, sliced, Int.toNat_natCast, Nat.zero_mul, Nat.sub_zero]
  congr 2
  rcases a with _ | ad
  · simp
  · simp [Addr.add]
set_option maxRecDepth 100000 in
theorem cut_l (a : Option Addr) (n cap lo : Nat) (h1 : lo ≤ n) (W : World) : (Instr.slice 23 (.slice a n cap) (some (.int .i64 (lo : Int))) none none).run Tryd.prog W = .ok (sl a cap lo n) W := by
  have he : Tryd.prog.elem 23 = 3 := by kernel_rfl
  have hs : ((sizeOf 3).run Tryd.prog W) = .ok 1 W := by kernel_rfl
  rw [run_slice_l W 23 a n cap (by rw [he]; exact Tryd.underlying23) .i64 (lo : Int) (by omega) (by omega), he, hs]
  simp only [Result.andThen, sliced, Int.toNat_natCast, Nat.mul_one, sl]
theorem IsL.part {W : World} {a : Option Addr} {n cap : Nat} {l : List Int} (h : IsL W (.slice a n cap) l) (lo hi : Nat) (h1 : lo ≤ hi) (h2 : hi ≤ n) : IsL W (sl a cap lo hi) ((l.take hi).drop lo) := by
  obtain ⟨a', cap0, hv, hc, hn, hr⟩ := h
  injection hv with e1 e2 e3
  subst e1 e2 e3
  unfold sl
  have hlen : ((l.take hi).drop lo).length = hi - lo := by rw [List.length_drop, List.length_take]; omega
  rcases a with _ | ad
  · have := hn rfl
    refine ⟨none, cap - lo, by rw [hlen]; simp, by rw [hlen]; omega, fun _ => by omega, fun hp => by omega⟩
  · by_cases hcl : cap = lo
    · rw [if_pos hcl]
      exact ⟨some ad, cap - lo, by rw [hlen], by rw [hlen]; omega, (fun h => by cases h), fun hp => by omega⟩
    · rw [if_neg hcl]
      refine ⟨some (ad.add lo), cap - lo, by rw [hlen]; rfl, by rw [hlen]; omega, (fun h => by cases h), fun hp => ?_⟩
      obtain ⟨c, o, cs, fr, ha, hh, hcs⟩ := hr (by omega)
      injection ha with ha
      subst ha
      refine ⟨c, o + lo, cs, fr, by rw [Addr.add_lit], hh, fun i hi' => ?_⟩
      rw [hlen] at hi'
      rw [Nat.add_assoc, hcs (lo + i) (by omega)]
      simp [List.getD_eq_getElem?_getD, List.getElem?_drop, show lo + i < hi by omega]
theorem ext_getI {a b : List Int} (hl : a.length = b.length) (h : ∀ i, i < a.length → a.getD i 0 = b.getD i 0) : a = b := by
  apply List.ext_getElem hl
  intro i h1 h2
  have := h i h1
  rwa [List.getD_eq_getElem?_getD, List.getD_eq_getElem?_getD, List.getElem?_eq_getElem h1, List.getElem?_eq_getElem h2] at this
theorem drewN_below {B : Nat} {w W : World} (h : Below B w W) (n : Nat) : Below B w (W.drewN n) := ⟨h.os, h.tape, h.output, h.size, h.block⟩
set_option maxRecDepth 100000 in
set_option maxHeartbeats 1000000 in
/-- slices.Equal. -/
theorem equal_any8 (l1 l2 : List Int) (v1 v2 : Value) (w : World) (h1 : IsL w v1 l1) (h2 : IsL w v2 l2) (hl1 : l1.length ≤ 1000000) (hl2 : l2.length ≤ 1000000) :
    Calls Tryd.prog 105 #[v1, v2] w fun e w' => e = .returned (.bool (decide (l1 = l2))) ∧ Below w.heap.size w w' := by
  obtain ⟨z, hz⟩ : ∃ z, decide (l1 = l2) = z := ⟨_, rfl⟩
  rw [hz]
  obtain ⟨a, ca, hv1⟩ := h1.form
  obtain ⟨b, cb, hv2⟩ := h2.form
  subst hv1 hv2
  have H1 : Bx (∀ W, Below w.heap.size w W → Ints W (.slice a l1.length ca) l1) := ⟨fun W h => (h1.later h).ints⟩
  have H2 : Bx (∀ W, Below w.heap.size w W → Ints W (.slice b l2.length cb) l2) := ⟨fun W h => (h2.later h).ints⟩
  have HE : Bx (l1.length = l2.length → (∀ i, i < l1.length → l1.getD i 0 = l2.getD i 0) → z = true) := ⟨fun h h' => by rw [← hz]; exact decide_eq_true (ext_getI h h')⟩
  have HN : Bx (l1.length ≠ l2.length → z = false) := ⟨fun h => by rw [← hz]; exact decide_eq_false (fun e => h (by rw [e]))⟩
  have HM : Bx (∀ k : Nat, l1.getD k 0 ≠ l2.getD k 0 → z = false) := ⟨fun k h => by rw [← hz]; exact decide_eq_false (fun e => h (by rw [e]))⟩
  clear hz
  obtain ⟨n, hn⟩ : ∃ n, l1.length = n := ⟨_, rfl⟩
  obtain ⟨m, hm⟩ : ∃ m, l2.length = m := ⟨_, rfl⟩
  have HL1 := Bx.mk hn
  have HL2 := Bx.mk hm
  rw [hn] at hl1 H1 HE HN ⊢
  rw [hm] at hl2 H2 HE HN ⊢
  clear h1 h2 hn hm
  by_cases hnm : n = m
  · subst hnm
    have HE2 : Bx ((∀ i, i < n → l1.getD i 0 = l2.getD i 0) → z = true) := ⟨HE.out rfl⟩
    clear HE
    have hn1 : (n : Int) ≤ 1000000 := by omega
    have B0 := Bx.mk (Below.refl w.heap.size w)
    go_enter Tryd.func105, Tryd.ntmps105
    go_wp2
    go_loopw [13] (fun i wr => ∃ k : Nat, k ≤ n ∧ i = .int .i64 (k : Int) ∧ Bx (∀ j, j < k → l1.getD j 0 = l2.getD j 0) ∧ Bx (Below w.heap.size w wr)) (fun i _ => n - (intOf i).toNat)
    case atStart => exact ⟨0, Nat.zero_le _, rfl, ⟨fun j hj => absurd hj (Nat.not_lt_zero _)⟩, B0⟩
    case round =>
      obtain ⟨k, hk, rfl, HA, HB⟩ := hrel
      clear B0
      by_cases hlt : k < n
      · have hk1 : (k : Int) < (n : Int) := by omega
        have hk0 : (0 : Int) ≤ (k : Int) := by omega
        obtain ⟨_, _, hv, _, _, hr⟩ := H1.out _ HB.out
        injection hv with e1 e2 e3
        subst e1
        clear e2 e3
        obtain ⟨c, o, rfl, hf⟩ := hr (by rw [HL1.out]; omega)
        have hc := hf k (by rw [HL1.out]; exact hlt)
        obtain ⟨_, _, hv, _, _, hr⟩ := H2.out _ HB.out
        injection hv with e1 e2 e3
        subst e1
        clear e2 e3
        obtain ⟨c2, o2, rfl, hf2⟩ := hr (by rw [HL2.out]; omega)
        have hc2 := hf2 k (by rw [HL2.out]; exact hlt)
        obtain ⟨x, hx⟩ : ∃ x, l1.getD k 0 = x := ⟨_, rfl⟩
        obtain ⟨y, hy⟩ : ∃ y, l2.getD k 0 = y := ⟨_, rfl⟩
        have HX := Bx.mk hx
        have HY := Bx.mk hy
        rw [hx] at hc
        rw [hy] at hc2
        clear hf hf2 hr hx hy
        by_cases hxy : x = y
        · subst hxy
          go_wp2
          go_quiet (fail)
          go_wp2
          go_roundw
          case rel => exact ⟨k + 1, by omega, by go_num, ⟨fun j hj => by
            by_cases e : j = k
            · subst e; rw [HX.out, HY.out]
            · exact HA.out j (by omega)⟩, ⟨drewN_below HB.out _⟩⟩
          case measure => simp [intOf]; omega
        · have HZ := Bx.mk (HM.out k (by rw [HX.out, HY.out]; exact hxy))
          clear HM HN HE2
          go_wp2
          go_quiet (fail)
          go_wp2
          go_ret
          exact ⟨by rw [HZ.out]; rfl, drewN_below HB.out _⟩
      · obtain rfl : k = n := by omega
        go_wp2
        go_ret
        exact ⟨by rw [HE2.out HA.out]; rfl, HB.out⟩
  · have hnm' : (n : Int) ≠ (m : Int) := by omega
    go_enter Tryd.func105, Tryd.ntmps105
    go_wp2
    go_ret
    exact ⟨by rw [HN.out hnm]; rfl, Below.refl _ _⟩
end Go.Proofs.YtnfgamekjbkbkaaDoor
namespace Go.Proofs.YtnfgamekjbkbkaaDoor
open Go Go.RowKit
/-- Four logs, and the slices that hold them. -/
structure L4 where
  a : List Int
  b : List Int
  c : List Int
  d : List Int
deriving DecidableEq
structure VV where
  a : Value
  b : Value
  c : Value
  d : Value
def L4.nil : L4 := ⟨[], [], [], []⟩
def L4.ver (l : L4) : V4 := ⟨(l.a.length : Int), (l.b.length : Int), (l.c.length : Int), (l.d.length : Int)⟩
def VV.v (x : VV) : Value := .agg #[x.a, x.b, x.c, x.d]
def VV.nil : VV := ⟨.slice none 0 0, .slice none 0 0, .slice none 0 0, .slice none 0 0⟩
structure Rows4 (W : World) (x : VV) (l : L4) : Prop where
  a : IsL W x.a l.a
  b : IsL W x.b l.b
  c : IsL W x.c l.c
  d : IsL W x.d l.d
theorem Rows4.nil (W : World) : Rows4 W VV.nil L4.nil := ⟨IsL.nil _, IsL.nil _, IsL.nil _, IsL.nil _⟩
theorem Rows4.later {W W1 : World} {x : VV} {l : L4} (h : Rows4 W x l) (hb : Below W.heap.size W W1) : Rows4 W1 x l := ⟨h.a.later hb, h.b.later hb, h.c.later hb, h.d.later hb⟩
/-- Logs as they may be. -/
structure Good (l : L4) : Prop where
  s : ∀ x, x ∈ l.a ∨ x ∈ l.b ∨ x ∈ l.c ∨ x ∈ l.d → okS x = true
  a : l.a.length ≤ 256
  b : l.b.length ≤ 256
  c : l.c.length ≤ 256
  d : l.d.length ≤ 256
theorem Good.nil : Good L4.nil := ⟨fun x h => by simp [L4.nil] at h, by simp [L4.nil], by simp [L4.nil], by simp [L4.nil], by simp [L4.nil]⟩
/-- A set in its block. -/
def SetAt (W : World) (p : Nat) (l : L4) : Prop := ∃ x : VV, W.heap[p]? = some (.cells #[x.a, x.b, x.c, x.d] 129 (0, 0)) ∧ Rows4 W x l
theorem SetAt.lt {W : World} {p : Nat} {l : L4} (h : SetAt W p l) : p < W.heap.size := by
  obtain ⟨x, h, _⟩ := h
  exact (Array.getElem?_eq_some_iff.1 h).1
theorem SetAt.later {W W1 : World} {p : Nat} {l : L4} (h : SetAt W p l) (hb : Below W.heap.size W W1) : SetAt W1 p l := by
  obtain ⟨x, h1, h2⟩ := h
  exact ⟨x, by rw [hb.block p (Array.getElem?_eq_some_iff.1 h1).1]; exact h1, h2.later hb⟩
theorem set_int : (129 : TypeId) ≠ 3 := by decide
/-- Rows stay where a set changes. -/
theorem IsL.beside {W W1 : World} {p : Nat} {m : L4} {v : Value} {l : List Int} (h : IsL W v l) (hs : SetAt W p m) (hg : W.grownBy W1 (some p)) : IsL W1 v l := by
  obtain ⟨x, h1, h2⟩ := hs
  exact h.grown hg h1 set_int
theorem Rows4.beside {W W1 : World} {p : Nat} {m l : L4} {x : VV} (h : Rows4 W x l) (hs : SetAt W p m) (hg : W.grownBy W1 (some p)) : Rows4 W1 x l := ⟨h.a.beside hs hg, h.b.beside hs hg, h.c.beside hs hg, h.d.beside hs hg⟩
theorem SetAt.beside {W W1 : World} {p q : Nat} {m l : L4} (h : SetAt W q l) (hs : SetAt W p m) (hg : W.grownBy W1 (some p)) (hne : q ≠ p) : SetAt W1 q l := by
  obtain ⟨x, h1, h2⟩ := id h
  exact ⟨x, by rw [hg.block q h.lt (fun e => by injection e with e; exact hne e)]; exact h1, h2.beside hs hg⟩
/-- A set, or none. -/
def SetV (W : World) (v : Value) (l : L4) : Prop := (v = .pointer none ∧ l = L4.nil) ∨ ∃ p, v = .pointer (some ⟨p, 0, none⟩) ∧ SetAt W p l
theorem SetV.later {W W1 : World} {v : Value} {l : L4} (h : SetV W v l) (hb : Below W.heap.size W W1) : SetV W1 v l := by
  rcases h with h | ⟨p, hv, hs⟩
  · exact .inl h
  · exact .inr ⟨p, hv, hs.later hb⟩
theorem set_new (W : World) : SetAt (W.alloc (.cells #[.slice none 0 0, .slice none 0 0, .slice none 0 0, .slice none 0 0] 129)) W.heap.size L4.nil := ⟨VV.nil, hnew _ _ _ rfl, Rows4.nil _⟩
theorem new_any8 (w : World) : Calls Tryd.prog 40 #[] w fun e w' => e = .returned (.pointer (some ⟨w.heap.size, 0, none⟩)) ∧ SetAt w' w.heap.size L4.nil ∧ Below w.heap.size w w' ∧ w'.heap.size = w.heap.size + 1 := by
  have HS := Bx.mk (set_new w)
  go_enter Tryd.func40, Tryd.ntmps40
  go_wp2
  go_ret
  exact ⟨rfl, HS.out, below_a _, by simp⟩
theorem alloc_size8 (w : World) (o : Obj) : (w.alloc o).heap.size = w.heap.size + 1 := by simp
theorem isL_one {W : World} {v : Value} {l : List Int} (h : IsL W v l) : v.oneCell' = true := by
  obtain ⟨a, cap, rfl⟩ := h.form
  rfl
theorem Rows4.one {W : World} {x : VV} {l : L4} (h : Rows4 W x l) : (#[x.a, x.b, x.c, x.d] : Array Value).all (·.oneCell') = true := by
  simp [isL_one h.a, isL_one h.b, isL_one h.c, isL_one h.d]
/-- The logs' array, stored over one in a block. -/
theorem own_end {w W : World} {E : Nat} {x : VV} {l : L4} {cs : Array Value} (hE : w.heap.size ≤ E) (h : Rows4 W x l) (hb : Below w.heap.size w W) (hr : W.heap[E]? = some (.cells cs 24 (0, 0))) (_ : cs.size = 4) :
    ∀ w', w' = W.setCells E 0 [x.a, x.b, x.c, x.d] → Rows4 w' x l ∧ Below w.heap.size w w' := by
  rintro w' rfl
  have hg : W.grownBy (W.setCells E 0 [x.a, x.b, x.c, x.d]) (some E) := kb_setCells _ _ _
  have hne : (24 : TypeId) ≠ 3 := by decide
  exact ⟨⟨h.a.grown hg hr hne, h.b.grown hg hr hne, h.c.grown hg hr hne, h.d.grown hg hr hne⟩, below_setCells hE _ _ _ _ hb⟩
set_option maxRecDepth 100000 in
theorem own_any8 (v : Value) (l : L4) (w : World) (hv : SetV w v l) : Calls Tryd.prog 68 #[v] w fun e w' => ∃ x : VV, e = .returned x.v ∧ Rows4 w' x l ∧ Below w.heap.size w w' := by
  rcases hv with ⟨rfl, rfl⟩ | ⟨p, rfl, x, hp, hx⟩
  · have H0 : Bx (∀ w1, Below (w.heap.size + 1) (w.alloc (.cells #[.slice none 0 0, .slice none 0 0, .slice none 0 0, .slice none 0 0] 24)) w1 → w1.heap[w.heap.size]? = some (.cells #[.slice none 0 0, .slice none 0 0, .slice none 0 0, .slice none 0 0] 24 (0, 0)) ∧ Below w.heap.size w w1) := Bx.mk (fun w1 hb => ⟨by rw [hb.block _ (by omega)]; exact hnew _ _ _ rfl, (below_a _).trans (hb.mono (by omega))⟩)
    have HN := Bx.mk (new_any8 (w.alloc (.cells #[.slice none 0 0, .slice none 0 0, .slice none 0 0, .slice none 0 0] 24)))
    go_enter Tryd.func68, Tryd.ntmps68
    go_wp2_with fail
    refine HN.out.mono ?_
    rintro e w1 ⟨rfl, hs, hb, -⟩
    rw [alloc_size8] at *
    obtain ⟨r1, r2⟩ := H0.out w1 hb
    obtain ⟨x, h1, h2⟩ := hs
    have HH := Bx.mk h1
    have HF := Bx.mk (own_end (Nat.le_refl _) h2 r2 r1 rfl)
    have HO := Bx.mk h2.one
    have HR := Bx.mk r1
    clear hb r1 r2 h1 h2 H0 HN
    go_wp2_with (first | (refine wpList_load_row rfl 24 _ rfl (w.heap.size + 1) (by rfl) _ _ _ _ HH.out Tryd.underlying24 rfl (by kernel_rfl) ?_) | (refine wpList_store_new rfl 24 _ _ rfl w.heap.size #[x.a, x.b, x.c, x.d] _ _ (by rfl) (by rfl) HR.out rfl (by kernel_rfl) HO.out ?_; intro w2 hw2 hr2; have HG := Bx.mk (HF.out w2 hw2); have HR2 := Bx.mk hr2; clear hw2 hr2 HF HR HO HH))
    refine bodyPost_ret (results_cell_row rfl _ _ w.heap.size _ _ _ _ rfl HR2.out Tryd.underlying24 rfl (by kernel_rfl)) rfl ?_
    exact ⟨x, rfl, HG.out.1, HG.out.2⟩
  · have hb1 : Below w.heap.size w (w.alloc (.cells #[.slice none 0 0, .slice none 0 0, .slice none 0 0, .slice none 0 0] 24)) := below_a _
    have HH : Bx ((w.alloc (.cells #[.slice none 0 0, .slice none 0 0, .slice none 0 0, .slice none 0 0] 24)).heap[p]? = some (.cells #[x.a, x.b, x.c, x.d] 129 (0, 0))) := ⟨(hold _ _ _ (Array.getElem?_eq_some_iff.1 hp).1).trans hp⟩
    have HR : Bx ((w.alloc (.cells #[.slice none 0 0, .slice none 0 0, .slice none 0 0, .slice none 0 0] 24)).heap[w.heap.size]? = some (.cells #[.slice none 0 0, .slice none 0 0, .slice none 0 0, .slice none 0 0] 24 (0, 0))) := ⟨hnew _ _ _ rfl⟩
    have HF := Bx.mk (own_end (Nat.le_refl _) (hx.later hb1) hb1 HR.out rfl)
    have HO := Bx.mk hx.one
    clear hp hx hb1
    go_enter Tryd.func68, Tryd.ntmps68
    go_wp2_with (first | (refine wpList_load_row rfl 24 _ rfl p (by rfl) _ _ _ _ HH.out Tryd.underlying24 rfl (by kernel_rfl) ?_) | (refine wpList_store_new rfl 24 _ _ rfl w.heap.size #[x.a, x.b, x.c, x.d] _ _ (by rfl) (by rfl) HR.out rfl (by kernel_rfl) HO.out ?_; intro w2 hw2 hr2; have HG := Bx.mk (HF.out w2 hw2); have HR2 := Bx.mk hr2; clear hw2 hr2 HF HR HO HH))
    refine bodyPost_ret (results_cell_row rfl _ _ w.heap.size _ _ _ _ rfl HR2.out Tryd.underlying24 rfl (by kernel_rfl)) rfl ?_
    exact ⟨x, rfl, HG.out.1, HG.out.2⟩
end Go.Proofs.YtnfgamekjbkbkaaDoor
namespace Go.Proofs.YtnfgamekjbkbkaaDoor
open Go Go.RowKit
theorem idxL0 (a b c d : Value) (W : World) : (Instr.index 24 (.agg #[a, b, c, d]) (.int .i64 0)).run Tryd.prog W = .ok a W := by kernel_rfl
theorem idxL1 (a b c d : Value) (W : World) : (Instr.index 24 (.agg #[a, b, c, d]) (.int .i64 1)).run Tryd.prog W = .ok b W := by kernel_rfl
theorem idxL2 (a b c d : Value) (W : World) : (Instr.index 24 (.agg #[a, b, c, d]) (.int .i64 2)).run Tryd.prog W = .ok c W := by kernel_rfl
theorem idxL3 (a b c d : Value) (W : World) : (Instr.index 24 (.agg #[a, b, c, d]) (.int .i64 3)).run Tryd.prog W = .ok d W := by kernel_rfl
/-- The four cells of a block, and that they may be written. -/
theorem row_four {W : World} {g : Nat} {a b c d : Value} {t : TypeId} (h : W.heap[g]? = some (.cells #[a, b, c, d] t (0, 0))) :
    (W.cell? ⟨g, 0, none⟩ = some a ∧ W.cell? ⟨g, 1, none⟩ = some b ∧ W.cell? ⟨g, 2, none⟩ = some c ∧ W.cell? ⟨g, 3, none⟩ = some d) ∧ W.frozen? ⟨g, 0, none⟩ = false ∧ W.frozen? ⟨g, 1, none⟩ = false ∧ W.frozen? ⟨g, 2, none⟩ = false ∧ W.frozen? ⟨g, 3, none⟩ = false := by
  refine ⟨⟨?_, ?_, ?_, ?_⟩, frozen_of_row _ _ _ _ _ h, frozen_of_row _ _ _ _ _ h, frozen_of_row _ _ _ _ _ h, frozen_of_row _ _ _ _ _ h⟩ <;> (rw [cell_of_row _ _ _ _ _ _ h]; rfl)
theorem Rows4.forms {W : World} {x : VV} {l : L4} (h : Rows4 W x l) : ∃ p q r s a b c d, x = ⟨.slice p l.a.length a, .slice q l.b.length b, .slice r l.c.length c, .slice s l.d.length d⟩ := by
  obtain ⟨x1, x2, x3, x4⟩ := x
  obtain ⟨p, a, h1⟩ := h.a.form
  obtain ⟨q, b, h2⟩ := h.b.form
  obtain ⟨r, c, h3⟩ := h.c.form
  obtain ⟨s, d, h4⟩ := h.d.form
  simp only at h1 h2 h3 h4
  subst h1 h2 h3 h4
  exact ⟨_, _, _, _, _, _, _, _, rfl⟩
theorem KR.set {w : World} {B Y : Nat} {o o1 : Obj} {rs : List (Nat × Obj)} {W W1 : World} (h : KR w B ((Y, o) :: rs) W) (hg : W.grownBy W1 (some Y)) (hY : W1.heap[Y]? = some o1) (hB : B ≤ Y) (hn : ∀ x ∈ rs, x.1 ≠ Y) : KR w B ((Y, o1) :: rs) W1 := by
  refine ⟨fun x hx => ?_, h.below.trans (grown_below hg hB h.le), Nat.le_trans h.le hg.size⟩
  rcases List.mem_cons.1 hx with rfl | hx
  · exact hY
  · rw [hg.block x.1 (h.lt (.tail _ hx)) (fun e => hn x hx (by injection e))]
    exact h.rows x (.tail _ hx)
theorem run_cellI (w : World) (b i : Nat) (n : Int) (u : Value) (hc : w.cell? ⟨b, i, none⟩ = some u) (hf : w.frozen? ⟨b, i, none⟩ = false) : (Instr.storeAt 3 (.pointer (some ⟨b, i, none⟩)) (.int .i64 n)).run Tryd.prog w = .ok () (w.setCell ⟨b, i, none⟩ (.int .i64 n)) := by
  go_simp
theorem run_cellS (w : World) (b i : Nat) (a : Option Addr) (n c : Nat) (u : Value) (hc : w.cell? ⟨b, i, none⟩ = some u) (hf : w.frozen? ⟨b, i, none⟩ = false) : (Instr.storeAt 23 (.pointer (some ⟨b, i, none⟩)) (.slice a n c)).run Tryd.prog w = .ok () (w.setCell ⟨b, i, none⟩ (.slice a n c)) := by
  go_simp
/-- One cell of a block that is known. -/
theorem wpList_cellI {ops : Array Oper} {rest : List Oper} {op : Oper} {a : Act} {w : World} {Q : Exit → Act → World → Prop} (hgd : op.guard = none) (x y : Operand) (ho : op.op = .store 3 x y)
    (b i : Nat) (n : Int) (cs ds : Array Value) (t : TypeId) (hx : a.eval x = .pointer (some ⟨b, i, none⟩)) (hy : a.eval y = .int .i64 n) (hrow : w.heap[b]? = some (.cells cs t (0, 0))) (hi : i < cs.size) (hd : cs.setIfInBounds i (.int .i64 n) = ds)
    (k : ∀ w', w.grownBy w' (some b) → w'.heap[b]? = some (.cells ds t (0, 0)) → wpList Tryd.prog ops Q rest (a.put op.dst undef) w') : wpList Tryd.prog ops Q (op :: rest) a w := by
  refine wpList_plain hgd fun K hK => ?_
  have hrun := run_cellI w b i n cs[i] (by rw [cell_of_row _ _ _ _ _ _ hrow]; exact Array.getElem?_eq_getElem hi) (frozen_of_row _ _ _ _ _ hrow)
  unfold Oper.wp execOp
  simp only [ho, hx, hy, hrun, Sem.run_bind, Sem.run_pure, Result.andThen_ok]
  exact hK _ _ (k _ (kb_set1 _ _ _ _) (by rw [← hd]; exact heap_setCell_same _ _ _ _ _ _ hrow))
theorem wpList_cellS {ops : Array Oper} {rest : List Oper} {op : Oper} {a : Act} {w : World} {Q : Exit → Act → World → Prop} (hgd : op.guard = none) (x y : Operand) (ho : op.op = .store 23 x y)
    (b i : Nat) (a1 : Option Addr) (n1 c1 : Nat) (cs ds : Array Value) (t : TypeId) (hx : a.eval x = .pointer (some ⟨b, i, none⟩)) (hy : a.eval y = .slice a1 n1 c1) (hrow : w.heap[b]? = some (.cells cs t (0, 0))) (hi : i < cs.size) (hd : cs.setIfInBounds i (.slice a1 n1 c1) = ds)
    (k : ∀ w', w.grownBy w' (some b) → w'.heap[b]? = some (.cells ds t (0, 0)) → wpList Tryd.prog ops Q rest (a.put op.dst undef) w') : wpList Tryd.prog ops Q (op :: rest) a w := by
  refine wpList_plain hgd fun K hK => ?_
  have hrun := run_cellS w b i a1 n1 c1 cs[i] (by rw [cell_of_row _ _ _ _ _ _ hrow]; exact Array.getElem?_eq_getElem hi) (frozen_of_row _ _ _ _ _ hrow)
  unfold Oper.wp execOp
  simp only [ho, hx, hy, hrun, Sem.run_bind, Sem.run_pure, Result.andThen_ok]
  exact hK _ _ (k _ (kb_set1 _ _ _ _) (by rw [← hd]; exact heap_setCell_same _ _ _ _ _ _ hrow))
set_option maxRecDepth 100000 in
set_option maxHeartbeats 1000000 in
theorem versions_any (v : Value) (l : L4) (w : World) (hv : SetV w v l) : Calls Tryd.prog 36 #[v] w fun e w' => e = .returned l.ver.v ∧ Below w.heap.size w w' := by
  obtain ⟨E, hE⟩ : ∃ E, w.heap.size = E := ⟨_, rfl⟩
  have K0 : Bx (KR w E [(E + 1, (.cells #[.int .i64 0, .int .i64 0, .int .i64 0, .int .i64 0] 28)), (E, (.cells #[.int .i64 0, .int .i64 0, .int .i64 0, .int .i64 0] 28))] ((w.alloc (.cells #[.int .i64 0, .int .i64 0, .int .i64 0, .int .i64 0] 28)).alloc (.cells #[.int .i64 0, .int .i64 0, .int .i64 0, .int .i64 0] 28))) := Bx.mk (by
    subst hE
    have h := ((KR.start w).new (.cells #[.int .i64 0, .int .i64 0, .int .i64 0, .int .i64 0] 28)).new (.cells #[.int .i64 0, .int .i64 0, .int .i64 0, .int .i64 0] 28)
    simpa using h)
  have HO := Bx.mk (own_any8 v l ((w.alloc (.cells #[.int .i64 0, .int .i64 0, .int .i64 0, .int .i64 0] 28)).alloc (.cells #[.int .i64 0, .int .i64 0, .int .i64 0, .int .i64 0] 28)) (hv.later (((Below.refl _ _).alloc (Nat.le_refl _) _).trans ((Below.refl _ _).alloc (by simp) _))))
  obtain ⟨pt, rfl⟩ : ∃ pt, v = .pointer pt := by
    rcases hv with ⟨rfl, -⟩ | ⟨p, rfl, -⟩
    · exact ⟨_, rfl⟩
    · exact ⟨_, rfl⟩
  clear hv
  go_enter Tryd.func36, Tryd.ntmps36
  go_wp2_with fail
  generalize ((w.alloc (.cells #[.int .i64 0, .int .i64 0, .int .i64 0, .int .i64 0] 28)).alloc (.cells #[.int .i64 0, .int .i64 0, .int .i64 0, .int .i64 0] 28)) = w0 at *
  refine HO.out.mono ?_
  rintro e w1 ⟨x, rfl, hx, hb⟩
  obtain ⟨p1, q1, t1, s1, a1, b1, c1, d1, rfl⟩ := hx.forms
  have K1 := Bx.mk (K0.out.later hb)
  have i0 := idxL0 (.slice p1 l.a.length a1) (.slice q1 l.b.length b1) (.slice t1 l.c.length c1) (.slice s1 l.d.length d1)
  have i1 := idxL1 (.slice p1 l.a.length a1) (.slice q1 l.b.length b1) (.slice t1 l.c.length c1) (.slice s1 l.d.length d1)
  have i2 := idxL2 (.slice p1 l.a.length a1) (.slice q1 l.b.length b1) (.slice t1 l.c.length c1) (.slice s1 l.d.length d1)
  have i3 := idxL3 (.slice p1 l.a.length a1) (.slice q1 l.b.length b1) (.slice t1 l.c.length c1) (.slice s1 l.d.length d1)
  clear hx hb HO K0
  unfold VV.v
  go_wp2
  refine wp_loop_rounds 5 ?_
  rw [rounds_succ]
  go_wp2_with (refine wpList_cellI rfl _ _ rfl (E + 1) 0 (l.a.length : Int) #[.int .i64 0, .int .i64 0, .int .i64 0, .int .i64 0] #[.int .i64 (l.a.length : Int), .int .i64 0, .int .i64 0, .int .i64 0] 28 (by rfl) (by rfl) (K1.out.rows _ (.head _)) (by simp) rfl ?_; intro w2 hg hr; have K2 := Bx.mk (K1.out.set hg hr (by omega) (by simp)); clear hg hr K1)
  rw [rounds_succ]
  go_wp2_with (refine wpList_cellI rfl _ _ rfl (E + 1) 1 (l.b.length : Int) #[.int .i64 (l.a.length : Int), .int .i64 0, .int .i64 0, .int .i64 0] #[.int .i64 (l.a.length : Int), .int .i64 (l.b.length : Int), .int .i64 0, .int .i64 0] 28 (by rfl) (by rfl) (K2.out.rows _ (.head _)) (by simp) rfl ?_; intro w3 hg hr; have K3 := Bx.mk (K2.out.set hg hr (by omega) (by simp)); clear hg hr K2)
  rw [rounds_succ]
  go_wp2_with (refine wpList_cellI rfl _ _ rfl (E + 1) 2 (l.c.length : Int) #[.int .i64 (l.a.length : Int), .int .i64 (l.b.length : Int), .int .i64 0, .int .i64 0] #[.int .i64 (l.a.length : Int), .int .i64 (l.b.length : Int), .int .i64 (l.c.length : Int), .int .i64 0] 28 (by rfl) (by rfl) (K3.out.rows _ (.head _)) (by simp) rfl ?_; intro w4 hg hr; have K4 := Bx.mk (K3.out.set hg hr (by omega) (by simp)); clear hg hr K3)
  rw [rounds_succ]
  go_wp2_with (refine wpList_cellI rfl _ _ rfl (E + 1) 3 (l.d.length : Int) #[.int .i64 (l.a.length : Int), .int .i64 (l.b.length : Int), .int .i64 (l.c.length : Int), .int .i64 0] #[.int .i64 (l.a.length : Int), .int .i64 (l.b.length : Int), .int .i64 (l.c.length : Int), .int .i64 (l.d.length : Int)] 28 (by rfl) (by rfl) (K4.out.rows _ (.head _)) (by simp) rfl ?_; intro w5 hg hr; have K5 := Bx.mk (K4.out.set hg hr (by omega) (by simp)); clear hg hr K4)
  rw [rounds_succ]
  go_wp2_with (first | (refine wpList_load_row rfl 28 _ rfl (E + 1) (by rfl) _ #[.int .i64 (l.a.length : Int), .int .i64 (l.b.length : Int), .int .i64 (l.c.length : Int), .int .i64 (l.d.length : Int)] (0, 0) _ (K5.out.rows _ (.head _)) Tryd.underlying28 rfl (by kernel_rfl) ?_) | (refine wpList_store_new rfl 28 _ _ rfl E #[.int .i64 (l.a.length : Int), .int .i64 (l.b.length : Int), .int .i64 (l.c.length : Int), .int .i64 (l.d.length : Int)] _ _ (by rfl) (by rfl) (K5.out.rows _ (.tail _ (.head _))) rfl (by kernel_rfl) (by simp [Value.oneCell']) ?_; intro w6 hw6 hr6; have HR6 := Bx.mk hr6; have HB6 := Bx.mk (show Below E w w6 by rw [hw6]; exact below_setCells (Nat.le_refl _) _ _ _ _ K5.out.below); clear hw6 hr6 K5))
  refine bodyPost_ret (results_cell_row rfl _ _ E _ _ _ _ rfl HR6.out Tryd.underlying28 rfl (by kernel_rfl)) rfl ?_
  exact ⟨rfl, by first | exact HB6.out | (rw [hE]; exact HB6.out)⟩
end Go.Proofs.YtnfgamekjbkbkaaDoor
