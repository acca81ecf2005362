/-
  Revocations: rows of serials that stay, a set of numbers, rows looked through by a function.
-/
import Derived.Test.YtmfhdhggpepbbaaDoorCc
import Derived.Test.YtmfhdhggpepbbaaDoorIi
import Derived.Maps.Keyed
import Derived.Maps.RangeWalk
import Derived.Maps.OwnSet
import Derived.Shelf.SlicesE.IndexFunc
namespace Go.Proofs.YtmfhdhggpepbbaaDoor
open Go Go.RowKit
/-- A row of numbers in a block of numbers. -/
def IsL (W : World) (v : Value) (l : List Int) : Prop :=
  ∃ a cap, v = .slice a l.length cap ∧ l.length ≤ cap ∧ (a = none → cap = 0) ∧ (0 < l.length → ∃ c o cs fr, a = some ⟨c, o, none⟩ ∧ W.heap[c]? = some (.cells cs 3 fr) ∧ ∀ i, i < l.length → cs[o + i]? = some (.int .i64 (l.getD i 0)))
theorem IsL.nil (W : World) : IsL W (.slice none 0 0) [] := ⟨none, 0, rfl, Nat.le_refl _, fun _ => rfl, fun h => absurd h (by simp)⟩
theorem IsL.later {W W1 : World} {v : Value} {l : List Int} (h : IsL W v l) (hb : Below W.heap.size W W1) : IsL W1 v l := by
  obtain ⟨a, cap, hv, hc, hn, hr⟩ := h
  refine ⟨a, cap, hv, hc, hn, fun hp => ?_⟩
  obtain ⟨c, o, cs, fr, ha, hh, hcs⟩ := hr hp
  exact ⟨c, o, cs, fr, ha, by rw [hb.block c (Array.getElem?_eq_some_iff.1 hh).1]; exact hh, hcs⟩
/-- A row stays where a block of another kind changes. -/
theorem IsL.grown {W W1 : World} {p : Nat} {v : Value} {l : List Int} {T : TypeId} {cs : Array Value} {fr : Nat × Nat} (h : IsL W v l) (hg : W.grownBy W1 (some p)) (hp : W.heap[p]? = some (.cells cs T fr)) (hT : T ≠ 3) : IsL W1 v l := by
  obtain ⟨a, cap, hv, hc, hn, hr⟩ := h
  refine ⟨a, cap, hv, hc, hn, fun hp' => ?_⟩
  obtain ⟨c, o, cs', fr', ha, hh, hcs⟩ := hr hp'
  refine ⟨c, o, cs', fr', ha, ?_, hcs⟩
  rw [hg.block c (Array.getElem?_eq_some_iff.1 hh).1 (fun e => by
    injection e with e
    subst e
    rw [hp] at hh
    injection hh with hh
    injection hh with _ e2 _
    exact hT e2)]
  exact hh
theorem IsL.ints {W : World} {v : Value} {l : List Int} (h : IsL W v l) : Ints W v l := by
  obtain ⟨a, cap, hv, hc, hn, hr⟩ := h
  refine ⟨a, cap, hv, hc, hn, fun hp => ?_⟩
  obtain ⟨c, o, cs, fr, ha, hh, hcs⟩ := hr hp
  refine ⟨c, o, ha, fun i hi => ?_⟩
  rw [cell_of_row _ _ _ _ _ _ hh]
  exact hcs i hi
theorem IsL.form {W : World} {v : Value} {l : List Int} (h : IsL W v l) : ∃ a cap, v = .slice a l.length cap := by
  obtain ⟨a, cap, hv, _⟩ := h
  exact ⟨a, cap, hv⟩
/-- A row of numbers that the call has made is one. -/
theorem OwnI.isL {W : World} {base : Nat} {v : Value} {l : List Int} (h : OwnI W base v l) : IsL W v l := by
  rcases h.2 with ⟨rfl, h0⟩ | ⟨g, cap, cur, rfl, hb, hg, hn, hm, hs, hc⟩
  · have : l = [] := List.eq_nil_of_length_eq_zero h0
    subst this
    exact IsL.nil W
  · refine ⟨_, cap, rfl, hn, (fun hx => by cases hx), fun _ => ⟨g, 0, cur, (0, 0), rfl, hg, fun j hj => ?_⟩⟩
    rw [Nat.zero_add, ← Array.getElem?_toList]
    have h1 : (cur.toList.take (l.length * 1))[j]? = (i64s l)[j]? := by rw [hc]
    rw [List.getElem?_take, if_pos (by omega), i64s_get l j hj] at h1
    exact h1
/-- A part of a row. -/
theorem IsL.cut {W : World} {a : Option Addr} {n cap : Nat} {l : List Int} (h : IsL W (.slice a n cap) l) (m : Nat) (hm : m ≤ n) : ∀ cap', m ≤ cap' → (a = none → cap' = 0) → IsL W (.slice a m cap') (l.take m) := by
  obtain ⟨a', cap0, hv, hc, hn, hr⟩ := h
  injection hv with e1 e2 e3
  subst e1 e2 e3
  intro cap' hc' hn'
  refine ⟨a, cap', by rw [List.length_take, Nat.min_eq_left hm], by rw [List.length_take]; omega, hn', fun hp => ?_⟩
  rw [List.length_take] at hp
  obtain ⟨c, o, cs, fr, ha, hh, hcs⟩ := hr (by omega)
  refine ⟨c, o, cs, fr, ha, hh, fun i hi => ?_⟩
  rw [List.length_take] at hi
  rw [hcs i (by omega)]
  simp [List.getD_eq_getElem?_getD, show i < m by omega]
theorem IsL.from_ {W : World} {c o n cap : Nat} {l : List Int} (h : IsL W (.slice (some ⟨c, o, none⟩) n cap) l) (m : Nat) (hm : m ≤ n) : IsL W (.slice (some ⟨c, o + m, none⟩) (n - m) (cap - m)) (l.drop m) := by
  obtain ⟨a', cap0, hv, hc, hn, hr⟩ := h
  injection hv with e1 e2 e3
  subst e1 e2 e3
  refine ⟨_, _, by rw [List.length_drop], by rw [List.length_drop]; omega, (fun h => by cases h), fun hp => ?_⟩
  rw [List.length_drop] at hp
  obtain ⟨c', o', cs, fr, ha, hh, hcs⟩ := hr (by omega)
  injection ha with ha
  injection ha with e1 e2 e3
  subst e1 e2
  refine ⟨c, o + m, cs, fr, rfl, hh, fun i hi => ?_⟩
  rw [List.length_drop] at hi
  rw [Nat.add_assoc, hcs (m + i) (by omega)]
  simp [List.getD_eq_getElem?_getD, List.getElem?_drop]
/-- Blocks that stay, and what lies below them. -/
structure KR (w : World) (B : Nat) (rs : List (Nat × Obj)) (W : World) : Prop where
  rows : ∀ x ∈ rs, W.heap[x.1]? = some x.2
  below : Below B w W
  le : B ≤ W.heap.size
theorem KR.start (w : World) : KR w w.heap.size [] w := ⟨fun _ h => (List.not_mem_nil h).elim, Below.refl _ _, Nat.le_refl _⟩
theorem KR.lt {w : World} {B : Nat} {rs : List (Nat × Obj)} {W : World} (h : KR w B rs W) {x : Nat × Obj} (hx : x ∈ rs) : x.1 < W.heap.size := (Array.getElem?_eq_some_iff.1 (h.rows x hx)).1
theorem KR.later {w : World} {B : Nat} {rs : List (Nat × Obj)} {W W1 : World} (h : KR w B rs W) (hb : Below W.heap.size W W1) : KR w B rs W1 :=
  ⟨fun x hx => by rw [hb.block _ (h.lt hx)]; exact h.rows x hx, h.below.trans (hb.mono h.le), Nat.le_trans h.le hb.size⟩
theorem KR.drew {w : World} {B : Nat} {rs : List (Nat × Obj)} {W : World} (h : KR w B rs W) : KR w B rs W.drew := h.later (Below.refl _ _).drew
theorem KR.new {w : World} {B : Nat} {rs : List (Nat × Obj)} {W : World} (h : KR w B rs W) (o : Obj) : KR w B ((W.heap.size, o) :: rs) (W.alloc o) := by
  have h1 := h.later (below_a o)
  refine ⟨fun x hx => ?_, h1.below, h1.le⟩
  rcases List.mem_cons.1 hx with rfl | hx
  · exact hnew _ _ _ rfl
  · exact h1.rows x hx
theorem KR.sub {w : World} {B : Nat} {rs rs' : List (Nat × Obj)} {W : World} (h : KR w B rs W) (hs : ∀ x ∈ rs', x ∈ rs) : KR w B rs' W := ⟨fun x hx => h.rows x (hs x hx), h.below, h.le⟩
/-- A block of its own changes. -/
theorem KR.grown {w : World} {B p : Nat} {rs : List (Nat × Obj)} {W W1 : World} (h : KR w B rs W) (hg : W.grownBy W1 (some p)) (hB : B ≤ p) (hp : ∀ x ∈ rs, x.1 ≠ p) : KR w B rs W1 :=
  ⟨fun x hx => by rw [hg.block _ (h.lt hx) (fun e => by injection e with e; exact hp x hx e)]; exact h.rows x hx, h.below.trans (grown_below hg hB h.le), Nat.le_trans h.le hg.size⟩
theorem row_rng8 {W : World} {g : Nat} {l : List Value} {t : TypeId} (h : W.heap[g]? = some (.cells l.toArray t (0, 0))) : W.rangeAt g 0 l := fun j v hv => by
  rw [cell_of_row _ _ _ _ _ _ h, Nat.zero_add]
  simpa using hv
/-- May it be a serial? -/
def okS (n : Int) : Bool := decide (1 ≤ n) && decide (n ≤ 65535)
/-- Does one stand twice? -/
def twiceL (l : List Int) : Bool := decide (∃ k, k < l.length ∧ l.getD k 0 ∈ l.take k)
theorem serial_any (n : Int) (w : World) : Calls Tryd.prog 71 #[.int .i64 n] w fun e w' => e = .returned (.bool (!okS n)) ∧ w' = w := by
  by_cases h1 : n < 1
  · have HO : okS n = false := by unfold okS; simp; omega
    go_enter Tryd.func71, Tryd.ntmps71
    go_wp2
    go_ret
    refine ⟨ret_bool ?_, rfl⟩
    simp [HO]
  by_cases h2 : 65535 < n
  · have HO : okS n = false := by unfold okS; simp; omega
    go_enter Tryd.func71, Tryd.ntmps71
    go_wp2
    go_ret
    refine ⟨ret_bool ?_, rfl⟩
    simp
  have HO : okS n = true := by unfold okS; simp; omega
  go_enter Tryd.func71, Tryd.ntmps71
  go_wp2
  go_ret
  refine ⟨ret_bool ?_, rfl⟩
  simp
/-- A row looked through by a function: the first place at which it says yes. -/
theorem idxF_any (ns : List Int) (v : Value) (g : Nat) (lb : Array Value) (r : Nat → Bool) (I : Nat → World → Prop) (w : World) (eg : ∀ args w, (callFunc g args).run Tryd.prog w = .ok (.enter g args) w)
    (h0 : I 0 w) (hl : ns.length ≤ 1000000) (hrow : ∀ k w', I k w' → Ints w' v ns)
    (hstep : ∀ k w', k < ns.length → (∀ j, j < k → r j = false) → I k w' → Calls Tryd.prog g (#[.int .i64 (ns.getD k 0)] ++ lb) w' fun e w'' => e = .returned (.bool (r k)) ∧ I (k + 1) w'') :
    Calls Tryd.prog 86 #[v, .func (.func g) #[] lb] w fun e w' => ∃ i : Int, e = .returned (.int .i64 i) ∧ ((∃ k, k < ns.length ∧ (∀ j, j < k → r j = false) ∧ r k = true ∧ i = (k : Int) ∧ I (k + 1) w') ∨ ((∀ j, j < ns.length → r j = false) ∧ i = -1 ∧ I ns.length w')) := by
  obtain ⟨a, cap, rfl, hcap, -⟩ := hrow 0 w h0
  have HR : Bx (∀ k w', I k w' → Ints w' (.slice a ns.length cap) ns) := ⟨hrow⟩
  have HS := Bx.mk hstep
  have H0 := Bx.mk h0
  obtain ⟨Q, hQ⟩ : ∃ Q : Ending → World → Prop, (fun (e : Ending) (w' : World) => ∃ i : Int, e = .returned (.int .i64 i) ∧ ((∃ k, k < ns.length ∧ (∀ j, j < k → r j = false) ∧ r k = true ∧ i = (k : Int) ∧ I (k + 1) w') ∨ ((∀ j, j < ns.length → r j = false) ∧ i = -1 ∧ I ns.length w'))) = Q := ⟨_, rfl⟩
  rw [hQ]
  have HQ := Bx.mk hQ
  obtain ⟨n, hn⟩ : ∃ n, ns.length = n := ⟨_, rfl⟩
  have HN := Bx.mk hn
  rw [hn] at HR HS hl ⊢
  clear hrow hstep h0 hQ hn hcap
  have hl1 : (n : Int) ≤ 1000000 := by omega
  go_enter Tryd.func86, Tryd.ntmps86
  go_wp2
  go_loopw [5, 8] (fun _ i wr => ∃ k : Nat, k ≤ n ∧ i = .int .i64 (k : Int) ∧ Bx (∀ j, j < k → r j = false) ∧ Bx (I k wr)) (fun _ i _ => n - (intOf i).toNat)
  case atStart => exact ⟨0, Nat.zero_le _, rfl, ⟨fun j hj => absurd hj (Nat.not_lt_zero _)⟩, H0⟩
  case round =>
    obtain ⟨k, hk, rfl, HA, HI⟩ := hrel
    by_cases hlt : k < n
    · have hk1 : (k : Int) < (n : Int) := by omega
      obtain ⟨_, _, hv, _, _, hr⟩ := HR.out k _ HI.out
      injection hv with e1 e2 e3
      clear e2 e3
      subst e1
      obtain ⟨c, o, rfl, hf⟩ := hr (by rw [HN.out]; omega)
      have hc := hf k (by rw [HN.out]; exact hlt)
      have HC := Bx.mk (HS.out k _ hlt HA.out HI.out)
      obtain ⟨x, hx⟩ : ∃ x, ns.getD k 0 = x := ⟨_, rfl⟩
      rw [hx] at HC hc
      clear hf hr hx HI H0
      have HT : Bx (r k = true → ∀ w1, I (k + 1) w1 → Q (.returned (.int .i64 (k : Int))) w1) := Bx.mk (fun h w1 h1 => by
        rw [← HQ.out]
        exact ⟨_, rfl,   .inl ⟨k, (by rw [HN.out]; exact hlt), HA.out, h, rfl, h1⟩⟩)
      cases hq : r k with
      | true =>
        have HE := Bx.mk (HT.out hq)
        have HC2 : Bx _ := HC
        rw [hq] at HC2
        clear HC HT HA hq HR HS HQ
        go_wp2_with (go_at_fn g; refine HC2.out.mono ?_; rintro e w1 ⟨rfl, h1⟩; have H1 := Bx.mk (HE.out w1 h1); clear h1 HE)
        exact H1.out
      | false =>
        have HA2 : Bx (∀ j, j < k + 1 → r j = false) := Bx.mk (fun j hj => by
          by_cases e : j = k
          · subst e; exact hq
          · exact HA.out j (by omega))
        have HC2 : Bx _ := HC
        rw [hq] at HC2
        clear HC HT HA hq HR HS HQ
        go_wp2_with (go_at_fn g; refine HC2.out.mono ?_; rintro e w1 ⟨rfl, h1⟩; have H1 := Bx.mk h1; clear h1)
        go_roundw
        case rel => exact ⟨k + 1, by omega, by go_num, HA2, H1⟩
        case measure => simp [intOf]; omega
    · obtain rfl : k = n := by omega
      have HE : Bx (Q (.returned (.int .i64 (-1))) _) := Bx.mk (by
        rw [← HQ.out]
        exact ⟨_, rfl, .inr ⟨(by rw [HN.out]; exact HA.out), rfl, (by rw [HN.out]; exact HI.out)⟩⟩)
      clear HA HI HR HS HQ H0
      go_wp2
      exact HE.out
/-- Does the function say yes of one? -/
theorem conF_any (ns : List Int) (v : Value) (g : Nat) (lb : Array Value) (r : Nat → Bool) (I : Nat → World → Prop) (w : World) (eg : ∀ args w, (callFunc g args).run Tryd.prog w = .ok (.enter g args) w)
    (h0 : I 0 w) (hl : ns.length ≤ 1000000) (hrow : ∀ k w', I k w' → Ints w' v ns)
    (hstep : ∀ k w', k < ns.length → (∀ j, j < k → r j = false) → I k w' → Calls Tryd.prog g (#[.int .i64 (ns.getD k 0)] ++ lb) w' fun e w'' => e = .returned (.bool (r k)) ∧ I (k + 1) w'') :
    Calls Tryd.prog 70 #[v, .func (.func g) #[] lb] w fun e w' => ∃ z : Bool, e = .returned (.bool z) ∧ ((z = true ∧ ∃ k, k < ns.length ∧ (∀ j, j < k → r j = false) ∧ r k = true ∧ I (k + 1) w') ∨ (z = false ∧ (∀ j, j < ns.length → r j = false) ∧ I ns.length w')) := by
  have HC := Bx.mk (idxF_any ns v g lb r I w eg h0 hl hrow hstep)
  obtain ⟨a, cap, rfl, hcap, -⟩ := hrow 0 w h0
  obtain ⟨Q, hQ⟩ : ∃ Q : Ending → World → Prop, (fun (e : Ending) (w' : World) => ∃ z : Bool, e = .returned (.bool z) ∧ ((z = true ∧ ∃ k, k < ns.length ∧ (∀ j, j < k → r j = false) ∧ r k = true ∧ I (k + 1) w') ∨ (z = false ∧ (∀ j, j < ns.length → r j = false) ∧ I ns.length w'))) = Q := ⟨_, rfl⟩
  rw [hQ]
  have HQ : Bx (∀ (i : Int) (w1 : World), ((∃ k, k < ns.length ∧ (∀ j, j < k → r j = false) ∧ r k = true ∧ i = (k : Int) ∧ I (k + 1) w1) ∨ ((∀ j, j < ns.length → r j = false) ∧ i = -1 ∧ I ns.length w1)) → Q (.returned (.bool (decide (0 ≤ i)))) w1) := Bx.mk (fun i w1 h => by
    rw [← hQ]
    rcases h with ⟨k, h1, h2, h3, rfl, h4⟩ | ⟨h1, rfl, h2⟩
    · exact ⟨_, rfl, .inl ⟨decide_eq_true (by omega), k, h1, h2, h3, h4⟩⟩
    · exact ⟨_, rfl, .inr ⟨rfl, h1, h2⟩⟩)
  clear hQ h0 hrow hstep hcap hl
  go_enter Tryd.func70, Tryd.ntmps70
  go_wp2_with fail
  refine HC.out.mono ?_
  rintro e w1 ⟨i, rfl, h1⟩
  have H1 := Bx.mk (HQ.out i w1 h1)
  clear h1 HQ HC
  go_wp2
  exact H1.out
end Go.Proofs.YtmfhdhggpepbbaaDoor
