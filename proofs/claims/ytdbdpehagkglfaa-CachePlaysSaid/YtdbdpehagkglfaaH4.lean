/-
  Keys: a key is made, copied, asked for its bytes.
-/
import Derived.Test.YtdbdpehagkglfaaCu
import Derived.Deep.QuietTactic
import Derived.BigQuiet
import Derived.Deep.RegionHeld3
import Derived.Laws.BitsAllLaws
namespace Go.Proofs.Ytdbdpehagkglfaa
open Go Go.RowKit
set_option maxRecDepth 100000 in
set_option maxHeartbeats 400000 in
theorem copied_any (bs : List UInt8) (v : Value) (w : World) (hv : Bytes w v bs) (hl : bs.length ≤ 140737488355328) :
    Calls Try.prog 40 #[v] w fun e w' => ∃ v', e = .returned v' ∧ OwnB w' w.heap.size v' bs ∧ Below w.heap.size w w' := by
  have HV := Bx.mk hv
  have HL := Bx.mk hl
  clear hv hl
  go_enter Try.func40, Try.ntmps40
  go_wp2_with (refine wpList_apT 86 Try.underlying86 rfl _ _ rfl w.heap.size _ [] (by rfl) (OwnB.nil _ _) _ bs (by rfl) HV.out (by have := HL.out; simp; omega) (Nat.le_refl _) ?_; intro v1 w1 h1 g1 _; have H1 : Bx (OwnB w1 w.heap.size v1 bs ∧ Below w.heap.size w w1) := Bx.mk ⟨h1, own_below (OwnB.nil _ _) g1 (Nat.le_refl _)⟩; clear h1 g1)
  go_ret
  exact ⟨v1, rfl, H1.out⟩
/-- A key that has its own bytes, none of it older than base. -/
def KeyO (w : World) (base : Nat) (v : Value) (bs : List UInt8) : Prop :=
  ∃ p s, v = .pointer (some ⟨p, 0, none⟩) ∧ base ≤ p ∧ w.heap[p]? = some (.cells #[s] 89 (0, 0)) ∧ OwnB w base s bs
/-- A key. -/
def IsKey (w : World) (v : Value) (bs : List UInt8) : Prop :=
  ∃ p s, v = .pointer (some ⟨p, 0, none⟩) ∧ w.heap[p]? = some (.cells #[s] 89 (0, 0)) ∧ Bytes w s bs
theorem KeyO.key {w : World} {base : Nat} {v : Value} {bs : List UInt8} (h : KeyO w base v bs) : IsKey w v bs := by
  obtain ⟨p, s, hv, _, hr, ho⟩ := h
  exact ⟨p, s, hv, hr, ho.bytes⟩
theorem KeyO.weak {w : World} {base base' : Nat} {v : Value} {bs : List UInt8} (h : KeyO w base v bs) (hb : base' ≤ base) : KeyO w base' v bs := by
  obtain ⟨p, s, hv, hp, hr, h1, h2⟩ := h
  refine ⟨p, s, hv, by omega, hr, h1, ?_⟩
  rcases h2 with h0 | ⟨g, cap, cur, hv', hb', hg, hr'⟩
  · exact .inl h0
  · exact .inr ⟨g, cap, cur, hv', by omega, hg, hr'⟩
theorem IsKey.later {w w1 : World} {v : Value} {bs : List UInt8} (h : IsKey w v bs) (hb : Below w.heap.size w w1) : IsKey w1 v bs := by
  obtain ⟨p, s, hv, hr, ho⟩ := h
  exact ⟨p, s, hv, by rw [hb.block _ (Array.getElem?_eq_some_iff.1 hr).1]; exact hr, ho.later hb⟩
theorem KeyO.later {w w1 : World} {base : Nat} {v : Value} {bs : List UInt8} (h : KeyO w base v bs) (hb : Below w.heap.size w w1) : KeyO w1 base v bs := by
  obtain ⟨p, s, hv, hp, hr, ho⟩ := h
  exact ⟨p, s, hv, hp, by rw [hb.block _ (Array.getElem?_eq_some_iff.1 hr).1]; exact hr, ho.later hb (fun g hg => (ho.lt g hg).1)⟩
set_option maxRecDepth 100000 in
set_option maxHeartbeats 400000 in
theorem new_any (bs : List UInt8) (v : Value) (w : World) (hv : Bytes w v bs) (hl : bs.length ≤ 140737488355328) :
    Calls Try.prog 14 #[v] w fun e w' => ∃ v', e = .returned v' ∧ KeyO w' w.heap.size v' bs ∧ Below w.heap.size w w' := by
  have HV := Bx.mk hv
  have HL := Bx.mk hl
  obtain ⟨a, cap, rfl, -⟩ := hv
  obtain ⟨n, hn⟩ : ∃ n, bs.length = n := ⟨_, rfl⟩
  rw [hn] at HV ⊢
  clear hn hl
  go_enter Try.func14, Try.ntmps14
  go_wp2_with fail
  refine (copied_any bs _ w HV.out HL.out).mono ?_
  rintro e w1 ⟨v1, rfl, ho, hb⟩
  have H1 := Bx.mk (And.intro ho hb)
  obtain ⟨a1, c1, rfl, -⟩ := ho.bytes
  clear ho hb
  go_wp2
  go_ret
  refine ⟨_, rfl, ⟨_, _, rfl, H1.out.2.size, by rw [hnew _ _ _ rfl], ?_⟩, H1.out.2.alloc H1.out.2.size _⟩
  exact H1.out.1.later (below_a _) (fun g hg => (H1.out.1.lt g hg).1)
set_option maxRecDepth 100000 in
set_option maxHeartbeats 400000 in
theorem kbytes_any (bs : List UInt8) (v : Value) (w : World) (hv : IsKey w v bs) (hl : bs.length ≤ 140737488355328) :
    Calls Try.prog 47 #[v] w fun e w' => ∃ v', e = .returned v' ∧ OwnB w' w.heap.size v' bs ∧ Below w.heap.size w w' := by
  obtain ⟨p, s, rfl, hr, hv⟩ := hv
  have HV := Bx.mk hv
  have HL := Bx.mk hl
  have hc : w.cell? ⟨p, 0, none⟩ = some s := by rw [cell_of_row _ _ _ _ _ _ hr]; rfl
  obtain ⟨a, cap, rfl, -⟩ := hv
  obtain ⟨n, hn⟩ : ∃ n, bs.length = n := ⟨_, rfl⟩
  rw [hn] at HV hc
  clear hn hl hr
  go_enter Try.func47, Try.ntmps47
  go_wp2_with fail
  refine (copied_any bs _ w HV.out HL.out).mono ?_
  rintro e w1 ⟨v1, rfl, ho, hb⟩
  have H1 := Bx.mk (And.intro ho hb)
  clear ho hb
  go_wp2
  go_ret
  exact ⟨_, rfl, H1.out⟩
end Go.Proofs.Ytdbdpehagkglfaa
namespace Go.Proofs.Ytdbdpehagkglfaa
open Go Go.ChangeShapes Go.WideShapes Go.ChangeAt Go.RowKit
/-- A boot and a counter. -/
structure Nn where
  b : Int
  c : Int
def Nn.zero : Nn := ⟨0, 0⟩
def Nn.fit (n : Nn) : Prop := in64 n.b ∧ in64 n.c
def nv (n : Nn) : Value := .agg #[.int .i64 n.b, .int .i64 n.c]
theorem Nn.ext' {x y : Nn} (h1 : x.b = y.b) (h2 : x.c = y.c) : x = y := by cases x; cases y; cases h1; cases h2; rfl
theorem Nn.eq_iff (x y : Nn) : x = y ↔ x.b = y.b ∧ x.c = y.c := ⟨fun h => by rw [h]; exact ⟨rfl, rfl⟩, fun h => Nn.ext' h.1 h.2⟩
instance : DecidableEq Nn := fun x y => decidable_of_iff _ (Nn.eq_iff x y).symm
def nnc (e : Nn) : List Value := [.int .i64 e.b, .int .i64 e.c]
/-- Nonces one behind the other, as cells. -/
def cellsN : List Nn → List Value
  | [] => []
  | e :: r => .int .i64 e.b :: .int .i64 e.c :: cellsN r
theorem cellsN_snoc (l : List Nn) (e : Nn) : cellsN (l ++ [e]) = cellsN l ++ nnc e := by
  induction l with
  | nil => rfl
  | cons y r ih => simp only [List.cons_append, cellsN, ih, nnc, List.nil_append]
theorem cellsN_get (l : List Nn) : ∀ (k : Nat), k < l.length → ∀ j v, (nnc (l.getD k Nn.zero))[j]? = some v → (cellsN l)[k * 2 + j]? = some v := by
  induction l with
  | nil => intro k hk; exact absurd hk (Nat.not_lt_zero _)
  | cons c r ih =>
    intro k hk j v hj
    match k with
    | 0 =>
      have hj4 : j < 2 := (List.getElem?_eq_some_iff.1 hj).1
      match j, hj4 with
      | 0, _ => exact hj
      | 1, _ => exact hj
    | k + 1 =>
      have h := ih k (by simpa using hk) j v (by simpa using hj)
      rw [show (k + 1) * 2 + j = (k * 2 + j) + 2 by omega]
      exact h
/-- Nonces in a row that the call owns, of one type or the other. -/
def OwnN (T : TypeId) (w : World) (base : Nat) (v : Value) (l : List Nn) : Prop := w.ownsRow base T 2 v l.length (cellsN l)
theorem OwnN.nil (T : TypeId) (w : World) (base : Nat) : OwnN T w base (.slice none 0 0) [] := ⟨rfl, .inl ⟨rfl, rfl⟩⟩
theorem OwnN.lt {T : TypeId} {w : World} {base : Nat} {v : Value} {l : List Nn} (h : OwnN T w base v l) : ∀ g, v.ownBlock = some g → g < w.heap.size ∧ base ≤ g := fun g hg => by
  have := World.ownsRow.lt h g hg
  exact ⟨this.2, this.1⟩
theorem OwnN.kept {T : TypeId} {w w1 : World} {base : Nat} {v : Value} {l : List Nn} (h : OwnN T w base v l) (hb : ∀ g cs fr, base ≤ g → w.heap[g]? = some (.cells cs T fr) → w1.heap[g]? = some (.cells cs T fr)) : OwnN T w1 base v l := by
  refine ⟨h.1, ?_⟩
  rcases h.2 with h0 | ⟨g, cap, cur, hv, hb', hh, hr⟩
  · exact .inl h0
  · exact .inr ⟨g, cap, cur, hv, hb', hb g _ _ hb' hh, hr⟩
theorem OwnN.later {T : TypeId} {w w1 : World} {base : Nat} {v : Value} {l : List Nn} (h : OwnN T w base v l) (hb : Below w.heap.size w w1) : OwnN T w1 base v l := h.kept fun g cs fr _ h0 => by rw [hb.block g (Array.getElem?_eq_some_iff.1 h0).1]; exact h0
theorem OwnN.weak {T : TypeId} {w : World} {base base' : Nat} {v : Value} {l : List Nn} (h : OwnN T w base v l) (hb : base' ≤ base) : OwnN T w base' v l := by
  refine ⟨h.1, ?_⟩
  rcases h.2 with h0 | ⟨g, cap, cur, hv, hb', hh, hr⟩
  · exact .inl h0
  · exact .inr ⟨g, cap, cur, hv, Nat.le_trans hb hb', hh, hr⟩
/-- A row stays where a block of another kind changes. -/
theorem OwnN.aside {T : TypeId} {w w1 : World} {base M : Nat} {v : Value} {l : List Nn} (h : OwnN T w base v l) (hm : ∀ cs fr, w.heap[M]? ≠ some (.cells cs T fr)) (hg : w.grownBy w1 (some M)) : OwnN T w1 base v l := h.kept fun g cs fr _ h0 => by
  rw [hg.block g (Array.getElem?_eq_some_iff.1 h0).1 (fun e => by
    injection e with e
    subst e
    exact hm _ _ h0)]
  exact h0
theorem OwnN.form {T : TypeId} {w : World} {base : Nat} {v : Value} {l : List Nn} (h : OwnN T w base v l) : ∃ a cap, v = .slice a l.length cap ∧ l.length ≤ cap ∧ (a = none → cap = 0) := by
  rcases h.2 with ⟨hv, h0⟩ | ⟨g, cap, cur, hv, _, hg, hc1, hc2, hc3, hc4⟩
  · exact ⟨none, 0, by rw [h0]; exact hv, by omega, fun _ => rfl⟩
  · exact ⟨_, cap, hv, hc1, fun h => by cases h⟩
/-- A block of such a row has its type. -/
theorem OwnN.kind {T : TypeId} {w : World} {base : Nat} {v : Value} {l : List Nn} (h : OwnN T w base v l) : ∀ g, v.ownBlock = some g → ∃ cs fr, w.heap[g]? = some (.cells cs T fr) := fun g hg => by
  rcases h.2 with ⟨hv, _⟩ | ⟨g', cap, cur, hv, _, hh, _⟩
  · rw [hv] at hg; cases hg
  · rw [hv] at hg
    injection hg with hg
    subst hg
    exact ⟨_, _, hh⟩
theorem ownN_below {T : TypeId} {w w1 : World} {base : Nat} {v : Value} {l : List Nn} (h : OwnN T w base v l) (hg : w.grownBy w1 v.ownBlock) (hb : base ≤ w.heap.size) : Below base w w1 :=
  ⟨hg.os, hg.tape, hg.output, hg.size, fun i hi => hg.block i (by omega) (fun e => by have := (h.lt i e.symm).2; omega)⟩
/-- Nonces that can be read. -/
def NnsR (w : World) (v : Value) (l : List Nn) : Prop :=
  ∃ a cap, v = .slice a l.length cap ∧ l.length ≤ cap ∧ (a = none → cap = 0) ∧ (0 < l.length → ∃ g o, a = some ⟨g, o, none⟩ ∧ ∀ k, k < l.length → w.cell? ⟨g, o + k * 2, none⟩ = some (.int .i64 (l.getD k Nn.zero).b) ∧ w.cell? ⟨g, o + k * 2 + 1, none⟩ = some (.int .i64 (l.getD k Nn.zero).c))
theorem NnsR.later {w w1 : World} {v : Value} {l : List Nn} (h : NnsR w v l) (hb : Below w.heap.size w w1) : NnsR w1 v l := by
  obtain ⟨a, cap, hv, h1, h2, hr⟩ := h
  refine ⟨a, cap, hv, h1, h2, fun hp => ?_⟩
  obtain ⟨g, o, ha, hc⟩ := hr hp
  refine ⟨g, o, ha, fun k hk => ?_⟩
  obtain ⟨h1, h2⟩ := hc k hk
  exact ⟨by rw [hb.cell (World.block_lt_of_cell? _ _ h1)]; exact h1, by rw [hb.cell (World.block_lt_of_cell? _ _ h2)]; exact h2⟩
theorem NnsR.form {w : World} {v : Value} {l : List Nn} (h : NnsR w v l) : ∃ a cap, v = .slice a l.length cap := by
  obtain ⟨a, cap, hv, _⟩ := h
  exact ⟨a, cap, hv⟩
theorem NnsR.start {w : World} {v : Value} {l : List Nn} (h : NnsR w v l) (hp : 0 < l.length) : ∃ g o cap, v = .slice (some ⟨g, o, none⟩) l.length cap := by
  obtain ⟨a, cap, hv, -, -, hr⟩ := h
  obtain ⟨g, o, ha, -⟩ := hr hp
  exact ⟨g, o, cap, by rw [hv, ha]⟩
theorem NnsR.cells {w : World} {g o n cap : Nat} {l : List Nn} (h : NnsR w (.slice (some ⟨g, o, none⟩) n cap) l) (k : Nat) (hk : k < l.length) :
    w.cell? ⟨g, o + k * 2, none⟩ = some (.int .i64 (l.getD k Nn.zero).b) ∧ w.cell? ⟨g, o + k * 2 + 1, none⟩ = some (.int .i64 (l.getD k Nn.zero).c) := by
  obtain ⟨a', cap', hv, -, -, hr⟩ := h
  obtain ⟨b', o', ha, hx⟩ := hr (by omega)
  injection hv with e1 e2 e3
  rw [ha] at e1
  injection e1 with e1
  injection e1 with e4 e5
  subst e4 e5
  exact hx k hk
/-- The first ones of a row. -/
theorem NnsR.take {w : World} {a : Option Addr} {n cap : Nat} {l : List Nn} (h : NnsR w (.slice a n cap) l) (m : Nat) (hm : m ≤ n) : NnsR w (.slice a m cap) (l.take m) := by
  obtain ⟨a', cap', hv, h1, h2, hr⟩ := h
  injection hv with e1 e2 e3
  subst e1 e2 e3
  have hl : (l.take m).length = m := by rw [List.length_take]; omega
  refine ⟨a, cap, by rw [hl], by omega, h2, fun hp => ?_⟩
  obtain ⟨g, o, ha, hc⟩ := hr (by omega)
  refine ⟨g, o, ha, fun k hk => ?_⟩
  rw [hl] at hk
  have e : (l.take m).getD k Nn.zero = l.getD k Nn.zero := by
    rw [List.getD_eq_getElem?_getD, List.getD_eq_getElem?_getD, List.getElem?_take_of_lt hk]
  rw [e]
  exact hc k (by omega)
theorem OwnN.reads {T : TypeId} {w : World} {base : Nat} {v : Value} {l : List Nn} (h : OwnN T w base v l) : NnsR w v l := by
  rcases h.2 with ⟨hv, h0⟩ | ⟨g, cap, cur, hv, _, hg, hc1, hc2, hc3, hc4⟩
  · exact ⟨none, 0, by rw [h0]; exact hv, by omega, fun _ => rfl, fun hp => by omega⟩
  · refine ⟨_, cap, hv, hc1, (fun h => by cases h), fun _ => ⟨g, 0, rfl, fun k hk => ?_⟩⟩
    have hat : ∀ j u, (nnc (l.getD k Nn.zero))[j]? = some u → w.cell? ⟨g, k * 2 + j, none⟩ = some u := fun j u hj => by
      have hj4 : j < 2 := (List.getElem?_eq_some_iff.1 hj).1
      rw [cell_of_row _ _ _ _ _ _ hg, ← Array.getElem?_toList]
      have h1 : (cur.toList.take (l.length * 2))[k * 2 + j]? = (cellsN l)[k * 2 + j]? := by rw [hc4]
      rw [List.getElem?_take_of_lt (by omega)] at h1
      rw [h1]
      exact cellsN_get l k hk j u hj
    rw [Nat.zero_add]
    exact ⟨hat 0 _ rfl, hat 1 _ rfl⟩
theorem run_ap12R (w : World) (base : Nat) (v : Value) (l : List Nn) (hown : OwnN 26 w base v l) (g o : Nat) (e : Nn) (hr : w.rangeAt g o (nnc e)) (hn : l.length ≤ 1000) (hbase : base ≤ w.heap.size) (ty : TypeId) (cp : Nat) :
    ∃ v' w', (Builtin.append_ #[54, 54] ty #[v, .slice (some ⟨g, o, none⟩) 1 cp]).run Try.prog w = .ok v' w' ∧ OwnN 26 w' base v' (l ++ [e]) ∧ w.grownBy w' v.ownBlock := by
  have hi : Try.prog.info? 26 = some ((Try.prog.info? 26).getD default) := by kernel_rfl
  obtain ⟨v', w', hrun, h2, h3, _, _⟩ := run_append_own_at (P := Try.prog) w base 54 ty 26 _ (.agg #[.int .i64 0, .int .i64 0]) 2 16 Try.underlying54 hi (by kernel_rfl) (by kernel_rfl) (by kernel_rfl) rfl (by omega) v l.length (cellsN l) hown ⟨g, o, none⟩ 1 cp (nnc e) (by simp [nnc])
    (fun j u hu => by rw [show (⟨g, o, none⟩ : Addr).add j = ⟨g, o + j, none⟩ by unfold Addr.add; split <;> simp_all]; exact hr j u hu)
    (fun u hu => by
      unfold nnc at hu
      simp at hu
      rcases hu with rfl | rfl
      · rfl
      · rfl) (by simp only [maxLen]; omega) (by omega) hbase
  refine ⟨v', w', hrun, ?_, h3⟩
  unfold OwnN
  rw [List.length_append, cellsN_snoc]
  exact h2
/-- Nonces that came in. -/
def NnsF (w : World) (v : Value) (l : List Nn) : Prop := NnsR w v l ∧ ∀ n ∈ l, n.fit
theorem NnsF.fit {w : World} {v : Value} {l : List Nn} (h : NnsF w v l) (k : Nat) (hk : k < l.length) : (l.getD k Nn.zero).fit := by
  refine h.2 _ ?_
  rw [List.getD_eq_getElem?_getD, List.getElem?_eq_getElem hk]
  exact List.getElem_mem hk
set_option maxRecDepth 100000 in
theorem nonce_in {H : Type} {enc : TypeId × Value → H} {W : World} {fuel : Nat} {cs : List Value} {x : DataW H × List MemPlace} (h : DataW.trod enc Try.prog W 0 (fun _ => true) true fuel 26 cs = some x) :
    ∃ a : Nn, cs = [.int .i64 a.b, .int .i64 a.c] ∧ a.fit := by
  obtain ⟨xs, n, -, -, hlen, hxl, hf⟩ := DataW.trod_struct Try.underlying26 h
  have hl3 : cs.length = 2 := hlen.trans (by kernel_rfl)
  have hx3 : xs.length = 2 := hxl
  match cs, hl3, xs, hx3 with
  | [c0, c1], _, [y0, y1], _ =>
    have g0 : DataW.trod enc Try.prog W 0 (fun _ => true) true n 3 [c0] = some y0 := hf 0 _ rfl
    have g1 : DataW.trod enc Try.prog W 0 (fun _ => true) true n 3 [c1] = some y1 := hf 1 _ rfl
    obtain ⟨s, e0, -, w0⟩ := DataW.trod_int Try.underlying3 g0
    obtain ⟨m, e1, -, w1⟩ := DataW.trod_int Try.underlying3 g1
    simp at e0 e1
    subst e0 e1
    exact ⟨⟨s, m⟩, rfl, lit_i64 s w0, lit_i64 m w1⟩
set_option maxRecDepth 100000 in
/-- A nonce by value. -/
theorem open_nonce {H : Type} {enc : TypeId × Value → H} {W : World} {base : Nat} {v : Value} {d : DataW H} {p : List MemPlace} (hv : Value.okWide Try.prog W .any base 26 v) (h : DataW.Trod enc Try.prog W 0 (fun _ => true) true 26 v d p) :
    ∃ n : Nn, v = nv n ∧ n.fit := by
  obtain ⟨cs, rfl, hsz⟩ := okWide_struct Try.underlying26 hv
  obtain ⟨fuel, hf0⟩ := h
  have hf1 : DataW.trod enc Try.prog W 0 (fun _ => true) true fuel 26 cs.toList = some (d, p) := hf0
  obtain ⟨n, hn, hf⟩ := nonce_in hf1
  refine ⟨n, ?_, hf⟩
  unfold nv
  obtain ⟨l⟩ := cs
  simp only at hn
  rw [hn]
/-- A word of 64 bits as the model's integer. -/
def tv (x : BitVec 64) : Int := (x.toNat : Int)
theorem tv_inj {x y : BitVec 64} (h : tv x = tv y) : x = y := by unfold tv at h; exact BitVec.eq_of_toNat_eq (by omega)
theorem tv_and (x y : BitVec 64) : bits .and .u64 (tv x) (tv y) = tv (x &&& y) := by
  unfold tv
  rw [u64_and_nat _ _ x.isLt y.isLt, BitVec.toNat_and]
theorem tv_or (x y : BitVec 64) : bits .or .u64 (tv x) (tv y) = tv (x ||| y) := by
  unfold tv
  rw [u64_or_nat _ _ x.isLt y.isLt, BitVec.toNat_or]
theorem tv_zero : tv 0#64 = 0 := rfl
theorem tv_eq (x : BitVec 64) : tv x = 0 ↔ x = 0#64 := ⟨fun h => tv_inj (h.trans tv_zero.symm), fun h => by rw [h]; rfl⟩
/-- What a window knows: the latest, and a bit a counter. -/
structure Ws where
  n : Nn
  t : BitVec 64
def Ws.zero : Ws := ⟨Nn.zero, 0#64⟩
/-- A window in its block. -/
def WinB (W : World) (q : Nat) (s : Ws) : Prop := W.heap[q]? = some (.cells #[.int .i64 s.n.b, .int .i64 s.n.c, .int .u64 (tv s.t)] 78 (0, 0))
theorem WinB.lt {W : World} {q : Nat} {s : Ws} (h : WinB W q s) : q < W.heap.size := (Array.getElem?_eq_some_iff.1 h).1
theorem WinB.later {W W1 : World} {q : Nat} {s : Ws} (h : WinB W q s) (hb : Below W.heap.size W W1) : WinB W1 q s := (hb.block q h.lt).trans h
theorem WinB.aside {W W1 : World} {q p : Nat} {s : Ws} (h : WinB W q s) (hg : W.grownBy W1 (some p)) (hne : q ≠ p) : WinB W1 q s := (hg.block q h.lt (fun e => hne (by injection e))).trans h
theorem WinB.cells {W : World} {q : Nat} {s : Ws} (h : WinB W q s) : W.cell? ⟨q, 0, none⟩ = some (.int .i64 s.n.b) ∧ W.cell? ⟨q, 1, none⟩ = some (.int .i64 s.n.c) ∧ W.cell? ⟨q, 2, none⟩ = some (.int .u64 (tv s.t)) :=
  ⟨by rw [cell_of_row _ _ _ _ _ _ h]; rfl, by rw [cell_of_row _ _ _ _ _ _ h]; rfl, by rw [cell_of_row _ _ _ _ _ _ h]; rfl⟩
theorem WinB.kind {W : World} {q : Nat} {s : Ws} (h : WinB W q s) {T : TypeId} (hT : T ≠ 78) : ∀ cs fr, W.heap[q]? ≠ some (.cells cs T fr) := fun cs fr e => by
  rw [h] at e
  injection e with e
  injection e with _ e2
  exact hT e2.symm
/-- A window stays where a row grows. -/
theorem WinB.row {W W1 : World} {T : TypeId} {q base : Nat} {s : Ws} {v : Value} {l : List Nn} (h : WinB W q s) (hT : T ≠ 78) (ho : OwnN T W base v l) (hg : W.grownBy W1 v.ownBlock) : WinB W1 q s := (hg.block q h.lt (fun e => by
  obtain ⟨cs, fr, hk⟩ := ho.kind q e.symm
  exact h.kind hT cs fr hk)).trans h
end Go.Proofs.Ytdbdpehagkglfaa
namespace Go.Proofs.Ytdbdpehagkglfaa
open Go Go.RowKit
/-- Is it a boot? Is it a nonce? -/
def bootN (b : Int) : Bool := decide (1 ≤ b ∧ b ≤ 65535)
def okN (n : Nn) : Bool := bootN n.b && decide (1 ≤ n.c ∧ n.c ≤ 2147483647)
theorem okN_iff (n : Nn) : okN n = true ↔ 1 ≤ n.b ∧ n.b ≤ 65535 ∧ 1 ≤ n.c ∧ n.c ≤ 2147483647 := by
  unfold okN bootN
  rw [Bool.and_eq_true, decide_eq_true_eq, decide_eq_true_eq]
  exact ⟨fun h => ⟨h.1.1, h.1.2, h.2.1, h.2.2⟩, fun h => ⟨⟨h.1, h.2.1⟩, h.2.2.1, h.2.2.2⟩⟩
/-- Is the one ahead of the other? -/
def lessN (a b : Nn) : Bool := decide (a.b < b.b ∨ a.b = b.b ∧ a.c < b.c)
set_option maxRecDepth 100000 in
set_option maxHeartbeats 4000000 in
theorem boot_any (b : Int) (w : World) : Calls Try.prog 68 #[.int .i64 b] w fun e w' => e = .returned (.bool (bootN b)) ∧ w = w' := by
  by_cases h1 : 1 ≤ b
  · by_cases h2 : b ≤ 65535
    · have hd : decide (1 ≤ b) = true := decide_eq_true h1
      rw [show bootN b = true from decide_eq_true ⟨h1, h2⟩]
      go_enter Try.func68, Try.ntmps68
      go_wp2
      go_ret
      exact ⟨rfl, rfl⟩
    · have hd : decide (1 ≤ b) = true := decide_eq_true h1
      rw [show bootN b = false from decide_eq_false (fun h => h2 h.2)]
      go_enter Try.func68, Try.ntmps68
      go_wp2
      go_ret
      exact ⟨rfl, rfl⟩
  · rw [show bootN b = false from decide_eq_false (fun h => h1 h.1)]
    go_enter Try.func68, Try.ntmps68
    go_wp2
    go_ret
    exact ⟨rfl, rfl⟩
set_option maxRecDepth 100000 in
set_option maxHeartbeats 4000000 in
theorem check_any (n : Nn) (w : World) : Calls Try.prog 61 #[nv n] w fun e w' => e = .returned (.int .i64 (if okN n = true then 0 else 10)) ∧ Below w.heap.size w w' := by
  have HB := Bx.mk fun (W : World) => boot_any n.b W
  have HBl : Bx (Below w.heap.size w (w.alloc (.cells #[.int .i64 n.b, .int .i64 n.c] 51))) := Bx.mk (below_a _)
  obtain ⟨b, c⟩ := n
  unfold nv
  unfold okN
  simp only at HB HBl ⊢
  cases hb : bootN b with
  | false =>
    rw [hb] at HB
    rw [if_neg (by simp)]
    clear hb
    go_enter Try.func61, Try.ntmps61
    go_wp2_with fail
    refine (HB.out _).mono ?_
    rintro e w1 ⟨rfl, rfl⟩
    go_wp2
    go_ret
    exact ⟨rfl, HBl.out⟩
  | true =>
    rw [hb] at HB
    clear hb
    by_cases h1 : c < 1
    · rw [if_neg (by simp; omega)]
      have hd : decide (c < 1) = true := decide_eq_true h1
      go_enter Try.func61, Try.ntmps61
      go_wp2_with fail
      refine (HB.out _).mono ?_
      rintro e w1 ⟨rfl, rfl⟩
      go_wp2
      go_ret
      exact ⟨rfl, HBl.out⟩
    · by_cases h2 : 2147483647 < c
      · rw [if_neg (by simp; omega)]
        go_enter Try.func61, Try.ntmps61
        go_wp2_with fail
        refine (HB.out _).mono ?_
        rintro e w1 ⟨rfl, rfl⟩
        go_wp2
        go_ret
        exact ⟨rfl, HBl.out⟩
      · rw [if_pos (by simp; omega)]
        go_enter Try.func61, Try.ntmps61
        go_wp2_with fail
        refine (HB.out _).mono ?_
        rintro e w1 ⟨rfl, rfl⟩
        go_wp2
        go_ret
        exact ⟨rfl, HBl.out⟩
set_option maxRecDepth 100000 in
set_option maxHeartbeats 4000000 in
theorem wless_any (x y : Nn) (w : World) : Calls Try.prog 57 #[nv x, nv y] w fun e w' => e = .returned (.bool (lessN x y)) ∧ Below w.heap.size w w' := by
  obtain ⟨b, c⟩ := x
  obtain ⟨d, g⟩ := y
  have HBl : Bx (Below w.heap.size w ((w.alloc (.cells #[.int .i64 b, .int .i64 c] 51)).alloc (.cells #[.int .i64 d, .int .i64 g] 51))) := Bx.mk ((below_a _).trans ((below_a _).mono (by simp)))
  have hL : lessN ⟨b, c⟩ ⟨d, g⟩ = if b = d then decide (c < g) else decide (b < d) := by
    unfold lessN
    split <;> rename_i h <;> simp only [h, true_and, false_and, or_false, Int.lt_irrefl, false_or]
  rw [hL]
  clear hL
  unfold nv
  by_cases h : b = d
  · subst h
    rw [if_pos rfl]
    go_enter Try.func57, Try.ntmps57
    go_wp2
    go_ret
    exact ⟨rfl, HBl.out⟩
  · rw [if_neg h]
    go_enter Try.func57, Try.ntmps57
    go_wp2
    go_ret
    exact ⟨rfl, HBl.out⟩
set_option maxRecDepth 100000 in
set_option maxHeartbeats 4000000 in
theorem rless_any (x y : Nn) (w : World) : Calls Try.prog 67 #[nv x, nv y] w fun e w' => e = .returned (.bool (lessN x y)) ∧ Below w.heap.size w w' := by
  obtain ⟨b, c⟩ := x
  obtain ⟨d, g⟩ := y
  have HBl : Bx (Below w.heap.size w ((w.alloc (.cells #[.int .i64 b, .int .i64 c] 26)).alloc (.cells #[.int .i64 d, .int .i64 g] 26))) := Bx.mk ((below_a _).trans ((below_a _).mono (by simp)))
  have hL : lessN ⟨b, c⟩ ⟨d, g⟩ = if b = d then decide (c < g) else decide (b < d) := by
    unfold lessN
    split <;> rename_i h <;> simp only [h, true_and, false_and, or_false, Int.lt_irrefl, false_or]
  rw [hL]
  clear hL
  unfold nv
  by_cases h : b = d
  · subst h
    rw [if_pos rfl]
    go_enter Try.func67, Try.ntmps67
    go_wp2
    go_ret
    exact ⟨rfl, HBl.out⟩
  · rw [if_neg h]
    go_enter Try.func67, Try.ntmps67
    go_wp2
    go_ret
    exact ⟨rfl, HBl.out⟩
set_option maxRecDepth 100000 in
set_option maxHeartbeats 4000000 in
theorem rright12_any (n : Nn) (w : World) : Calls Try.prog 55 #[nv n] w fun e w' => e = .returned (.bool (okN n)) ∧ Below w.heap.size w w' := by
  obtain ⟨b, c⟩ := n
  have HBl : Bx (Below w.heap.size w (w.alloc (.cells #[.int .i64 b, .int .i64 c] 26))) := Bx.mk (below_a _)
  unfold okN bootN nv
  by_cases h1 : 0 < b
  · have d1 : decide (0 < b) = true := decide_eq_true h1
    by_cases h2 : b < 65536
    · have d2 : decide (b < 65536) = true := decide_eq_true h2
      by_cases h3 : 0 < c
      · have d3 : decide (0 < c) = true := decide_eq_true h3
        by_cases h4 : c < 2147483648
        · rw [show (decide (1 ≤ b ∧ b ≤ 65535) && decide (1 ≤ c ∧ c ≤ 2147483647)) = true by simp; omega]
          go_enter Try.func55, Try.ntmps55
          go_wp2
          go_ret
          exact ⟨rfl, HBl.out⟩
        · rw [show (decide (1 ≤ b ∧ b ≤ 65535) && decide (1 ≤ c ∧ c ≤ 2147483647)) = false by simp; omega]
          go_enter Try.func55, Try.ntmps55
          go_wp2
          go_ret
          exact ⟨rfl, HBl.out⟩
      · rw [show (decide (1 ≤ b ∧ b ≤ 65535) && decide (1 ≤ c ∧ c ≤ 2147483647)) = false by simp; omega]
        go_enter Try.func55, Try.ntmps55
        go_wp2
        go_ret
        exact ⟨rfl, HBl.out⟩
    · rw [show (decide (1 ≤ b ∧ b ≤ 65535) && decide (1 ≤ c ∧ c ≤ 2147483647)) = false by simp; omega]
      go_enter Try.func55, Try.ntmps55
      go_wp2
      go_ret
      exact ⟨rfl, HBl.out⟩
  · rw [show (decide (1 ≤ b ∧ b ≤ 65535) && decide (1 ≤ c ∧ c ≤ 2147483647)) = false by simp; omega]
    go_enter Try.func55, Try.ntmps55
    go_wp2
    go_ret
    exact ⟨rfl, HBl.out⟩
set_option maxRecDepth 100000 in
set_option maxHeartbeats 4000000 in
theorem to12_any (n : Nn) (w : World) : Calls Try.prog 18 #[nv n] w fun e w' => e = .returned (nv n) ∧ Below w.heap.size w w' := by
  obtain ⟨b, c⟩ := n
  have HBl : Bx (Below w.heap.size w ((w.alloc (.cells #[.int .i64 b, .int .i64 c] 26)).alloc (.cells #[.int .i64 b, .int .i64 c] 51))) := Bx.mk ((below_a _).trans ((below_a _).mono (by simp)))
  unfold nv
  go_enter Try.func18, Try.ntmps18
  go_wp2
  refine bodyPost_ret (results_cell_row rfl _ _ (w.heap.size + 1) _ _ _ _ rfl (hnew _ _ _ (by simp)) Try.underlying51 rfl (by kernel_rfl)) rfl ?_
  exact ⟨rfl, HBl.out⟩
end Go.Proofs.Ytdbdpehagkglfaa
namespace Go.Proofs.Ytdbdpehagkglfaa
open Go Go.RowKit
/-- Is a nonce old? -/
def forgW (s : Ws) (n : Nn) : Bool := decide (n.b < s.n.b ∨ n.b = s.n.b ∧ 64 ≤ s.n.c - n.c)
/-- A nonce's bit. -/
def bitW (s : Ws) (n : Nn) : BitVec 64 := if n.b = s.n.b ∧ n.c ≤ s.n.c then 1#64 <<< (s.n.c - n.c).toNat else 0#64
/-- A greater nonce is the latest. -/
def riseW (s : Ws) (n : Nn) : Ws := ⟨n, if n.b = s.n.b then s.t <<< (n.c - s.n.c).toNat else 0#64⟩
/-- The latest of a window is a nonce, or the zero one. -/
def Ws.ok (s : Ws) : Prop := 0 ≤ s.n.b ∧ s.n.b ≤ 65535 ∧ 0 ≤ s.n.c ∧ s.n.c ≤ 2147483647
theorem tv_shl (x : BitVec 64) (k : Nat) : IntKind.u64.wrap (tv x * 2 ^ k) = tv (x <<< k) := by
  unfold tv
  rw [IntKind.wrap_u64, BitVec.toNat_shiftLeft, Nat.shiftLeft_eq]
  simp
theorem tv_one (k : Nat) (h : k < 64) : (2 : Int) ^ k = tv (1#64 <<< k) := by
  unfold tv
  rw [BitVec.toNat_shiftLeft, Nat.shiftLeft_eq, BitVec.toNat_ofNat, Nat.mod_eq_of_lt (by decide : 1 < 2 ^ 64), Nat.one_mul, Nat.mod_eq_of_lt (Nat.pow_lt_pow_right (by decide) h)]
  simp
theorem tv_wrap (x : BitVec 64) : IntKind.u64.wrap (tv x) = tv x := by
  unfold tv
  have := x.isLt
  rw [IntKind.wrap_u64]
  omega
/-- A nonce in its own block. -/
def BoxN (T : TypeId) (X : Nat) (n : Nn) (W : World) : Prop := W.heap[X]? = some (.cells #[.int .i64 n.b, .int .i64 n.c] T (0, 0))
theorem BoxN.lt {T : TypeId} {X : Nat} {n : Nn} {W : World} (h : BoxN T X n W) : X < W.heap.size := (Array.getElem?_eq_some_iff.1 h).1
theorem BoxN.later {T : TypeId} {X : Nat} {n : Nn} {W W1 : World} (h : BoxN T X n W) (hb : Below W.heap.size W W1) : BoxN T X n W1 := (hb.block X h.lt).trans h
theorem BoxN.aside {T : TypeId} {X p : Nat} {n : Nn} {W W1 : World} (h : BoxN T X n W) (hg : W.grownBy W1 (some p)) (hne : X ≠ p) : BoxN T X n W1 := (hg.block X h.lt (fun e => hne (by injection e))).trans h
theorem BoxN.cells {T : TypeId} {X : Nat} {n : Nn} {W : World} (h : BoxN T X n W) : W.cell? ⟨X, 0, none⟩ = some (.int .i64 n.b) ∧ W.cell? ⟨X, 1, none⟩ = some (.int .i64 n.c) :=
  ⟨by rw [cell_of_row _ _ _ _ _ _ h]; rfl, by rw [cell_of_row _ _ _ _ _ _ h]; rfl⟩
theorem BoxN.range {T : TypeId} {X : Nat} {n : Nn} {W : World} (h : BoxN T X n W) : W.rangeAt X 0 [.int .i64 n.b, .int .i64 n.c] := fun j u hj => by
  rw [cell_of_row _ _ _ _ _ _ h, Nat.zero_add, ← Array.getElem?_toList]
  exact hj
theorem WinB.range {W : World} {q : Nat} {s : Ws} (h : WinB W q s) : W.rangeAt q 0 [.int .i64 s.n.b, .int .i64 s.n.c] := fun j u hj => by
  have hj2 : j < 2 := (List.getElem?_eq_some_iff.1 hj).1
  rw [cell_of_row _ _ _ _ _ _ h, Nat.zero_add, ← Array.getElem?_toList]
  match j, hj2 with
  | 0, _ => exact hj
  | 1, _ => exact hj
theorem WinB.setT {W : World} {q : Nat} {s : Ws} (h : WinB W q s) (t : BitVec 64) : WinB (W.setCell ⟨q, 2, none⟩ (.int .u64 (tv t))) q ⟨s.n, t⟩ := by
  have := heap_setCells_same q _ [.int .u64 (tv t)] 2 W _ h
  exact this
theorem WinB.setN {W : World} {q : Nat} {s : Ws} (h : WinB W q s) (n : Nn) : WinB (W.setCells q 0 [.int .i64 n.b, .int .i64 n.c]) q ⟨n, s.t⟩ := by
  have := heap_setCells_same q _ [.int .i64 n.b, .int .i64 n.c] 0 W _ h
  exact this
theorem WinB.frozen {W : World} {q : Nat} {s : Ws} (h : WinB W q s) (i : Nat) : W.frozen? ⟨q, i, none⟩ = false := frozen_of_row _ _ _ _ _ h
theorem tv_shlm (x : BitVec 64) (k : Nat) : IntKind.u64.wrap (tv x * 2 ^ min k 64) = tv (x <<< k) := by
  rw [tv_shl]
  by_cases h : k ≤ 64
  · rw [Nat.min_eq_left h]
  · rw [Nat.min_eq_right (by omega), BitVec.shiftLeft_eq_zero (by omega), BitVec.shiftLeft_eq_zero (by omega)]
end Go.Proofs.Ytdbdpehagkglfaa
namespace Go.Proofs.Ytdbdpehagkglfaa
open Go Go.RowKit
/-- May a nonce be taken? -/
def lookW (s : Ws) (n : Nn) : Int := if okN n = false then 10 else if forgW s n = true then 9 else if s.t &&& bitW s n = 0#64 then 0 else 8
/-- A window behind a Take. -/
def takeW (s : Ws) (n : Nn) : Ws := if lookW s n = 0 then ⟨(if lessN s.n n = true then riseW s n else s).n, (if lessN s.n n = true then riseW s n else s).t ||| bitW (if lessN s.n n = true then riseW s n else s) n⟩ else s
theorem forgW_false {s : Ws} {n : Nn} (h : forgW s n = false) (hb : n.b = s.n.b) : s.n.c - n.c < 64 := by
  unfold forgW at h
  have := of_decide_eq_false h
  omega
theorem takeW_ok {s : Ws} {n : Nn} (h : s.ok) : (takeW s n).ok := by
  unfold takeW
  split
  · rename_i h0
    have hok : okN n = true := by
      unfold lookW at h0
      split at h0
      · omega
      · rename_i h1; simpa using h1
    obtain ⟨h1, h2, h3, h4⟩ := (okN_iff n).1 hok
    split
    · exact ⟨by show 0 ≤ n.b; omega, h2, by show 0 ≤ n.c; omega, h4⟩
    · exact h
  · exact h
theorem zero_ok : Ws.zero.ok := by unfold Ws.zero Ws.ok Nn.zero; simp
end Go.Proofs.Ytdbdpehagkglfaa
namespace Go.Proofs.Ytdbdpehagkglfaa
open Go Go.RowKit
variable {xE : List Value} {KT : TypeId}
/-- A window at the head of its block. -/
def WinE (xE : List Value) (KT : TypeId) (W : World) (q : Nat) (s : Ws) : Prop := W.heap[q]? = some (.cells (.int .i64 s.n.b :: .int .i64 s.n.c :: .int .u64 (tv s.t) :: xE).toArray KT (0, 0))
theorem WinE.lt {W : World} {q : Nat} {s : Ws} (h : WinE xE KT W q s) : q < W.heap.size := (Array.getElem?_eq_some_iff.1 h).1
theorem WinE.later {W W1 : World} {q : Nat} {s : Ws} (h : WinE xE KT W q s) (hb : Below W.heap.size W W1) : WinE xE KT W1 q s := (hb.block q h.lt).trans h
theorem WinE.aside {W W1 : World} {q p : Nat} {s : Ws} (h : WinE xE KT W q s) (hg : W.grownBy W1 (some p)) (hne : q ≠ p) : WinE xE KT W1 q s := (hg.block q h.lt (fun e => hne (by injection e))).trans h
theorem WinE.cells {W : World} {q : Nat} {s : Ws} (h : WinE xE KT W q s) : W.cell? ⟨q, 0, none⟩ = some (.int .i64 s.n.b) ∧ W.cell? ⟨q, 1, none⟩ = some (.int .i64 s.n.c) ∧ W.cell? ⟨q, 2, none⟩ = some (.int .u64 (tv s.t)) :=
  ⟨by rw [cell_of_row _ _ _ _ _ _ h]; rfl, by rw [cell_of_row _ _ _ _ _ _ h]; rfl, by rw [cell_of_row _ _ _ _ _ _ h]; rfl⟩
theorem WinE.range {W : World} {q : Nat} {s : Ws} (h : WinE xE KT W q s) : W.rangeAt q 0 [.int .i64 s.n.b, .int .i64 s.n.c] := fun j u hj => by
  have hj2 : j < 2 := (List.getElem?_eq_some_iff.1 hj).1
  rw [cell_of_row _ _ _ _ _ _ h, Nat.zero_add, ← Array.getElem?_toList]
  match j, hj2 with
  | 0, _ => exact hj
  | 1, _ => exact hj
theorem WinE.setT {W : World} {q : Nat} {s : Ws} (h : WinE xE KT W q s) (t : BitVec 64) : WinE xE KT (W.setCell ⟨q, 2, none⟩ (.int .u64 (tv t))) q ⟨s.n, t⟩ := by
  have h1 : (W.setCell ⟨q, 2, none⟩ (.int .u64 (tv t))).heap[q]? = _ := heap_setCells_same q _ [.int .u64 (tv t)] 2 W _ h
  simpa [spl, WinE] using h1
theorem WinE.setN {W : World} {q : Nat} {s : Ws} (h : WinE xE KT W q s) (n : Nn) : WinE xE KT (W.setCells q 0 [.int .i64 n.b, .int .i64 n.c]) q ⟨n, s.t⟩ := by
  have := heap_setCells_same q _ [.int .i64 n.b, .int .i64 n.c] 0 W _ h
  simpa [spl, WinE] using this
theorem WinE.frozen {W : World} {q : Nat} {s : Ws} (h : WinE xE KT W q s) (i : Nat) : W.frozen? ⟨q, i, none⟩ = false := frozen_of_row _ _ _ _ _ h
set_option maxRecDepth 100000 in
set_option maxHeartbeats 4000000 in
theorem forgotE (q : Nat) (s : Ws) (n : Nn) (w : World) (h : WinE xE KT w q s) (hs : s.ok) (hn : okN n = true) : Calls Try.prog 62 #[.pointer (some ⟨q, 0, none⟩), nv n] w fun e w' => e = .returned (.bool (forgW s n)) ∧ Below w.heap.size w w' := by
  obtain ⟨c0, c1, c2⟩ := (h.later (below_a (.cells #[.int .i64 n.b, .int .i64 n.c] 51))).cells
  have HBl : Bx (Below w.heap.size w (w.alloc (.cells #[.int .i64 n.b, .int .i64 n.c] 51))) := Bx.mk (below_a _)
  obtain ⟨n1, n2, n3, n4⟩ := (okN_iff n).1 hn
  obtain ⟨s1, s2, s3, s4⟩ := hs
  have hq := h.lt
  have hne : q ≠ w.heap.size := by omega
  obtain ⟨b, c⟩ := n
  obtain ⟨⟨B, C⟩, T⟩ := s
  simp only at c0 c1 c2 n1 n2 n3 n4 s1 s2 s3 s4 HBl
  unfold forgW nv
  simp only
  have e1 : IntKind.i64.wrap (C - c) = C - c := by simp [IntKind.wrap_i64]; omega
  have e2 : wrap64 (C - c) = C - c := by unfold wrap64; omega
  clear h hn hq n1 n2 n3 n4 s1 s2 s3 s4 c2
  by_cases h1 : b < B
  · rw [decide_eq_true (.inl h1)]
    have d1 : decide (b < B) = true := decide_eq_true h1
    go_enter Try.func62, Try.ntmps62
    go_wp2
    skip -- M1
    go_quiet (fail)
    skip -- M2
    go_wp2
    go_ret
    exact ⟨rfl, below_drewN HBl.out _⟩
  · have d1 : decide (b < B) = false := decide_eq_false h1
    by_cases h2 : b = B
    · subst h2
      have d2 : decide (b = b) = true := decide_eq_true rfl
      by_cases h3 : 64 ≤ C - c
      · rw [decide_eq_true (.inr ⟨rfl, h3⟩)]
        go_enter Try.func62, Try.ntmps62
        go_wp2
        go_quiet (fail)
        go_wp2
        go_ret
        exact ⟨rfl, below_drewN HBl.out _⟩
      · rw [decide_eq_false (fun h => h3 (by omega))]
        have d3 : decide (64 ≤ C - c) = false := decide_eq_false h3
        go_enter Try.func62, Try.ntmps62
        go_wp2
        go_quiet (fail)
        go_wp2
        go_ret
        exact ⟨rfl, below_drewN HBl.out _⟩
    · have d2 : decide (b = B) = false := decide_eq_false h2
      rw [decide_eq_false (fun h => by omega)]
      go_enter Try.func62, Try.ntmps62
      go_wp2
      go_quiet (fail)
      go_wp2
      go_ret
      exact ⟨rfl, below_drewN HBl.out _⟩
set_option maxRecDepth 100000 in
set_option maxHeartbeats 4000000 in
theorem bitE12 (q : Nat) (s : Ws) (n : Nn) (w : World) (h : WinE xE KT w q s) (hs : s.ok) (hn : okN n = true) (hk : n.b = s.n.b → s.n.c - n.c < 64) : Calls Try.prog 59 #[.pointer (some ⟨q, 0, none⟩), nv n] w fun e w' => e = .returned (.int .u64 (tv (bitW s n))) ∧ Below w.heap.size w w' := by
  obtain ⟨c0, c1, c2⟩ := (h.later (below_a (.cells #[.int .i64 n.b, .int .i64 n.c] 51))).cells
  have HBl : Bx (Below w.heap.size w (w.alloc (.cells #[.int .i64 n.b, .int .i64 n.c] 51))) := Bx.mk (below_a _)
  obtain ⟨n1, n2, n3, n4⟩ := (okN_iff n).1 hn
  obtain ⟨s1, s2, s3, s4⟩ := hs
  have hq := h.lt
  have hne : q ≠ w.heap.size := by omega
  obtain ⟨b, c⟩ := n
  obtain ⟨⟨B, C⟩, T⟩ := s
  simp only at c0 c1 c2 n1 n2 n3 n4 s1 s2 s3 s4 HBl hk
  unfold bitW nv
  simp only
  have e1 : IntKind.i64.wrap (C - c) = C - c := by simp [IntKind.wrap_i64]; omega
  clear h hn hq n1 n2 n3 n4 s1 s2 s3 s4 c2
  by_cases h1 : b = B
  · subst h1
    have d1 : decide (b = b) = true := decide_eq_true rfl
    have hk := hk rfl
    by_cases h2 : C < c
    · rw [if_neg (fun h => by omega)]
      have d2 : decide (C < c) = true := decide_eq_true h2
      clear hk
      go_enter Try.func59, Try.ntmps59
      go_wp2
      go_quiet (fail)
      go_wp2
      go_ret
      exact ⟨rfl, below_drewN HBl.out _⟩
    · rw [if_pos ⟨rfl, by omega⟩]
      have d2 : decide (C < c) = false := decide_eq_false h2
      obtain ⟨k, hkk⟩ : ∃ k : Nat, C - c = (k : Int) := ⟨(C - c).toNat, by omega⟩
      have hp := tv_one k (by omega)
      rw [hkk, Int.toNat_natCast]
      have e3 : IntKind.i64.wrap (C - c) = (k : Int) := by rw [e1, hkk]
      have e5 := tv_wrap (1#64 <<< k)
      have hk64 : (k : Int) < 64 := by omega
      have hk0 : (0 : Int) ≤ (k : Int) := by omega
      clear hk e1 h2
      go_enter Try.func59, Try.ntmps59
      go_wp2
      go_quiet (fail)
      go_wp2
      skip -- M3
      go_quiet (fail)
      skip -- M4
      go_wp2
      go_ret
      exact ⟨rfl, below_drewN (below_drewN HBl.out _) _⟩
  · rw [if_neg (fun h => h1 h.1)]
    have d1 : decide (b = B) = false := decide_eq_false h1
    go_enter Try.func59, Try.ntmps59
    go_wp2
    go_quiet (fail)
    go_wp2
    go_ret
    exact ⟨rfl, below_drewN HBl.out _⟩
set_option maxRecDepth 100000 in
set_option maxHeartbeats 4000000 in
theorem riseE_same (q : Nat) (s : Ws) (n : Nn) (w : World) (h : WinE xE KT w q s) (hs : s.ok) (hn : okN n = true) (hb : n.b = s.n.b) (hl : s.n.c < n.c) : Calls Try.prog 58 #[.pointer (some ⟨q, 0, none⟩), nv n] w fun e w' => e = .returned (.tuple #[]) ∧ WinE xE KT w' q (riseW s n) ∧ w.grownBy w' (some q) := by
  obtain ⟨c0, c1, c2⟩ := (h.later (below_a (.cells #[.int .i64 n.b, .int .i64 n.c] 51))).cells
  have HW := Bx.mk (h.later (below_a (.cells #[.int .i64 n.b, .int .i64 n.c] 51)))
  have HX : Bx (BoxN 51 w.heap.size n (w.alloc (.cells #[.int .i64 n.b, .int .i64 n.c] 51))) := Bx.mk (hnew _ _ _ rfl)
  have HG : Bx (w.grownBy (w.alloc (.cells #[.int .i64 n.b, .int .i64 n.c] 51)) (some q)) := Bx.mk (kb_below _ (below_a _))
  obtain ⟨n1, n2, n3, n4⟩ := (okN_iff n).1 hn
  obtain ⟨s1, s2, s3, s4⟩ := hs
  have hq := h.lt
  have hne : q ≠ w.heap.size := by omega
  have hne' : w.heap.size ≠ q := by omega
  clear hq h hn
  obtain ⟨b, c⟩ := n
  obtain ⟨⟨B, C⟩, T⟩ := s
  simp only at c0 c1 c2 n1 n2 n3 n4 s1 s2 s3 s4 HX HG HW hb hl
  subst hb
  unfold riseW nv
  simp only [if_true]
  obtain ⟨k, hk⟩ : ∃ k : Nat, c - C = (k : Int) := ⟨(c - C).toNat, by omega⟩
  rw [hk, Int.toNat_natCast]
  have e1 : IntKind.i64.wrap (c - C) = (k : Int) := by rw [← hk]; simp [IntKind.wrap_i64]; omega
  have e2 := tv_shlm T k
  have e3 : IntKind.u64.wrap (k : Int) = (k : Int) := by rw [IntKind.wrap_u64]; omega
  have f2 := HW.out.frozen 2
  have d1 : decide (b = b) = true := decide_eq_true rfl
  have hk0 : (0 : Int) ≤ (k : Int) := by omega
  have hk1 : (k : Int) ≤ 2147483647 := by omega
  clear hk hl n1 n2 n3 n4 s1 s2 s3 s4
  go_enter Try.func58, Try.ntmps58
  go_wp2
  go_quiet (fail)
  go_wp2
  skip -- M5
  go_region
  have HW2 : Bx (WinE xE KT (((w.alloc (.cells #[.int .i64 b, .int .i64 c] 51)).drewN (nq + 1)).setCell ⟨q, 2, none⟩ (.int .u64 (tv (T <<< k)))) q ⟨⟨b, C⟩, T <<< k⟩ ∧ BoxN 51 w.heap.size ⟨b, c⟩ (((w.alloc (.cells #[.int .i64 b, .int .i64 c] 51)).drewN (nq + 1)).setCell ⟨q, 2, none⟩ (.int .u64 (tv (T <<< k)))) ∧ w.grownBy (((w.alloc (.cells #[.int .i64 b, .int .i64 c] 51)).drewN (nq + 1)).setCell ⟨q, 2, none⟩ (.int .u64 (tv (T <<< k)))) (some q)) := Bx.mk (by
    have h1 := HW.out.later (below_drewN (Below.refl _ _) (nq + 1))
    have h2 := HX.out.later (below_drewN (Below.refl _ _) (nq + 1))
    exact ⟨h1.setT (T <<< k), h2.aside (kb_setCell _ 2 _) hne', kb_trans (kb_trans HG.out (kb_drewN _ _ _)) (kb_setCell _ 2 _)⟩)
  generalize (((w.alloc (.cells #[.int .i64 b, .int .i64 c] 51)).drewN (nq + 1)).setCell ⟨q, 2, none⟩ (.int .u64 (tv (T <<< k)))) = w2 at *
  clear c0 c1 c2 f2 HW HX HG
  have f0 := HW2.out.1.frozen 0
  have f1 := HW2.out.1.frozen 1
  obtain ⟨c0, c1, c2⟩ := HW2.out.1.cells
  obtain ⟨x0, x1⟩ := HW2.out.2.1.cells
  go_wp2
  go_end0
  exact ⟨rfl, HW2.out.1.setN ⟨b, c⟩, kb_trans HW2.out.2.2 (kb_trans (kb_setCell _ 0 _) (kb_setCell _ 1 _))⟩
set_option maxRecDepth 100000 in
set_option maxHeartbeats 4000000 in
theorem riseE_other (q : Nat) (s : Ws) (n : Nn) (w : World) (h : WinE xE KT w q s) (hs : s.ok) (hn : okN n = true) (hb : n.b ≠ s.n.b) : Calls Try.prog 58 #[.pointer (some ⟨q, 0, none⟩), nv n] w fun e w' => e = .returned (.tuple #[]) ∧ WinE xE KT w' q (riseW s n) ∧ w.grownBy w' (some q) := by
  obtain ⟨c0, c1, c2⟩ := (h.later (below_a (.cells #[.int .i64 n.b, .int .i64 n.c] 51))).cells
  have HW := Bx.mk (h.later (below_a (.cells #[.int .i64 n.b, .int .i64 n.c] 51)))
  have HX : Bx (BoxN 51 w.heap.size n (w.alloc (.cells #[.int .i64 n.b, .int .i64 n.c] 51))) := Bx.mk (hnew _ _ _ rfl)
  have HG : Bx (w.grownBy (w.alloc (.cells #[.int .i64 n.b, .int .i64 n.c] 51)) (some q)) := Bx.mk (kb_below _ (below_a _))
  obtain ⟨n1, n2, n3, n4⟩ := (okN_iff n).1 hn
  obtain ⟨s1, s2, s3, s4⟩ := hs
  have hq := h.lt
  have hne : q ≠ w.heap.size := by omega
  have hne' : w.heap.size ≠ q := by omega
  clear hq h hn
  obtain ⟨b, c⟩ := n
  obtain ⟨⟨B, C⟩, T⟩ := s
  simp only at c0 c1 c2 n1 n2 n3 n4 s1 s2 s3 s4 HX HG HW hb
  unfold riseW nv
  simp only
  rw [if_neg hb]
  have d1 : decide (b = B) = false := decide_eq_false hb
  have f2 := HW.out.frozen 2
  have hb' : ¬ b = B := hb
  clear hb n1 n2 n3 n4 s1 s2 s3 s4
  go_enter Try.func58, Try.ntmps58
  go_wp2
  go_quiet (fail)
  have HW1 : Bx (WinE xE KT ((w.alloc (.cells #[.int .i64 b, .int .i64 c] 51)).drewN nq) q ⟨⟨B, C⟩, T⟩ ∧ BoxN 51 w.heap.size ⟨b, c⟩ ((w.alloc (.cells #[.int .i64 b, .int .i64 c] 51)).drewN nq) ∧ w.grownBy ((w.alloc (.cells #[.int .i64 b, .int .i64 c] 51)).drewN nq) (some q)) := Bx.mk (by
    have h1 := HW.out.later (below_drewN (Below.refl _ _) nq)
    have h2 := HX.out.later (below_drewN (Below.refl _ _) nq)
    exact ⟨h1, h2, kb_trans HG.out (kb_drewN _ _ _)⟩)
  generalize (w.alloc (.cells #[.int .i64 b, .int .i64 c] 51)).drewN nq = w1 at *
  clear c0 c1 c2 f2 HW HX HG
  have f2 := HW1.out.1.frozen 2
  obtain ⟨c0, c1, c2⟩ := HW1.out.1.cells
  go_upto_region 4 with fail
  have HW2 : Bx (WinE xE KT (w1.setCell ⟨q, 2, none⟩ (.int .u64 0)) q ⟨⟨B, C⟩, 0#64⟩ ∧ BoxN 51 w.heap.size ⟨b, c⟩ (w1.setCell ⟨q, 2, none⟩ (.int .u64 0)) ∧ w.grownBy (w1.setCell ⟨q, 2, none⟩ (.int .u64 0)) (some q)) := Bx.mk ⟨HW1.out.1.setT 0#64, HW1.out.2.1.aside (kb_setCell _ 2 _) hne', kb_trans HW1.out.2.2 (kb_setCell _ 2 _)⟩
  generalize w1.setCell ⟨q, 2, none⟩ (.int .u64 0) = w2 at *
  clear c0 c1 c2 f2 HW1
  have f0 := HW2.out.1.frozen 0
  have f1 := HW2.out.1.frozen 1
  obtain ⟨c0, c1, c2⟩ := HW2.out.1.cells
  obtain ⟨x0, x1⟩ := HW2.out.2.1.cells
  go_wp2
  go_end0
  exact ⟨rfl, HW2.out.1.setN ⟨b, c⟩, kb_trans HW2.out.2.2 (kb_trans (kb_setCell _ 0 _) (kb_setCell _ 1 _))⟩
end Go.Proofs.Ytdbdpehagkglfaa
namespace Go.Proofs.Ytdbdpehagkglfaa
open Go Go.RowKit
variable {xE : List Value} {KT : TypeId}
set_option maxRecDepth 100000 in
set_option maxHeartbeats 4000000 in
theorem lookE_any (q : Nat) (s : Ws) (n : Nn) (w : World) (h : WinE xE KT w q s) (hs : s.ok) : Calls Try.prog 50 #[.pointer (some ⟨q, 0, none⟩), nv n] w fun e w' => e = .returned (.int .i64 (lookW s n)) ∧ Below w.heap.size w w' := by
  have R1 : Bx (WinE xE KT (w.alloc (.cells #[.int .i64 n.b, .int .i64 n.c] 51)) q s ∧ BoxN 51 w.heap.size n (w.alloc (.cells #[.int .i64 n.b, .int .i64 n.c] 51)) ∧ Below w.heap.size w (w.alloc (.cells #[.int .i64 n.b, .int .i64 n.c] 51))) := Bx.mk ⟨h.later (below_a _), hnew _ _ _ rfl, below_a _⟩
  have HCh := Bx.mk fun (W : World) => check_any n W
  have HFo := Bx.mk fun (hn : okN n = true) (W : World) (h : WinE xE KT W q s) => forgotE q s n W h hs hn
  have HBit := Bx.mk fun (hn : okN n = true) (hf : forgW s n = false) (W : World) (h : WinE xE KT W q s) => bitE12 q s n W h hs hn (fun e => forgW_false hf e)
  clear h hs
  unfold lookW
  cases hok : okN n with
  | false =>
    rw [hok] at HCh
    obtain ⟨b, c⟩ := n
    unfold nv at HCh ⊢
    clear HFo HBit hok
    rw [if_pos rfl]
    go_enter Try.func50, Try.ntmps50
    go_wp2_with fail
    refine (HCh.out _).mono ?_
    rintro e w2 ⟨rfl, hb⟩
    have R2 := Bx.mk (R1.out.2.2.trans (hb.mono R1.out.2.2.size))
    clear hb R1 HCh
    go_wp2
    go_ret
    exact ⟨rfl, R2.out⟩
  | true =>
    rw [hok] at HCh
    have HFo := Bx.mk (HFo.out hok)
    have HBit := Bx.mk (HBit.out hok)
    clear hok
    rw [if_neg (by simp)]
    cases hf : forgW s n with
    | true =>
      rw [hf] at HFo
      clear hf HBit
      rw [if_pos rfl]
      obtain ⟨b, c⟩ := n
      unfold nv at HCh HFo ⊢
      go_enter Try.func50, Try.ntmps50
      go_wp2_with fail
      refine (HCh.out _).mono ?_
      rintro e w2 ⟨rfl, hb⟩
      have R2 := Bx.mk (And.intro (R1.out.1.later hb) (And.intro (R1.out.2.1.later hb) (R1.out.2.2.trans (hb.mono R1.out.2.2.size))))
      clear hb R1 HCh
      obtain ⟨x0, x1⟩ := R2.out.2.1.cells
      go_wp2_with fail
      refine (HFo.out _ R2.out.1).mono ?_
      rintro e w3 ⟨rfl, hb⟩
      have R3 := Bx.mk (R2.out.2.2.trans (hb.mono R2.out.2.2.size))
      clear hb R2 HFo x0 x1
      go_wp2
      go_ret
      exact ⟨rfl, R3.out⟩
    | false =>
      rw [hf] at HFo
      have HBit := Bx.mk (HBit.out hf)
      clear hf
      rw [if_neg (by simp)]
      have HV := Bx.mk (tv_eq (s.t &&& bitW s n))
      have HAnd := tv_and s.t (bitW s n)
      generalize bitW s n = z at *
      obtain ⟨b, c⟩ := n
      obtain ⟨⟨B, C⟩, T⟩ := s
      unfold nv at HCh HFo HBit ⊢
      simp only at HAnd HV ⊢
      obtain ⟨X, hX⟩ : ∃ X, w.heap.size = X := ⟨_, rfl⟩
      rw [hX] at R1 ⊢
      generalize T &&& z = y at *
      by_cases hy : y = 0#64
      · rw [if_pos hy]
        have h0 : tv y = 0 := HV.out.2 hy
        rw [h0] at HAnd
        clear hy h0 HV
        go_enter Try.func50, Try.ntmps50
        go_wp2_with fail
        refine (HCh.out _).mono ?_
        rintro e w2 ⟨rfl, hb⟩
        have R2 := Bx.mk (And.intro (R1.out.1.later hb) (And.intro (R1.out.2.1.later hb) (R1.out.2.2.trans (hb.mono (hX ▸ R1.out.2.2.size)))))
        clear hb R1 HCh
        obtain ⟨x0, x1⟩ := R2.out.2.1.cells
        go_wp2_with fail
        refine (HFo.out _ R2.out.1).mono ?_
        rintro e w3 ⟨rfl, hb⟩
        have R3 := Bx.mk (And.intro (R2.out.1.later hb) (And.intro (R2.out.2.1.later hb) (R2.out.2.2.trans (hb.mono (hX ▸ R2.out.2.2.size)))))
        clear hb R2 HFo x0 x1
        go_upto_region 8 with fail
        skip -- M1
        refine wp_region_noPanic ?_
        refine wp_region_held_drew (S := fun W => W.cell? ⟨q, 2, none⟩ = some (.int .u64 (tv T)) ∧ W.rangeAt X 0 [.int .i64 b, .int .i64 c]) (by kernel_rfl) (⟨(R3.out.1.later (Below.refl _ _).drew).cells.2.2, (R3.out.2.1.later (Below.refl _ _).drew).range⟩) (fun hHeld => ?_)
        have R0 : Bx (WinE xE KT w3.drew q ⟨⟨B, C⟩, T⟩ ∧ BoxN 51 X ⟨b, c⟩ w3.drew ∧ Below X w w3.drew) := Bx.mk ⟨R3.out.1.later (Below.refl _ _).drew, R3.out.2.1.later (Below.refl _ _).drew, R3.out.2.2.drew⟩
        generalize w3.drew = W0 at *
        clear R3
        refine takeL 0 (v := ?_) rfl (by kernel_rfl) (by kernel_rfl) (by kernel_rfl) (fun _ _ _ h => h) (Or.inl ⟨by rfl, ?_⟩) hHeld ?_
        rotate_left 1
        · (intro w hSw; go_simp; try with_reducible rfl)
        try simp only [Act.put, List.setIfInBounds_toArray, List.set_cons_zero, List.set_cons_succ]
        refine takeL 1 (v := ?_) rfl (by kernel_rfl) (by kernel_rfl) (by kernel_rfl) (fun _ _ _ h => h) (Or.inl ⟨by rfl, ?_⟩) hHeld ?_
        rotate_left 1
        · (intro w hSw; go_simp; try with_reducible rfl)
        try simp only [Act.put, List.setIfInBounds_toArray, List.set_cons_zero, List.set_cons_succ]
        refine takeL 2 (v := ?_) rfl (by kernel_rfl) (by kernel_rfl) (by kernel_rfl) (fun _ _ _ h => h) (Or.inl ⟨by rfl, ?_⟩) hHeld ?_
        rotate_left 1
        · (intro w hSw; go_simp; try with_reducible rfl)
        try simp only [Act.put, List.setIfInBounds_toArray, List.set_cons_zero, List.set_cons_succ]
        refine takeL 3 (v := ?_) rfl (by kernel_rfl) (by kernel_rfl) (by kernel_rfl) (fun _ _ _ h => h) (Or.inl ⟨by rfl, ?_⟩) hHeld ?_
        rotate_left 1
        · (intro w hSw; obtain ⟨q1, q2⟩ := hSw; clear q2; go_simp; try with_reducible rfl)
        try simp only [Act.put, List.setIfInBounds_toArray, List.set_cons_zero, List.set_cons_succ]
        refine takeL 4 (v := ?_) rfl (by kernel_rfl) (by kernel_rfl) (by kernel_rfl) (fun _ _ _ h => h) (Or.inl ⟨by rfl, ?_⟩) hHeld ?_
        rotate_left 1
        · (intro w hSw; go_simp; try with_reducible rfl)
        try simp only [Act.put, List.setIfInBounds_toArray, List.set_cons_zero, List.set_cons_succ]
        refine takeL 5 rfl (by kernel_rfl) (by kernel_rfl) (by kernel_rfl) (fun _ _ _ h => h) (yieldsIf_load_mid (by rfl) _ _ rfl _ _ rfl _ _ (fun w hSw => hSw.2) Try.underlying51 rfl (by kernel_rfl)) hHeld ?_
        try simp only [Act.put, List.setIfInBounds_toArray, List.set_cons_zero, List.set_cons_succ]
        refine stepL 6 (by kernel_rfl) rfl (fun K hK => ?_)
        go_simp
        refine (HBit.out W0 R0.out.1).mono ?_
        rintro e W1 ⟨rfl, hb⟩
        show K _ _
        have R1 : Bx (WinE xE KT W1 q ⟨⟨B, C⟩, T⟩ ∧ BoxN 51 X ⟨b, c⟩ W1 ∧ Below X w W1) := Bx.mk ⟨R0.out.1.later hb, R0.out.2.1.later hb, R0.out.2.2.trans (hb.mono (hX ▸ R0.out.2.2.size))⟩
        clear hb R0
        refine hK.out _ _ (⟨R1.out.1.cells.2.2, R1.out.2.1.range⟩) (fun hHeld => ?_)
        clear hK K
        try simp only [Act.put, List.setIfInBounds_toArray, List.set_cons_zero, List.set_cons_succ]
        refine takeL 7 (v := ?_) rfl (by kernel_rfl) (by kernel_rfl) (by kernel_rfl) (fun _ _ _ h => h) (Or.inl ⟨by rfl, ?_⟩) hHeld ?_
        rotate_left 1
        · (intro w hSw; go_simp; try with_reducible rfl)
        try simp only [Act.put, List.setIfInBounds_toArray, List.set_cons_zero, List.set_cons_succ]
        refine takeL 8 (v := ?_) rfl (by kernel_rfl) (by kernel_rfl) (by kernel_rfl) (fun _ _ _ h => h) (Or.inl ⟨by rfl, ?_⟩) hHeld ?_
        rotate_left 1
        · (intro w hSw; go_simp; try with_reducible rfl)
        try simp only [Act.put, List.setIfInBounds_toArray, List.set_cons_zero, List.set_cons_succ]
        refine takeL 9 (v := ?_) rfl (by kernel_rfl) (by kernel_rfl) (by kernel_rfl) (fun _ _ _ h => h) (Or.inl ⟨by rfl, ?_⟩) hHeld ?_
        rotate_left 1
        · (intro w hSw; go_simp; try with_reducible rfl)
        try simp only [Act.put, List.setIfInBounds_toArray, List.set_cons_zero, List.set_cons_succ]
        refine wpAnyH_done (by kernel_rfl) ?_ _
        refine NoPanic.normal ?_
        clear hHeld
        go_wp2
        go_ret
        exact ⟨rfl, R1.out.2.2⟩
      · rw [if_neg hy]
        have h0 : ¬ tv y = 0 := fun h => hy (HV.out.1 h)
        clear hy HV
        go_enter Try.func50, Try.ntmps50
        go_wp2_with fail
        refine (HCh.out _).mono ?_
        rintro e w2 ⟨rfl, hb⟩
        have R2 := Bx.mk (And.intro (R1.out.1.later hb) (And.intro (R1.out.2.1.later hb) (R1.out.2.2.trans (hb.mono (hX ▸ R1.out.2.2.size)))))
        clear hb R1 HCh
        obtain ⟨x0, x1⟩ := R2.out.2.1.cells
        go_wp2_with fail
        refine (HFo.out _ R2.out.1).mono ?_
        rintro e w3 ⟨rfl, hb⟩
        have R3 := Bx.mk (And.intro (R2.out.1.later hb) (And.intro (R2.out.2.1.later hb) (R2.out.2.2.trans (hb.mono (hX ▸ R2.out.2.2.size)))))
        clear hb R2 HFo x0 x1
        go_upto_region 8 with fail
        refine wp_region_noPanic ?_
        refine wp_region_held_drew (S := fun W => W.cell? ⟨q, 2, none⟩ = some (.int .u64 (tv T)) ∧ W.rangeAt X 0 [.int .i64 b, .int .i64 c]) (by kernel_rfl) (⟨(R3.out.1.later (Below.refl _ _).drew).cells.2.2, (R3.out.2.1.later (Below.refl _ _).drew).range⟩) (fun hHeld => ?_)
        have R0 : Bx (WinE xE KT w3.drew q ⟨⟨B, C⟩, T⟩ ∧ BoxN 51 X ⟨b, c⟩ w3.drew ∧ Below X w w3.drew) := Bx.mk ⟨R3.out.1.later (Below.refl _ _).drew, R3.out.2.1.later (Below.refl _ _).drew, R3.out.2.2.drew⟩
        generalize w3.drew = W0 at *
        clear R3
        refine takeL 0 (v := ?_) rfl (by kernel_rfl) (by kernel_rfl) (by kernel_rfl) (fun _ _ _ h => h) (Or.inl ⟨by rfl, ?_⟩) hHeld ?_
        rotate_left 1
        · (intro w hSw; go_simp; try with_reducible rfl)
        try simp only [Act.put, List.setIfInBounds_toArray, List.set_cons_zero, List.set_cons_succ]
        refine takeL 1 (v := ?_) rfl (by kernel_rfl) (by kernel_rfl) (by kernel_rfl) (fun _ _ _ h => h) (Or.inl ⟨by rfl, ?_⟩) hHeld ?_
        rotate_left 1
        · (intro w hSw; go_simp; try with_reducible rfl)
        try simp only [Act.put, List.setIfInBounds_toArray, List.set_cons_zero, List.set_cons_succ]
        refine takeL 2 (v := ?_) rfl (by kernel_rfl) (by kernel_rfl) (by kernel_rfl) (fun _ _ _ h => h) (Or.inl ⟨by rfl, ?_⟩) hHeld ?_
        rotate_left 1
        · (intro w hSw; go_simp; try with_reducible rfl)
        try simp only [Act.put, List.setIfInBounds_toArray, List.set_cons_zero, List.set_cons_succ]
        refine takeL 3 (v := ?_) rfl (by kernel_rfl) (by kernel_rfl) (by kernel_rfl) (fun _ _ _ h => h) (Or.inl ⟨by rfl, ?_⟩) hHeld ?_
        rotate_left 1
        · (intro w hSw; obtain ⟨q1, q2⟩ := hSw; clear q2; go_simp; try with_reducible rfl)
        try simp only [Act.put, List.setIfInBounds_toArray, List.set_cons_zero, List.set_cons_succ]
        refine takeL 4 (v := ?_) rfl (by kernel_rfl) (by kernel_rfl) (by kernel_rfl) (fun _ _ _ h => h) (Or.inl ⟨by rfl, ?_⟩) hHeld ?_
        rotate_left 1
        · (intro w hSw; go_simp; try with_reducible rfl)
        try simp only [Act.put, List.setIfInBounds_toArray, List.set_cons_zero, List.set_cons_succ]
        refine takeL 5 rfl (by kernel_rfl) (by kernel_rfl) (by kernel_rfl) (fun _ _ _ h => h) (yieldsIf_load_mid (by rfl) _ _ rfl _ _ rfl _ _ (fun w hSw => hSw.2) Try.underlying51 rfl (by kernel_rfl)) hHeld ?_
        try simp only [Act.put, List.setIfInBounds_toArray, List.set_cons_zero, List.set_cons_succ]
        refine stepL 6 (by kernel_rfl) rfl (fun K hK => ?_)
        go_simp
        refine (HBit.out W0 R0.out.1).mono ?_
        rintro e W1 ⟨rfl, hb⟩
        show K _ _
        have R1 : Bx (WinE xE KT W1 q ⟨⟨B, C⟩, T⟩ ∧ BoxN 51 X ⟨b, c⟩ W1 ∧ Below X w W1) := Bx.mk ⟨R0.out.1.later hb, R0.out.2.1.later hb, R0.out.2.2.trans (hb.mono (hX ▸ R0.out.2.2.size))⟩
        clear hb R0
        refine hK.out _ _ (⟨R1.out.1.cells.2.2, R1.out.2.1.range⟩) (fun hHeld => ?_)
        clear hK K
        try simp only [Act.put, List.setIfInBounds_toArray, List.set_cons_zero, List.set_cons_succ]
        refine takeL 7 (v := ?_) rfl (by kernel_rfl) (by kernel_rfl) (by kernel_rfl) (fun _ _ _ h => h) (Or.inl ⟨by rfl, ?_⟩) hHeld ?_
        rotate_left 1
        · (intro w hSw; go_simp; try with_reducible rfl)
        try simp only [Act.put, List.setIfInBounds_toArray, List.set_cons_zero, List.set_cons_succ]
        refine takeL 8 (v := ?_) rfl (by kernel_rfl) (by kernel_rfl) (by kernel_rfl) (fun _ _ _ h => h) (Or.inl ⟨by rfl, ?_⟩) hHeld ?_
        rotate_left 1
        · (intro w hSw; go_simp; try with_reducible rfl)
        try simp only [Act.put, List.setIfInBounds_toArray, List.set_cons_zero, List.set_cons_succ]
        refine takeL 9 (v := ?_) rfl (by kernel_rfl) (by kernel_rfl) (by kernel_rfl) (fun _ _ _ h => h) (Or.inl ⟨by rfl, ?_⟩) hHeld ?_
        rotate_left 1
        · (intro w hSw; go_simp; try with_reducible rfl)
        try simp only [Act.put, List.setIfInBounds_toArray, List.set_cons_zero, List.set_cons_succ]
        refine wpAnyH_done (by kernel_rfl) ?_ _
        refine NoPanic.normal ?_
        clear hHeld
        go_wp2
        go_ret
        exact ⟨rfl, R1.out.2.2⟩
end Go.Proofs.Ytdbdpehagkglfaa
