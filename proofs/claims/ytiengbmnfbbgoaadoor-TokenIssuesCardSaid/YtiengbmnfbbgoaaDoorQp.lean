/-
  Orders that came in, rows of claims that a call owns, and a mint beside them.
-/
import Derived.Test.YtiengbmnfbbgoaaDoorQh
import Derived.Test.YtiengbmnfbbgoaaDoorQo
namespace Go.Proofs.YtiengbmnfbbgoaaDoor
open Go Go.RowKit
set_option maxRecDepth 100000 in
theorem cut_ints (a : Option Addr) (n cap m : Nat) (hm : m ≤ n) (hc : n ≤ cap) (ha : a = none → cap = 0) (W : World) : (Instr.slice 68 (.slice a n cap) none (some (.int .i64 (m : Int))) none).run Tryd.prog W = .ok (.slice a m cap) W := by
  have he : Tryd.prog.elem 68 = 3 := by kernel_rfl
  have hs : ((sizeOf 3).run Tryd.prog W) = .ok 1 W := by kernel_rfl
  rw [run_slice_h W 68 a n cap (by rw [he]; exact Tryd.underlying68) .i64 (m : Int) (by omega) (by omega), he, hs]
  simp only [Result.andThen, sliced, Int.toNat_natCast, Nat.zero_mul, Nat.sub_zero]
  congr 2
  rcases a with _ | ad
  · simp
  · simp [Addr.add]
theorem Ints.take {w : World} {a : Option Addr} {n cap : Nat} {ns : List Int} (h : Ints w (.slice a n cap) ns) (m : Nat) (hm : m ≤ n) : Ints w (.slice a m cap) (ns.take m) := by
  obtain ⟨a', cap', hv, hc, hz, hr⟩ := h
  injection hv with e1 e2 e3
  subst e1 e3
  refine ⟨a, cap, by rw [List.length_take, Nat.min_eq_left (by omega)], by rw [List.length_take]; omega, hz, fun hp => ?_⟩
  rw [List.length_take] at hp
  obtain ⟨p, o, ha, hcell⟩ := hr (by omega)
  refine ⟨p, o, ha, fun j hj => ?_⟩
  rw [List.length_take] at hj
  rw [hcell j (by omega)]
  simp [show j < m by omega, show j < ns.length by omega]
/-- What is to be issued. -/
structure Od where
  id : Int
  ex : Int
  ns : List Int
def Od.zero : Od := ⟨0, 0, []⟩
/-- Orders behind a slice. -/
def Ords (w : World) (v : Value) (os : List Od) : Prop :=
  ∃ a cap, v = .slice a os.length cap ∧ (0 < os.length → ∃ b o, a = some ⟨b, o, none⟩ ∧ ∀ i, i < os.length → ∃ vr, w.rangeAt b (o + i * 3) [.int .i64 (os.getD i Od.zero).id, .int .i64 (os.getD i Od.zero).ex, vr] ∧ Ints w vr (os.getD i Od.zero).ns ∧ (os.getD i Od.zero).ns.length ≤ 9223372036854775807)
theorem Ords.later {w w1 : World} {v : Value} {os : List Od} (h : Ords w v os) (hb : Below w.heap.size w w1) : Ords w1 v os := by
  obtain ⟨a, cap, hv, hr⟩ := h
  refine ⟨a, cap, hv, fun hp => ?_⟩
  obtain ⟨b, o, ha, hi⟩ := hr hp
  refine ⟨b, o, ha, fun i hil => ?_⟩
  obtain ⟨vr, h1, h2, h3⟩ := hi i hil
  exact ⟨vr, range_later h1 hb (World.block_lt_of_cell? _ _ (h1 0 _ rfl)), h2.later hb, h3⟩
/-- Claims one behind the other, as cells. -/
def cells4s : List Cl → List Value
  | [] => []
  | c :: r => .int .i64 c.id :: .int .i64 c.ro :: .int .i64 c.ex :: .int .i64 c.se :: cells4s r
theorem cells4s_snoc (l : List Cl) (c : Cl) : cells4s (l ++ [c]) = cells4s l ++ (clC c).toList := by
  induction l with
  | nil => rfl
  | cons y r ih => simp only [List.cons_append, cells4s, ih]
theorem cells4s_get (l : List Cl) : ∀ (k : Nat), k < l.length → ∀ j v, (clC (l.getD k c0)).toList[j]? = some v → (cells4s l)[k * 4 + j]? = some v := by
  induction l with
  | nil => intro k hk; exact absurd hk (Nat.not_lt_zero _)
  | cons c r ih =>
    intro k hk j v hj
    match k with
    | 0 =>
      have hj4 : j < 4 := (List.getElem?_eq_some_iff.1 hj).1
      match j, hj4 with
      | 0, _ => exact hj
      | 1, _ => exact hj
      | 2, _ => exact hj
      | 3, _ => exact hj
    | k + 1 =>
      have h := ih k (by simpa using hk) j v (by simpa using hj)
      rw [show (k + 1) * 4 + j = (k * 4 + j) + 4 by omega]
      exact h
/-- Claims in a row that the call owns. -/
def OwnC (w : World) (base : Nat) (v : Value) (l : List Cl) : Prop := w.ownsRow base 36 4 v l.length (cells4s l)
theorem OwnC.nil (w : World) (base : Nat) : OwnC w base (.slice none 0 0) [] := ⟨rfl, .inl ⟨rfl, rfl⟩⟩
theorem OwnC.lt {w : World} {base : Nat} {v : Value} {l : List Cl} (h : OwnC w base v l) : ∀ g, v.ownBlock = some g → g < w.heap.size ∧ base ≤ g := fun g hg => by
  have := World.ownsRow.lt h g hg
  exact ⟨this.2, this.1⟩
theorem OwnC.grown {w w1 : World} {base : Nat} {v : Value} {l : List Cl} {row : Option Nat} (h : OwnC w base v l) (hg : w.grownBy w1 row) (hne : ∀ g, row = some g → v.ownBlock ≠ some g) : OwnC w1 base v l := by
  refine ⟨h.1, ?_⟩
  rcases h.2 with h0 | ⟨g, cap, cur, hv, hb', hh, hr⟩
  · exact .inl h0
  · refine .inr ⟨g, cap, cur, hv, hb', ?_, hr⟩
    rw [hg.block g (Array.getElem?_eq_some_iff.1 hh).1 (fun e => hne g e.symm (by rw [hv]; rfl))]
    exact hh
theorem OwnC.later {w w1 : World} {base : Nat} {v : Value} {l : List Cl} (h : OwnC w base v l) (hb : Below w.heap.size w w1) : OwnC w1 base v l := h.grown (kb_below none hb) (fun _ e => by cases e)
theorem OwnC.form {w : World} {base : Nat} {v : Value} {l : List Cl} (h : OwnC w base v l) : ∃ a cap, v = .slice a l.length cap := by
  rcases h.2 with ⟨hv, h0⟩ | ⟨g, cap, cur, hv, _⟩
  · exact ⟨none, 0, by rw [h0]; exact hv⟩
  · exact ⟨_, cap, hv⟩
theorem OwnC.at_ {w : World} {base : Nat} {v : Value} {l : List Cl} (h : OwnC w base v l) (k : Nat) (hk : k < l.length) : ∃ g cap, v = .slice (some ⟨g, 0, none⟩) l.length cap ∧ w.rangeAt g (k * 4) (clC (l.getD k c0)).toList := by
  rcases h.2 with ⟨hv, h0⟩ | ⟨g, cap, cur, hv, _, hg, hc1, hc2, hc3, hc4⟩
  · omega
  · refine ⟨g, cap, hv, fun j u hj => ?_⟩
    show w.cell? ⟨g, k * 4 + j, none⟩ = some u
    have hj4 : j < 4 := (List.getElem?_eq_some_iff.1 hj).1
    rw [cell_of_row _ _ _ _ _ _ hg, ← Array.getElem?_toList]
    have h1 : (cur.toList.take (l.length * 4))[k * 4 + j]? = (cells4s l)[k * 4 + j]? := by rw [hc4]
    rw [List.getElem?_take_of_lt (by omega)] at h1
    rw [h1]
    exact cells4s_get l k hk j u hj
theorem run_apC (w : World) (base : Nat) (v : Value) (l : List Cl) (hown : OwnC w base v l) (g : Nat) (i r x q : Int) (hr : w.rangeAt g 0 [.int .i64 i, .int .i64 r, .int .i64 x, .int .i64 q]) (hn : l.length ≤ 1000) (hbase : base ≤ w.heap.size) (ty : TypeId) :
    ∃ v' w', (Builtin.append_ #[67, 67] ty #[v, .slice (some ⟨g, 0, none⟩) 1 1]).run Tryd.prog w = .ok v' w' ∧ OwnC w' base v' (l ++ [⟨i, r, x, q⟩]) ∧ w.grownBy w' v.ownBlock := by
  have hi : Tryd.prog.info? 36 = some ((Tryd.prog.info? 36).getD default) := by kernel_rfl
  obtain ⟨v', w', hrun, h2, h3, _, _⟩ := run_append_own_at (P := Tryd.prog) w base 67 ty 36 _ (.agg #[.int .i64 0, .int .i64 0, .int .i64 0, .int .i64 0]) 4 32 Tryd.underlying67 hi (by kernel_rfl) (by kernel_rfl) (by kernel_rfl) rfl (by omega) v l.length (cells4s l) hown ⟨g, 0, none⟩ 1 1 [.int .i64 i, .int .i64 r, .int .i64 x, .int .i64 q] (by simp)
    (fun j u hu => by rw [show (⟨g, 0, none⟩ : Addr).add j = ⟨g, 0 + j, none⟩ by unfold Addr.add; split <;> simp_all]; exact hr j u hu)
    (fun u hu => by
      simp at hu
      rcases hu with rfl | rfl | rfl | rfl <;> rfl) (by simp only [maxLen]; omega) (by omega) hbase
  refine ⟨v', w', hrun, ?_, h3⟩
  unfold OwnC
  rw [List.length_append, cells4s_snoc]
  exact h2
theorem wpList_apC {w : World} {ops : Array Oper} {rest : List Oper} {o : Oper} {a : Act} {Q : Exit → Act → World → Prop} (hgd : o.guard = none) (sl x : Operand)
    (ho : o.op = .call { callee := .builtin .append, args := #[sl, x], argTypes := #[67, 67] }) (base : Nat) (v : Value) (l : List Cl) (hs : a.eval sl = v) (hown : OwnC w base v l) (g : Nat) (i r y q : Int) (hx : a.eval x = .slice (some ⟨g, 0, none⟩) 1 1) (hr : w.rangeAt g 0 [.int .i64 i, .int .i64 r, .int .i64 y, .int .i64 q])
    (hn : l.length ≤ 1000) (hbase : base ≤ w.heap.size)
    (h : ∀ v' w', OwnC w' base v' (l ++ [⟨i, r, y, q⟩]) → w.grownBy w' v.ownBlock → wpList Tryd.prog ops Q rest (a.put o.dst v') w') : wpList Tryd.prog ops Q (o :: rest) a w := by
  refine wpList_plain hgd fun K hK => ?_
  obtain ⟨v', w', hrun, h1, h2⟩ := run_apC w base v l hown g i r y q hr hn hbase o.type
  unfold Oper.wp
  simp [execOp, ho, resolve, invoke, builtin, hs, hx, hrun, Result.andThen]
  exact hK _ _ (h v' w' h1 h2)
/-- A mint, blocks beside it, and the row of what was issued. -/
structure IM (w : World) (M : Nat) (rs : List (Nat × Obj)) (l : List Cl) (v : Value) (bs : List UInt8) (va : Value) (la : List Cl) (W : World) : Prop where
  km : KM w M rs l v bs W
  own : OwnC W w.heap.size va la
  sep : ∀ x ∈ rs, va.ownBlock ≠ some x.1
theorem IM.later {w : World} {M : Nat} {rs : List (Nat × Obj)} {l : List Cl} {v : Value} {bs : List UInt8} {va : Value} {la : List Cl} {W W1 : World} (h : IM w M rs l v bs va la W) (hb : Below W.heap.size W W1) : IM w M rs l v bs va la W1 := ⟨h.km.later hb, h.own.later hb, h.sep⟩
theorem IM.new {w : World} {M : Nat} {rs : List (Nat × Obj)} {l : List Cl} {v : Value} {bs : List UInt8} {va : Value} {la : List Cl} {W : World} (h : IM w M rs l v bs va la W) (o : Obj) : IM w M ((W.heap.size, o) :: rs) l v bs va la (W.alloc o) :=
  ⟨h.km.new o, h.own.later (below_a o), fun x hx => by
    rcases List.mem_cons.1 hx with rfl | hx
    · intro e; have := (h.own.lt _ e).1; simp only at this; omega
    · exact h.sep x hx⟩
theorem IM.set {w : World} {M Y : Nat} {o o1 : Obj} {rs : List (Nat × Obj)} {l : List Cl} {v : Value} {bs : List UInt8} {va : Value} {la : List Cl} {W W1 : World} (h : IM w M ((Y, o) :: rs) l v bs va la W) (hg : W.grownBy W1 (some Y)) (hY : W1.heap[Y]? = some o1) (hn : ∀ x ∈ rs, x.1 ≠ Y) : IM w M ((Y, o1) :: rs) l v bs va la W1 :=
  ⟨h.km.set hg hY hn, h.own.grown hg (fun g e => by injection e with e; subst e; exact h.sep _ (.head _)), fun x hx => by
    rcases List.mem_cons.1 hx with rfl | hx
    · exact h.sep (Y, o) (.head _)
    · exact h.sep x (.tail _ hx)⟩
theorem IM.minted {w : World} {M : Nat} {rs : List (Nat × Obj)} {l l1 : List Cl} {v : Value} {bs : List UInt8} {va : Value} {la : List Cl} {W W1 : World} (h : IM w M rs l v bs va la W) (hm : Issued M l l1 W W1) : IM w M rs l1 v bs va la W1 :=
  ⟨h.km.minted hm, h.own.grown hm.1 (fun g e => by injection e with e; subst e; intro e2; have h1 := (h.own.lt _ e2).2; have h2 := h.km.lt; omega), h.sep⟩
theorem IM.more {w : World} {M : Nat} {rs : List (Nat × Obj)} {l : List Cl} {v : Value} {bs : List UInt8} {va va1 : Value} {la la1 : List Cl} {W W1 : World} (h : IM w M rs l v bs va la W) (hg : W.grownBy W1 va.ownBlock) (ho : OwnC W1 w.heap.size va1 la1) : KM w M rs l v bs W1 ∧ OwnC W1 w.heap.size va1 la1 := by
  refine ⟨⟨fun x hx => ⟨?_, (h.km.rows x hx).2⟩, ?_, h.km.lt, ?_⟩, ho⟩
  · rw [hg.block x.1 (h.km.blt hx) (fun e => h.sep x hx e.symm)]
    exact (h.km.rows x hx).1
  · refine ⟨hg.os.trans h.km.grown.os, hg.tape.trans h.km.grown.tape, hg.output.trans h.km.grown.output, Nat.le_trans h.km.grown.size hg.size, fun i hi hne => ?_⟩
    rw [hg.block i (Nat.lt_of_lt_of_le hi h.km.grown.size) (fun e => by have := (h.own.lt i e.symm).2; omega)]
    exact h.km.grown.block i hi hne
  · obtain ⟨ms, hr, hc, hk⟩ := h.km.row
    refine ⟨ms, ?_, hc, hk⟩
    rw [hg.block M (Array.getElem?_eq_some_iff.1 hr).1 (fun e => by have h1 := (h.own.lt M e.symm).2; have h2 := h.km.lt; omega)]
    exact hr
theorem IM.drop {w : World} {M : Nat} {rs : List (Nat × Obj)} {l : List Cl} {v : Value} {bs : List UInt8} {va : Value} {la : List Cl} {W : World} (h : IM w M rs l v bs va la W) : IM w M [] l v bs va la W := ⟨⟨fun _ hx => (List.not_mem_nil hx).elim, h.km.grown, h.km.lt, h.km.row⟩, h.own, fun _ hx => (List.not_mem_nil hx).elim⟩
theorem IM.swap {w : World} {M : Nat} {x y : Nat × Obj} {rs : List (Nat × Obj)} {l : List Cl} {v : Value} {bs : List UInt8} {va : Value} {la : List Cl} {W : World} (h : IM w M (x :: y :: rs) l v bs va la W) : IM w M (y :: x :: rs) l v bs va la W :=
  ⟨h.km.swap, h.own, fun z hz => h.sep z (by rcases List.mem_cons.1 hz with rfl | hz; exact .tail _ (.head _); rcases List.mem_cons.1 hz with rfl | hz; exact .head _; exact .tail _ (.tail _ hz))⟩
end Go.Proofs.YtiengbmnfbbgoaaDoor
