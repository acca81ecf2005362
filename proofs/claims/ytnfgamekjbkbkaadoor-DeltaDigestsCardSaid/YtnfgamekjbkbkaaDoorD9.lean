/-
  Delta: a digest that is read.
-/
import Derived.Test.YtnfgamekjbkbkaaDoorD7
import Derived.Test.YtnfgamekjbkbkaaDoorIp
namespace Go.Proofs.YtnfgamekjbkbkaaDoor
open Go Go.RowKit
/-- The reader behind a number of fields of two bytes and of one. -/
def nx2 (p : List UInt8 × Int) : List UInt8 × Int := stepR (stepR (stepR (stepR p 1) 1) 1) 1
def nx1 (p : List UInt8 × Int) : List UInt8 × Int := stepR (stepR (stepR (stepR (stepR (stepR (stepR (stepR p 0) 0) 0) 0) 0) 0) 0) 0
/-- What is read of it. -/
def rdV (p : List UInt8 × Int) : V4 := ⟨numR p 1, numR (stepR p 1) 1, numR (stepR (stepR p 1) 1) 1, numR (stepR (stepR (stepR p 1) 1) 1) 1⟩
def u8N (n : Int) : UInt8 := UInt8.ofNat (n.toNat % 256)
def rdP (p : List UInt8 × Int) : B8 := ⟨u8N (numR p 0), u8N (numR (stepR p 0) 0), u8N (numR (stepR (stepR p 0) 0) 0), u8N (numR (stepR (stepR (stepR p 0) 0) 0) 0), u8N (numR (stepR (stepR (stepR (stepR p 0) 0) 0) 0) 0), u8N (numR (stepR (stepR (stepR (stepR (stepR p 0) 0) 0) 0) 0) 0), u8N (numR (stepR (stepR (stepR (stepR (stepR (stepR p 0) 0) 0) 0) 0) 0) 0), u8N (numR (stepR (stepR (stepR (stepR (stepR (stepR (stepR p 0) 0) 0) 0) 0) 0) 0) 0)⟩
def rdE (p : List UInt8 × Int) : Int := if (nx1 (nx2 p)).2 ≠ 0 then (nx1 (nx2 p)).2 else if okV (rdV p) = true then 0 else 3
def B8.zero : B8 := ⟨0, 0, 0, 0, 0, 0, 0, 0⟩
theorem u8N_wrap (n : Int) (h : 0 ≤ n) : IntKind.u8.wrap n = ub (u8N n) := by
  unfold ub u8N
  rw [IntKind.wrap_u8, UInt8.toNat_ofNat']
  omega
theorem run_cellU (w : World) (b i : Nat) (n : Int) (u : Value) (hc : w.cell? ⟨b, i, none⟩ = some u) (hf : w.frozen? ⟨b, i, none⟩ = false) : (Instr.storeAt 5 (.pointer (some ⟨b, i, none⟩)) (.int .u8 n)).run Tryd.prog w = .ok () (w.setCell ⟨b, i, none⟩ (.int .u8 n)) := by
  go_simp
theorem wpList_cellU {ops : Array Oper} {rest : List Oper} {op : Oper} {a : Act} {w : World} {Q : Exit → Act → World → Prop} (hgd : op.guard = none) (x y : Operand) (ho : op.op = .store 5 x y)
    (b i : Nat) (n : Int) (cs ds : Array Value) (t : TypeId) (hx : a.eval x = .pointer (some ⟨b, i, none⟩)) (hy : a.eval y = .int .u8 n) (hrow : w.heap[b]? = some (.cells cs t (0, 0))) (hi : i < cs.size) (hd : cs.setIfInBounds i (.int .u8 n) = ds)
    (k : ∀ w', w.grownBy w' (some b) → w'.heap[b]? = some (.cells ds t (0, 0)) → wpList Tryd.prog ops Q rest (a.put op.dst undef) w') : wpList Tryd.prog ops Q (op :: rest) a w := by
  refine wpList_plain hgd fun K hK => ?_
  have hrun := run_cellU w b i n cs[i] (by rw [cell_of_row _ _ _ _ _ _ hrow]; exact Array.getElem?_eq_getElem hi) (frozen_of_row _ _ _ _ _ hrow)
  unfold Oper.wp execOp
  simp only [ho, hx, hy, hrun, Sem.run_bind, Sem.run_pure, Result.andThen_ok]
  exact hK _ _ (k _ (kb_set1 _ _ _ _) (by rw [← hd]; exact heap_setCell_same _ _ _ _ _ _ hrow))
theorem dg_u8 : (62 : TypeId) ≠ 5 := by decide
/-- What stays while a digest is read. -/
structure RD9 (w : World) (E q : Nat) (cs : Array Value) (p : List UInt8 × Int) (W : World) : Prop where
  g : w.grownBy W (some q)
  row : W.heap[E + 1]? = some (.cells cs 62 (0, 0))
  res : W.heap[E]? = some (.cells #[.int .i64 0, .int .i64 0, .int .i64 0, .int .i64 0, .int .u8 0, .int .u8 0, .int .u8 0, .int .u8 0, .int .u8 0, .int .u8 0, .int .u8 0, .int .u8 0] 62 (0, 0))
  rd : IsR W q p.1 p.2
  lt : q < E
theorem RD9.read {w : World} {E q : Nat} {cs : Array Value} {p p1 : List UInt8 × Int} {W W1 : World} (h : RD9 w E q cs p W) (hg : W.grownBy W1 (some q)) (hr : IsR W1 q p1.1 p1.2) : RD9 w E q cs p1 W1 :=
  ⟨kb_trans h.g hg, by rw [hg.block (E + 1) (Array.getElem?_eq_some_iff.1 h.row).1 (fun e => by have := h.lt; have := Option.some.inj e; omega)]; exact h.row, by rw [hg.block E (Array.getElem?_eq_some_iff.1 h.res).1 (fun e => by have := h.lt; have := Option.some.inj e; omega)]; exact h.res, hr, h.lt⟩
theorem RD9.put {w : World} {E q : Nat} {cs ds : Array Value} {p : List UInt8 × Int} {W W1 : World} (h : RD9 w E q cs p W) (hE : w.heap.size = E) (hg : W.grownBy W1 (some (E + 1))) (hr : W1.heap[E + 1]? = some (.cells ds 62 (0, 0))) : RD9 w E q ds p W1 :=
  ⟨kb_new h.g hg (by omega), hr, by rw [hg.block E (Array.getElem?_eq_some_iff.1 h.res).1 (fun e => by have := Option.some.inj e; omega)]; exact h.res, h.rd.asideT h.row dg_u8 hg (by have := h.lt; omega), h.lt⟩
theorem RD9.later {w : World} {E q : Nat} {cs : Array Value} {p : List UInt8 × Int} {W W1 : World} (h : RD9 w E q cs p W) (hb : Below W.heap.size W W1) : RD9 w E q cs p W1 :=
  ⟨kb_trans h.g (kb_below _ hb), by rw [hb.block (E + 1) (Array.getElem?_eq_some_iff.1 h.row).1]; exact h.row, by rw [hb.block E (Array.getElem?_eq_some_iff.1 h.res).1]; exact h.res, h.rd.later hb, h.lt⟩
theorem numR_any (p : List UInt8 × Int) (s : Int) (h0 : 0 ≤ s ∧ s ≤ 2) : 0 ≤ numR p s := by
  obtain ⟨l, e⟩ := p
  by_cases he : e = 0
  · subst he
    by_cases hl : wid s ≤ l.length
    · rw [numR_long l s (by omega) hl]
      omega
    · unfold numR
      rw [getR_short l s (by omega) (by omega)]
      decide
  · unfold numR getR
    rw [if_pos he]
    exact Int.le_refl 0
theorem rng12 {W : World} {E : Nat} {a b c d e f g h i j k l : Value} {t : TypeId} (hr : W.heap[E]? = some (.cells #[a, b, c, d, e, f, g, h, i, j, k, l] t (0, 0))) : W.rangeAt E 0 [a, b, c, d] :=
  range_to8 (m := [e, f, g, h, i, j, k, l]) (row_rng8 (l := [a, b, c, d, e, f, g, h, i, j, k, l]) hr)
set_option maxRecDepth 100000 in
set_option maxHeartbeats 16000000 in
theorem dread9 (q : Nat) (b : List UInt8) (er : Int) (w : World) (h : IsR w q b er) (hl : b.length ≤ 1000) : Calls Tryd.prog 30 #[.pointer (some ⟨q, 0, none⟩)] w fun e w' => e = .returned (.tuple #[.agg (if rdE (b, er) = 0 then dgC (rdV (b, er)) (rdP (nx2 (b, er))) else dgC V4.zero B8.zero), .int .i64 (rdE (b, er))]) ∧ IsR w' q (nx1 (nx2 (b, er))).1 (nx1 (nx2 (b, er))).2 ∧ w.grownBy w' (some q) := by
  obtain ⟨E, hE⟩ : ∃ E, w.heap.size = E := ⟨_, rfl⟩
  have hlt : q < E := by rw [← hE]; exact h.lt
  have HE := Bx.mk hE
  have R0 : Bx (RD9 w E q #[.int .i64 0, .int .i64 0, .int .i64 0, .int .i64 0, .int .u8 0, .int .u8 0, .int .u8 0, .int .u8 0, .int .u8 0, .int .u8 0, .int .u8 0, .int .u8 0] (b, er) ((w.alloc (.cells #[.int .i64 0, .int .i64 0, .int .i64 0, .int .i64 0, .int .u8 0, .int .u8 0, .int .u8 0, .int .u8 0, .int .u8 0, .int .u8 0, .int .u8 0, .int .u8 0] 62)).alloc (.cells #[.int .i64 0, .int .i64 0, .int .i64 0, .int .i64 0, .int .u8 0, .int .u8 0, .int .u8 0, .int .u8 0, .int .u8 0, .int .u8 0, .int .u8 0, .int .u8 0] 62))) := ⟨by
    have hb : Below w.heap.size w ((w.alloc (.cells #[.int .i64 0, .int .i64 0, .int .i64 0, .int .i64 0, .int .u8 0, .int .u8 0, .int .u8 0, .int .u8 0, .int .u8 0, .int .u8 0, .int .u8 0, .int .u8 0] 62)).alloc (.cells #[.int .i64 0, .int .i64 0, .int .i64 0, .int .i64 0, .int .u8 0, .int .u8 0, .int .u8 0, .int .u8 0, .int .u8 0, .int .u8 0, .int .u8 0, .int .u8 0] 62)) := (below_a _).trans ((below_a _).mono (by simp))
    refine ⟨kb_below _ hb, ?_, ?_, h.later hb, hlt⟩
    · exact hnew _ _ _ (by simp [hE])
    · rw [hold _ _ _ (by simp; omega)]
      exact hnew _ _ _ hE.symm⟩
  have HL : Bx (b.length ≤ 1000) := ⟨hl⟩
  obtain ⟨n0, hn0⟩ : ∃ n, numR (b, er) 1 = n := ⟨_, rfl⟩
  obtain ⟨s0, hs0⟩ : ∃ p, stepR (b, er) 1 = p := ⟨_, rfl⟩
  have HS0 : Bx (s0.1.length ≤ b.length ∧ 0 ≤ n0) := ⟨by rw [← hs0, ← hn0]; exact ⟨stepR_len (b, er) 1, numR_any (b, er) 1 (by omega)⟩⟩
  have HN0 : Bx (∀ (W : World), IsR W q b er → b.length ≤ 1000 → Calls Tryd.prog 17 #[.pointer (some ⟨q, 0, none⟩), .int .i64 1] W fun e w' => e = .returned (.int .i64 n0) ∧ IsR w' q s0.1 s0.2 ∧ W.grownBy w' (some q)) := ⟨fun W h hl => by rw [← hn0, ← hs0]; exact rnum_any q 1 b er W h (by omega) (by omega)⟩
  obtain ⟨n1, hn1⟩ : ∃ n, numR s0 1 = n := ⟨_, rfl⟩
  obtain ⟨s1, hs1⟩ : ∃ p, stepR s0 1 = p := ⟨_, rfl⟩
  have HS1 : Bx (s1.1.length ≤ s0.1.length ∧ 0 ≤ n1) := ⟨by rw [← hs1, ← hn1]; exact ⟨stepR_len s0 1, numR_any s0 1 (by omega)⟩⟩
  have HN1 : Bx (∀ (W : World), IsR W q s0.1 s0.2 → s0.1.length ≤ 1000 → Calls Tryd.prog 17 #[.pointer (some ⟨q, 0, none⟩), .int .i64 1] W fun e w' => e = .returned (.int .i64 n1) ∧ IsR w' q s1.1 s1.2 ∧ W.grownBy w' (some q)) := ⟨fun W h hl => by rw [← hn1, ← hs1]; exact rnum_any q 1 s0.1 s0.2 W h (by omega) (by omega)⟩
  obtain ⟨n2, hn2⟩ : ∃ n, numR s1 1 = n := ⟨_, rfl⟩
  obtain ⟨s2, hs2⟩ : ∃ p, stepR s1 1 = p := ⟨_, rfl⟩
  have HS2 : Bx (s2.1.length ≤ s1.1.length ∧ 0 ≤ n2) := ⟨by rw [← hs2, ← hn2]; exact ⟨stepR_len s1 1, numR_any s1 1 (by omega)⟩⟩
  have HN2 : Bx (∀ (W : World), IsR W q s1.1 s1.2 → s1.1.length ≤ 1000 → Calls Tryd.prog 17 #[.pointer (some ⟨q, 0, none⟩), .int .i64 1] W fun e w' => e = .returned (.int .i64 n2) ∧ IsR w' q s2.1 s2.2 ∧ W.grownBy w' (some q)) := ⟨fun W h hl => by rw [← hn2, ← hs2]; exact rnum_any q 1 s1.1 s1.2 W h (by omega) (by omega)⟩
  obtain ⟨n3, hn3⟩ : ∃ n, numR s2 1 = n := ⟨_, rfl⟩
  obtain ⟨s3, hs3⟩ : ∃ p, stepR s2 1 = p := ⟨_, rfl⟩
  have HS3 : Bx (s3.1.length ≤ s2.1.length ∧ 0 ≤ n3) := ⟨by rw [← hs3, ← hn3]; exact ⟨stepR_len s2 1, numR_any s2 1 (by omega)⟩⟩
  have HN3 : Bx (∀ (W : World), IsR W q s2.1 s2.2 → s2.1.length ≤ 1000 → Calls Tryd.prog 17 #[.pointer (some ⟨q, 0, none⟩), .int .i64 1] W fun e w' => e = .returned (.int .i64 n3) ∧ IsR w' q s3.1 s3.2 ∧ W.grownBy w' (some q)) := ⟨fun W h hl => by rw [← hn3, ← hs3]; exact rnum_any q 1 s2.1 s2.2 W h (by omega) (by omega)⟩
  obtain ⟨n4, hn4⟩ : ∃ n, numR s3 0 = n := ⟨_, rfl⟩
  obtain ⟨s4, hs4⟩ : ∃ p, stepR s3 0 = p := ⟨_, rfl⟩
  have HS4 : Bx (s4.1.length ≤ s3.1.length ∧ 0 ≤ n4) := ⟨by rw [← hs4, ← hn4]; exact ⟨stepR_len s3 0, numR_any s3 0 (by omega)⟩⟩
  have HN4 : Bx (∀ (W : World), IsR W q s3.1 s3.2 → s3.1.length ≤ 1000 → Calls Tryd.prog 17 #[.pointer (some ⟨q, 0, none⟩), .int .i64 0] W fun e w' => e = .returned (.int .i64 n4) ∧ IsR w' q s4.1 s4.2 ∧ W.grownBy w' (some q)) := ⟨fun W h hl => by rw [← hn4, ← hs4]; exact rnum_any q 0 s3.1 s3.2 W h (by omega) (by omega)⟩
  obtain ⟨n5, hn5⟩ : ∃ n, numR s4 0 = n := ⟨_, rfl⟩
  obtain ⟨s5, hs5⟩ : ∃ p, stepR s4 0 = p := ⟨_, rfl⟩
  have HS5 : Bx (s5.1.length ≤ s4.1.length ∧ 0 ≤ n5) := ⟨by rw [← hs5, ← hn5]; exact ⟨stepR_len s4 0, numR_any s4 0 (by omega)⟩⟩
  have HN5 : Bx (∀ (W : World), IsR W q s4.1 s4.2 → s4.1.length ≤ 1000 → Calls Tryd.prog 17 #[.pointer (some ⟨q, 0, none⟩), .int .i64 0] W fun e w' => e = .returned (.int .i64 n5) ∧ IsR w' q s5.1 s5.2 ∧ W.grownBy w' (some q)) := ⟨fun W h hl => by rw [← hn5, ← hs5]; exact rnum_any q 0 s4.1 s4.2 W h (by omega) (by omega)⟩
  obtain ⟨n6, hn6⟩ : ∃ n, numR s5 0 = n := ⟨_, rfl⟩
  obtain ⟨s6, hs6⟩ : ∃ p, stepR s5 0 = p := ⟨_, rfl⟩
  have HS6 : Bx (s6.1.length ≤ s5.1.length ∧ 0 ≤ n6) := ⟨by rw [← hs6, ← hn6]; exact ⟨stepR_len s5 0, numR_any s5 0 (by omega)⟩⟩
  have HN6 : Bx (∀ (W : World), IsR W q s5.1 s5.2 → s5.1.length ≤ 1000 → Calls Tryd.prog 17 #[.pointer (some ⟨q, 0, none⟩), .int .i64 0] W fun e w' => e = .returned (.int .i64 n6) ∧ IsR w' q s6.1 s6.2 ∧ W.grownBy w' (some q)) := ⟨fun W h hl => by rw [← hn6, ← hs6]; exact rnum_any q 0 s5.1 s5.2 W h (by omega) (by omega)⟩
  obtain ⟨n7, hn7⟩ : ∃ n, numR s6 0 = n := ⟨_, rfl⟩
  obtain ⟨s7, hs7⟩ : ∃ p, stepR s6 0 = p := ⟨_, rfl⟩
  have HS7 : Bx (s7.1.length ≤ s6.1.length ∧ 0 ≤ n7) := ⟨by rw [← hs7, ← hn7]; exact ⟨stepR_len s6 0, numR_any s6 0 (by omega)⟩⟩
  have HN7 : Bx (∀ (W : World), IsR W q s6.1 s6.2 → s6.1.length ≤ 1000 → Calls Tryd.prog 17 #[.pointer (some ⟨q, 0, none⟩), .int .i64 0] W fun e w' => e = .returned (.int .i64 n7) ∧ IsR w' q s7.1 s7.2 ∧ W.grownBy w' (some q)) := ⟨fun W h hl => by rw [← hn7, ← hs7]; exact rnum_any q 0 s6.1 s6.2 W h (by omega) (by omega)⟩
  obtain ⟨n8, hn8⟩ : ∃ n, numR s7 0 = n := ⟨_, rfl⟩
  obtain ⟨s8, hs8⟩ : ∃ p, stepR s7 0 = p := ⟨_, rfl⟩
  have HS8 : Bx (s8.1.length ≤ s7.1.length ∧ 0 ≤ n8) := ⟨by rw [← hs8, ← hn8]; exact ⟨stepR_len s7 0, numR_any s7 0 (by omega)⟩⟩
  have HN8 : Bx (∀ (W : World), IsR W q s7.1 s7.2 → s7.1.length ≤ 1000 → Calls Tryd.prog 17 #[.pointer (some ⟨q, 0, none⟩), .int .i64 0] W fun e w' => e = .returned (.int .i64 n8) ∧ IsR w' q s8.1 s8.2 ∧ W.grownBy w' (some q)) := ⟨fun W h hl => by rw [← hn8, ← hs8]; exact rnum_any q 0 s7.1 s7.2 W h (by omega) (by omega)⟩
  obtain ⟨n9, hn9⟩ : ∃ n, numR s8 0 = n := ⟨_, rfl⟩
  obtain ⟨s9, hs9⟩ : ∃ p, stepR s8 0 = p := ⟨_, rfl⟩
  have HS9 : Bx (s9.1.length ≤ s8.1.length ∧ 0 ≤ n9) := ⟨by rw [← hs9, ← hn9]; exact ⟨stepR_len s8 0, numR_any s8 0 (by omega)⟩⟩
  have HN9 : Bx (∀ (W : World), IsR W q s8.1 s8.2 → s8.1.length ≤ 1000 → Calls Tryd.prog 17 #[.pointer (some ⟨q, 0, none⟩), .int .i64 0] W fun e w' => e = .returned (.int .i64 n9) ∧ IsR w' q s9.1 s9.2 ∧ W.grownBy w' (some q)) := ⟨fun W h hl => by rw [← hn9, ← hs9]; exact rnum_any q 0 s8.1 s8.2 W h (by omega) (by omega)⟩
  obtain ⟨n10, hn10⟩ : ∃ n, numR s9 0 = n := ⟨_, rfl⟩
  obtain ⟨s10, hs10⟩ : ∃ p, stepR s9 0 = p := ⟨_, rfl⟩
  have HS10 : Bx (s10.1.length ≤ s9.1.length ∧ 0 ≤ n10) := ⟨by rw [← hs10, ← hn10]; exact ⟨stepR_len s9 0, numR_any s9 0 (by omega)⟩⟩
  have HN10 : Bx (∀ (W : World), IsR W q s9.1 s9.2 → s9.1.length ≤ 1000 → Calls Tryd.prog 17 #[.pointer (some ⟨q, 0, none⟩), .int .i64 0] W fun e w' => e = .returned (.int .i64 n10) ∧ IsR w' q s10.1 s10.2 ∧ W.grownBy w' (some q)) := ⟨fun W h hl => by rw [← hn10, ← hs10]; exact rnum_any q 0 s9.1 s9.2 W h (by omega) (by omega)⟩
  obtain ⟨n11, hn11⟩ : ∃ n, numR s10 0 = n := ⟨_, rfl⟩
  obtain ⟨s11, hs11⟩ : ∃ p, stepR s10 0 = p := ⟨_, rfl⟩
  have HS11 : Bx (s11.1.length ≤ s10.1.length ∧ 0 ≤ n11) := ⟨by rw [← hs11, ← hn11]; exact ⟨stepR_len s10 0, numR_any s10 0 (by omega)⟩⟩
  have HN11 : Bx (∀ (W : World), IsR W q s10.1 s10.2 → s10.1.length ≤ 1000 → Calls Tryd.prog 17 #[.pointer (some ⟨q, 0, none⟩), .int .i64 0] W fun e w' => e = .returned (.int .i64 n11) ∧ IsR w' q s11.1 s11.2 ∧ W.grownBy w' (some q)) := ⟨fun W h hl => by rw [← hn11, ← hs11]; exact rnum_any q 0 s10.1 s10.2 W h (by omega) (by omega)⟩
  have hV : rdV (b, er) = ⟨n0, n1, n2, n3⟩ := by unfold rdV; rw [hs0, hs1, hs2, hn0, hn1, hn2, hn3]
  have hX : nx2 (b, er) = s3 := by unfold nx2; rw [hs0, hs1, hs2, hs3]
  have hP : rdP s3 = ⟨u8N n4, u8N n5, u8N n6, u8N n7, u8N n8, u8N n9, u8N n10, u8N n11⟩ := by unfold rdP; rw [hs4, hs5, hs6, hs7, hs8, hs9, hs10, hn4, hn5, hn6, hn7, hn8, hn9, hn10, hn11]
  have hY : nx1 s3 = s11 := by unfold nx1; rw [hs4, hs5, hs6, hs7, hs8, hs9, hs10, hs11]
  obtain ⟨re, hre⟩ : ∃ x, rdE (b, er) = x := ⟨_, rfl⟩
  have HRE : Bx ((if s11.2 ≠ 0 then s11.2 else if okV ⟨n0, n1, n2, n3⟩ = true then 0 else 3) = re) := ⟨by rw [← hre]; unfold rdE; rw [hX, hY, hV]⟩
  rw [hre, hV, hX, hP, hY]
  obtain ⟨rv, hrv⟩ : ∃ c, (if re = 0 then dgC ⟨n0, n1, n2, n3⟩ ⟨u8N n4, u8N n5, u8N n6, u8N n7, u8N n8, u8N n9, u8N n10, u8N n11⟩ else dgC V4.zero B8.zero) = c := ⟨_, rfl⟩
  rw [hrv]
  have HRV := Bx.mk hrv
  clear hV hX hP hY hre h hl hrv hn0 hs0 hn1 hs1 hn2 hs2 hn3 hs3 hn4 hs4 hn5 hs5 hn6 hs6 hn7 hs7 hn8 hs8 hn9 hs9 hn10 hs10 hn11 hs11
  go_enter Tryd.func30, Tryd.ntmps30
  go_wp2
  generalize (w.alloc (.cells #[.int .i64 0, .int .i64 0, .int .i64 0, .int .i64 0, .int .u8 0, .int .u8 0, .int .u8 0, .int .u8 0, .int .u8 0, .int .u8 0, .int .u8 0, .int .u8 0] 62)).alloc (.cells #[.int .i64 0, .int .i64 0, .int .i64 0, .int .i64 0, .int .u8 0, .int .u8 0, .int .u8 0, .int .u8 0, .int .u8 0, .int .u8 0, .int .u8 0, .int .u8 0] 62) = w0 at *
  refine wp_loop_rounds 5 ?_
  rw [rounds_succ]
  go_wp2_with fail
  refine (HN0.out w0 R0.out.rd (by have := HL.out; omega)).mono ?_
  rintro e x0 ⟨rfl, hr, hg⟩
  have Y0 := Bx.mk (R0.out.read hg hr)
  clear hr hg R0
  go_wp2_with (refine wpList_cellI rfl _ _ rfl (E + 1) 0 n0 #[.int .i64 0, .int .i64 0, .int .i64 0, .int .i64 0, .int .u8 0, .int .u8 0, .int .u8 0, .int .u8 0, .int .u8 0, .int .u8 0, .int .u8 0, .int .u8 0] #[.int .i64 n0, .int .i64 0, .int .i64 0, .int .i64 0, .int .u8 0, .int .u8 0, .int .u8 0, .int .u8 0, .int .u8 0, .int .u8 0, .int .u8 0, .int .u8 0] 62 (by rfl) (by rfl) Y0.out.row (by simp) rfl ?_; intro w1 hg hr; have R1 := Bx.mk (Y0.out.put HE.out hg hr); clear hg hr Y0)
  rw [rounds_succ]
  go_wp2_with fail
  refine (HN1.out w1 R1.out.rd (by have := HL.out; have := HS0.out.1; omega)).mono ?_
  rintro e x1 ⟨rfl, hr, hg⟩
  have Y1 := Bx.mk (R1.out.read hg hr)
  clear hr hg R1
  go_wp2_with (refine wpList_cellI rfl _ _ rfl (E + 1) 1 n1 #[.int .i64 n0, .int .i64 0, .int .i64 0, .int .i64 0, .int .u8 0, .int .u8 0, .int .u8 0, .int .u8 0, .int .u8 0, .int .u8 0, .int .u8 0, .int .u8 0] #[.int .i64 n0, .int .i64 n1, .int .i64 0, .int .i64 0, .int .u8 0, .int .u8 0, .int .u8 0, .int .u8 0, .int .u8 0, .int .u8 0, .int .u8 0, .int .u8 0] 62 (by rfl) (by rfl) Y1.out.row (by simp) rfl ?_; intro w2 hg hr; have R2 := Bx.mk (Y1.out.put HE.out hg hr); clear hg hr Y1)
  rw [rounds_succ]
  go_wp2_with fail
  refine (HN2.out w2 R2.out.rd (by have := HL.out; have := HS0.out.1; have := HS1.out.1; omega)).mono ?_
  rintro e x2 ⟨rfl, hr, hg⟩
  have Y2 := Bx.mk (R2.out.read hg hr)
  clear hr hg R2
  go_wp2_with (refine wpList_cellI rfl _ _ rfl (E + 1) 2 n2 #[.int .i64 n0, .int .i64 n1, .int .i64 0, .int .i64 0, .int .u8 0, .int .u8 0, .int .u8 0, .int .u8 0, .int .u8 0, .int .u8 0, .int .u8 0, .int .u8 0] #[.int .i64 n0, .int .i64 n1, .int .i64 n2, .int .i64 0, .int .u8 0, .int .u8 0, .int .u8 0, .int .u8 0, .int .u8 0, .int .u8 0, .int .u8 0, .int .u8 0] 62 (by rfl) (by rfl) Y2.out.row (by simp) rfl ?_; intro w3 hg hr; have R3 := Bx.mk (Y2.out.put HE.out hg hr); clear hg hr Y2)
  rw [rounds_succ]
  go_wp2_with fail
  refine (HN3.out w3 R3.out.rd (by have := HL.out; have := HS0.out.1; have := HS1.out.1; have := HS2.out.1; omega)).mono ?_
  rintro e x3 ⟨rfl, hr, hg⟩
  have Y3 := Bx.mk (R3.out.read hg hr)
  clear hr hg R3
  go_wp2_with (refine wpList_cellI rfl _ _ rfl (E + 1) 3 n3 #[.int .i64 n0, .int .i64 n1, .int .i64 n2, .int .i64 0, .int .u8 0, .int .u8 0, .int .u8 0, .int .u8 0, .int .u8 0, .int .u8 0, .int .u8 0, .int .u8 0] #[.int .i64 n0, .int .i64 n1, .int .i64 n2, .int .i64 n3, .int .u8 0, .int .u8 0, .int .u8 0, .int .u8 0, .int .u8 0, .int .u8 0, .int .u8 0, .int .u8 0] 62 (by rfl) (by rfl) Y3.out.row (by simp) rfl ?_; intro w4 hg hr; have R4 := Bx.mk (Y3.out.put HE.out hg hr); clear hg hr Y3)
  rw [rounds_succ]
  go_wp2
  refine wp_loop_rounds 9 ?_
  rw [rounds_succ]
  go_wp2_with fail
  refine (HN4.out w4 R4.out.rd (by have := HL.out; have := HS0.out.1; have := HS1.out.1; have := HS2.out.1; have := HS3.out.1; omega)).mono ?_
  rintro e x4 ⟨rfl, hr, hg⟩
  have Y4 := Bx.mk (R4.out.read hg hr)
  clear hr hg R4
  have u := u8N_wrap n4 HS4.out.2
  go_wp2_with (refine wpList_cellU rfl _ _ rfl (E + 1) 4 (ub (u8N n4)) #[.int .i64 n0, .int .i64 n1, .int .i64 n2, .int .i64 n3, .int .u8 0, .int .u8 0, .int .u8 0, .int .u8 0, .int .u8 0, .int .u8 0, .int .u8 0, .int .u8 0] #[.int .i64 n0, .int .i64 n1, .int .i64 n2, .int .i64 n3, .int .u8 (ub (u8N n4)), .int .u8 0, .int .u8 0, .int .u8 0, .int .u8 0, .int .u8 0, .int .u8 0, .int .u8 0] 62 (by rfl) (by first | rfl | simp only [u] | (rw [← u]; rfl)) Y4.out.row (by simp) rfl ?_; intro w5 hg hr; have R5 := Bx.mk (Y4.out.put HE.out hg hr); clear hg hr Y4)
  clear u
  rw [rounds_succ]
  go_wp2_with fail
  refine (HN5.out w5 R5.out.rd (by have := HL.out; have := HS0.out.1; have := HS1.out.1; have := HS2.out.1; have := HS3.out.1; have := HS4.out.1; omega)).mono ?_
  rintro e x5 ⟨rfl, hr, hg⟩
  have Y5 := Bx.mk (R5.out.read hg hr)
  clear hr hg R5
  have u := u8N_wrap n5 HS5.out.2
  go_wp2_with (refine wpList_cellU rfl _ _ rfl (E + 1) 5 (ub (u8N n5)) #[.int .i64 n0, .int .i64 n1, .int .i64 n2, .int .i64 n3, .int .u8 (ub (u8N n4)), .int .u8 0, .int .u8 0, .int .u8 0, .int .u8 0, .int .u8 0, .int .u8 0, .int .u8 0] #[.int .i64 n0, .int .i64 n1, .int .i64 n2, .int .i64 n3, .int .u8 (ub (u8N n4)), .int .u8 (ub (u8N n5)), .int .u8 0, .int .u8 0, .int .u8 0, .int .u8 0, .int .u8 0, .int .u8 0] 62 (by rfl) (by first | rfl | simp only [u] | (rw [← u]; rfl)) Y5.out.row (by simp) rfl ?_; intro w6 hg hr; have R6 := Bx.mk (Y5.out.put HE.out hg hr); clear hg hr Y5)
  clear u
  rw [rounds_succ]
  go_wp2_with fail
  refine (HN6.out w6 R6.out.rd (by have := HL.out; have := HS0.out.1; have := HS1.out.1; have := HS2.out.1; have := HS3.out.1; have := HS4.out.1; have := HS5.out.1; omega)).mono ?_
  rintro e x6 ⟨rfl, hr, hg⟩
  have Y6 := Bx.mk (R6.out.read hg hr)
  clear hr hg R6
  have u := u8N_wrap n6 HS6.out.2
  go_wp2_with (refine wpList_cellU rfl _ _ rfl (E + 1) 6 (ub (u8N n6)) #[.int .i64 n0, .int .i64 n1, .int .i64 n2, .int .i64 n3, .int .u8 (ub (u8N n4)), .int .u8 (ub (u8N n5)), .int .u8 0, .int .u8 0, .int .u8 0, .int .u8 0, .int .u8 0, .int .u8 0] #[.int .i64 n0, .int .i64 n1, .int .i64 n2, .int .i64 n3, .int .u8 (ub (u8N n4)), .int .u8 (ub (u8N n5)), .int .u8 (ub (u8N n6)), .int .u8 0, .int .u8 0, .int .u8 0, .int .u8 0, .int .u8 0] 62 (by rfl) (by first | rfl | simp only [u] | (rw [← u]; rfl)) Y6.out.row (by simp) rfl ?_; intro w7 hg hr; have R7 := Bx.mk (Y6.out.put HE.out hg hr); clear hg hr Y6)
  clear u
  rw [rounds_succ]
  go_wp2_with fail
  refine (HN7.out w7 R7.out.rd (by have := HL.out; have := HS0.out.1; have := HS1.out.1; have := HS2.out.1; have := HS3.out.1; have := HS4.out.1; have := HS5.out.1; have := HS6.out.1; omega)).mono ?_
  rintro e x7 ⟨rfl, hr, hg⟩
  have Y7 := Bx.mk (R7.out.read hg hr)
  clear hr hg R7
  have u := u8N_wrap n7 HS7.out.2
  go_wp2_with (refine wpList_cellU rfl _ _ rfl (E + 1) 7 (ub (u8N n7)) #[.int .i64 n0, .int .i64 n1, .int .i64 n2, .int .i64 n3, .int .u8 (ub (u8N n4)), .int .u8 (ub (u8N n5)), .int .u8 (ub (u8N n6)), .int .u8 0, .int .u8 0, .int .u8 0, .int .u8 0, .int .u8 0] #[.int .i64 n0, .int .i64 n1, .int .i64 n2, .int .i64 n3, .int .u8 (ub (u8N n4)), .int .u8 (ub (u8N n5)), .int .u8 (ub (u8N n6)), .int .u8 (ub (u8N n7)), .int .u8 0, .int .u8 0, .int .u8 0, .int .u8 0] 62 (by rfl) (by first | rfl | simp only [u] | (rw [← u]; rfl)) Y7.out.row (by simp) rfl ?_; intro w8 hg hr; have R8 := Bx.mk (Y7.out.put HE.out hg hr); clear hg hr Y7)
  clear u
  rw [rounds_succ]
  go_wp2_with fail
  refine (HN8.out w8 R8.out.rd (by have := HL.out; have := HS0.out.1; have := HS1.out.1; have := HS2.out.1; have := HS3.out.1; have := HS4.out.1; have := HS5.out.1; have := HS6.out.1; have := HS7.out.1; omega)).mono ?_
  rintro e x8 ⟨rfl, hr, hg⟩
  have Y8 := Bx.mk (R8.out.read hg hr)
  clear hr hg R8
  have u := u8N_wrap n8 HS8.out.2
  go_wp2_with (refine wpList_cellU rfl _ _ rfl (E + 1) 8 (ub (u8N n8)) #[.int .i64 n0, .int .i64 n1, .int .i64 n2, .int .i64 n3, .int .u8 (ub (u8N n4)), .int .u8 (ub (u8N n5)), .int .u8 (ub (u8N n6)), .int .u8 (ub (u8N n7)), .int .u8 0, .int .u8 0, .int .u8 0, .int .u8 0] #[.int .i64 n0, .int .i64 n1, .int .i64 n2, .int .i64 n3, .int .u8 (ub (u8N n4)), .int .u8 (ub (u8N n5)), .int .u8 (ub (u8N n6)), .int .u8 (ub (u8N n7)), .int .u8 (ub (u8N n8)), .int .u8 0, .int .u8 0, .int .u8 0] 62 (by rfl) (by first | rfl | simp only [u] | (rw [← u]; rfl)) Y8.out.row (by simp) rfl ?_; intro w9 hg hr; have R9 := Bx.mk (Y8.out.put HE.out hg hr); clear hg hr Y8)
  clear u
  rw [rounds_succ]
  go_wp2_with fail
  refine (HN9.out w9 R9.out.rd (by have := HL.out; have := HS0.out.1; have := HS1.out.1; have := HS2.out.1; have := HS3.out.1; have := HS4.out.1; have := HS5.out.1; have := HS6.out.1; have := HS7.out.1; have := HS8.out.1; omega)).mono ?_
  rintro e x9 ⟨rfl, hr, hg⟩
  have Y9 := Bx.mk (R9.out.read hg hr)
  clear hr hg R9
  have u := u8N_wrap n9 HS9.out.2
  go_wp2_with (refine wpList_cellU rfl _ _ rfl (E + 1) 9 (ub (u8N n9)) #[.int .i64 n0, .int .i64 n1, .int .i64 n2, .int .i64 n3, .int .u8 (ub (u8N n4)), .int .u8 (ub (u8N n5)), .int .u8 (ub (u8N n6)), .int .u8 (ub (u8N n7)), .int .u8 (ub (u8N n8)), .int .u8 0, .int .u8 0, .int .u8 0] #[.int .i64 n0, .int .i64 n1, .int .i64 n2, .int .i64 n3, .int .u8 (ub (u8N n4)), .int .u8 (ub (u8N n5)), .int .u8 (ub (u8N n6)), .int .u8 (ub (u8N n7)), .int .u8 (ub (u8N n8)), .int .u8 (ub (u8N n9)), .int .u8 0, .int .u8 0] 62 (by rfl) (by first | rfl | simp only [u] | (rw [← u]; rfl)) Y9.out.row (by simp) rfl ?_; intro w10 hg hr; have R10 := Bx.mk (Y9.out.put HE.out hg hr); clear hg hr Y9)
  clear u
  rw [rounds_succ]
  go_wp2_with fail
  refine (HN10.out w10 R10.out.rd (by have := HL.out; have := HS0.out.1; have := HS1.out.1; have := HS2.out.1; have := HS3.out.1; have := HS4.out.1; have := HS5.out.1; have := HS6.out.1; have := HS7.out.1; have := HS8.out.1; have := HS9.out.1; omega)).mono ?_
  rintro e x10 ⟨rfl, hr, hg⟩
  have Y10 := Bx.mk (R10.out.read hg hr)
  clear hr hg R10
  have u := u8N_wrap n10 HS10.out.2
  go_wp2_with (refine wpList_cellU rfl _ _ rfl (E + 1) 10 (ub (u8N n10)) #[.int .i64 n0, .int .i64 n1, .int .i64 n2, .int .i64 n3, .int .u8 (ub (u8N n4)), .int .u8 (ub (u8N n5)), .int .u8 (ub (u8N n6)), .int .u8 (ub (u8N n7)), .int .u8 (ub (u8N n8)), .int .u8 (ub (u8N n9)), .int .u8 0, .int .u8 0] #[.int .i64 n0, .int .i64 n1, .int .i64 n2, .int .i64 n3, .int .u8 (ub (u8N n4)), .int .u8 (ub (u8N n5)), .int .u8 (ub (u8N n6)), .int .u8 (ub (u8N n7)), .int .u8 (ub (u8N n8)), .int .u8 (ub (u8N n9)), .int .u8 (ub (u8N n10)), .int .u8 0] 62 (by rfl) (by first | rfl | simp only [u] | (rw [← u]; rfl)) Y10.out.row (by simp) rfl ?_; intro w11 hg hr; have R11 := Bx.mk (Y10.out.put HE.out hg hr); clear hg hr Y10)
  clear u
  rw [rounds_succ]
  go_wp2_with fail
  refine (HN11.out w11 R11.out.rd (by have := HL.out; have := HS0.out.1; have := HS1.out.1; have := HS2.out.1; have := HS3.out.1; have := HS4.out.1; have := HS5.out.1; have := HS6.out.1; have := HS7.out.1; have := HS8.out.1; have := HS9.out.1; have := HS10.out.1; omega)).mono ?_
  rintro e x11 ⟨rfl, hr, hg⟩
  have Y11 := Bx.mk (R11.out.read hg hr)
  clear hr hg R11
  have u := u8N_wrap n11 HS11.out.2
  go_wp2_with (refine wpList_cellU rfl _ _ rfl (E + 1) 11 (ub (u8N n11)) #[.int .i64 n0, .int .i64 n1, .int .i64 n2, .int .i64 n3, .int .u8 (ub (u8N n4)), .int .u8 (ub (u8N n5)), .int .u8 (ub (u8N n6)), .int .u8 (ub (u8N n7)), .int .u8 (ub (u8N n8)), .int .u8 (ub (u8N n9)), .int .u8 (ub (u8N n10)), .int .u8 0] #[.int .i64 n0, .int .i64 n1, .int .i64 n2, .int .i64 n3, .int .u8 (ub (u8N n4)), .int .u8 (ub (u8N n5)), .int .u8 (ub (u8N n6)), .int .u8 (ub (u8N n7)), .int .u8 (ub (u8N n8)), .int .u8 (ub (u8N n9)), .int .u8 (ub (u8N n10)), .int .u8 (ub (u8N n11))] 62 (by rfl) (by first | rfl | simp only [u] | (rw [← u]; rfl)) Y11.out.row (by simp) rfl ?_; intro w12 hg hr; have R12 := Bx.mk (Y11.out.put HE.out hg hr); clear hg hr Y11)
  clear u
  rw [rounds_succ]
  go_wp2_with fail
  refine (rerr_any q s11.1 s11.2 w12 R12.out.rd).mono ?_
  rintro e w13 ⟨rfl, hw13⟩
  rw [hw13]
  clear hw13 w13
  obtain ⟨e11, he11⟩ : ∃ e, s11.2 = e := ⟨_, rfl⟩
  rw [he11] at HRE
  have HE11 := Bx.mk he11
  rw [he11]
  clear he11
  by_cases h0 : e11 = 0
  · subst h0
    rw [if_neg (by simp)] at HRE
    go_wp2_with (refine wpList_load_mid rfl 28 _ rfl (E + 1) 0 (by rfl) _ _ (rng12 R12.out.row) Tryd.underlying28 rfl (by kernel_rfl) ?_)
    refine (within9_any ⟨n0, n1, n2, n3⟩ w12).mono ?_
    rintro e w13 ⟨rfl, hb⟩
    have R13 := Bx.mk (R12.out.later hb)
    clear hb R12
    cases hk : okV ⟨n0, n1, n2, n3⟩ with
    | true =>
      rw [hk, if_pos rfl] at HRE
      have hr0 : re = 0 := HRE.out.symm
      subst hr0
      have hv : rv = dgC ⟨n0, n1, n2, n3⟩ ⟨u8N n4, u8N n5, u8N n6, u8N n7, u8N n8, u8N n9, u8N n10, u8N n11⟩ := by rw [← HRV.out, if_pos rfl]
      subst hv
      go_wp2_with (first | (refine wpList_store_new rfl 62 _ _ rfl E #[.int .i64 n0, .int .i64 n1, .int .i64 n2, .int .i64 n3, .int .u8 (ub (u8N n4)), .int .u8 (ub (u8N n5)), .int .u8 (ub (u8N n6)), .int .u8 (ub (u8N n7)), .int .u8 (ub (u8N n8)), .int .u8 (ub (u8N n9)), .int .u8 (ub (u8N n10)), .int .u8 (ub (u8N n11))] _ _ (by rfl) (by rfl) R13.out.res rfl (by kernel_rfl) (by simp [Value.oneCell']) ?_; intro w14 hw hr; have HR := Bx.mk hr; have HG := Bx.mk (kb_of9 hw); clear hw hr) | (refine wpList_load_row rfl 62 _ rfl (E + 1) (by rfl) _ #[.int .i64 n0, .int .i64 n1, .int .i64 n2, .int .i64 n3, .int .u8 (ub (u8N n4)), .int .u8 (ub (u8N n5)), .int .u8 (ub (u8N n6)), .int .u8 (ub (u8N n7)), .int .u8 (ub (u8N n8)), .int .u8 (ub (u8N n9)), .int .u8 (ub (u8N n10)), .int .u8 (ub (u8N n11))] (0, 0) _ R13.out.row Tryd.underlying62 rfl (by kernel_rfl) ?_))
      refine bodyPost_ret (results_pair rfl _ _ _ E _ rfl (run_loadVar_row _ _ _ _ _ _ _ HR.out Tryd.underlying62 rfl (by kernel_rfl))) rfl ?_
      exact ⟨rfl, (R13.out.rd.asideT R13.out.res dg_u8 HG.out (by have := R13.out.lt; omega)), kb_new R13.out.g HG.out (by have := HE.out; omega)⟩
    | false =>
      rw [hk, if_neg (by simp)] at HRE
      have hr0 : re = 3 := HRE.out.symm
      subst hr0
      have hv : rv = dgC V4.zero B8.zero := by rw [← HRV.out, if_neg (by decide)]
      subst hv
      go_wp2_with (refine wpList_store_new rfl 62 _ _ rfl E #[.int .i64 0, .int .i64 0, .int .i64 0, .int .i64 0, .int .u8 0, .int .u8 0, .int .u8 0, .int .u8 0, .int .u8 0, .int .u8 0, .int .u8 0, .int .u8 0] _ _ (by rfl) (by rfl) R13.out.res rfl (by kernel_rfl) (by simp [Value.oneCell']) ?_; intro w14 hw hr; have HR := Bx.mk hr; have HG := Bx.mk (kb_of9 hw); clear hw hr)
      refine bodyPost_ret (results_pair rfl _ _ _ E _ rfl (run_loadVar_row _ _ _ _ _ _ _ HR.out Tryd.underlying62 rfl (by kernel_rfl))) rfl ?_
      exact ⟨rfl, (R13.out.rd.asideT R13.out.res dg_u8 HG.out (by have := R13.out.lt; omega)), kb_new R13.out.g HG.out (by have := HE.out; omega)⟩
  · rw [if_pos h0] at HRE
    have hr0 : re = e11 := HRE.out.symm
    subst hr0
    have hv : rv = dgC V4.zero B8.zero := by rw [← HRV.out, if_neg h0]
    subst hv
    go_wp2_with (refine wpList_store_new rfl 62 _ _ rfl E #[.int .i64 0, .int .i64 0, .int .i64 0, .int .i64 0, .int .u8 0, .int .u8 0, .int .u8 0, .int .u8 0, .int .u8 0, .int .u8 0, .int .u8 0, .int .u8 0] _ _ (by rfl) (by rfl) R12.out.res rfl (by kernel_rfl) (by simp [Value.oneCell']) ?_; intro w14 hw hr; have HR := Bx.mk hr; have HG := Bx.mk (kb_of9 hw); clear hw hr)
    refine bodyPost_ret (results_pair rfl _ _ _ E _ rfl (run_loadVar_row _ _ _ _ _ _ _ HR.out Tryd.underlying62 rfl (by kernel_rfl))) rfl ?_
    exact ⟨rfl, (R12.out.rd.asideT R12.out.res dg_u8 HG.out (by have := R12.out.lt; omega)), kb_new R12.out.g HG.out (by have := HE.out; omega)⟩
end Go.Proofs.YtnfgamekjbkbkaaDoor
