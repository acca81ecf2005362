/-
  Delta: cut, a range over the four logs from the last on.
-/
import Derived.Test.YtnfgamekjbkbkaaDoorD16
import Derived.RangeFuncNested
import Derived.RangeFuncBound
import Derived.RangeFuncCalls
import Derived.RangeFuncLeaves
import Derived.Shelf.Abstract
import Derived.Shelf.RegionOpen
import Derived.OwnWalkIn
import Derived.TacticsInMore
import Derived.LoopNIn
import Derived.LoopIn
namespace Go.Proofs.YtnfgamekjbkbkaaDoor
open Go Go.RowKit Go.Shelf
attribute [local go_sem] Oper.semAt_some
/-- A row of rows read from its end on. -/
theorem back_in (F : Fence) (n : Nat) (h1 : F.fn 104) (hro : F.round = none) (hn : 1 ≤ n) (l Bs B : Nat) (ad : Nat → Option Addr) (ns cs : Nat → Nat) (J : Nat → World → Prop)
    (hb : ∀ k W, J k W → W.cell? ⟨Bs, 0, none⟩ = some (.slice (some ⟨B, 4, none⟩) 4 4))
    (hc : ∀ k W, k < 4 → J k W → W.cell? ⟨B, 4 + (3 - k), none⟩ = some (.slice (ad k) (ns k) (cs k)))
    (hY : ∀ k W, k < 4 → J k W → YieldAt F (n - 1) Tryd.prog l #[.int .i64 (3 - (k : Int)), .slice (ad k) (ns k) (cs k)] W fun e W' => e = .returned (.bool true) ∧ J (k + 1) W')
    (W : World) (h0 : J 0 W) : CallsIn F n Tryd.prog 104 #[.func (.yield l) #[] #[], .pointer (some ⟨Bs, 0, none⟩)] W fun e W' => (∃ v, e = .returned v) ∧ J 4 W' := by
  have hb0 := hb 0 W h0
  refine callsIn_of_wp Tryd.func104 rfl h1 ?_ hro
  simp only [Tryd.ntmps104, List.size_toArray, List.length_cons, List.length_nil, Nat.reduceAdd, Nat.reduceSub, Array.replicate_succ, Array.replicate_zero, List.push_toArray, List.append_toArray, List.nil_append, List.cons_append]
  gi_wp2
  gi_loopw [3] (fun i wr => ∃ k : Nat, k ≤ 4 ∧ i = .int .i64 (3 - (k : Int)) ∧ J k wr)
    (fun i _ => (intOf i + 1).toNat)
  case atStart => exact ⟨0, by omega, by rfl, h0⟩
  case round =>
    obtain ⟨k, hk, hi, hJ⟩ := hrel
    have hbk := hb k wr hJ
    have hk5 : k = 0 ∨ k = 1 ∨ k = 2 ∨ k = 3 ∨ k = 4 := by omega
    rcases hk5 with rfl | rfl | rfl | rfl | rfl
    · have h2 : _ = Value.int .i64 3 := hi
      subst h2
      have hck : wr.cell? ⟨B, 7, none⟩ = some (.slice (ad 0) (ns 0) (cs 0)) := hc 0 wr (by omega) hJ
      have hYk : YieldAt F (n - 1) Tryd.prog l #[.int .i64 3, .slice (ad 0) (ns 0) (cs 0)] wr fun e W' => e = .returned (.bool true) ∧ J 1 W' := hY 0 wr (by omega) hJ
      obtain ⟨fn, tmps, assign, body, hy, hR⟩ := hYk
      gi_wp2
      refine hR.mono ?_
      rintro e W3 ⟨rfl, hJ3⟩
      gi_wp2
      go_roundw
      case rel => exact ⟨1, by omega, by rfl, hJ3⟩
      case measure => simp [intOf]
    · have h2 : _ = Value.int .i64 2 := hi
      subst h2
      have hck : wr.cell? ⟨B, 6, none⟩ = some (.slice (ad 1) (ns 1) (cs 1)) := hc 1 wr (by omega) hJ
      have hYk : YieldAt F (n - 1) Tryd.prog l #[.int .i64 2, .slice (ad 1) (ns 1) (cs 1)] wr fun e W' => e = .returned (.bool true) ∧ J 2 W' := hY 1 wr (by omega) hJ
      obtain ⟨fn, tmps, assign, body, hy, hR⟩ := hYk
      gi_wp2
      refine hR.mono ?_
      rintro e W3 ⟨rfl, hJ3⟩
      gi_wp2
      go_roundw
      case rel => exact ⟨2, by omega, by rfl, hJ3⟩
      case measure => simp [intOf]
    · have h2 : _ = Value.int .i64 1 := hi
      subst h2
      have hck : wr.cell? ⟨B, 5, none⟩ = some (.slice (ad 2) (ns 2) (cs 2)) := hc 2 wr (by omega) hJ
      have hYk : YieldAt F (n - 1) Tryd.prog l #[.int .i64 1, .slice (ad 2) (ns 2) (cs 2)] wr fun e W' => e = .returned (.bool true) ∧ J 3 W' := hY 2 wr (by omega) hJ
      obtain ⟨fn, tmps, assign, body, hy, hR⟩ := hYk
      gi_wp2
      refine hR.mono ?_
      rintro e W3 ⟨rfl, hJ3⟩
      gi_wp2
      go_roundw
      case rel => exact ⟨3, by omega, by rfl, hJ3⟩
      case measure => simp [intOf]
    · have h2 : _ = Value.int .i64 0 := hi
      subst h2
      have hck : wr.cell? ⟨B, 4, none⟩ = some (.slice (ad 3) (ns 3) (cs 3)) := hc 3 wr (by omega) hJ
      have hYk : YieldAt F (n - 1) Tryd.prog l #[.int .i64 0, .slice (ad 3) (ns 3) (cs 3)] wr fun e W' => e = .returned (.bool true) ∧ J 4 W' := hY 3 wr (by omega) hJ
      obtain ⟨fn, tmps, assign, body, hy, hR⟩ := hYk
      gi_wp2
      refine hR.mono ?_
      rintro e W3 ⟨rfl, hJ3⟩
      gi_wp2
      go_roundw
      case rel => exact ⟨4, by omega, by rfl, hJ3⟩
      case measure => simp [intOf]
    · have h2 : _ = Value.int .i64 (-1) := hi
      subst h2
      gi_wp2
      go_end0
      exact ⟨⟨_, rfl⟩, hJ⟩
def cutA : Code := ((Code.region 2 #[{ dst := some 5, op := Op.assign (Operand.tmp 11), type := 3, pos := "delta.go:136", after := #[], guard := none }] false).seq (Code.region 3 #[{ dst := some 6, op := Op.assign (Operand.tmp 12), type := 23, pos := "delta.go:136", after := #[], guard := none }] false))
def cutB : Code := (Code.block 1 ((Code.region 4 #[{ dst := some 13, op := Op.move (Operand.tmp 6), type := 23, pos := "delta.go:137", after := #[], guard := none }, { dst := some 14, op := Op.call { callee := Callee.builtin Builtin.len, args := #[Operand.tmp 13], argTypes := #[23] }, type := 3, pos := "delta.go:137", after := #[{ on := 0, ground := Ground.data }], guard := none }, { dst := some 15, op := Op.move (Operand.tmp 6), type := 23, pos := "delta.go:137", after := #[], guard := none }, { dst := some 16, op := Op.call { callee := Callee.builtin Builtin.len, args := #[Operand.tmp 15], argTypes := #[23] }, type := 3, pos := "delta.go:137", after := #[{ on := 2, ground := Ground.data }], guard := none }, { dst := some 17, op := Op.load 30 (Operand.tmp 2), type := 30, pos := "delta.go:137", after := #[], guard := none }, { dst := some 18, op := Op.call { callee := Callee.value (Operand.func 39), args := #[Operand.tmp 17], argTypes := #[30] }, type := 3, pos := "delta.go:137", after := #[{ on := 4, ground := Ground.data }], guard := none }, { dst := some 19, op := Op.load 3 (Operand.tmp 3), type := 3, pos := "delta.go:137", after := #[], guard := none }, { dst := some 20, op := Op.call { callee := Callee.value (Operand.func 88), args := #[Operand.tmp 18, Operand.tmp 19], argTypes := #[3, 3] }, type := 3, pos := "delta.go:137", after := #[{ on := 5, ground := Ground.data }, { on := 6, ground := Ground.data }, { on := 5, ground := Ground.chain }], guard := none }, { dst := some 21, op := Op.call { callee := Callee.builtin Builtin.min, args := #[Operand.tmp 16, Operand.tmp 20], argTypes := #[3, 3] }, type := 3, pos := "delta.go:137", after := #[{ on := 3, ground := Ground.data }, { on := 7, ground := Ground.data }], guard := none }, { dst := some 22, op := Op.binOp BinOp.sub 3 (Operand.tmp 14) (Operand.tmp 21) 3, type := 3, pos := "delta.go:137", after := #[{ on := 1, ground := Ground.data }, { on := 8, ground := Ground.data }], guard := none }, { dst := some 7, op := Op.assign (Operand.tmp 22), type := 3, pos := "delta.go:137", after := #[{ on := 9, ground := Ground.data }, { on := 7, ground := Ground.chain }, { on := 0, ground := Ground.phase }, { on := 1, ground := Ground.phase }, { on := 2, ground := Ground.phase }, { on := 3, ground := Ground.phase }, { on := 4, ground := Ground.phase }, { on := 5, ground := Ground.phase }, { on := 6, ground := Ground.phase }, { on := 7, ground := Ground.phase }, { on := 8, ground := Ground.phase }, { on := 9, ground := Ground.phase }], guard := none }] true).seq (Code.region 5 #[{ dst := some 23, op := Op.move (Operand.tmp 5), type := 3, pos := "delta.go:138", after := #[], guard := none }, { dst := some 24, op := Op.move (Operand.tmp 6), type := 23, pos := "delta.go:138", after := #[], guard := none }, { dst := some 25, op := Op.move (Operand.tmp 7), type := 3, pos := "delta.go:138", after := #[], guard := none }, { dst := some 26, op := Op.move (Operand.tmp 7), type := 3, pos := "delta.go:138", after := #[], guard := none }, { dst := some 27, op := Op.slice 23 (Operand.tmp 24) none (some (Operand.tmp 25)) (some (Operand.tmp 26)), type := 23, pos := "delta.go:138", after := #[{ on := 1, ground := Ground.data }, { on := 2, ground := Ground.data }, { on := 3, ground := Ground.data }], guard := none }, { dst := some 28, op := Op.fieldAddr 30 (Operand.tmp 2) 1, type := 0, pos := "delta.go:138", after := #[], guard := none }, { dst := some 29, op := Op.indexAddr 24 (Operand.tmp 28) (Operand.tmp 23), type := 0, pos := "delta.go:138", after := #[{ on := 5, ground := Ground.data }, { on := 0, ground := Ground.data }, { on := 0, ground := Ground.phase }, { on := 1, ground := Ground.phase }, { on := 2, ground := Ground.phase }, { on := 3, ground := Ground.phase }, { on := 4, ground := Ground.phase }], guard := none }, { dst := none, op := Op.store 23 (Operand.tmp 29) (Operand.tmp 27), type := 0, pos := "delta.go:138", after := #[{ on := 6, ground := Ground.data }, { on := 4, ground := Ground.data }, { on := 0, ground := Ground.phase }, { on := 1, ground := Ground.phase }, { on := 2, ground := Ground.phase }, { on := 3, ground := Ground.phase }, { on := 4, ground := Ground.phase }], guard := none }] false)))
/-- The loop's record. -/
def cutRec (fn : FuncId) (v0 v1 : Value) (E : Nat) (st : LoopState) (pe : Option Code) : Loop :=
  { state := st, pending := pe, fn, tmps := #[v0, v1, .pointer (some ⟨E, 0, none⟩), .pointer (some ⟨E + 1, 0, none⟩), .pointer (some ⟨E + 2, 0, none⟩), undef, undef, undef, .pointer (some ⟨E, 4, none⟩), .slice (some ⟨E, 4, none⟩) 4 4, .func (.func 104) #[] #[.pointer (some ⟨E + 3, 0, none⟩)], undef, undef, undef, undef, undef, undef, undef, undef, undef, undef, undef, undef, undef, undef, undef, undef, undef, undef, undef, undef], params := #[11, 12], assign := cutA, body := cutB, defers := E + 4 }
/-- How many are left of n where there are so many in all, and there is so much room. -/
def leftN (n t room : Nat) : Nat := n - min n ((max (16 + 2 * t) room - room + 1) / 2)
theorem leftN_le (n t room : Nat) : leftN n t room ≤ n := by unfold leftN; omega
/-- The eight cells of a block, and that they may be written. -/
theorem row_eight {W : World} {g : Nat} {a b c d e f h i : Value} {t : TypeId} (hr : W.heap[g]? = some (.cells #[a, b, c, d, e, f, h, i] t (0, 0))) :
    (W.cell? ⟨g, 0, none⟩ = some a ∧ W.cell? ⟨g, 1, none⟩ = some b ∧ W.cell? ⟨g, 2, none⟩ = some c ∧ W.cell? ⟨g, 3, none⟩ = some d) ∧ (W.cell? ⟨g, 4, none⟩ = some e ∧ W.cell? ⟨g, 5, none⟩ = some f ∧ W.cell? ⟨g, 6, none⟩ = some h ∧ W.cell? ⟨g, 7, none⟩ = some i) ∧ W.frozen? ⟨g, 4, none⟩ = false ∧ W.frozen? ⟨g, 5, none⟩ = false ∧ W.frozen? ⟨g, 6, none⟩ = false ∧ W.frozen? ⟨g, 7, none⟩ = false := by
  refine ⟨⟨?_, ?_, ?_, ?_⟩, ⟨?_, ?_, ?_, ?_⟩, frozen_of_row _ _ _ _ _ hr, frozen_of_row _ _ _ _ _ hr, frozen_of_row _ _ _ _ _ hr, frozen_of_row _ _ _ _ _ hr⟩ <;> (rw [cell_of_row _ _ _ _ _ _ hr]; rfl)
theorem row_one {W : World} {g : Nat} {a : Value} {t : TypeId} (hr : W.heap[g]? = some (.cells #[a] t (0, 0))) : W.cell? ⟨g, 0, none⟩ = some a ∧ W.frozen? ⟨g, 0, none⟩ = false :=
  ⟨by rw [cell_of_row _ _ _ _ _ _ hr]; rfl, frozen_of_row _ _ _ _ _ hr⟩
/-- A row stays where a block that holds no cells changes. -/
theorem IsL.other {W W1 : World} {p : Nat} {v : Value} {l : List Int} {o : Obj} (h : IsL W v l) (hg : W.grownBy W1 (some p)) (hp : W.heap[p]? = some o) (ho : o.isCells = false) : IsL W1 v l := by
  obtain ⟨a, cap, hv, hc, hn, hr⟩ := h
  refine ⟨a, cap, hv, hc, hn, fun hp' => ?_⟩
  obtain ⟨c, o', cs', fr', ha, hh, hcs⟩ := hr hp'
  refine ⟨c, o', cs', fr', ha, ?_, hcs⟩
  rw [hg.block c (Array.getElem?_eq_some_iff.1 hh).1 (fun e => by
    injection e with e
    subst e
    rw [hp] at hh
    injection hh with hh
    subst hh
    cases ho)]
  exact hh
theorem Rows4.other {W W1 : World} {p : Nat} {x : VV} {l : L4} {o : Obj} (h : Rows4 W x l) (hg : W.grownBy W1 (some p)) (hp : W.heap[p]? = some o) (ho : o.isCells = false) : Rows4 W1 x l := ⟨h.a.other hg hp ho, h.b.other hg hp ho, h.c.other hg hp ho, h.d.other hg hp ho⟩
/-- A row's beginning, as all of a row. -/
theorem IsL.upto {W : World} {a : Option Addr} {n cap : Nat} {l : List Int} (h : IsL W (.slice a n cap) l) (m : Nat) (hm : m ≤ n) : IsL W (.slice a m m) (l.take m) := by
  refine h.cut m hm m (Nat.le_refl _) fun ha => ?_
  obtain ⟨a', cap', hv, hc, hn, -⟩ := h
  injection hv with e1 e2 e3
  subst e1 e2 e3
  have := hn ha
  omega
set_option maxRecDepth 100000 in
theorem cut_hm (a : Option Addr) (n cap m : Nat) (h : m ≤ cap) (W : World) : (Instr.slice 23 (.slice a n cap) none (some (.int .i64 (m : Int))) (some (.int .i64 (m : Int)))).run Tryd.prog W = .ok (.slice a m m) W := by
  have he : Tryd.prog.elem 23 = 3 := by kernel_rfl
  have hs : ((sizeOf 3).run Tryd.prog W) = .ok 1 W := by kernel_rfl
  rw [run_slice_hm W 23 a n cap (by rw [he]; exact Tryd.underlying23) .i64 .i64 (m : Int) (m : Int) (by omega) (by omega) (by omega), he, hs]
  simp only [Result.andThen, sliced, Int.toNat_natCast, Nat.zero_mul, Nat.sub_zero]
  congr 2
  rcases a with _ | ad
  · simp
  · simp [Addr.add]
/-- A region within a round, where none of its operations defers a call. -/
theorem opsRound {l n : Nat} {P : Program} {ops : Array Oper} {Q : Exit → Act → World → Prop} (hd : ∀ (i : Nat) (o : Oper), ops[i]? = some o → ∀ c, o.op ≠ .defer c) (hL : ¬ LetsOut Q) :
    ∀ (is : List Nat) (a : Act) (w : World), wpOps P ops Q is a w → wpOpsIn (Fence.wide.inRound l) n P ops Q is a w := by
  intro is
  induction is with
  | nil => exact fun a w h => h
  | cons i rest ih =>
    intro a w h
    unfold wpOps at h
    unfold wpOpsIn
    cases hi : ops[i]? with
    | none =>
      rw [hi] at h
      exact ih a w h
    | some o =>
      rw [hi] at h
      simp only at h ⊢
      by_cases hw : Region.wanted o (yielded ops a.tmps) = true
      · rw [if_pos hw] at h ⊢
        have h := h.resolve_right fun h => hL h.2
        unfold Oper.wpIn
        refine ⟨fun _ _ => trivial, ?_⟩
        rw [show (Fence.wide.inRound l).round = some l from rfl, Oper.semAt_some l a.eval o (hd i o hi)]
        unfold Oper.wp at h
        generalize (execOp a.eval o).run P w = res at h ⊢
        cases res with
        | ok x w' =>
          cases x with
          | value v => exact ih _ _ h
          | skip => exact ih _ _ h
          | defer d => exact ih _ _ h
          | enter f args =>
            refine ⟨fun h => absurd h (by simp [Fence.wide, Fence.inRound]), CallsIn.inRound l (callsIn_wide.2 (Calls.mono h fun e w'' he => ?_))⟩
            cases e with
            | returned v => exact ih _ _ he
            | panicked ch => exact he
            | outgrown => exact he
          | row r args =>
            refine ⟨fun h => absurd h (by simp [Fence.wide, Fence.inRound]), fun c cs _ => ?_⟩
            obtain ⟨v, w', hR, hs⟩ := h c cs
            exact ⟨v, w', ih _ _ hR, stepsIn_wide.2 hs⟩
          | _ => exact h.elim
        | halt x w' =>
          cases x <;> first | exact h | exact h.elim
      · rw [if_neg hw] at h ⊢
        exact ⟨fun _ _ => trivial, ih _ _ h⟩
theorem region_round {l n id : Nat} {P : Program} {ops : Array Oper} {Q : Exit → Act → World → Prop} {S : World → Prop} {a : Act} {w : World} (hd : ∀ (i : Nat) (o : Oper), ops[i]? = some o → ∀ c, o.op ≠ .defer c) (hL : ¬ LetsOut Q) (hm : P.follows .mixedOrders = true) (hS : S w.drew)
    (h : S w.drew → wpAnyH P .any ops (NoPanic Q) S ops.size (Array.replicate ops.size false) a w.drew) : (Code.region id ops true).wpIn (Fence.wide.inRound l) n P Q a w := by
  refine wpIn_mono (Q := NoPanic Q) (wpIn_region_draw fun t => opsRound hd (fun ⟨a, w, h⟩ => hL ⟨a, w, NoPanic.imp _ _ _ h⟩) _ _ _ ?_) NoPanic.imp
  simp only [Region.schedule, hm, Bool.true_or, if_true]
  exact wpAny_sound ops.size t _ a _ (wpAny_of_held _ _ _ _ (h hS))
set_option maxRecDepth 100000 in
set_option maxHeartbeats 4000000 in
theorem cutR3 (w : World) (fn : FuncId) (v0 v1 : Value) (f : V4) (E room : Nat) (p q r s : Option Addr) (ca cb cc cd : Nat) (l : L4) (W : World)
    (hK : KR w E [(E, .cells #[.int .i64 f.a, .int .i64 f.b, .int .i64 f.c, .int .i64 f.d, .slice p l.a.length ca, .slice q l.b.length cb, .slice r l.c.length cc, .slice s l.d.length cd] 30), (E + 5, .loop (cutRec fn v0 v1 E .ready none)), (E + 1, .cells #[.int .i64 (room : Int)] 3), (E + 2, .cells #[.int .i64 0, .int .i64 0, .int .i64 0, .int .i64 0, .slice none 0 0, .slice none 0 0, .slice none 0 0, .slice none 0 0] 30), (E + 3, .cells #[.slice (some ⟨E, 4, none⟩) 4 4] 106), (E + 4, .deferred (some []))] W)
    (hx : Rows4 W ⟨.slice p l.a.length ca, .slice q l.b.length cb, .slice r l.c.length cc, .slice s l.d.length cd⟩ l) (hm : Most l 1000) (hr : 16 ≤ room) (hr2 : (room : Int) ≤ 9223372036854775807) (m L : Nat) (hL : leftN l.d.length (l.a.length + l.b.length + l.c.length + l.d.length) room = L) :
    YieldAt Fence.wide m Tryd.prog (E + 5) #[.int .i64 3, .slice s l.d.length cd] W fun e W' => e = .returned (.bool true) ∧ KR w E [(E, .cells #[.int .i64 f.a, .int .i64 f.b, .int .i64 f.c, .int .i64 f.d, .slice p l.a.length ca, .slice q l.b.length cb, .slice r l.c.length cc, .slice s (l.d.take L).length L] 30), (E + 5, .loop (cutRec fn v0 v1 E .ready none)), (E + 1, .cells #[.int .i64 (room : Int)] 3), (E + 2, .cells #[.int .i64 0, .int .i64 0, .int .i64 0, .int .i64 0, .slice none 0 0, .slice none 0 0, .slice none 0 0, .slice none 0 0] 30), (E + 3, .cells #[.slice (some ⟨E, 4, none⟩) 4 4] 106), (E + 4, .deferred (some []))] W' ∧ Rows4 W' ⟨.slice p l.a.length ca, .slice q l.b.length cb, .slice r l.c.length cc, .slice s (l.d.take L).length L⟩ ⟨l.a, l.b, l.c, l.d.take L⟩ := by
  have eL : (l.d.take L).length = L := by
    have := leftN_le l.d.length (l.a.length + l.b.length + l.c.length + l.d.length) room
    rw [List.length_take]
    omega
  rw [eL]
  clear eL
  have hl := hK.rows _ (.tail _ (.head _))
  refine ⟨fn, #[v0, v1, .pointer (some ⟨E, 0, none⟩), .pointer (some ⟨E + 1, 0, none⟩), .pointer (some ⟨E + 2, 0, none⟩), undef, undef, undef, .pointer (some ⟨E, 4, none⟩), .slice (some ⟨E, 4, none⟩) 4 4, .func (.func 104) #[] #[.pointer (some ⟨E + 3, 0, none⟩)], .int .i64 3, .slice s l.d.length cd, undef, undef, undef, undef, undef, undef, undef, undef, undef, undef, undef, undef, undef, undef, undef, undef, undef, undef], cutA, cutB, by simpa [cutRec] using run_yield (P := Tryd.prog) (args := #[.int .i64 3, .slice s l.d.length cd]) hl rfl, roundIn_of_wpIn trivial ?_⟩
  have hbr := run_beginRound (P := Tryd.prog) hl rfl
  have hlt : E + 5 < W.heap.size := hK.lt (.tail _ (.head _))
  obtain ⟨W2, hW2⟩ : ∃ W2, W.putObj (E + 5) (.loop { cutRec fn v0 v1 E .ready none with state := .busy }) = W2 := ⟨_, rfl⟩
  rw [hW2] at hbr
  have hg2 : W.grownBy W2 (some (E + 5)) := by rw [← hW2]; exact grownBy_putObj' _ _ _
  have hl2 : W2.heap[E + 5]? = some (.loop (cutRec fn v0 v1 E .busy none)) := by rw [← hW2]; exact World.putObj_heap_same hlt
  have K2 : Bx (KR w E [(E, .cells #[.int .i64 f.a, .int .i64 f.b, .int .i64 f.c, .int .i64 f.d, .slice p l.a.length ca, .slice q l.b.length cb, .slice r l.c.length cc, .slice s l.d.length cd] 30), (E + 5, .loop (cutRec fn v0 v1 E .busy none)), (E + 1, .cells #[.int .i64 (room : Int)] 3), (E + 2, .cells #[.int .i64 0, .int .i64 0, .int .i64 0, .int .i64 0, .slice none 0 0, .slice none 0 0, .slice none 0 0, .slice none 0 0] 30), (E + 3, .cells #[.slice (some ⟨E, 4, none⟩) 4 4] 106), (E + 4, .deferred (some []))] W2) := Bx.mk (((KR.sub hK (rs' := [(E + 5, .loop (cutRec fn v0 v1 E .ready none)), (E, .cells #[.int .i64 f.a, .int .i64 f.b, .int .i64 f.c, .int .i64 f.d, .slice p l.a.length ca, .slice q l.b.length cb, .slice r l.c.length cc, .slice s l.d.length cd] 30), (E + 1, .cells #[.int .i64 (room : Int)] 3), (E + 2, .cells #[.int .i64 0, .int .i64 0, .int .i64 0, .int .i64 0, .slice none 0 0, .slice none 0 0, .slice none 0 0, .slice none 0 0] 30), (E + 3, .cells #[.slice (some ⟨E, 4, none⟩) 4 4] 106), (E + 4, .deferred (some []))]) (fun y hy => by simp at hy ⊢; rcases hy with rfl | rfl | rfl | rfl | rfl | rfl <;> simp)).set hg2 hl2 (by omega) (by intro y hy; simp at hy; rcases hy with rfl | rfl | rfl | rfl | rfl <;> (simp only; omega))).sub (fun y hy => by simp at hy ⊢; rcases hy with rfl | rfl | rfl | rfl | rfl | rfl <;> simp))
  have hx2 := hx.other hg2 hl rfl
  clear hW2 hg2 hl2 hlt hl hK
  obtain ⟨tot, htot⟩ : ∃ tot, 16 + 2 * (l.a.length + l.b.length + l.c.length + l.d.length) = tot := ⟨_, rfl⟩
  obtain ⟨tm, htm⟩ : ∃ tm, (max tot room - room + 1) / 2 = tm := ⟨_, rfl⟩
  have hms := (show l.a.length ≤ 1000 ∧ l.b.length ≤ 1000 ∧ l.c.length ≤ 1000 ∧ l.d.length ≤ 1000 from ⟨hm.a, hm.b, hm.c, hm.d⟩)
  have HSz := Bx.mk (size_any9 f ⟨.slice p l.a.length ca, .slice q l.b.length cb, .slice r l.c.length cc, .slice s l.d.length cd⟩ l W2.drew (hx2.later (Below.refl _ _).drew) hm)
  rw [htot] at HSz
  have HT := Bx.mk (fun V => toomany9 tot room V (by omega) hr hr2)
  rw [htm] at HT
  have hLq : IntKind.i64.wrap ((l.d.length : Int) - min (l.d.length : Int) (tm : Int)) = (L : Int) := by
    unfold leftN at hL
    rw [htot, htm] at hL
    rw [show (l.d.length : Int) - min (l.d.length : Int) (tm : Int) = (L : Int) by omega]
    exact IntWalk.i64_in _ (by omega)
  have hLn : L ≤ l.d.length := hL ▸ leftN_le _ _ _
  have hLc : L ≤ cd := by
    obtain ⟨a', cap', hv, hc, hn, -⟩ := hx.d
    injection hv with e1 e2 e3
    omega
  have HC := Bx.mk (fun V => cut_hm s l.d.length cd L hLc V)
  have HX := Bx.mk hx2
  have HLn := Bx.mk hLn
  have HLc := Bx.mk hLc
  clear hx hx2 hm hms hr hr2 hL htot htm hLc hLn
  unfold dC at HSz
  simp only at HSz
  refine wpIn_mono (Q := Exit.then (fun a₁ w₁ => a₁ = { tmps := #[v0, v1, .pointer (some ⟨E, 0, none⟩), .pointer (some ⟨E + 1, 0, none⟩), .pointer (some ⟨E + 2, 0, none⟩), .int .i64 3, .slice s l.d.length cd, undef, .pointer (some ⟨E, 4, none⟩), .slice (some ⟨E, 4, none⟩) 4 4, .func (.func 104) #[] #[.pointer (some ⟨E + 3, 0, none⟩)], .int .i64 3, .slice s l.d.length cd, undef, undef, undef, undef, undef, undef, undef, undef, undef, undef, undef, undef, undef, undef, undef, undef, undef, undef], defers := [] } ∧ w₁ = W) (fun _ _ _ => False)) ?_ ?_
  · unfold cutA
    gi_wp2
  rintro e a w1 h
  cases e <;> first | exact h.elim | skip
  obtain ⟨rfl, rfl⟩ := h
  refine ⟨W2, hbr, ?_⟩
  unfold cutB
  refine wpIn_block (wpIn_seq ?_)
  refine region_round (S := fun V => V.rangeAt E 0 [.int .i64 f.a, .int .i64 f.b, .int .i64 f.c, .int .i64 f.d, .slice p l.a.length ca, .slice q l.b.length cb, .slice r l.c.length cc, .slice s l.d.length cd] ∧ V.rangeAt (E + 1) 0 [.int .i64 (room : Int)]) (by intro i o hi c; rcases i with _ | _ | _ | _ | _ | _ | _ | _ | _ | _ | _ | i <;> (simp at hi) <;> (subst hi; simp)) (by rintro ⟨_, _, h⟩; exact h) (by kernel_rfl) ⟨row_rng8 (K2.out.drew.rows _ (.head _)), row_rng8 (K2.out.drew.rows _ (.tail _ (.tail _ (.head _))))⟩ (fun hHeld => ?_)
  refine takeL 0 (v := ?_) rfl (by kernel_rfl) (by kernel_rfl) (by kernel_rfl) (fun _ _ _ h => h) (Or.inl ⟨by rfl, ?_⟩) hHeld ?_
  rotate_left 1
  · (intro w hSw; go_simp; try with_reducible rfl)
  try simp only [Act.put, List.setIfInBounds_toArray, List.set_cons_zero, List.set_cons_succ]
  refine takeL 1 (v := ?_) rfl (by kernel_rfl) (by kernel_rfl) (by kernel_rfl) (fun _ _ _ h => h) (Or.inl ⟨by rfl, ?_⟩) hHeld ?_
  rotate_left 1
  · (intro w hSw; go_simp; try with_reducible rfl)
  try simp only [Act.put, List.setIfInBounds_toArray, List.set_cons_zero, List.set_cons_succ]
  refine takeL 2 (v := ?_) rfl (by kernel_rfl) (by kernel_rfl) (by kernel_rfl) (fun _ _ _ h => h) (Or.inl ⟨by rfl, ?_⟩) hHeld ?_
  rotate_left 1
  · (intro w hSw; go_simp; try with_reducible rfl)
  try simp only [Act.put, List.setIfInBounds_toArray, List.set_cons_zero, List.set_cons_succ]
  refine takeL 3 (v := ?_) rfl (by kernel_rfl) (by kernel_rfl) (by kernel_rfl) (fun _ _ _ h => h) (Or.inl ⟨by rfl, ?_⟩) hHeld ?_
  rotate_left 1
  · (intro w hSw; go_simp; try with_reducible rfl)
  try simp only [Act.put, List.setIfInBounds_toArray, List.set_cons_zero, List.set_cons_succ]
  refine takeL 4 rfl (by kernel_rfl) (by kernel_rfl) (by kernel_rfl) (fun _ _ _ h => h) (yieldsIf_load_mid (by rfl) _ _ rfl _ _ rfl _ _ (fun w hSw => hSw.1) Tryd.underlying30 rfl (by kernel_rfl)) hHeld ?_
  try simp only [Act.put, List.setIfInBounds_toArray, List.set_cons_zero, List.set_cons_succ]
  refine takeL 6 (v := ?_) rfl (by kernel_rfl) (by kernel_rfl) (by kernel_rfl) (fun _ _ _ h => h) (Or.inl ⟨by rfl, ?_⟩) hHeld ?_
  rotate_left 1
  · (intro w hSw; have c1 : w.cell? ⟨E + 1, 0, none⟩ = some _ := hSw.2 0 _ rfl; go_simp; try with_reducible rfl)
  try simp only [Act.put, List.setIfInBounds_toArray, List.set_cons_zero, List.set_cons_succ]
  refine stepL 5 (by kernel_rfl) rfl (fun K hK => ?_)
  go_simp
  refine HSz.out.mono ?_
  rintro e w1 ⟨rfl, hb⟩
  show K _ _
  have K3 := Bx.mk (K2.out.drew.later hb)
  have HX3 := Bx.mk (HX.out.later ((Below.refl _ _).drew.trans hb))
  clear hb HSz HX
  refine hK.out _ _ ⟨row_rng8 (K3.out.rows _ (.head _)), row_rng8 (K3.out.rows _ (.tail _ (.tail _ (.head _))))⟩ (fun hHeld => ?_)
  clear hK K
  try simp only [Act.put, List.setIfInBounds_toArray, List.set_cons_zero, List.set_cons_succ]
  refine stepL 7 (by kernel_rfl) rfl (fun K hK => ?_)
  go_simp
  refine (HT.out _).mono ?_
  rintro e w2 ⟨rfl, rfl⟩
  show K _ _
  refine hK.out _ _ ⟨row_rng8 (K3.out.rows _ (.head _)), row_rng8 (K3.out.rows _ (.tail _ (.tail _ (.head _))))⟩ (fun hHeld => ?_)
  clear hK K HT
  try simp only [Act.put, List.setIfInBounds_toArray, List.set_cons_zero, List.set_cons_succ]
  refine takeL 8 (v := ?_) rfl (by kernel_rfl) (by kernel_rfl) (by kernel_rfl) (fun _ _ _ h => h) (Or.inl ⟨by rfl, ?_⟩) hHeld ?_
  rotate_left 1
  · (intro w hSw; go_simp; try with_reducible rfl)
  try simp only [Act.put, List.setIfInBounds_toArray, List.set_cons_zero, List.set_cons_succ]
  refine takeL 9 (v := ?_) rfl (by kernel_rfl) (by kernel_rfl) (by kernel_rfl) (fun _ _ _ h => h) (Or.inl ⟨by rfl, ?_⟩) hHeld ?_
  rotate_left 1
  · (intro w hSw; go_simp; try with_reducible rfl)
  try simp only [Act.put, List.setIfInBounds_toArray, List.set_cons_zero, List.set_cons_succ]
  refine takeL 10 (v := ?_) rfl (by kernel_rfl) (by kernel_rfl) (by kernel_rfl) (fun _ _ _ h => h) (Or.inl ⟨by rfl, ?_⟩) hHeld ?_
  rotate_left 1
  · (intro w hSw; go_simp; try with_reducible rfl)
  try simp only [Act.put, List.setIfInBounds_toArray, List.set_cons_zero, List.set_cons_succ]
  refine wpAnyH_done (by kernel_rfl) ?_ _
  refine NoPanic.normal ?_
  clear hHeld
  obtain ⟨⟨a0, a1, a2, a3⟩, ⟨a4, a5, a6, a7⟩, f4, f5, f6, f7⟩ := row_eight (K3.out.rows _ (.head _))
  have hc9 := HC.out w2
  gi_wp2
  obtain ⟨w4, hw4⟩ : ∃ w4, w2.setCell ⟨E, 7, none⟩ (.slice s L L) = w4 := ⟨_, rfl⟩
  have hg4 : w2.grownBy w4 (some E) := by rw [← hw4]; exact kb_set1 _ _ _ _
  have hr4 : w4.heap[E]? = some (.cells #[.int .i64 f.a, .int .i64 f.b, .int .i64 f.c, .int .i64 f.d, .slice p l.a.length ca, .slice q l.b.length cb, .slice r l.c.length cc, .slice s L L] 30 (0, 0)) := by rw [← hw4]; exact heap_setCell_same _ _ _ _ _ _ (K3.out.rows _ (.head _))
  have K4 := K3.out.set hg4 hr4 (Nat.le_refl _) (by intro y hy; simp at hy; rcases hy with rfl | rfl | rfl | rfl | rfl <;> (simp only; omega))
  have hx4 := HX3.out.grown hg4 (K3.out.rows _ (.head _)) del_int
  have hl4 := K4.rows _ (.tail _ (.head _))
  rw [hw4]
  refine ⟨_, _, run_endRound none hl4, rfl, ?_, ?_⟩
  · exact ((KR.sub K4 (rs' := [(E + 5, .loop (cutRec fn v0 v1 E .busy none)), (E, .cells #[.int .i64 f.a, .int .i64 f.b, .int .i64 f.c, .int .i64 f.d, .slice p l.a.length ca, .slice q l.b.length cb, .slice r l.c.length cc, .slice s L L] 30), (E + 1, .cells #[.int .i64 (room : Int)] 3), (E + 2, .cells #[.int .i64 0, .int .i64 0, .int .i64 0, .int .i64 0, .slice none 0 0, .slice none 0 0, .slice none 0 0, .slice none 0 0] 30), (E + 3, .cells #[.slice (some ⟨E, 4, none⟩) 4 4] 106), (E + 4, .deferred (some []))]) (fun y hy => by simp at hy ⊢; rcases hy with rfl | rfl | rfl | rfl | rfl | rfl <;> simp)).set (o1 := .loop (cutRec fn v0 v1 E .ready none)) (grownBy_putObj' _ _ _) (World.putObj_heap_same (Array.getElem?_eq_some_iff.1 hl4).1) (by omega) (by intro y hy; simp at hy; rcases hy with rfl | rfl | rfl | rfl | rfl <;> (simp only; omega))).sub (fun y hy => by simp at hy ⊢; rcases hy with rfl | rfl | rfl | rfl | rfl | rfl <;> simp)
  · exact Rows4.other ⟨hx4.a, hx4.b, hx4.c, hx4.d.upto L HLn.out⟩ (grownBy_putObj' _ _ _) hl4 rfl
set_option maxRecDepth 100000 in
set_option maxHeartbeats 4000000 in
theorem cutR2 (w : World) (fn : FuncId) (v0 v1 : Value) (f : V4) (E room : Nat) (p q r s : Option Addr) (ca cb cc cd : Nat) (l : L4) (W : World)
    (hK : KR w E [(E, .cells #[.int .i64 f.a, .int .i64 f.b, .int .i64 f.c, .int .i64 f.d, .slice p l.a.length ca, .slice q l.b.length cb, .slice r l.c.length cc, .slice s l.d.length cd] 30), (E + 5, .loop (cutRec fn v0 v1 E .ready none)), (E + 1, .cells #[.int .i64 (room : Int)] 3), (E + 2, .cells #[.int .i64 0, .int .i64 0, .int .i64 0, .int .i64 0, .slice none 0 0, .slice none 0 0, .slice none 0 0, .slice none 0 0] 30), (E + 3, .cells #[.slice (some ⟨E, 4, none⟩) 4 4] 106), (E + 4, .deferred (some []))] W)
    (hx : Rows4 W ⟨.slice p l.a.length ca, .slice q l.b.length cb, .slice r l.c.length cc, .slice s l.d.length cd⟩ l) (hm : Most l 1000) (hr : 16 ≤ room) (hr2 : (room : Int) ≤ 9223372036854775807) (m L : Nat) (hL : leftN l.c.length (l.a.length + l.b.length + l.c.length + l.d.length) room = L) :
    YieldAt Fence.wide m Tryd.prog (E + 5) #[.int .i64 2, .slice r l.c.length cc] W fun e W' => e = .returned (.bool true) ∧ KR w E [(E, .cells #[.int .i64 f.a, .int .i64 f.b, .int .i64 f.c, .int .i64 f.d, .slice p l.a.length ca, .slice q l.b.length cb, .slice r (l.c.take L).length L, .slice s l.d.length cd] 30), (E + 5, .loop (cutRec fn v0 v1 E .ready none)), (E + 1, .cells #[.int .i64 (room : Int)] 3), (E + 2, .cells #[.int .i64 0, .int .i64 0, .int .i64 0, .int .i64 0, .slice none 0 0, .slice none 0 0, .slice none 0 0, .slice none 0 0] 30), (E + 3, .cells #[.slice (some ⟨E, 4, none⟩) 4 4] 106), (E + 4, .deferred (some []))] W' ∧ Rows4 W' ⟨.slice p l.a.length ca, .slice q l.b.length cb, .slice r (l.c.take L).length L, .slice s l.d.length cd⟩ ⟨l.a, l.b, l.c.take L, l.d⟩ := by
  have eL : (l.c.take L).length = L := by
    have := leftN_le l.c.length (l.a.length + l.b.length + l.c.length + l.d.length) room
    rw [List.length_take]
    omega
  rw [eL]
  clear eL
  have hl := hK.rows _ (.tail _ (.head _))
  refine ⟨fn, #[v0, v1, .pointer (some ⟨E, 0, none⟩), .pointer (some ⟨E + 1, 0, none⟩), .pointer (some ⟨E + 2, 0, none⟩), undef, undef, undef, .pointer (some ⟨E, 4, none⟩), .slice (some ⟨E, 4, none⟩) 4 4, .func (.func 104) #[] #[.pointer (some ⟨E + 3, 0, none⟩)], .int .i64 2, .slice r l.c.length cc, undef, undef, undef, undef, undef, undef, undef, undef, undef, undef, undef, undef, undef, undef, undef, undef, undef, undef], cutA, cutB, by simpa [cutRec] using run_yield (P := Tryd.prog) (args := #[.int .i64 2, .slice r l.c.length cc]) hl rfl, roundIn_of_wpIn trivial ?_⟩
  have hbr := run_beginRound (P := Tryd.prog) hl rfl
  have hlt : E + 5 < W.heap.size := hK.lt (.tail _ (.head _))
  obtain ⟨W2, hW2⟩ : ∃ W2, W.putObj (E + 5) (.loop { cutRec fn v0 v1 E .ready none with state := .busy }) = W2 := ⟨_, rfl⟩
  rw [hW2] at hbr
  have hg2 : W.grownBy W2 (some (E + 5)) := by rw [← hW2]; exact grownBy_putObj' _ _ _
  have hl2 : W2.heap[E + 5]? = some (.loop (cutRec fn v0 v1 E .busy none)) := by rw [← hW2]; exact World.putObj_heap_same hlt
  have K2 : Bx (KR w E [(E, .cells #[.int .i64 f.a, .int .i64 f.b, .int .i64 f.c, .int .i64 f.d, .slice p l.a.length ca, .slice q l.b.length cb, .slice r l.c.length cc, .slice s l.d.length cd] 30), (E + 5, .loop (cutRec fn v0 v1 E .busy none)), (E + 1, .cells #[.int .i64 (room : Int)] 3), (E + 2, .cells #[.int .i64 0, .int .i64 0, .int .i64 0, .int .i64 0, .slice none 0 0, .slice none 0 0, .slice none 0 0, .slice none 0 0] 30), (E + 3, .cells #[.slice (some ⟨E, 4, none⟩) 4 4] 106), (E + 4, .deferred (some []))] W2) := Bx.mk (((KR.sub hK (rs' := [(E + 5, .loop (cutRec fn v0 v1 E .ready none)), (E, .cells #[.int .i64 f.a, .int .i64 f.b, .int .i64 f.c, .int .i64 f.d, .slice p l.a.length ca, .slice q l.b.length cb, .slice r l.c.length cc, .slice s l.d.length cd] 30), (E + 1, .cells #[.int .i64 (room : Int)] 3), (E + 2, .cells #[.int .i64 0, .int .i64 0, .int .i64 0, .int .i64 0, .slice none 0 0, .slice none 0 0, .slice none 0 0, .slice none 0 0] 30), (E + 3, .cells #[.slice (some ⟨E, 4, none⟩) 4 4] 106), (E + 4, .deferred (some []))]) (fun y hy => by simp at hy ⊢; rcases hy with rfl | rfl | rfl | rfl | rfl | rfl <;> simp)).set hg2 hl2 (by omega) (by intro y hy; simp at hy; rcases hy with rfl | rfl | rfl | rfl | rfl <;> (simp only; omega))).sub (fun y hy => by simp at hy ⊢; rcases hy with rfl | rfl | rfl | rfl | rfl | rfl <;> simp))
  have hx2 := hx.other hg2 hl rfl
  clear hW2 hg2 hl2 hlt hl hK
  obtain ⟨tot, htot⟩ : ∃ tot, 16 + 2 * (l.a.length + l.b.length + l.c.length + l.d.length) = tot := ⟨_, rfl⟩
  obtain ⟨tm, htm⟩ : ∃ tm, (max tot room - room + 1) / 2 = tm := ⟨_, rfl⟩
  have hms := (show l.a.length ≤ 1000 ∧ l.b.length ≤ 1000 ∧ l.c.length ≤ 1000 ∧ l.d.length ≤ 1000 from ⟨hm.a, hm.b, hm.c, hm.d⟩)
  have HSz := Bx.mk (size_any9 f ⟨.slice p l.a.length ca, .slice q l.b.length cb, .slice r l.c.length cc, .slice s l.d.length cd⟩ l W2.drew (hx2.later (Below.refl _ _).drew) hm)
  rw [htot] at HSz
  have HT := Bx.mk (fun V => toomany9 tot room V (by omega) hr hr2)
  rw [htm] at HT
  have hLq : IntKind.i64.wrap ((l.c.length : Int) - min (l.c.length : Int) (tm : Int)) = (L : Int) := by
    unfold leftN at hL
    rw [htot, htm] at hL
    rw [show (l.c.length : Int) - min (l.c.length : Int) (tm : Int) = (L : Int) by omega]
    exact IntWalk.i64_in _ (by omega)
  have hLn : L ≤ l.c.length := hL ▸ leftN_le _ _ _
  have hLc : L ≤ cc := by
    obtain ⟨a', cap', hv, hc, hn, -⟩ := hx.c
    injection hv with e1 e2 e3
    omega
  have HC := Bx.mk (fun V => cut_hm r l.c.length cc L hLc V)
  have HX := Bx.mk hx2
  have HLn := Bx.mk hLn
  have HLc := Bx.mk hLc
  clear hx hx2 hm hms hr hr2 hL htot htm hLc hLn
  unfold dC at HSz
  simp only at HSz
  refine wpIn_mono (Q := Exit.then (fun a₁ w₁ => a₁ = { tmps := #[v0, v1, .pointer (some ⟨E, 0, none⟩), .pointer (some ⟨E + 1, 0, none⟩), .pointer (some ⟨E + 2, 0, none⟩), .int .i64 2, .slice r l.c.length cc, undef, .pointer (some ⟨E, 4, none⟩), .slice (some ⟨E, 4, none⟩) 4 4, .func (.func 104) #[] #[.pointer (some ⟨E + 3, 0, none⟩)], .int .i64 2, .slice r l.c.length cc, undef, undef, undef, undef, undef, undef, undef, undef, undef, undef, undef, undef, undef, undef, undef, undef, undef, undef], defers := [] } ∧ w₁ = W) (fun _ _ _ => False)) ?_ ?_
  · unfold cutA
    gi_wp2
  rintro e a w1 h
  cases e <;> first | exact h.elim | skip
  obtain ⟨rfl, rfl⟩ := h
  refine ⟨W2, hbr, ?_⟩
  unfold cutB
  refine wpIn_block (wpIn_seq ?_)
  refine region_round (S := fun V => V.rangeAt E 0 [.int .i64 f.a, .int .i64 f.b, .int .i64 f.c, .int .i64 f.d, .slice p l.a.length ca, .slice q l.b.length cb, .slice r l.c.length cc, .slice s l.d.length cd] ∧ V.rangeAt (E + 1) 0 [.int .i64 (room : Int)]) (by intro i o hi c; rcases i with _ | _ | _ | _ | _ | _ | _ | _ | _ | _ | _ | i <;> (simp at hi) <;> (subst hi; simp)) (by rintro ⟨_, _, h⟩; exact h) (by kernel_rfl) ⟨row_rng8 (K2.out.drew.rows _ (.head _)), row_rng8 (K2.out.drew.rows _ (.tail _ (.tail _ (.head _))))⟩ (fun hHeld => ?_)
  refine takeL 0 (v := ?_) rfl (by kernel_rfl) (by kernel_rfl) (by kernel_rfl) (fun _ _ _ h => h) (Or.inl ⟨by rfl, ?_⟩) hHeld ?_
  rotate_left 1
  · (intro w hSw; go_simp; try with_reducible rfl)
  try simp only [Act.put, List.setIfInBounds_toArray, List.set_cons_zero, List.set_cons_succ]
  refine takeL 1 (v := ?_) rfl (by kernel_rfl) (by kernel_rfl) (by kernel_rfl) (fun _ _ _ h => h) (Or.inl ⟨by rfl, ?_⟩) hHeld ?_
  rotate_left 1
  · (intro w hSw; go_simp; try with_reducible rfl)
  try simp only [Act.put, List.setIfInBounds_toArray, List.set_cons_zero, List.set_cons_succ]
  refine takeL 2 (v := ?_) rfl (by kernel_rfl) (by kernel_rfl) (by kernel_rfl) (fun _ _ _ h => h) (Or.inl ⟨by rfl, ?_⟩) hHeld ?_
  rotate_left 1
  · (intro w hSw; go_simp; try with_reducible rfl)
  try simp only [Act.put, List.setIfInBounds_toArray, List.set_cons_zero, List.set_cons_succ]
  refine takeL 3 (v := ?_) rfl (by kernel_rfl) (by kernel_rfl) (by kernel_rfl) (fun _ _ _ h => h) (Or.inl ⟨by rfl, ?_⟩) hHeld ?_
  rotate_left 1
  · (intro w hSw; go_simp; try with_reducible rfl)
  try simp only [Act.put, List.setIfInBounds_toArray, List.set_cons_zero, List.set_cons_succ]
  refine takeL 4 rfl (by kernel_rfl) (by kernel_rfl) (by kernel_rfl) (fun _ _ _ h => h) (yieldsIf_load_mid (by rfl) _ _ rfl _ _ rfl _ _ (fun w hSw => hSw.1) Tryd.underlying30 rfl (by kernel_rfl)) hHeld ?_
  try simp only [Act.put, List.setIfInBounds_toArray, List.set_cons_zero, List.set_cons_succ]
  refine takeL 6 (v := ?_) rfl (by kernel_rfl) (by kernel_rfl) (by kernel_rfl) (fun _ _ _ h => h) (Or.inl ⟨by rfl, ?_⟩) hHeld ?_
  rotate_left 1
  · (intro w hSw; have c1 : w.cell? ⟨E + 1, 0, none⟩ = some _ := hSw.2 0 _ rfl; go_simp; try with_reducible rfl)
  try simp only [Act.put, List.setIfInBounds_toArray, List.set_cons_zero, List.set_cons_succ]
  refine stepL 5 (by kernel_rfl) rfl (fun K hK => ?_)
  go_simp
  refine HSz.out.mono ?_
  rintro e w1 ⟨rfl, hb⟩
  show K _ _
  have K3 := Bx.mk (K2.out.drew.later hb)
  have HX3 := Bx.mk (HX.out.later ((Below.refl _ _).drew.trans hb))
  clear hb HSz HX
  refine hK.out _ _ ⟨row_rng8 (K3.out.rows _ (.head _)), row_rng8 (K3.out.rows _ (.tail _ (.tail _ (.head _))))⟩ (fun hHeld => ?_)
  clear hK K
  try simp only [Act.put, List.setIfInBounds_toArray, List.set_cons_zero, List.set_cons_succ]
  refine stepL 7 (by kernel_rfl) rfl (fun K hK => ?_)
  go_simp
  refine (HT.out _).mono ?_
  rintro e w2 ⟨rfl, rfl⟩
  show K _ _
  refine hK.out _ _ ⟨row_rng8 (K3.out.rows _ (.head _)), row_rng8 (K3.out.rows _ (.tail _ (.tail _ (.head _))))⟩ (fun hHeld => ?_)
  clear hK K HT
  try simp only [Act.put, List.setIfInBounds_toArray, List.set_cons_zero, List.set_cons_succ]
  refine takeL 8 (v := ?_) rfl (by kernel_rfl) (by kernel_rfl) (by kernel_rfl) (fun _ _ _ h => h) (Or.inl ⟨by rfl, ?_⟩) hHeld ?_
  rotate_left 1
  · (intro w hSw; go_simp; try with_reducible rfl)
  try simp only [Act.put, List.setIfInBounds_toArray, List.set_cons_zero, List.set_cons_succ]
  refine takeL 9 (v := ?_) rfl (by kernel_rfl) (by kernel_rfl) (by kernel_rfl) (fun _ _ _ h => h) (Or.inl ⟨by rfl, ?_⟩) hHeld ?_
  rotate_left 1
  · (intro w hSw; go_simp; try with_reducible rfl)
  try simp only [Act.put, List.setIfInBounds_toArray, List.set_cons_zero, List.set_cons_succ]
  refine takeL 10 (v := ?_) rfl (by kernel_rfl) (by kernel_rfl) (by kernel_rfl) (fun _ _ _ h => h) (Or.inl ⟨by rfl, ?_⟩) hHeld ?_
  rotate_left 1
  · (intro w hSw; go_simp; try with_reducible rfl)
  try simp only [Act.put, List.setIfInBounds_toArray, List.set_cons_zero, List.set_cons_succ]
  refine wpAnyH_done (by kernel_rfl) ?_ _
  refine NoPanic.normal ?_
  clear hHeld
  obtain ⟨⟨a0, a1, a2, a3⟩, ⟨a4, a5, a6, a7⟩, f4, f5, f6, f7⟩ := row_eight (K3.out.rows _ (.head _))
  have hc9 := HC.out w2
  gi_wp2
  obtain ⟨w4, hw4⟩ : ∃ w4, w2.setCell ⟨E, 6, none⟩ (.slice r L L) = w4 := ⟨_, rfl⟩
  have hg4 : w2.grownBy w4 (some E) := by rw [← hw4]; exact kb_set1 _ _ _ _
  have hr4 : w4.heap[E]? = some (.cells #[.int .i64 f.a, .int .i64 f.b, .int .i64 f.c, .int .i64 f.d, .slice p l.a.length ca, .slice q l.b.length cb, .slice r L L, .slice s l.d.length cd] 30 (0, 0)) := by rw [← hw4]; exact heap_setCell_same _ _ _ _ _ _ (K3.out.rows _ (.head _))
  have K4 := K3.out.set hg4 hr4 (Nat.le_refl _) (by intro y hy; simp at hy; rcases hy with rfl | rfl | rfl | rfl | rfl <;> (simp only; omega))
  have hx4 := HX3.out.grown hg4 (K3.out.rows _ (.head _)) del_int
  have hl4 := K4.rows _ (.tail _ (.head _))
  rw [hw4]
  refine ⟨_, _, run_endRound none hl4, rfl, ?_, ?_⟩
  · exact ((KR.sub K4 (rs' := [(E + 5, .loop (cutRec fn v0 v1 E .busy none)), (E, .cells #[.int .i64 f.a, .int .i64 f.b, .int .i64 f.c, .int .i64 f.d, .slice p l.a.length ca, .slice q l.b.length cb, .slice r L L, .slice s l.d.length cd] 30), (E + 1, .cells #[.int .i64 (room : Int)] 3), (E + 2, .cells #[.int .i64 0, .int .i64 0, .int .i64 0, .int .i64 0, .slice none 0 0, .slice none 0 0, .slice none 0 0, .slice none 0 0] 30), (E + 3, .cells #[.slice (some ⟨E, 4, none⟩) 4 4] 106), (E + 4, .deferred (some []))]) (fun y hy => by simp at hy ⊢; rcases hy with rfl | rfl | rfl | rfl | rfl | rfl <;> simp)).set (o1 := .loop (cutRec fn v0 v1 E .ready none)) (grownBy_putObj' _ _ _) (World.putObj_heap_same (Array.getElem?_eq_some_iff.1 hl4).1) (by omega) (by intro y hy; simp at hy; rcases hy with rfl | rfl | rfl | rfl | rfl <;> (simp only; omega))).sub (fun y hy => by simp at hy ⊢; rcases hy with rfl | rfl | rfl | rfl | rfl | rfl <;> simp)
  · exact Rows4.other ⟨hx4.a, hx4.b, hx4.c.upto L HLn.out, hx4.d⟩ (grownBy_putObj' _ _ _) hl4 rfl
set_option maxRecDepth 100000 in
set_option maxHeartbeats 4000000 in
theorem cutR1 (w : World) (fn : FuncId) (v0 v1 : Value) (f : V4) (E room : Nat) (p q r s : Option Addr) (ca cb cc cd : Nat) (l : L4) (W : World)
    (hK : KR w E [(E, .cells #[.int .i64 f.a, .int .i64 f.b, .int .i64 f.c, .int .i64 f.d, .slice p l.a.length ca, .slice q l.b.length cb, .slice r l.c.length cc, .slice s l.d.length cd] 30), (E + 5, .loop (cutRec fn v0 v1 E .ready none)), (E + 1, .cells #[.int .i64 (room : Int)] 3), (E + 2, .cells #[.int .i64 0, .int .i64 0, .int .i64 0, .int .i64 0, .slice none 0 0, .slice none 0 0, .slice none 0 0, .slice none 0 0] 30), (E + 3, .cells #[.slice (some ⟨E, 4, none⟩) 4 4] 106), (E + 4, .deferred (some []))] W)
    (hx : Rows4 W ⟨.slice p l.a.length ca, .slice q l.b.length cb, .slice r l.c.length cc, .slice s l.d.length cd⟩ l) (hm : Most l 1000) (hr : 16 ≤ room) (hr2 : (room : Int) ≤ 9223372036854775807) (m L : Nat) (hL : leftN l.b.length (l.a.length + l.b.length + l.c.length + l.d.length) room = L) :
    YieldAt Fence.wide m Tryd.prog (E + 5) #[.int .i64 1, .slice q l.b.length cb] W fun e W' => e = .returned (.bool true) ∧ KR w E [(E, .cells #[.int .i64 f.a, .int .i64 f.b, .int .i64 f.c, .int .i64 f.d, .slice p l.a.length ca, .slice q (l.b.take L).length L, .slice r l.c.length cc, .slice s l.d.length cd] 30), (E + 5, .loop (cutRec fn v0 v1 E .ready none)), (E + 1, .cells #[.int .i64 (room : Int)] 3), (E + 2, .cells #[.int .i64 0, .int .i64 0, .int .i64 0, .int .i64 0, .slice none 0 0, .slice none 0 0, .slice none 0 0, .slice none 0 0] 30), (E + 3, .cells #[.slice (some ⟨E, 4, none⟩) 4 4] 106), (E + 4, .deferred (some []))] W' ∧ Rows4 W' ⟨.slice p l.a.length ca, .slice q (l.b.take L).length L, .slice r l.c.length cc, .slice s l.d.length cd⟩ ⟨l.a, l.b.take L, l.c, l.d⟩ := by
  have eL : (l.b.take L).length = L := by
    have := leftN_le l.b.length (l.a.length + l.b.length + l.c.length + l.d.length) room
    rw [List.length_take]
    omega
  rw [eL]
  clear eL
  have hl := hK.rows _ (.tail _ (.head _))
  refine ⟨fn, #[v0, v1, .pointer (some ⟨E, 0, none⟩), .pointer (some ⟨E + 1, 0, none⟩), .pointer (some ⟨E + 2, 0, none⟩), undef, undef, undef, .pointer (some ⟨E, 4, none⟩), .slice (some ⟨E, 4, none⟩) 4 4, .func (.func 104) #[] #[.pointer (some ⟨E + 3, 0, none⟩)], .int .i64 1, .slice q l.b.length cb, undef, undef, undef, undef, undef, undef, undef, undef, undef, undef, undef, undef, undef, undef, undef, undef, undef, undef], cutA, cutB, by simpa [cutRec] using run_yield (P := Tryd.prog) (args := #[.int .i64 1, .slice q l.b.length cb]) hl rfl, roundIn_of_wpIn trivial ?_⟩
  have hbr := run_beginRound (P := Tryd.prog) hl rfl
  have hlt : E + 5 < W.heap.size := hK.lt (.tail _ (.head _))
  obtain ⟨W2, hW2⟩ : ∃ W2, W.putObj (E + 5) (.loop { cutRec fn v0 v1 E .ready none with state := .busy }) = W2 := ⟨_, rfl⟩
  rw [hW2] at hbr
  have hg2 : W.grownBy W2 (some (E + 5)) := by rw [← hW2]; exact grownBy_putObj' _ _ _
  have hl2 : W2.heap[E + 5]? = some (.loop (cutRec fn v0 v1 E .busy none)) := by rw [← hW2]; exact World.putObj_heap_same hlt
  have K2 : Bx (KR w E [(E, .cells #[.int .i64 f.a, .int .i64 f.b, .int .i64 f.c, .int .i64 f.d, .slice p l.a.length ca, .slice q l.b.length cb, .slice r l.c.length cc, .slice s l.d.length cd] 30), (E + 5, .loop (cutRec fn v0 v1 E .busy none)), (E + 1, .cells #[.int .i64 (room : Int)] 3), (E + 2, .cells #[.int .i64 0, .int .i64 0, .int .i64 0, .int .i64 0, .slice none 0 0, .slice none 0 0, .slice none 0 0, .slice none 0 0] 30), (E + 3, .cells #[.slice (some ⟨E, 4, none⟩) 4 4] 106), (E + 4, .deferred (some []))] W2) := Bx.mk (((KR.sub hK (rs' := [(E + 5, .loop (cutRec fn v0 v1 E .ready none)), (E, .cells #[.int .i64 f.a, .int .i64 f.b, .int .i64 f.c, .int .i64 f.d, .slice p l.a.length ca, .slice q l.b.length cb, .slice r l.c.length cc, .slice s l.d.length cd] 30), (E + 1, .cells #[.int .i64 (room : Int)] 3), (E + 2, .cells #[.int .i64 0, .int .i64 0, .int .i64 0, .int .i64 0, .slice none 0 0, .slice none 0 0, .slice none 0 0, .slice none 0 0] 30), (E + 3, .cells #[.slice (some ⟨E, 4, none⟩) 4 4] 106), (E + 4, .deferred (some []))]) (fun y hy => by simp at hy ⊢; rcases hy with rfl | rfl | rfl | rfl | rfl | rfl <;> simp)).set hg2 hl2 (by omega) (by intro y hy; simp at hy; rcases hy with rfl | rfl | rfl | rfl | rfl <;> (simp only; omega))).sub (fun y hy => by simp at hy ⊢; rcases hy with rfl | rfl | rfl | rfl | rfl | rfl <;> simp))
  have hx2 := hx.other hg2 hl rfl
  clear hW2 hg2 hl2 hlt hl hK
  obtain ⟨tot, htot⟩ : ∃ tot, 16 + 2 * (l.a.length + l.b.length + l.c.length + l.d.length) = tot := ⟨_, rfl⟩
  obtain ⟨tm, htm⟩ : ∃ tm, (max tot room - room + 1) / 2 = tm := ⟨_, rfl⟩
  have hms := (show l.a.length ≤ 1000 ∧ l.b.length ≤ 1000 ∧ l.c.length ≤ 1000 ∧ l.d.length ≤ 1000 from ⟨hm.a, hm.b, hm.c, hm.d⟩)
  have HSz := Bx.mk (size_any9 f ⟨.slice p l.a.length ca, .slice q l.b.length cb, .slice r l.c.length cc, .slice s l.d.length cd⟩ l W2.drew (hx2.later (Below.refl _ _).drew) hm)
  rw [htot] at HSz
  have HT := Bx.mk (fun V => toomany9 tot room V (by omega) hr hr2)
  rw [htm] at HT
  have hLq : IntKind.i64.wrap ((l.b.length : Int) - min (l.b.length : Int) (tm : Int)) = (L : Int) := by
    unfold leftN at hL
    rw [htot, htm] at hL
    rw [show (l.b.length : Int) - min (l.b.length : Int) (tm : Int) = (L : Int) by omega]
    exact IntWalk.i64_in _ (by omega)
  have hLn : L ≤ l.b.length := hL ▸ leftN_le _ _ _
  have hLc : L ≤ cb := by
    obtain ⟨a', cap', hv, hc, hn, -⟩ := hx.b
    injection hv with e1 e2 e3
    omega
  have HC := Bx.mk (fun V => cut_hm q l.b.length cb L hLc V)
  have HX := Bx.mk hx2
  have HLn := Bx.mk hLn
  have HLc := Bx.mk hLc
  clear hx hx2 hm hms hr hr2 hL htot htm hLc hLn
  unfold dC at HSz
  simp only at HSz
  refine wpIn_mono (Q := Exit.then (fun a₁ w₁ => a₁ = { tmps := #[v0, v1, .pointer (some ⟨E, 0, none⟩), .pointer (some ⟨E + 1, 0, none⟩), .pointer (some ⟨E + 2, 0, none⟩), .int .i64 1, .slice q l.b.length cb, undef, .pointer (some ⟨E, 4, none⟩), .slice (some ⟨E, 4, none⟩) 4 4, .func (.func 104) #[] #[.pointer (some ⟨E + 3, 0, none⟩)], .int .i64 1, .slice q l.b.length cb, undef, undef, undef, undef, undef, undef, undef, undef, undef, undef, undef, undef, undef, undef, undef, undef, undef, undef], defers := [] } ∧ w₁ = W) (fun _ _ _ => False)) ?_ ?_
  · unfold cutA
    gi_wp2
  rintro e a w1 h
  cases e <;> first | exact h.elim | skip
  obtain ⟨rfl, rfl⟩ := h
  refine ⟨W2, hbr, ?_⟩
  unfold cutB
  refine wpIn_block (wpIn_seq ?_)
  refine region_round (S := fun V => V.rangeAt E 0 [.int .i64 f.a, .int .i64 f.b, .int .i64 f.c, .int .i64 f.d, .slice p l.a.length ca, .slice q l.b.length cb, .slice r l.c.length cc, .slice s l.d.length cd] ∧ V.rangeAt (E + 1) 0 [.int .i64 (room : Int)]) (by intro i o hi c; rcases i with _ | _ | _ | _ | _ | _ | _ | _ | _ | _ | _ | i <;> (simp at hi) <;> (subst hi; simp)) (by rintro ⟨_, _, h⟩; exact h) (by kernel_rfl) ⟨row_rng8 (K2.out.drew.rows _ (.head _)), row_rng8 (K2.out.drew.rows _ (.tail _ (.tail _ (.head _))))⟩ (fun hHeld => ?_)
  refine takeL 0 (v := ?_) rfl (by kernel_rfl) (by kernel_rfl) (by kernel_rfl) (fun _ _ _ h => h) (Or.inl ⟨by rfl, ?_⟩) hHeld ?_
  rotate_left 1
  · (intro w hSw; go_simp; try with_reducible rfl)
  try simp only [Act.put, List.setIfInBounds_toArray, List.set_cons_zero, List.set_cons_succ]
  refine takeL 1 (v := ?_) rfl (by kernel_rfl) (by kernel_rfl) (by kernel_rfl) (fun _ _ _ h => h) (Or.inl ⟨by rfl, ?_⟩) hHeld ?_
  rotate_left 1
  · (intro w hSw; go_simp; try with_reducible rfl)
  try simp only [Act.put, List.setIfInBounds_toArray, List.set_cons_zero, List.set_cons_succ]
  refine takeL 2 (v := ?_) rfl (by kernel_rfl) (by kernel_rfl) (by kernel_rfl) (fun _ _ _ h => h) (Or.inl ⟨by rfl, ?_⟩) hHeld ?_
  rotate_left 1
  · (intro w hSw; go_simp; try with_reducible rfl)
  try simp only [Act.put, List.setIfInBounds_toArray, List.set_cons_zero, List.set_cons_succ]
  refine takeL 3 (v := ?_) rfl (by kernel_rfl) (by kernel_rfl) (by kernel_rfl) (fun _ _ _ h => h) (Or.inl ⟨by rfl, ?_⟩) hHeld ?_
  rotate_left 1
  · (intro w hSw; go_simp; try with_reducible rfl)
  try simp only [Act.put, List.setIfInBounds_toArray, List.set_cons_zero, List.set_cons_succ]
  refine takeL 4 rfl (by kernel_rfl) (by kernel_rfl) (by kernel_rfl) (fun _ _ _ h => h) (yieldsIf_load_mid (by rfl) _ _ rfl _ _ rfl _ _ (fun w hSw => hSw.1) Tryd.underlying30 rfl (by kernel_rfl)) hHeld ?_
  try simp only [Act.put, List.setIfInBounds_toArray, List.set_cons_zero, List.set_cons_succ]
  refine takeL 6 (v := ?_) rfl (by kernel_rfl) (by kernel_rfl) (by kernel_rfl) (fun _ _ _ h => h) (Or.inl ⟨by rfl, ?_⟩) hHeld ?_
  rotate_left 1
  · (intro w hSw; have c1 : w.cell? ⟨E + 1, 0, none⟩ = some _ := hSw.2 0 _ rfl; go_simp; try with_reducible rfl)
  try simp only [Act.put, List.setIfInBounds_toArray, List.set_cons_zero, List.set_cons_succ]
  refine stepL 5 (by kernel_rfl) rfl (fun K hK => ?_)
  go_simp
  refine HSz.out.mono ?_
  rintro e w1 ⟨rfl, hb⟩
  show K _ _
  have K3 := Bx.mk (K2.out.drew.later hb)
  have HX3 := Bx.mk (HX.out.later ((Below.refl _ _).drew.trans hb))
  clear hb HSz HX
  refine hK.out _ _ ⟨row_rng8 (K3.out.rows _ (.head _)), row_rng8 (K3.out.rows _ (.tail _ (.tail _ (.head _))))⟩ (fun hHeld => ?_)
  clear hK K
  try simp only [Act.put, List.setIfInBounds_toArray, List.set_cons_zero, List.set_cons_succ]
  refine stepL 7 (by kernel_rfl) rfl (fun K hK => ?_)
  go_simp
  refine (HT.out _).mono ?_
  rintro e w2 ⟨rfl, rfl⟩
  show K _ _
  refine hK.out _ _ ⟨row_rng8 (K3.out.rows _ (.head _)), row_rng8 (K3.out.rows _ (.tail _ (.tail _ (.head _))))⟩ (fun hHeld => ?_)
  clear hK K HT
  try simp only [Act.put, List.setIfInBounds_toArray, List.set_cons_zero, List.set_cons_succ]
  refine takeL 8 (v := ?_) rfl (by kernel_rfl) (by kernel_rfl) (by kernel_rfl) (fun _ _ _ h => h) (Or.inl ⟨by rfl, ?_⟩) hHeld ?_
  rotate_left 1
  · (intro w hSw; go_simp; try with_reducible rfl)
  try simp only [Act.put, List.setIfInBounds_toArray, List.set_cons_zero, List.set_cons_succ]
  refine takeL 9 (v := ?_) rfl (by kernel_rfl) (by kernel_rfl) (by kernel_rfl) (fun _ _ _ h => h) (Or.inl ⟨by rfl, ?_⟩) hHeld ?_
  rotate_left 1
  · (intro w hSw; go_simp; try with_reducible rfl)
  try simp only [Act.put, List.setIfInBounds_toArray, List.set_cons_zero, List.set_cons_succ]
  refine takeL 10 (v := ?_) rfl (by kernel_rfl) (by kernel_rfl) (by kernel_rfl) (fun _ _ _ h => h) (Or.inl ⟨by rfl, ?_⟩) hHeld ?_
  rotate_left 1
  · (intro w hSw; go_simp; try with_reducible rfl)
  try simp only [Act.put, List.setIfInBounds_toArray, List.set_cons_zero, List.set_cons_succ]
  refine wpAnyH_done (by kernel_rfl) ?_ _
  refine NoPanic.normal ?_
  clear hHeld
  obtain ⟨⟨a0, a1, a2, a3⟩, ⟨a4, a5, a6, a7⟩, f4, f5, f6, f7⟩ := row_eight (K3.out.rows _ (.head _))
  have hc9 := HC.out w2
  gi_wp2
  obtain ⟨w4, hw4⟩ : ∃ w4, w2.setCell ⟨E, 5, none⟩ (.slice q L L) = w4 := ⟨_, rfl⟩
  have hg4 : w2.grownBy w4 (some E) := by rw [← hw4]; exact kb_set1 _ _ _ _
  have hr4 : w4.heap[E]? = some (.cells #[.int .i64 f.a, .int .i64 f.b, .int .i64 f.c, .int .i64 f.d, .slice p l.a.length ca, .slice q L L, .slice r l.c.length cc, .slice s l.d.length cd] 30 (0, 0)) := by rw [← hw4]; exact heap_setCell_same _ _ _ _ _ _ (K3.out.rows _ (.head _))
  have K4 := K3.out.set hg4 hr4 (Nat.le_refl _) (by intro y hy; simp at hy; rcases hy with rfl | rfl | rfl | rfl | rfl <;> (simp only; omega))
  have hx4 := HX3.out.grown hg4 (K3.out.rows _ (.head _)) del_int
  have hl4 := K4.rows _ (.tail _ (.head _))
  rw [hw4]
  refine ⟨_, _, run_endRound none hl4, rfl, ?_, ?_⟩
  · exact ((KR.sub K4 (rs' := [(E + 5, .loop (cutRec fn v0 v1 E .busy none)), (E, .cells #[.int .i64 f.a, .int .i64 f.b, .int .i64 f.c, .int .i64 f.d, .slice p l.a.length ca, .slice q L L, .slice r l.c.length cc, .slice s l.d.length cd] 30), (E + 1, .cells #[.int .i64 (room : Int)] 3), (E + 2, .cells #[.int .i64 0, .int .i64 0, .int .i64 0, .int .i64 0, .slice none 0 0, .slice none 0 0, .slice none 0 0, .slice none 0 0] 30), (E + 3, .cells #[.slice (some ⟨E, 4, none⟩) 4 4] 106), (E + 4, .deferred (some []))]) (fun y hy => by simp at hy ⊢; rcases hy with rfl | rfl | rfl | rfl | rfl | rfl <;> simp)).set (o1 := .loop (cutRec fn v0 v1 E .ready none)) (grownBy_putObj' _ _ _) (World.putObj_heap_same (Array.getElem?_eq_some_iff.1 hl4).1) (by omega) (by intro y hy; simp at hy; rcases hy with rfl | rfl | rfl | rfl | rfl <;> (simp only; omega))).sub (fun y hy => by simp at hy ⊢; rcases hy with rfl | rfl | rfl | rfl | rfl | rfl <;> simp)
  · exact Rows4.other ⟨hx4.a, hx4.b.upto L HLn.out, hx4.c, hx4.d⟩ (grownBy_putObj' _ _ _) hl4 rfl
set_option maxRecDepth 100000 in
set_option maxHeartbeats 4000000 in
theorem cutR0 (w : World) (fn : FuncId) (v0 v1 : Value) (f : V4) (E room : Nat) (p q r s : Option Addr) (ca cb cc cd : Nat) (l : L4) (W : World)
    (hK : KR w E [(E, .cells #[.int .i64 f.a, .int .i64 f.b, .int .i64 f.c, .int .i64 f.d, .slice p l.a.length ca, .slice q l.b.length cb, .slice r l.c.length cc, .slice s l.d.length cd] 30), (E + 5, .loop (cutRec fn v0 v1 E .ready none)), (E + 1, .cells #[.int .i64 (room : Int)] 3), (E + 2, .cells #[.int .i64 0, .int .i64 0, .int .i64 0, .int .i64 0, .slice none 0 0, .slice none 0 0, .slice none 0 0, .slice none 0 0] 30), (E + 3, .cells #[.slice (some ⟨E, 4, none⟩) 4 4] 106), (E + 4, .deferred (some []))] W)
    (hx : Rows4 W ⟨.slice p l.a.length ca, .slice q l.b.length cb, .slice r l.c.length cc, .slice s l.d.length cd⟩ l) (hm : Most l 1000) (hr : 16 ≤ room) (hr2 : (room : Int) ≤ 9223372036854775807) (m L : Nat) (hL : leftN l.a.length (l.a.length + l.b.length + l.c.length + l.d.length) room = L) :
    YieldAt Fence.wide m Tryd.prog (E + 5) #[.int .i64 0, .slice p l.a.length ca] W fun e W' => e = .returned (.bool true) ∧ KR w E [(E, .cells #[.int .i64 f.a, .int .i64 f.b, .int .i64 f.c, .int .i64 f.d, .slice p (l.a.take L).length L, .slice q l.b.length cb, .slice r l.c.length cc, .slice s l.d.length cd] 30), (E + 5, .loop (cutRec fn v0 v1 E .ready none)), (E + 1, .cells #[.int .i64 (room : Int)] 3), (E + 2, .cells #[.int .i64 0, .int .i64 0, .int .i64 0, .int .i64 0, .slice none 0 0, .slice none 0 0, .slice none 0 0, .slice none 0 0] 30), (E + 3, .cells #[.slice (some ⟨E, 4, none⟩) 4 4] 106), (E + 4, .deferred (some []))] W' ∧ Rows4 W' ⟨.slice p (l.a.take L).length L, .slice q l.b.length cb, .slice r l.c.length cc, .slice s l.d.length cd⟩ ⟨l.a.take L, l.b, l.c, l.d⟩ := by
  have eL : (l.a.take L).length = L := by
    have := leftN_le l.a.length (l.a.length + l.b.length + l.c.length + l.d.length) room
    rw [List.length_take]
    omega
  rw [eL]
  clear eL
  have hl := hK.rows _ (.tail _ (.head _))
  refine ⟨fn, #[v0, v1, .pointer (some ⟨E, 0, none⟩), .pointer (some ⟨E + 1, 0, none⟩), .pointer (some ⟨E + 2, 0, none⟩), undef, undef, undef, .pointer (some ⟨E, 4, none⟩), .slice (some ⟨E, 4, none⟩) 4 4, .func (.func 104) #[] #[.pointer (some ⟨E + 3, 0, none⟩)], .int .i64 0, .slice p l.a.length ca, undef, undef, undef, undef, undef, undef, undef, undef, undef, undef, undef, undef, undef, undef, undef, undef, undef, undef], cutA, cutB, by simpa [cutRec] using run_yield (P := Tryd.prog) (args := #[.int .i64 0, .slice p l.a.length ca]) hl rfl, roundIn_of_wpIn trivial ?_⟩
  have hbr := run_beginRound (P := Tryd.prog) hl rfl
  have hlt : E + 5 < W.heap.size := hK.lt (.tail _ (.head _))
  obtain ⟨W2, hW2⟩ : ∃ W2, W.putObj (E + 5) (.loop { cutRec fn v0 v1 E .ready none with state := .busy }) = W2 := ⟨_, rfl⟩
  rw [hW2] at hbr
  have hg2 : W.grownBy W2 (some (E + 5)) := by rw [← hW2]; exact grownBy_putObj' _ _ _
  have hl2 : W2.heap[E + 5]? = some (.loop (cutRec fn v0 v1 E .busy none)) := by rw [← hW2]; exact World.putObj_heap_same hlt
  have K2 : Bx (KR w E [(E, .cells #[.int .i64 f.a, .int .i64 f.b, .int .i64 f.c, .int .i64 f.d, .slice p l.a.length ca, .slice q l.b.length cb, .slice r l.c.length cc, .slice s l.d.length cd] 30), (E + 5, .loop (cutRec fn v0 v1 E .busy none)), (E + 1, .cells #[.int .i64 (room : Int)] 3), (E + 2, .cells #[.int .i64 0, .int .i64 0, .int .i64 0, .int .i64 0, .slice none 0 0, .slice none 0 0, .slice none 0 0, .slice none 0 0] 30), (E + 3, .cells #[.slice (some ⟨E, 4, none⟩) 4 4] 106), (E + 4, .deferred (some []))] W2) := Bx.mk (((KR.sub hK (rs' := [(E + 5, .loop (cutRec fn v0 v1 E .ready none)), (E, .cells #[.int .i64 f.a, .int .i64 f.b, .int .i64 f.c, .int .i64 f.d, .slice p l.a.length ca, .slice q l.b.length cb, .slice r l.c.length cc, .slice s l.d.length cd] 30), (E + 1, .cells #[.int .i64 (room : Int)] 3), (E + 2, .cells #[.int .i64 0, .int .i64 0, .int .i64 0, .int .i64 0, .slice none 0 0, .slice none 0 0, .slice none 0 0, .slice none 0 0] 30), (E + 3, .cells #[.slice (some ⟨E, 4, none⟩) 4 4] 106), (E + 4, .deferred (some []))]) (fun y hy => by simp at hy ⊢; rcases hy with rfl | rfl | rfl | rfl | rfl | rfl <;> simp)).set hg2 hl2 (by omega) (by intro y hy; simp at hy; rcases hy with rfl | rfl | rfl | rfl | rfl <;> (simp only; omega))).sub (fun y hy => by simp at hy ⊢; rcases hy with rfl | rfl | rfl | rfl | rfl | rfl <;> simp))
  have hx2 := hx.other hg2 hl rfl
  clear hW2 hg2 hl2 hlt hl hK
  obtain ⟨tot, htot⟩ : ∃ tot, 16 + 2 * (l.a.length + l.b.length + l.c.length + l.d.length) = tot := ⟨_, rfl⟩
  obtain ⟨tm, htm⟩ : ∃ tm, (max tot room - room + 1) / 2 = tm := ⟨_, rfl⟩
  have hms := (show l.a.length ≤ 1000 ∧ l.b.length ≤ 1000 ∧ l.c.length ≤ 1000 ∧ l.d.length ≤ 1000 from ⟨hm.a, hm.b, hm.c, hm.d⟩)
  have HSz := Bx.mk (size_any9 f ⟨.slice p l.a.length ca, .slice q l.b.length cb, .slice r l.c.length cc, .slice s l.d.length cd⟩ l W2.drew (hx2.later (Below.refl _ _).drew) hm)
  rw [htot] at HSz
  have HT := Bx.mk (fun V => toomany9 tot room V (by omega) hr hr2)
  rw [htm] at HT
  have hLq : IntKind.i64.wrap ((l.a.length : Int) - min (l.a.length : Int) (tm : Int)) = (L : Int) := by
    unfold leftN at hL
    rw [htot, htm] at hL
    rw [show (l.a.length : Int) - min (l.a.length : Int) (tm : Int) = (L : Int) by omega]
    exact IntWalk.i64_in _ (by omega)
  have hLn : L ≤ l.a.length := hL ▸ leftN_le _ _ _
  have hLc : L ≤ ca := by
    obtain ⟨a', cap', hv, hc, hn, -⟩ := hx.a
    injection hv with e1 e2 e3
    omega
  have HC := Bx.mk (fun V => cut_hm p l.a.length ca L hLc V)
  have HX := Bx.mk hx2
  have HLn := Bx.mk hLn
  have HLc := Bx.mk hLc
  clear hx hx2 hm hms hr hr2 hL htot htm hLc hLn
  unfold dC at HSz
  simp only at HSz
  refine wpIn_mono (Q := Exit.then (fun a₁ w₁ => a₁ = { tmps := #[v0, v1, .pointer (some ⟨E, 0, none⟩), .pointer (some ⟨E + 1, 0, none⟩), .pointer (some ⟨E + 2, 0, none⟩), .int .i64 0, .slice p l.a.length ca, undef, .pointer (some ⟨E, 4, none⟩), .slice (some ⟨E, 4, none⟩) 4 4, .func (.func 104) #[] #[.pointer (some ⟨E + 3, 0, none⟩)], .int .i64 0, .slice p l.a.length ca, undef, undef, undef, undef, undef, undef, undef, undef, undef, undef, undef, undef, undef, undef, undef, undef, undef, undef], defers := [] } ∧ w₁ = W) (fun _ _ _ => False)) ?_ ?_
  · unfold cutA
    gi_wp2
  rintro e a w1 h
  cases e <;> first | exact h.elim | skip
  obtain ⟨rfl, rfl⟩ := h
  refine ⟨W2, hbr, ?_⟩
  unfold cutB
  refine wpIn_block (wpIn_seq ?_)
  refine region_round (S := fun V => V.rangeAt E 0 [.int .i64 f.a, .int .i64 f.b, .int .i64 f.c, .int .i64 f.d, .slice p l.a.length ca, .slice q l.b.length cb, .slice r l.c.length cc, .slice s l.d.length cd] ∧ V.rangeAt (E + 1) 0 [.int .i64 (room : Int)]) (by intro i o hi c; rcases i with _ | _ | _ | _ | _ | _ | _ | _ | _ | _ | _ | i <;> (simp at hi) <;> (subst hi; simp)) (by rintro ⟨_, _, h⟩; exact h) (by kernel_rfl) ⟨row_rng8 (K2.out.drew.rows _ (.head _)), row_rng8 (K2.out.drew.rows _ (.tail _ (.tail _ (.head _))))⟩ (fun hHeld => ?_)
  refine takeL 0 (v := ?_) rfl (by kernel_rfl) (by kernel_rfl) (by kernel_rfl) (fun _ _ _ h => h) (Or.inl ⟨by rfl, ?_⟩) hHeld ?_
  rotate_left 1
  · (intro w hSw; go_simp; try with_reducible rfl)
  try simp only [Act.put, List.setIfInBounds_toArray, List.set_cons_zero, List.set_cons_succ]
  refine takeL 1 (v := ?_) rfl (by kernel_rfl) (by kernel_rfl) (by kernel_rfl) (fun _ _ _ h => h) (Or.inl ⟨by rfl, ?_⟩) hHeld ?_
  rotate_left 1
  · (intro w hSw; go_simp; try with_reducible rfl)
  try simp only [Act.put, List.setIfInBounds_toArray, List.set_cons_zero, List.set_cons_succ]
  refine takeL 2 (v := ?_) rfl (by kernel_rfl) (by kernel_rfl) (by kernel_rfl) (fun _ _ _ h => h) (Or.inl ⟨by rfl, ?_⟩) hHeld ?_
  rotate_left 1
  · (intro w hSw; go_simp; try with_reducible rfl)
  try simp only [Act.put, List.setIfInBounds_toArray, List.set_cons_zero, List.set_cons_succ]
  refine takeL 3 (v := ?_) rfl (by kernel_rfl) (by kernel_rfl) (by kernel_rfl) (fun _ _ _ h => h) (Or.inl ⟨by rfl, ?_⟩) hHeld ?_
  rotate_left 1
  · (intro w hSw; go_simp; try with_reducible rfl)
  try simp only [Act.put, List.setIfInBounds_toArray, List.set_cons_zero, List.set_cons_succ]
  refine takeL 4 rfl (by kernel_rfl) (by kernel_rfl) (by kernel_rfl) (fun _ _ _ h => h) (yieldsIf_load_mid (by rfl) _ _ rfl _ _ rfl _ _ (fun w hSw => hSw.1) Tryd.underlying30 rfl (by kernel_rfl)) hHeld ?_
  try simp only [Act.put, List.setIfInBounds_toArray, List.set_cons_zero, List.set_cons_succ]
  refine takeL 6 (v := ?_) rfl (by kernel_rfl) (by kernel_rfl) (by kernel_rfl) (fun _ _ _ h => h) (Or.inl ⟨by rfl, ?_⟩) hHeld ?_
  rotate_left 1
  · (intro w hSw; have c1 : w.cell? ⟨E + 1, 0, none⟩ = some _ := hSw.2 0 _ rfl; go_simp; try with_reducible rfl)
  try simp only [Act.put, List.setIfInBounds_toArray, List.set_cons_zero, List.set_cons_succ]
  refine stepL 5 (by kernel_rfl) rfl (fun K hK => ?_)
  go_simp
  refine HSz.out.mono ?_
  rintro e w1 ⟨rfl, hb⟩
  show K _ _
  have K3 := Bx.mk (K2.out.drew.later hb)
  have HX3 := Bx.mk (HX.out.later ((Below.refl _ _).drew.trans hb))
  clear hb HSz HX
  refine hK.out _ _ ⟨row_rng8 (K3.out.rows _ (.head _)), row_rng8 (K3.out.rows _ (.tail _ (.tail _ (.head _))))⟩ (fun hHeld => ?_)
  clear hK K
  try simp only [Act.put, List.setIfInBounds_toArray, List.set_cons_zero, List.set_cons_succ]
  refine stepL 7 (by kernel_rfl) rfl (fun K hK => ?_)
  go_simp
  refine (HT.out _).mono ?_
  rintro e w2 ⟨rfl, rfl⟩
  show K _ _
  refine hK.out _ _ ⟨row_rng8 (K3.out.rows _ (.head _)), row_rng8 (K3.out.rows _ (.tail _ (.tail _ (.head _))))⟩ (fun hHeld => ?_)
  clear hK K HT
  try simp only [Act.put, List.setIfInBounds_toArray, List.set_cons_zero, List.set_cons_succ]
  refine takeL 8 (v := ?_) rfl (by kernel_rfl) (by kernel_rfl) (by kernel_rfl) (fun _ _ _ h => h) (Or.inl ⟨by rfl, ?_⟩) hHeld ?_
  rotate_left 1
  · (intro w hSw; go_simp; try with_reducible rfl)
  try simp only [Act.put, List.setIfInBounds_toArray, List.set_cons_zero, List.set_cons_succ]
  refine takeL 9 (v := ?_) rfl (by kernel_rfl) (by kernel_rfl) (by kernel_rfl) (fun _ _ _ h => h) (Or.inl ⟨by rfl, ?_⟩) hHeld ?_
  rotate_left 1
  · (intro w hSw; go_simp; try with_reducible rfl)
  try simp only [Act.put, List.setIfInBounds_toArray, List.set_cons_zero, List.set_cons_succ]
  refine takeL 10 (v := ?_) rfl (by kernel_rfl) (by kernel_rfl) (by kernel_rfl) (fun _ _ _ h => h) (Or.inl ⟨by rfl, ?_⟩) hHeld ?_
  rotate_left 1
  · (intro w hSw; go_simp; try with_reducible rfl)
  try simp only [Act.put, List.setIfInBounds_toArray, List.set_cons_zero, List.set_cons_succ]
  refine wpAnyH_done (by kernel_rfl) ?_ _
  refine NoPanic.normal ?_
  clear hHeld
  obtain ⟨⟨a0, a1, a2, a3⟩, ⟨a4, a5, a6, a7⟩, f4, f5, f6, f7⟩ := row_eight (K3.out.rows _ (.head _))
  have hc9 := HC.out w2
  gi_wp2
  obtain ⟨w4, hw4⟩ : ∃ w4, w2.setCell ⟨E, 4, none⟩ (.slice p L L) = w4 := ⟨_, rfl⟩
  have hg4 : w2.grownBy w4 (some E) := by rw [← hw4]; exact kb_set1 _ _ _ _
  have hr4 : w4.heap[E]? = some (.cells #[.int .i64 f.a, .int .i64 f.b, .int .i64 f.c, .int .i64 f.d, .slice p L L, .slice q l.b.length cb, .slice r l.c.length cc, .slice s l.d.length cd] 30 (0, 0)) := by rw [← hw4]; exact heap_setCell_same _ _ _ _ _ _ (K3.out.rows _ (.head _))
  have K4 := K3.out.set hg4 hr4 (Nat.le_refl _) (by intro y hy; simp at hy; rcases hy with rfl | rfl | rfl | rfl | rfl <;> (simp only; omega))
  have hx4 := HX3.out.grown hg4 (K3.out.rows _ (.head _)) del_int
  have hl4 := K4.rows _ (.tail _ (.head _))
  rw [hw4]
  refine ⟨_, _, run_endRound none hl4, rfl, ?_, ?_⟩
  · exact ((KR.sub K4 (rs' := [(E + 5, .loop (cutRec fn v0 v1 E .busy none)), (E, .cells #[.int .i64 f.a, .int .i64 f.b, .int .i64 f.c, .int .i64 f.d, .slice p L L, .slice q l.b.length cb, .slice r l.c.length cc, .slice s l.d.length cd] 30), (E + 1, .cells #[.int .i64 (room : Int)] 3), (E + 2, .cells #[.int .i64 0, .int .i64 0, .int .i64 0, .int .i64 0, .slice none 0 0, .slice none 0 0, .slice none 0 0, .slice none 0 0] 30), (E + 3, .cells #[.slice (some ⟨E, 4, none⟩) 4 4] 106), (E + 4, .deferred (some []))]) (fun y hy => by simp at hy ⊢; rcases hy with rfl | rfl | rfl | rfl | rfl | rfl <;> simp)).set (o1 := .loop (cutRec fn v0 v1 E .ready none)) (grownBy_putObj' _ _ _) (World.putObj_heap_same (Array.getElem?_eq_some_iff.1 hl4).1) (by omega) (by intro y hy; simp at hy; rcases hy with rfl | rfl | rfl | rfl | rfl <;> (simp only; omega))).sub (fun y hy => by simp at hy ⊢; rcases hy with rfl | rfl | rfl | rfl | rfl | rfl <;> simp)
  · exact Rows4.other ⟨hx4.a.upto L HLn.out, hx4.b, hx4.c, hx4.d⟩ (grownBy_putObj' _ _ _) hl4 rfl
def pick4 {α : Type} (a b c d : α) : Nat → α
  | 0 => a
  | 1 => b
  | 2 => c
  | _ => d
def cutJ (S0 S1 S2 S3 S4 : World → Prop) : Nat → World → Prop
  | 0 => S0
  | 1 => S1
  | 2 => S2
  | 3 => S3
  | _ => S4
/-- Between two rounds. -/
def CutSt (w : World) (fn : FuncId) (v0 v1 : Value) (f : V4) (E room : Nat) (p q r s : Option Addr) (ca cb cc cd : Nat) (l : L4) (W : World) : Prop :=
  KR w E [(E, .cells #[.int .i64 f.a, .int .i64 f.b, .int .i64 f.c, .int .i64 f.d, .slice p l.a.length ca, .slice q l.b.length cb, .slice r l.c.length cc, .slice s l.d.length cd] 30), (E + 5, .loop (cutRec fn v0 v1 E .ready none)), (E + 1, .cells #[.int .i64 (room : Int)] 3), (E + 2, .cells #[.int .i64 0, .int .i64 0, .int .i64 0, .int .i64 0, .slice none 0 0, .slice none 0 0, .slice none 0 0, .slice none 0 0] 30), (E + 3, .cells #[.slice (some ⟨E, 4, none⟩) 4 4] 106), (E + 4, .deferred (some []))] W ∧ Rows4 W ⟨.slice p l.a.length ca, .slice q l.b.length cb, .slice r l.c.length cc, .slice s l.d.length cd⟩ l
set_option maxRecDepth 100000 in
theorem back0 (a : Option Addr) (n c : Nat) (w : World) : Calls Tryd.prog 87 #[.slice a n c] w fun e w' => e = .returned (.func (.func 104) #[] #[.pointer (some ⟨w.heap.size, 0, none⟩)]) ∧ w' = w.alloc (.cells #[.slice a n c] 106) := by
  go_enter Tryd.func87, Tryd.ntmps87
  go_wp2
  go_ret
  exact ⟨rfl, rfl⟩
theorem leftN_is (d T room n : Nat) (hr : 16 ≤ room) (hn : (room - 16) / 2 = n) : leftN d T room = d - min d (T - n) := by
  unfold leftN
  rw [show (max (16 + 2 * T) room - room + 1) / 2 = T - n by omega]
theorem cut_step (C R n : Nat) : C - min C (R + C - n) = min C (n - R) := by omega
theorem cut_zero (S D n : Nat) : S + min D (n - S) - n = S - n := by omega
theorem cut_zero2 (S C D n : Nat) : S + min C (n - S) + min D (n - (S + C)) - n = S - n := by omega
theorem cut_zero3 (S B C D n : Nat) : S + min B (n - S) + min C (n - (S + B)) + min D (n - (S + B + C)) - n = S - n := by
  have h1 := cut_zero2 (S + B) C D n
  have h2 : n ≤ S + B → min C (n - (S + B)) = 0 ∧ min D (n - (S + B + C)) = 0 := by omega
  have h3 : min B (n - S) = if n ≤ S + B then n - S else B := by split <;> omega
  generalize min C (n - (S + B)) = x at *
  generalize min D (n - (S + B + C)) = y at *
  rw [h3]
  split <;> omega
theorem cut_nat (A B C D n L3 L2 L1 L0 : Nat) (h3 : D - min D (A + B + C + D - n) = L3) (h2 : C - min C (A + B + C + L3 - n) = L2) (h1 : B - min B (A + B + L2 + L3 - n) = L1) (h0 : A - min A (A + L1 + L2 + L3 - n) = L0) :
    L3 = min D (n - min A n - min B (n - min A n) - min C (n - min A n - min B (n - min A n))) ∧ L2 = min C (n - min A n - min B (n - min A n)) ∧ L1 = min B (n - min A n) ∧ L0 = min A n := by
  have e3 : L3 = min D (n - (A + B + C)) := by rw [← h3]; exact cut_step D (A + B + C) n
  have e2 : L2 = min C (n - (A + B)) := by rw [← h2, e3, cut_zero (A + B + C) D n]; exact cut_step C (A + B) n
  have e1 : L1 = min B (n - A) := by rw [← h1, e2, e3, cut_zero2 (A + B) C D n]; exact cut_step B A n
  have e0 : L0 = min A n := by
    rw [← h0, e1, e2, e3, cut_zero3 A B C D n]
    omega
  clear h0 h1 h2 h3
  have f1 : n - min A n = n - A := by omega
  have f2 : n - A - min B (n - A) = n - (A + B) := by omega
  have f3 : n - (A + B) - min C (n - (A + B)) = n - (A + B + C) := by omega
  rw [f1, f2, f3]
  exact ⟨e3, e2, e1, e0⟩
theorem cut_lens (l : L4) (room : Nat) (hr : 16 ≤ room) (n : Nat) (hn : (room - 16) / 2 = n) (L3 L2 L1 L0 : Nat) (h3 : leftN l.d.length (l.a.length + l.b.length + l.c.length + l.d.length) room = L3) (h2 : leftN l.c.length (l.a.length + l.b.length + l.c.length + (l.d.take L3).length) room = L2)
    (h1 : leftN l.b.length (l.a.length + l.b.length + (l.c.take L2).length + (l.d.take L3).length) room = L1) (h0 : leftN l.a.length (l.a.length + (l.b.take L1).length + (l.c.take L2).length + (l.d.take L3).length) room = L0) : cutM l n = ⟨l.a.take L0, l.b.take L1, l.c.take L2, l.d.take L3⟩ := by
  have t3 : (l.d.take L3).length = L3 := by rw [List.length_take]; have := leftN_le l.d.length (l.a.length + l.b.length + l.c.length + l.d.length) room; omega
  rw [t3] at h0 h1 h2
  have t2 : (l.c.take L2).length = L2 := by rw [List.length_take]; have := leftN_le l.c.length (l.a.length + l.b.length + l.c.length + L3) room; omega
  rw [t2] at h0 h1
  have t1 : (l.b.take L1).length = L1 := by rw [List.length_take]; have := leftN_le l.b.length (l.a.length + l.b.length + L2 + L3) room; omega
  rw [t1] at h0
  rw [leftN_is _ _ _ n hr hn] at h0 h1 h2 h3
  obtain ⟨e3, e2, e1, e0⟩ := cut_nat _ _ _ _ n L3 L2 L1 L0 h3 h2 h1 h0
  unfold cutM
  rw [← e3, ← e2, ← e1, ← e0]
set_option maxRecDepth 100000 in
set_option maxHeartbeats 4000000 in
theorem cut9 (f : V4) (x : VV) (l : L4) (room : Nat) (w : World) (hx : Rows4 w x l) (hm : Most l 1000) (hr : 16 ≤ room) (hr2 : (room : Int) ≤ 9223372036854775807) :
    Calls Tryd.prog 67 #[.agg (dC f x), .int .i64 (room : Int)] w fun e w' => ∃ u, e = .returned (.agg (dC f u)) ∧ Rows4 w' u (cutM l ((room - 16) / 2)) ∧ Below w.heap.size w w' := by
  obtain ⟨E, hE⟩ : ∃ E, w.heap.size = E := ⟨_, rfl⟩
  obtain ⟨p, q, r, s, ca, cb, cc, cd, rfl⟩ := hx.forms
  obtain ⟨L3, h3⟩ : ∃ L, leftN l.d.length (l.a.length + l.b.length + l.c.length + l.d.length) room = L := ⟨_, rfl⟩
  obtain ⟨L2, h2⟩ : ∃ L, leftN l.c.length (l.a.length + l.b.length + l.c.length + (l.d.take L3).length) room = L := ⟨_, rfl⟩
  obtain ⟨L1, h1⟩ : ∃ L, leftN l.b.length (l.a.length + l.b.length + (l.c.take L2).length + (l.d.take L3).length) room = L := ⟨_, rfl⟩
  obtain ⟨L0, h0⟩ : ∃ L, leftN l.a.length (l.a.length + (l.b.take L1).length + (l.c.take L2).length + (l.d.take L3).length) room = L := ⟨_, rfl⟩
  rw [cut_lens l room hr _ rfl L3 L2 L1 L0 h3 h2 h1 h0]
  have mt : ∀ (n : Nat) (xs : List Int), xs.length ≤ 1000 → (xs.take n).length ≤ 1000 := fun n xs h => by rw [List.length_take]; omega
  obtain ⟨ma, mb, mc, md⟩ := hm
  have HR3 := Bx.mk (fun fn v0 v1 W (h : CutSt w fn v0 v1 f E room p q r s ca cb cc cd l W) m => cutR3 w fn v0 v1 f E room p q r s ca cb cc cd l W h.1 h.2 ⟨ma, mb, mc, md⟩ hr hr2 m L3 h3)
  have HR2 := Bx.mk (fun fn v0 v1 W (h : CutSt w fn v0 v1 f E room p q r s ca cb cc L3 ⟨l.a, l.b, l.c, l.d.take L3⟩ W) m => cutR2 w fn v0 v1 f E room p q r s ca cb cc L3 ⟨l.a, l.b, l.c, l.d.take L3⟩ W h.1 h.2 ⟨ma, mb, mc, mt _ _ md⟩ hr hr2 m L2 h2)
  have HR1 := Bx.mk (fun fn v0 v1 W (h : CutSt w fn v0 v1 f E room p q r s ca cb L2 L3 ⟨l.a, l.b, l.c.take L2, l.d.take L3⟩ W) m => cutR1 w fn v0 v1 f E room p q r s ca cb L2 L3 ⟨l.a, l.b, l.c.take L2, l.d.take L3⟩ W h.1 h.2 ⟨ma, mb, mt _ _ mc, mt _ _ md⟩ hr hr2 m L1 h1)
  have HR0 := Bx.mk (fun fn v0 v1 W (h : CutSt w fn v0 v1 f E room p q r s ca L1 L2 L3 ⟨l.a, l.b.take L1, l.c.take L2, l.d.take L3⟩ W) m => cutR0 w fn v0 v1 f E room p q r s ca L1 L2 L3 ⟨l.a, l.b.take L1, l.c.take L2, l.d.take L3⟩ W h.1 h.2 ⟨ma, mt _ _ mb, mt _ _ mc, mt _ _ md⟩ hr hr2 m L0 h0)
  have HX := Bx.mk hx
  clear hx h0 h1 h2 h3 hr hr2 ma mb mc md mt
  unfold dC
  simp only
  have K0 : Bx (KR w E [(E + 2, .cells #[.int .i64 0, .int .i64 0, .int .i64 0, .int .i64 0, .slice none 0 0, .slice none 0 0, .slice none 0 0, .slice none 0 0] 30), (E + 1, .cells #[.int .i64 (room : Int)] 3), (E, .cells #[.int .i64 f.a, .int .i64 f.b, .int .i64 f.c, .int .i64 f.d, .slice p l.a.length ca, .slice q l.b.length cb, .slice r l.c.length cc, .slice s l.d.length cd] 30)] (((w.alloc (.cells #[.int .i64 f.a, .int .i64 f.b, .int .i64 f.c, .int .i64 f.d, .slice p l.a.length ca, .slice q l.b.length cb, .slice r l.c.length cc, .slice s l.d.length cd] 30)).alloc (.cells #[.int .i64 (room : Int)] 3)).alloc (.cells #[.int .i64 0, .int .i64 0, .int .i64 0, .int .i64 0, .slice none 0 0, .slice none 0 0, .slice none 0 0, .slice none 0 0] 30))) := Bx.mk (by
    subst hE
    have h := (((KR.start w).new (.cells #[.int .i64 f.a, .int .i64 f.b, .int .i64 f.c, .int .i64 f.d, .slice p l.a.length ca, .slice q l.b.length cb, .slice r l.c.length cc, .slice s l.d.length cd] 30)).new (.cells #[.int .i64 (room : Int)] 3)).new (.cells #[.int .i64 0, .int .i64 0, .int .i64 0, .int .i64 0, .slice none 0 0, .slice none 0 0, .slice none 0 0, .slice none 0 0] 30)
    simpa using h)
  have hz : (((w.alloc (.cells #[.int .i64 f.a, .int .i64 f.b, .int .i64 f.c, .int .i64 f.d, .slice p l.a.length ca, .slice q l.b.length cb, .slice r l.c.length cc, .slice s l.d.length cd] 30)).alloc (.cells #[.int .i64 (room : Int)] 3)).alloc (.cells #[.int .i64 0, .int .i64 0, .int .i64 0, .int .i64 0, .slice none 0 0, .slice none 0 0, .slice none 0 0, .slice none 0 0] 30)).heap.size = E + 3 := by simp [hE]
  have HZ := Bx.mk hz
  clear hz
  rw [hE]
  refine (callsIn_wide (n := 5)).1 ?_
  refine callsIn_of_wp_marks Tryd.func67 rfl trivial ?_ rfl
  simp only [Tryd.ntmps67, List.size_toArray, List.length_cons, List.length_nil, Nat.reduceAdd, Nat.reduceSub, Array.replicate_succ, Array.replicate_zero, List.push_toArray, List.append_toArray, List.nil_append, List.cons_append]
  gi_wp2_with fail
  generalize (((w.alloc (.cells #[.int .i64 f.a, .int .i64 f.b, .int .i64 f.c, .int .i64 f.d, .slice p l.a.length ca, .slice q l.b.length cb, .slice r l.c.length cc, .slice s l.d.length cd] 30)).alloc (.cells #[.int .i64 (room : Int)] 3)).alloc (.cells #[.int .i64 0, .int .i64 0, .int .i64 0, .int .i64 0, .slice none 0 0, .slice none 0 0, .slice none 0 0, .slice none 0 0] 30)) = W0 at *
  refine ⟨trivial, (callsIn_wide.2 (back0 _ _ _ _)).mono ?_⟩
  rintro e W1 ⟨rfl, hw1⟩
  have hE3 := HZ.out
  rw [hE3]
  have K1 := Bx.mk (K0.out.new (.cells #[.slice (some ⟨E, 4, none⟩) 4 4] 106))
  have hs1 : W1.heap.size = E + 4 := by rw [hw1]; simp [hE3]
  rw [hE3, ← hw1] at K1
  have hb1 : Below W0.heap.size W0 W1 := by rw [hw1]; exact below_a _
  have HX1 := Bx.mk ((HX.out.later (by rw [hE]; exact K0.out.below)).later hb1)
  clear hw1 hE3 hb1 K0 HZ HX
  gi_wp2
  refine wpIn_rangeFunc ?_
  intro fn _
  rw [show Fence.wide.round = none from rfl]
  obtain ⟨v0, hv0⟩ : ∃ v0, Value.agg #[.int .i64 f.a, .int .i64 f.b, .int .i64 f.c, .int .i64 f.d, .slice p l.a.length ca, .slice q l.b.length cb, .slice r l.c.length cc, .slice s l.d.length cd] = v0 := ⟨_, rfl⟩
  obtain ⟨W2, hW2⟩ : ∃ W2, (W1.alloc (.deferred (some []))).alloc (.loop (cutRec fn v0 (.int .i64 (room : Int)) E .ready none)) = W2 := ⟨_, rfl⟩
  have K2 : KR w E [(E, .cells #[.int .i64 f.a, .int .i64 f.b, .int .i64 f.c, .int .i64 f.d, .slice p l.a.length ca, .slice q l.b.length cb, .slice r l.c.length cc, .slice s l.d.length cd] 30), (E + 5, .loop (cutRec fn v0 (.int .i64 (room : Int)) E .ready none)), (E + 1, .cells #[.int .i64 (room : Int)] 3), (E + 2, .cells #[.int .i64 0, .int .i64 0, .int .i64 0, .int .i64 0, .slice none 0 0, .slice none 0 0, .slice none 0 0, .slice none 0 0] 30), (E + 3, .cells #[.slice (some ⟨E, 4, none⟩) 4 4] 106), (E + 4, .deferred (some []))] W2 := by
    have h := (K1.out.new (.deferred (some []))).new (.loop (cutRec fn v0 (.int .i64 (room : Int)) E .ready none))
    rw [alloc_size8, hs1, hW2] at h
    exact h.sub (fun y hy => by simp at hy ⊢; rcases hy with rfl | rfl | rfl | rfl | rfl | rfl <;> simp)
  have hx2 : Rows4 W2 ⟨.slice p l.a.length ca, .slice q l.b.length cb, .slice r l.c.length cc, .slice s l.d.length cd⟩ l := by rw [← hW2]; exact (HX1.out.later (below_a _)).later (below_a _)
  refine ⟨E + 5, [{ target := .collected (E + 4), args := #[] }], W2, { target := .fn (.func 104) #[.pointer (some ⟨E + 3, 0, none⟩)], args := #[.func (.yield (E + 5)) #[] #[]] }, W2, 104, #[.func (.yield (E + 5)) #[] #[], .pointer (some ⟨E + 3, 0, none⟩)], W2, ?_, ?_, ?_, ?_, fun _ => (by omega), ?_⟩
  · have h := run_enterLoop_outer (P := Tryd.prog) (w := W1) fn (cutRec fn v0 (.int .i64 (room : Int)) E .ready none).tmps #[11, 12] cutA cutB
    rw [hs1] at h
    rw [← hW2, hv0]
    exact h
  · simp [resolve, go_sem]
  · intro f' _
    trivial
  · have eg := enters_of Tryd.func104 (by kernel_rfl) rfl
    simp [invoke, go_sem]
  clear hW2 K1 HX1 hs1
  refine (back_in Fence.wide 4 trivial rfl (by omega) (E + 5) (E + 3) E (pick4 s r q p) (pick4 l.d.length l.c.length l.b.length l.a.length) (pick4 cd cc cb ca)
    (cutJ (CutSt w fn v0 (.int .i64 (room : Int)) f E room p q r s ca cb cc cd l) (CutSt w fn v0 (.int .i64 (room : Int)) f E room p q r s ca cb cc L3 ⟨l.a, l.b, l.c, l.d.take L3⟩) (CutSt w fn v0 (.int .i64 (room : Int)) f E room p q r s ca cb L2 L3 ⟨l.a, l.b, l.c.take L2, l.d.take L3⟩) (CutSt w fn v0 (.int .i64 (room : Int)) f E room p q r s ca L1 L2 L3 ⟨l.a, l.b.take L1, l.c.take L2, l.d.take L3⟩) (CutSt w fn v0 (.int .i64 (room : Int)) f E room p q r s L0 L1 L2 L3 ⟨l.a.take L0, l.b.take L1, l.c.take L2, l.d.take L3⟩))
    (fun k W h => by rcases k with _ | _ | _ | _ | k <;> exact (row_one (h.1.rows _ (.tail _ (.tail _ (.tail _ (.tail _ (.head _))))))).1)
    (fun k W hk h => by
      rcases k with _ | _ | _ | _ | k
      · exact (row_eight (h.1.rows _ (.head _))).2.1.2.2.2
      · exact (row_eight (h.1.rows _ (.head _))).2.1.2.2.1
      · exact (row_eight (h.1.rows _ (.head _))).2.1.2.1
      · exact (row_eight (h.1.rows _ (.head _))).2.1.1
      · omega)
    (fun k W hk h => by
      rcases k with _ | _ | _ | _ | k
      · exact HR3.out fn v0 (.int .i64 (room : Int)) W h _
      · exact HR2.out fn v0 (.int .i64 (room : Int)) W h _
      · exact HR1.out fn v0 (.int .i64 (room : Int)) W h _
      · exact HR0.out fn v0 (.int .i64 (room : Int)) W h _
      · omega) W2 ⟨K2, hx2⟩).mono ?_
  rintro e W3 ⟨⟨v, rfl⟩, K3, hx3⟩
  clear K2 hx2 HR0 HR1 HR2 HR3
  have hl3 := K3.rows _ (.tail _ (.head _))
  have hend := run_endLoop (P := Tryd.prog) hl3 (by simp [cutRec])
  obtain ⟨W4, hW4⟩ : ∃ W4, W3.putObj (E + 5) (.loop { cutRec fn v0 (.int .i64 (room : Int)) E .ready none with state := .exhausted }) = W4 := ⟨_, rfl⟩
  rw [hW4] at hend
  have hg4 : W3.grownBy W4 (some (E + 5)) := by rw [← hW4]; exact grownBy_putObj' _ _ _
  have K4 := (KR.sub K3 (rs' := [(E + 4, .deferred (some [])), (E, .cells #[.int .i64 f.a, .int .i64 f.b, .int .i64 f.c, .int .i64 f.d, .slice p (l.a.take L0).length L0, .slice q (l.b.take L1).length L1, .slice r (l.c.take L2).length L2, .slice s (l.d.take L3).length L3] 30), (E + 2, .cells #[.int .i64 0, .int .i64 0, .int .i64 0, .int .i64 0, .slice none 0 0, .slice none 0 0, .slice none 0 0, .slice none 0 0] 30)]) (fun y hy => by simp at hy ⊢; rcases hy with rfl | rfl | rfl <;> simp)).grown hg4 (by omega) (by intro y hy; simp at hy; rcases hy with rfl | rfl | rfl <;> (simp only; omega))
  have hx4 := hx3.other hg4 hl3 rfl
  generalize hla : l.a.take L0 = la at *
  generalize hlb : l.b.take L1 = lb at *
  generalize hlc : l.c.take L2 = lc at *
  generalize hld : l.d.take L3 = ld at *
  clear K3 hx3 hg4 hW4 hl3 hv0
  refine ⟨none, W4, hend, ?_⟩
  clear hend
  obtain ⟨⟨a0, a1, a2, a3⟩, ⟨a4, a5, a6, a7⟩, -, -, -, -⟩ := row_eight (K4.rows _ (.tail _ (.head _)))
  obtain ⟨ds, hds⟩ : ∃ ds : Array Value, #[.int .i64 f.a, .int .i64 f.b, .int .i64 f.c, .int .i64 f.d, .slice p la.length L0, .slice q lb.length L1, .slice r lc.length L2, .slice s ld.length L3] = ds := ⟨_, rfl⟩
  have hd8 : ds.size = 8 := by rw [← hds]; rfl
  have ht : W4.there (E + 1 + 1) 0 8 := there_row (K4.rows _ (.tail _ (.tail _ (.head _)))) 0 _ (by simp)
  have hst := run_storeCells_cells (P := Tryd.prog) (E + 1 + 1) 0 ds.toList 0 W4 (fun j hj => by simpa using (ht j (by rw [← hd8]; simpa using hj)).1) (fun j hj => by simpa using (ht j (by rw [← hd8]; simpa using hj)).2) (by rw [← hds]; simp [Value.oneCell'])
  simp only [Nat.add_zero] at hst
  obtain ⟨W5, hW5⟩ : ∃ W5, W4.setCells (E + 1 + 1) 0 ds.toList = W5 := ⟨_, rfl⟩
  have hg5 : W4.grownBy W5 (some (E + 2)) := by rw [← hW5]; exact kb_setCells _ _ _
  have hr5 : W5.heap[E + 2]? = some (.cells ds 30 (0, 0)) := by rw [← hW5]; exact heap_setCells_all (K4.rows _ (.tail _ (.tail _ (.head _)))) hd8
  have hx5 := hx4.grown hg5 (K4.rows _ (.tail _ (.tail _ (.head _)))) del_int
  have K5 := (KR.sub K4 (rs' := [(E + 4, .deferred (some []))]) (fun y hy => by simp at hy ⊢; simp [hy])).grown hg5 (by omega) (by intro y hy; simp at hy; subst hy; simp only; omega)
  have hk5 := K5.rows _ (.head _)
  have hx6 := hx5.other (grownBy_putObj' W5 (E + 4) (.deferred none)) hk5 rfl
  have hr6 : (W5.putObj (E + 4) (.deferred none)).heap[E + 2]? = some (.cells ds 30 (0, 0)) := (World.putObj_heap_other (by omega)).trans hr5
  have hb6 : Below E w (W5.putObj (E + 4) (.deferred none)) := K5.below.trans (grown_below (grownBy_putObj' W5 (E + 4) (.deferred none)) (by omega) K5.le)
  rw [hW5] at hst
  clear ht hW5 hg5 hr5 hx5 K5 hx4 K4
  gi_wp2
  refine ⟨by simp, .inl ⟨_, _, rfl, run_takeDeferred hk5, ?_⟩⟩
  refine ⟨_, results_cell_row rfl _ _ (E + 2) _ _ _ _ rfl hr6 Tryd.underlying30 rfl (by rw [hd8]; kernel_rfl), ⟨.slice p la.length L0, .slice q lb.length L1, .slice r lc.length L2, .slice s ld.length L3⟩, ?_, by rw [hla, hlb, hlc, hld]; exact hx6, hb6⟩
  rw [← hds]
end Go.Proofs.YtnfgamekjbkbkaaDoor
