/-
  Takes in a row (a sender, a period).
-/
import Derived.Test.YtplkoijgokkmfaaB2
import Derived.Test.YtplkoijgokkmfaaB1
import Derived.Deep.QuietTactic
import Derived.BigQuiet
namespace Go.Proofs.Ytplkoijgokkmfaa
open Go Go.RowKit
/-- A sender that was taken in a period. -/
structure Tk where
  s : Int
  p : Int
def Tk.zero : Tk := ⟨0, 0⟩
def tkc (e : Tk) : List Value := [.int .i64 e.s, .int .i64 e.p]
/-- Takes one behind the other, as cells. -/
def cells2 : List Tk → List Value
  | [] => []
  | e :: r => .int .i64 e.s :: .int .i64 e.p :: cells2 r
theorem cells2_snoc (l : List Tk) (e : Tk) : cells2 (l ++ [e]) = cells2 l ++ tkc e := by
  induction l with
  | nil => rfl
  | cons y r ih => simp only [List.cons_append, cells2, ih]
theorem cells2_get (l : List Tk) : ∀ (k : Nat), k < l.length → ∀ j v, (tkc (l.getD k Tk.zero))[j]? = some v → (cells2 l)[k * 2 + j]? = some v := by
  induction l with
  | nil => intro k hk; exact absurd hk (Nat.not_lt_zero _)
  | cons c r ih =>
    intro k hk j v hj
    match k with
    | 0 =>
      have hj4 : j < 2 := (List.getElem?_eq_some_iff.1 hj).1
      match j, hj4 with
      | 0, _ => exact hj
      | 1, _ => exact hj
    | k + 1 =>
      have h := ih k (by simpa using hk) j v (by simpa using hj)
      rw [show (k + 1) * 2 + j = (k * 2 + j) + 2 by omega]
      exact h
/-- Takes in a row that the call owns. -/
def OwnT (w : World) (base : Nat) (v : Value) (l : List Tk) : Prop := w.ownsRow base 40 2 v l.length (cells2 l)
theorem OwnT.nil (w : World) (base : Nat) : OwnT w base (.slice none 0 0) [] := ⟨rfl, .inl ⟨rfl, rfl⟩⟩
theorem OwnT.lt {w : World} {base : Nat} {v : Value} {l : List Tk} (h : OwnT w base v l) : ∀ g, v.ownBlock = some g → g < w.heap.size ∧ base ≤ g := fun g hg => by
  have := World.ownsRow.lt h g hg
  exact ⟨this.2, this.1⟩
theorem OwnT.kept {w w1 : World} {base : Nat} {v : Value} {l : List Tk} (h : OwnT w base v l) (hb : ∀ g cs fr, base ≤ g → w.heap[g]? = some (.cells cs 40 fr) → w1.heap[g]? = some (.cells cs 40 fr)) : OwnT w1 base v l := by
  refine ⟨h.1, ?_⟩
  rcases h.2 with h0 | ⟨g, cap, cur, hv, hb', hh, hr⟩
  · exact .inl h0
  · exact .inr ⟨g, cap, cur, hv, hb', hb g _ _ hb' hh, hr⟩
theorem OwnT.later {w w1 : World} {base : Nat} {v : Value} {l : List Tk} (h : OwnT w base v l) (hb : Below w.heap.size w w1) : OwnT w1 base v l := h.kept fun g cs fr _ h0 => by rw [hb.block g (Array.getElem?_eq_some_iff.1 h0).1]; exact h0
theorem OwnT.weak {w : World} {base base' : Nat} {v : Value} {l : List Tk} (h : OwnT w base v l) (hb : base' ≤ base) : OwnT w base' v l := by
  refine ⟨h.1, ?_⟩
  rcases h.2 with h0 | ⟨g, cap, cur, hv, hb', hh, hr⟩
  · exact .inl h0
  · exact .inr ⟨g, cap, cur, hv, Nat.le_trans hb hb', hh, hr⟩
/-- A row stays where a map changes. -/
theorem OwnT.aside {w w1 : World} {base M : Nat} {v : Value} {l : List Tk} {m : List En} (h : OwnT w base v l) (hm : MapQ w M m) (hg : w.grownBy w1 (some M)) : OwnT w1 base v l := h.kept fun g cs fr _ h0 => by
  rw [hg.block g (Array.getElem?_eq_some_iff.1 h0).1 (fun e => by
    injection e with e
    subst e
    obtain ⟨es, clock, hb, -, -⟩ := hm.st
    rw [h0] at hb
    cases hb)]
  exact h0
/-- Quotas stay where a row of takes grows. -/
theorem QB.row {w w1 : World} {base q M : Nat} {n : Int} {m : List En} {v : Value} {l : List Tk} (h : QB w q M n m) (ho : OwnT w base v l) (hg : w.grownBy w1 v.ownBlock) : QB w1 q M n m := by
  have h1 : ∀ (b : Nat) (o : Obj), w.heap[b]? = some o → (∀ cs fr, o ≠ .cells cs 40 fr) → w1.heap[b]? = some o := fun b o hb hne => by
    rw [hg.block b (Array.getElem?_eq_some_iff.1 hb).1 (fun e => by
      rcases ho.2 with ⟨hv, -⟩ | ⟨g, cap, cur, hv, -, hh, -⟩
      · rw [hv] at e; cases e
      · rw [hv] at e
        injection e with e
        subst e
        rw [hh] at hb
        injection hb with hb
        exact hne _ _ hb.symm)]
    exact hb
  obtain ⟨es, clock, hb, -, -⟩ := h.hm.st
  exact ⟨h1 _ _ h.hq (fun cs fr e => by injection e with _ e2; exact absurd e2 (by decide)), h.hm.later ((h1 _ _ hb (fun cs fr e => by cases e)).trans hb.symm)⟩
theorem OwnT.form {w : World} {base : Nat} {v : Value} {l : List Tk} (h : OwnT w base v l) : ∃ a cap, v = .slice a l.length cap := by
  rcases h.2 with ⟨hv, h0⟩ | ⟨g, cap, cur, hv, _⟩
  · exact ⟨none, 0, by rw [h0]; exact hv⟩
  · exact ⟨_, cap, hv⟩
theorem ownT_below {w w1 : World} {base : Nat} {v : Value} {l : List Tk} (h : OwnT w base v l) (hg : w.grownBy w1 v.ownBlock) (hb : base ≤ w.heap.size) : Below base w w1 :=
  ⟨hg.os, hg.tape, hg.output, hg.size, fun i hi => hg.block i (by omega) (fun e => by have := (h.lt i e.symm).2; omega)⟩
/-- Takes that can be read. -/
def TksR (w : World) (v : Value) (l : List Tk) : Prop :=
  ∃ a cap, v = .slice a l.length cap ∧ (0 < l.length → ∃ g o, a = some ⟨g, o, none⟩ ∧ ∀ k, k < l.length → w.cell? ⟨g, o + k * 2, none⟩ = some (.int .i64 (l.getD k Tk.zero).s) ∧ w.cell? ⟨g, o + k * 2 + 1, none⟩ = some (.int .i64 (l.getD k Tk.zero).p))
theorem TksR.later {w w1 : World} {v : Value} {l : List Tk} (h : TksR w v l) (hb : Below w.heap.size w w1) : TksR w1 v l := by
  obtain ⟨a, cap, hv, hr⟩ := h
  refine ⟨a, cap, hv, fun hp => ?_⟩
  obtain ⟨g, o, ha, hc⟩ := hr hp
  refine ⟨g, o, ha, fun k hk => ?_⟩
  obtain ⟨h1, h2⟩ := hc k hk
  exact ⟨by rw [hb.cell (World.block_lt_of_cell? _ _ h1)]; exact h1, by rw [hb.cell (World.block_lt_of_cell? _ _ h2)]; exact h2⟩
theorem OwnT.reads {w : World} {base : Nat} {v : Value} {l : List Tk} (h : OwnT w base v l) : TksR w v l := by
  rcases h.2 with ⟨hv, h0⟩ | ⟨g, cap, cur, hv, _, hg, hc1, hc2, hc3, hc4⟩
  · exact ⟨none, 0, by rw [h0]; exact hv, fun hp => by omega⟩
  · refine ⟨_, cap, hv, fun _ => ⟨g, 0, rfl, fun k hk => ?_⟩⟩
    have hat : ∀ j u, (tkc (l.getD k Tk.zero))[j]? = some u → w.cell? ⟨g, k * 2 + j, none⟩ = some u := fun j u hj => by
      have hj4 : j < 2 := (List.getElem?_eq_some_iff.1 hj).1
      rw [cell_of_row _ _ _ _ _ _ hg, ← Array.getElem?_toList]
      have h1 : (cur.toList.take (l.length * 2))[k * 2 + j]? = (cells2 l)[k * 2 + j]? := by rw [hc4]
      rw [List.getElem?_take_of_lt (by omega)] at h1
      rw [h1]
      exact cells2_get l k hk j u hj
    rw [Nat.zero_add]
    exact ⟨hat 0 _ rfl, hat 1 _ rfl⟩
theorem run_apT11 (w : World) (base : Nat) (v : Value) (l : List Tk) (hown : OwnT w base v l) (g o : Nat) (e : Tk) (hr : w.rangeAt g o (tkc e)) (hn : l.length ≤ 1000) (hbase : base ≤ w.heap.size) (ty : TypeId) (cp : Nat) :
    ∃ v' w', (Builtin.append_ #[29, 29] ty #[v, .slice (some ⟨g, o, none⟩) 1 cp]).run Try.prog w = .ok v' w' ∧ OwnT w' base v' (l ++ [e]) ∧ w.grownBy w' v.ownBlock := by
  have hi : Try.prog.info? 40 = some ((Try.prog.info? 40).getD default) := by kernel_rfl
  obtain ⟨v', w', hrun, h2, h3, _, _⟩ := run_append_own_at (P := Try.prog) w base 29 ty 40 _ (.agg #[.int .i64 0, .int .i64 0]) 2 16 Try.underlying29 hi (by kernel_rfl) (by kernel_rfl) (by kernel_rfl) rfl (by omega) v l.length (cells2 l) hown ⟨g, o, none⟩ 1 cp (tkc e) (by simp [tkc])
    (fun j u hu => by rw [show (⟨g, o, none⟩ : Addr).add j = ⟨g, o + j, none⟩ by unfold Addr.add; split <;> simp_all]; exact hr j u hu)
    (fun u hu => by
      unfold tkc at hu
      simp at hu
      rcases hu with rfl | rfl
      · rfl
      · rfl) (by simp only [maxLen]; omega) (by omega) hbase
  refine ⟨v', w', hrun, ?_, h3⟩
  unfold OwnT
  rw [List.length_append, cells2_snoc]
  exact h2
theorem wpList_apT11 {w : World} {ops : Array Oper} {rest : List Oper} {o : Oper} {a : Act} {Q : Exit → Act → World → Prop} (hgd : o.guard = none) (sl x : Operand)
    (ho : o.op = .call { callee := .builtin .append, args := #[sl, x], argTypes := #[29, 29] }) (base : Nat) (v : Value) (l : List Tk) (hs : a.eval sl = v) (hown : OwnT w base v l) (g of : Nat) (e : Tk) (cp : Nat) (hx : a.eval x = .slice (some ⟨g, of, none⟩) 1 cp) (hr : w.rangeAt g of (tkc e))
    (hn : l.length ≤ 1000) (hbase : base ≤ w.heap.size)
    (h : ∀ v' w', OwnT w' base v' (l ++ [e]) → w.grownBy w' v.ownBlock → wpList Try.prog ops Q rest (a.put o.dst v') w') : wpList Try.prog ops Q (o :: rest) a w := by
  refine wpList_plain hgd fun K hK => ?_
  obtain ⟨v', w', hrun, h1, h2⟩ := run_apT11 w base v l hown g of e hr hn hbase o.type cp
  unfold Oper.wp
  simp [execOp, ho, resolve, invoke, builtin, hs, hx, hrun, Result.andThen]
  exact hK _ _ (h v' w' h1 h2)
theorem tkc_new (W : World) (e : Tk) (t : TypeId) : (W.alloc (.cells #[.int .i64 e.s, .int .i64 e.p] t)).rangeAt W.heap.size 0 (tkc e) := fun j u hj => by
  rw [cell_of_row _ _ _ _ _ _ (hnew W _ _ rfl), Nat.zero_add, ← Array.getElem?_toList]
  exact hj
end Go.Proofs.Ytplkoijgokkmfaa
namespace Go.Proofs.Ytplkoijgokkmfaa
open Go Go.RowKit
/-- Was a sender taken? When last? How often in a period? -/
def isT (m : List Tk) (s : Int) : Bool := m.any fun x => decide (x.s = s)
def lastT (m : List Tk) (s : Int) : Int := m.foldl (fun a x => if x.s = s then max a x.p else a) 0
def timT (m : List Tk) (s p : Int) : Nat := m.countP fun x => decide (x.s = s) && decide (x.p = p)
theorem takeT_succ (m : List Tk) (k : Nat) (h : k < m.length) : m.take (k + 1) = m.take k ++ [m.getD k Tk.zero] := by
  rw [List.take_succ_eq_append_getElem h, List.getD_eq_getElem?_getD, List.getElem?_eq_getElem h]; rfl
theorem isT_succ (m : List Tk) (k : Nat) (h : k < m.length) (s : Int) : isT (m.take (k + 1)) s = (isT (m.take k) s || decide ((m.getD k Tk.zero).s = s)) := by
  unfold isT; rw [takeT_succ m k h, List.any_append]; simp
theorem lastT_succ (m : List Tk) (k : Nat) (h : k < m.length) (s : Int) : lastT (m.take (k + 1)) s = if (m.getD k Tk.zero).s = s then max (lastT (m.take k) s) (m.getD k Tk.zero).p else lastT (m.take k) s := by
  unfold lastT; rw [takeT_succ m k h, List.foldl_append]; rfl
theorem timT_succ (m : List Tk) (k : Nat) (h : k < m.length) (s p : Int) : timT (m.take (k + 1)) s p = timT (m.take k) s p + if (decide ((m.getD k Tk.zero).s = s) && decide ((m.getD k Tk.zero).p = p)) = true then 1 else 0 := by
  unfold timT; rw [takeT_succ m k h, List.countP_append, List.countP_singleton]
theorem timT_le (m : List Tk) (s p : Int) : timT m s p ≤ m.length := List.countP_le_length
set_option maxRecDepth 100000 in
set_option maxHeartbeats 4000000 in
theorem rknown_any (m : List Tk) (v : Value) (s : Int) (w : World) (hv : TksR w v m) (hn : m.length ≤ 1000) :
    Calls Try.prog 11 #[v, .int .i64 s] w fun e w' => e = .returned (.tuple #[.bool (isT m s), .int .i64 (lastT m s)]) ∧ w = w' := by
  obtain ⟨a, cap, rfl, hr⟩ := hv
  obtain ⟨n, hnn⟩ : ∃ n, m.length = n := ⟨_, rfl⟩
  have HN := Bx.mk hnn
  rw [hnn] at hr hn ⊢
  have HR := Bx.mk hr
  clear hr hnn
  have hn1 : (n : Int) ≤ 1000 := by omega
  have HT : Bx (m.take n = m) := Bx.mk (by rw [← HN.out, List.take_length])
  go_enter Try.func11, Try.ntmps11
  go_wp2
  go_loopw [6, 7, 8] (fun b l i wr => ∃ k : Nat, k ≤ n ∧ b = .bool (isT (m.take k) s) ∧ l = .int .i64 (lastT (m.take k) s) ∧ i = .int .i64 (k : Int) ∧ w = wr) (fun _ _ i _ => n - (intOf i).toNat)
  case atStart => exact ⟨0, by omega, rfl, rfl, rfl, rfl⟩
  case round =>
    obtain ⟨k, hk, rfl, rfl, rfl, rfl⟩ := hrel
    by_cases hlt : k < n
    · have t1 : (k : Int) < (n : Int) := by omega
      have t0 : (0 : Int) ≤ (k : Int) := by omega
      obtain ⟨g, o, ha, hcell⟩ := HR.out (by omega)
      subst ha
      obtain ⟨c1, c2⟩ := hcell k hlt
      have hi := isT_succ m k (by rw [HN.out]; exact hlt) s
      have hl := lastT_succ m k (by rw [HN.out]; exact hlt) s
      have HS := Bx.mk (And.intro hi hl)
      generalize isT (m.take k) s = bk at *
      generalize lastT (m.take k) s = lk at *
      generalize m.getD k Tk.zero = x at *
      obtain ⟨xs, xp⟩ := x
      clear hcell hi hl
      by_cases he : xs = s
      · have HS2 : Bx (isT (m.take (k + 1)) s = true ∧ lastT (m.take (k + 1)) s = max lk xp) := Bx.mk ⟨by rw [HS.out.1]; simp [he], by rw [HS.out.2]; simp [he]⟩
        go_wp2
        go_roundw
        case rel => exact ⟨k + 1, by omega, by rw [HS2.out.1], by rw [HS2.out.2, show max lk xp = if lk < xp then xp else lk by split <;> omega], by go_num, by first | rfl | trivial⟩
        case measure => simp [intOf]; omega
      · have HS2 : Bx (isT (m.take (k + 1)) s = bk ∧ lastT (m.take (k + 1)) s = lk) := Bx.mk ⟨by rw [HS.out.1]; simp [he], by rw [HS.out.2]; simp [he]⟩
        go_wp2
        go_roundw
        case rel => exact ⟨k + 1, by omega, by rw [HS2.out.1], by rw [HS2.out.2], by go_num, by first | rfl | trivial⟩
        case measure => simp [intOf]; omega
    · have t1 : ¬ (k : Int) < (n : Int) := by omega
      obtain rfl : k = n := by omega
      rw [HT.out]
      go_wp2
      go_ret2
      exact ⟨rfl, rfl⟩
set_option maxRecDepth 100000 in
set_option maxHeartbeats 4000000 in
theorem rtimes_any (m : List Tk) (v : Value) (s p : Int) (w : World) (hv : TksR w v m) (hn : m.length ≤ 1000) :
    Calls Try.prog 18 #[v, .int .i64 s, .int .i64 p] w fun e w' => e = .returned (.int .i64 ((timT m s p : Nat) : Int)) ∧ w = w' := by
  obtain ⟨a, cap, rfl, hr⟩ := hv
  obtain ⟨n, hnn⟩ : ∃ n, m.length = n := ⟨_, rfl⟩
  have HN := Bx.mk hnn
  rw [hnn] at hr hn ⊢
  have HR := Bx.mk hr
  clear hr hnn
  have hn1 : (n : Int) ≤ 1000 := by omega
  have HT : Bx (m.take n = m) := Bx.mk (by rw [← HN.out, List.take_length])
  go_enter Try.func18, Try.ntmps18
  go_wp2
  go_loopw [7, 8] (fun c i wr => ∃ k : Nat, k ≤ n ∧ c = .int .i64 ((timT (m.take k) s p : Nat) : Int) ∧ i = .int .i64 (k : Int) ∧ w = wr) (fun _ i _ => n - (intOf i).toNat)
  case atStart => exact ⟨0, by omega, rfl, rfl, rfl⟩
  case round =>
    obtain ⟨k, hk, rfl, rfl, rfl⟩ := hrel
    by_cases hlt : k < n
    · have t1 : (k : Int) < (n : Int) := by omega
      have t0 : (0 : Int) ≤ (k : Int) := by omega
      obtain ⟨g, o, ha, hcell⟩ := HR.out (by omega)
      subst ha
      obtain ⟨c1, c2⟩ := hcell k hlt
      have HS := Bx.mk (timT_succ m k (by rw [HN.out]; exact hlt) s p)
      have hle := timT_le (m.take k) s p
      rw [List.length_take] at hle
      have hle2 : timT (m.take k) s p ≤ 1000 := by omega
      generalize timT (m.take k) s p = tk at *
      generalize m.getD k Tk.zero = x at *
      obtain ⟨xs, xp⟩ := x
      have hw : IntKind.i64.wrap ((tk : Int) + 1) = (tk : Int) + 1 := by simp [IntKind.wrap_i64]; omega
      clear hcell hle hle2
      by_cases he : xs = s
      · by_cases hp : xp = p
        · have HS2 : Bx (timT (m.take (k + 1)) s p = tk + 1) := Bx.mk (by rw [HS.out]; simp [he, hp])
          go_wp2
          go_roundw
          case rel => exact ⟨k + 1, by omega, by rw [HS2.out]; rfl, by go_num, by first | rfl | trivial⟩
          case measure => simp [intOf]; omega
        · have HS2 : Bx (timT (m.take (k + 1)) s p = tk) := Bx.mk (by rw [HS.out]; simp [hp])
          go_wp2
          go_roundw
          case rel => exact ⟨k + 1, by omega, by rw [HS2.out], by go_num, by first | rfl | trivial⟩
          case measure => simp [intOf]; omega
      · have HS2 : Bx (timT (m.take (k + 1)) s p = tk) := Bx.mk (by rw [HS.out]; simp [he])
        go_wp2
        go_roundw
        case rel => exact ⟨k + 1, by omega, by rw [HS2.out], by go_num, by first | rfl | trivial⟩
        case measure => simp [intOf]; omega
    · have t1 : ¬ (k : Int) < (n : Int) := by omega
      obtain rfl : k = n := by omega
      rw [HT.out]
      go_wp2
      go_ret
      exact ⟨rfl, rfl⟩
theorem div32 (t : Int) (h : in64 t) (h0 : ¬ t < 0) : wrap64 (t.tdiv 32) = perT t := by
  obtain ⟨a, b⟩ := h
  rw [Int.tdiv_eq_ediv_of_nonneg (by omega)]
  unfold wrap64 perT
  omega
/-- What is wrong with a sender at a tick. -/
def lookT (m : List Tk) (s t : Int) : Int := if s < 1 ∨ 65535 < s ∨ t < 0 then 10 else if perT t < lastT m s then 9 else 0
set_option maxRecDepth 100000 in
set_option maxHeartbeats 4000000 in
theorem rlook_any (m : List Tk) (v : Value) (s t : Int) (w : World) (hv : TksR w v m) (hn : m.length ≤ 1000) (ht : in64 t) :
    Calls Try.prog 17 #[v, .int .i64 s, .int .i64 t] w fun e w' => e = .returned (.int .i64 (lookT m s t)) ∧ w = w' := by
  have HK := Bx.mk (rknown_any m v s w hv hn)
  obtain ⟨a, cap, rfl, -⟩ := hv
  generalize m.length = n at *
  unfold lookT
  by_cases h1 : s < 1
  · rw [if_pos (.inl h1)]
    clear hn ht
    go_enter Try.func17, Try.ntmps17
    go_wp2
    go_ret
    exact ⟨rfl, rfl⟩
  · by_cases h2 : 65535 < s
    · rw [if_pos (.inr (.inl h2))]
      clear hn ht
      go_enter Try.func17, Try.ntmps17
      go_wp2
      go_ret
      exact ⟨rfl, rfl⟩
    · by_cases h3 : t < 0
      · rw [if_pos (.inr (.inr h3))]
        clear hn ht
        go_enter Try.func17, Try.ntmps17
        go_wp2
        go_ret
        exact ⟨rfl, rfl⟩
      · rw [if_neg (fun h => by rcases h with h | h | h <;> contradiction)]
        have hd := div32 t ht h3
        generalize lastT m s = lm at *
        generalize perT t = pt at *
        generalize isT m s = b at *
        clear hn ht
        by_cases h4 : pt < lm
        · rw [if_pos h4]
          go_enter Try.func17, Try.ntmps17
          go_wp2_with fail
          refine HK.out.mono ?_
          rintro e w1 ⟨rfl, rfl⟩
          go_wp2
          go_ret
          exact ⟨rfl, rfl⟩
        · rw [if_neg h4]
          go_enter Try.func17, Try.ntmps17
          go_wp2_with fail
          refine HK.out.mono ?_
          rintro e w1 ⟨rfl, rfl⟩
          go_wp2
          go_ret
          exact ⟨rfl, rfl⟩
/-- May it be taken? -/
def tryT (m : List Tk) (s t n c : Int) : Int := if lookT m s t = 0 then (if n ≤ (timT m s (perT t) : Int) then 15 else if isT m s = false ∧ 16 ≤ c then 6 else 0) else lookT m s t
theorem lookT_zero {m : List Tk} {s t : Int} (h : lookT m s t = 0) : ¬ t < 0 := by
  unfold lookT at h
  split at h
  · cases h
  · rename_i h1
    exact fun h2 => h1 (.inr (.inr h2))
set_option maxRecDepth 100000 in
set_option maxHeartbeats 4000000 in
theorem rtry_any (m : List Tk) (v : Value) (s t n c : Int) (w : World) (hv : TksR w v m) (hn : m.length ≤ 1000) (ht : in64 t) :
    Calls Try.prog 14 #[v, .int .i64 s, .int .i64 t, .int .i64 n, .int .i64 c] w fun e w' => e = .returned (.int .i64 (tryT m s t n c)) ∧ w = w' := by
  have HK := Bx.mk (rknown_any m v s w hv hn)
  have HL := Bx.mk (rlook_any m v s t w hv hn ht)
  have HT := Bx.mk (rtimes_any m v s (perT t) w hv hn)
  have HD := Bx.mk fun (h : lookT m s t = 0) => div32 t ht (lookT_zero h)
  obtain ⟨a, cap, rfl, -⟩ := hv
  generalize m.length = ln at *
  unfold tryT
  generalize lookT m s t = lk at *
  generalize timT m s (perT t) = tm at *
  generalize lastT m s = la at *
  generalize perT t = pt at *
  generalize isT m s = b at *
  clear hn ht
  by_cases h1 : lk = 0
  · rw [if_pos h1]
    have hd := HD.out h1
    subst h1
    by_cases h2 : n ≤ (tm : Int)
    · rw [if_pos h2]
      go_enter Try.func14, Try.ntmps14
      go_wp2_with fail
      refine HL.out.mono ?_
      rintro e w1 ⟨rfl, rfl⟩
      go_wp2_with fail
      refine HT.out.mono ?_
      rintro e w1 ⟨rfl, rfl⟩
      go_wp2
      go_ret
      exact ⟨rfl, rfl⟩
    · rw [if_neg h2]
      cases b with
      | true =>
        rw [if_neg (by simp)]
        go_enter Try.func14, Try.ntmps14
        go_wp2_with fail
        refine HL.out.mono ?_
        rintro e w1 ⟨rfl, rfl⟩
        go_wp2_with fail
        refine HT.out.mono ?_
        rintro e w1 ⟨rfl, rfl⟩
        go_wp2_with fail
        refine HK.out.mono ?_
        rintro e w1 ⟨rfl, rfl⟩
        go_wp2
        go_ret
        exact ⟨rfl, rfl⟩
      | false =>
        by_cases h3 : 16 ≤ c
        · rw [if_pos ⟨rfl, h3⟩]
          go_enter Try.func14, Try.ntmps14
          go_wp2_with fail
          refine HL.out.mono ?_
          rintro e w1 ⟨rfl, rfl⟩
          go_wp2_with fail
          refine HT.out.mono ?_
          rintro e w1 ⟨rfl, rfl⟩
          go_wp2_with fail
          refine HK.out.mono ?_
          rintro e w1 ⟨rfl, rfl⟩
          go_wp2
          go_ret
          exact ⟨rfl, rfl⟩
        · rw [if_neg (fun h => h3 h.2)]
          go_enter Try.func14, Try.ntmps14
          go_wp2_with fail
          refine HL.out.mono ?_
          rintro e w1 ⟨rfl, rfl⟩
          go_wp2_with fail
          refine HT.out.mono ?_
          rintro e w1 ⟨rfl, rfl⟩
          go_wp2_with fail
          refine HK.out.mono ?_
          rintro e w1 ⟨rfl, rfl⟩
          go_wp2
          go_ret
          exact ⟨rfl, rfl⟩
  · rw [if_neg h1]
    go_enter Try.func14, Try.ntmps14
    go_wp2_with fail
    refine HL.out.mono ?_
    rintro e w1 ⟨rfl, rfl⟩
    go_wp2
    go_ret
    exact ⟨rfl, rfl⟩
end Go.Proofs.Ytplkoijgokkmfaa
namespace Go.Proofs.Ytplkoijgokkmfaa
open Go Go.RowKit
/-- Has none of the first j takes the sender of the take i? -/
def firstU (m : List Tk) (i j : Nat) : Bool := (List.range j).all fun k => decide ((m.getD k Tk.zero).s ≠ (m.getD i Tk.zero).s)
theorem firstU_succ (m : List Tk) (i j : Nat) : firstU m i (j + 1) = (firstU m i j && decide ((m.getD j Tk.zero).s ≠ (m.getD i Tk.zero).s)) := by
  unfold firstU; rw [List.range_succ, List.all_append]; simp
/-- How many senders the first k takes have. -/
def countN (m : List Tk) (k : Nat) : Nat := ((List.range k).filter fun i => firstU m i i).length
theorem countN_succ (m : List Tk) (k : Nat) : countN m (k + 1) = countN m k + if firstU m k k = true then 1 else 0 := by
  unfold countN; rw [List.range_succ, List.filter_append, List.length_append]
  congr 1
  cases h : firstU m k k <;> simp [List.filter, h]
theorem countN_le (m : List Tk) (k : Nat) : countN m k ≤ k := by
  unfold countN
  have := List.length_filter_le (fun i => firstU m i i) (List.range k)
  rw [List.length_range] at this
  exact this
set_option maxRecDepth 100000 in
set_option maxHeartbeats 4000000 in
theorem count_any (m : List Tk) (v : Value) (w : World) (hv : TksR w v m) (hn : m.length ≤ 1000) :
    Calls Try.prog 15 #[v] w fun e w' => e = .returned (.int .i64 ((countN m m.length : Nat) : Int)) ∧ Below w.heap.size w w' := by
  obtain ⟨a, cap, rfl, hr⟩ := hv
  obtain ⟨n, hnn⟩ : ∃ n, m.length = n := ⟨_, rfl⟩
  have HN := Bx.mk hnn
  rw [hnn] at hr hn ⊢
  have HR := Bx.mk hr
  clear hr hnn
  have hn1 : (n : Int) ≤ 1000 := by omega
  go_enter Try.func15, Try.ntmps15
  go_wp2
  go_loopw [3, 4] (fun c i wr => ∃ k : Nat, k ≤ n ∧ c = .int .i64 ((countN m k : Nat) : Int) ∧ i = .int .i64 (k : Int) ∧ Bx (Below w.heap.size w wr)) (fun _ i _ => n - (intOf i).toNat)
  case atStart => exact ⟨0, by omega, rfl, rfl, Bx.mk (Below.refl _ _)⟩
  case round =>
    obtain ⟨k, hk, rfl, rfl, HB⟩ := hrel
    by_cases hlt : k < n
    · have t1 : (k : Int) < (n : Int) := by omega
      have t0 : (0 : Int) ≤ (k : Int) := by omega
      have HC := Bx.mk (countN_succ m k)
      have hle := countN_le m k
      have hle2 : countN m k ≤ 1000 := by omega
      generalize countN m k = ck at *
      obtain ⟨g, o, ha, hcell⟩ := HR.out (by omega)
      subst ha
      have HCl := Bx.mk hcell
      clear hcell hle
      go_wp2
      go_loopw [5, 6] (fun f j w3 => ∃ jj : Nat, jj ≤ k ∧ f = .bool (firstU m k jj) ∧ j = .int .i64 (jj : Int) ∧ Bx (Below w.heap.size w w3)) (fun _ j _ => k - (intOf j).toNat)
      case atStart => exact ⟨0, by omega, rfl, rfl, HB⟩
      case round =>
        obtain ⟨j, hj, rfl, rfl, HB3⟩ := hrel
        by_cases hlj : j < k
        · have t2 : (j : Int) < (k : Int) := by omega
          have t3 : (0 : Int) ≤ (j : Int) := by omega
          have t4 : (j : Int) < (n : Int) := by omega
          have HS := Bx.mk (firstU_succ m k j)
          have cj := (HB3.out.cell (p := ⟨g, o + j * 2, none⟩) (World.block_lt_of_cell? _ _ (HCl.out j (by omega)).1)).trans (HCl.out j (by omega)).1
          have ci := (HB3.out.cell (p := ⟨g, o + k * 2, none⟩) (World.block_lt_of_cell? _ _ (HCl.out k hlt).1)).trans (HCl.out k hlt).1
          generalize (m.getD j Tk.zero).s = sj at *
          generalize (m.getD k Tk.zero).s = si at *
          cases hf : firstU m k j with
          | false =>
            rw [hf] at HS
            clear hf
            go_wp2
            go_quiet (fail)
            have HB4 : Bx (Below w.heap.size w (wr.drewN nq)) := Bx.mk (below_drewN HB3.out _)
            clear cj ci
            generalize wr.drewN nq = w4 at *
            go_wp2
            go_roundw
            case rel => exact ⟨j + 1, by omega, by rw [HS.out]; rfl, by go_num, HB4⟩
            case measure => simp [intOf]; omega
          | true =>
            rw [hf] at HS
            clear hf
            cases hd : decide (sj = si) with
            | true =>
              have hd2 := of_decide_eq_true hd
              go_wp2
              go_quiet (fail)
              have HB4 : Bx (Below w.heap.size w (wr.drewN nq)) := Bx.mk (below_drewN HB3.out _)
              clear cj ci
              generalize wr.drewN nq = w4 at *
              go_wp2
              go_roundw
              case rel => exact ⟨j + 1, by omega, by rw [HS.out]; simp [hd2], by go_num, HB4⟩
              case measure => simp [intOf]; omega
            | false =>
              have hd2 := of_decide_eq_false hd
              go_wp2
              go_quiet (fail)
              have HB4 : Bx (Below w.heap.size w (wr.drewN nq)) := Bx.mk (below_drewN HB3.out _)
              clear cj ci
              generalize wr.drewN nq = w4 at *
              go_wp2
              go_roundw
              case rel => exact ⟨j + 1, by omega, by rw [HS.out]; simp [hd2], by go_num, HB4⟩
              case measure => simp [intOf]; omega
        · have t2 : ¬ (j : Int) < (k : Int) := by omega
          obtain rfl : j = k := by omega
          cases hf : firstU m j j with
          | false =>
            rw [hf] at HC
            go_wp2
            go_roundw
            case rel => exact ⟨j + 1, by omega, by rw [HC.out]; simp, by go_num, HB3⟩
            case measure => simp [intOf]; omega
          | true =>
            rw [hf] at HC
            have hw : IntKind.i64.wrap ((ck : Int) + 1) = (ck : Int) + 1 := by simp [IntKind.wrap_i64]; omega
            go_wp2
            go_roundw
            case rel => exact ⟨j + 1, by omega, by rw [HC.out]; simp, by go_num, HB3⟩
            case measure => simp [intOf]; omega
    · have t1 : ¬ (k : Int) < (n : Int) := by omega
      obtain rfl : k = n := by omega
      have HE := Bx.mk HN.out
      go_wp2
      go_ret
      exact ⟨rfl, HB.out⟩
/-- Takes without a sender. -/
def cutT (m : List Tk) (s : Int) : List Tk := m.filter fun x => decide (x.s ≠ s)
theorem cutT_le (m : List Tk) (s : Int) : (cutT m s).length ≤ m.length := List.length_filter_le _ _
theorem cutT_succ (m : List Tk) (k : Nat) (h : k < m.length) (s : Int) : cutT (m.take (k + 1)) s = if (m.getD k Tk.zero).s = s then cutT (m.take k) s else cutT (m.take k) s ++ [m.getD k Tk.zero] := by
  unfold cutT; rw [takeT_succ m k h, List.filter_append]
  by_cases e : (m.getD k Tk.zero).s = s
  · rw [if_pos e, List.filter_cons_of_neg (by simpa using e)]; simp
  · rw [if_neg e, List.filter_cons_of_pos (by simpa using e)]; simp
theorem ownT_shape {w : World} {base : Nat} {v : Value} {l : List Tk} (h : OwnT w base v l) : ∃ a n cap, v = .slice a n cap := by
  obtain ⟨a, cap, h⟩ := h.form
  exact ⟨a, _, cap, h⟩
set_option maxRecDepth 100000 in
set_option maxHeartbeats 4000000 in
theorem rdrop_any (m : List Tk) (v : Value) (s : Int) (w : World) (hv : TksR w v m) (hn : m.length ≤ 1000) :
    Calls Try.prog 13 #[v, .int .i64 s] w fun e w' => ∃ v', e = .returned v' ∧ OwnT w' w.heap.size v' (cutT m s) ∧ Below w.heap.size w w' := by
  obtain ⟨a, cap, rfl, hr⟩ := hv
  obtain ⟨n, hnn⟩ : ∃ n, m.length = n := ⟨_, rfl⟩
  have HN := Bx.mk hnn
  rw [hnn] at hr hn ⊢
  have HR := Bx.mk hr
  clear hr hnn
  have hn1 : (n : Int) ≤ 1000 := by omega
  have HT : Bx (m.take n = m) := Bx.mk (by rw [← HN.out, List.take_length])
  go_enter Try.func13, Try.ntmps13
  go_wp2
  go_loopw [5, 6] (fun ov i wr => ∃ k : Nat, k ≤ n ∧ i = .int .i64 (k : Int) ∧ Bx (OwnT wr w.heap.size ov (cutT (m.take k) s) ∧ Below w.heap.size w wr)) (fun _ i _ => n - (intOf i).toNat)
  case atStart => exact ⟨0, by omega, rfl, Bx.mk ⟨OwnT.nil _ _, Below.refl _ _⟩⟩
  case round =>
    obtain ⟨k, hk, rfl, HB⟩ := hrel
    obtain ⟨oa, on, oc, hov⟩ := ownT_shape HB.out.1
    subst hov
    by_cases hlt : k < n
    · have t1 : (k : Int) < (n : Int) := by omega
      have t0 : (0 : Int) ≤ (k : Int) := by omega
      obtain ⟨g, o, ha, hcell⟩ := HR.out (by omega)
      subst ha
      obtain ⟨c1, c2⟩ := hcell k hlt
      have HS := Bx.mk (cutT_succ m k (by rw [HN.out]; exact hlt) s)
      have HL : Bx ((cutT (m.take k) s).length ≤ 1000) := Bx.mk (by have := cutT_le (m.take k) s; rw [List.length_take] at this; omega)
      generalize m.getD k Tk.zero = x at *
      obtain ⟨xs, xp⟩ := x
      have d1 := (HB.out.2.cell (p := ⟨g, o + k * 2, none⟩) (World.block_lt_of_cell? _ _ c1)).trans c1
      have d2 := (HB.out.2.cell (p := ⟨g, o + k * 2 + 1, none⟩) (World.block_lt_of_cell? _ _ c2)).trans c2
      clear hcell c1 c2
      by_cases he : xs = s
      · have HS2 : Bx (cutT (m.take (k + 1)) s = cutT (m.take k) s) := Bx.mk (by rw [HS.out]; simp [he])
        go_wp2
        go_roundw
        case rel => exact ⟨k + 1, by omega, by go_num, by rw [HS2.out]; exact HB⟩
        case measure => simp [intOf]; omega
      · have HS2 : Bx (cutT (m.take (k + 1)) s = cutT (m.take k) s ++ [⟨xs, xp⟩]) := Bx.mk (by rw [HS.out]; simp [he])
        have HA : Bx (OwnT (wr.alloc (.cells #[.int .i64 xs, .int .i64 xp] 40)) w.heap.size (.slice oa on oc) (cutT (m.take k) s) ∧ Below w.heap.size w (wr.alloc (.cells #[.int .i64 xs, .int .i64 xp] 40)) ∧ (wr.alloc (.cells #[.int .i64 xs, .int .i64 xp] 40)).rangeAt wr.heap.size 0 (tkc ⟨xs, xp⟩)) := Bx.mk ⟨HB.out.1.later (below_a _), HB.out.2.trans ((below_a _).mono HB.out.2.size), tkc_new wr ⟨xs, xp⟩ _⟩
        skip -- M1
        go_wp2_with (refine wpList_apT11 rfl _ _ rfl w.heap.size (.slice oa on oc) _ (by rfl) HA.out.1 wr.heap.size 0 ⟨xs, xp⟩ 1 (by rfl) HA.out.2.2 HL.out HA.out.2.1.size ?_; intro v9 w9 ho hg; have HA2 := Bx.mk (And.intro ho (HA.out.2.1.trans (ownT_below HA.out.1 hg HA.out.2.1.size))); clear ho hg)
        go_roundw
        case rel => exact ⟨k + 1, by omega, by go_num, by rw [HS2.out]; exact HA2⟩
        case measure => simp [intOf]; omega
    · have t1 : ¬ (k : Int) < (n : Int) := by omega
      obtain rfl : k = n := by omega
      rw [HT.out] at HB
      go_wp2
      go_ret
      exact ⟨_, rfl, HB.out⟩
end Go.Proofs.Ytplkoijgokkmfaa
