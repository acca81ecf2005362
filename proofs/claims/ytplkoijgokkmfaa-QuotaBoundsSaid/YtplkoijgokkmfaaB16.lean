/-
  Takes in a row (a sender, a period).
-/
import Derived.Test.YtplkoijgokkmfaaB2
import Derived.Test.YtplkoijgokkmfaaB1
import Derived.Deep.QuietTactic
import Derived.BigQuiet
namespace Go.Proofs.Ytplkoijgokkmfaa
open Go Go.RowKit
/-- A sender that was taken in a period. -/
structure Tk where
  s : Int
  p : Int
def Tk.zero : Tk := ⟨0, 0⟩
def tkc (e : Tk) : List Value := [.int .i64 e.s, .int .i64 e.p]
/-- Takes one behind the other, as cells. -/
def cells2 : List Tk → List Value
  | [] => []
  | e :: r => .int .i64 e.s :: .int .i64 e.p :: cells2 r
theorem cells2_snoc (l : List Tk) (e : Tk) : cells2 (l ++ [e]) = cells2 l ++ tkc e := by
  induction l with
  | nil => rfl
  | cons y r ih => simp only [List.cons_append, cells2, ih]
theorem cells2_get (l : List Tk) : ∀ (k : Nat), k < l.length → ∀ j v, (tkc (l.getD k Tk.zero))[j]? = some v → (cells2 l)[k * 2 + j]? = some v := by
  induction l with
  | nil => intro k hk; exact absurd hk (Nat.not_lt_zero _)
  | cons c r ih =>
    intro k hk j v hj
    match k with
    | 0 =>
      have hj4 : j < 2 := (List.getElem?_eq_some_iff.1 hj).1
      match j, hj4 with
      | 0, _ => exact hj
      | 1, _ => exact hj
    | k + 1 =>
      have h := ih k (by simpa using hk) j v (by simpa using hj)
      rw [show (k + 1) * 2 + j = (k * 2 + j) + 2 by omega]
      exact h
/-- Takes in a row that the call owns. -/
def OwnT (w : World) (base : Nat) (v : Value) (l : List Tk) : Prop := w.ownsRow base 40 2 v l.length (cells2 l)
theorem OwnT.nil (w : World) (base : Nat) : OwnT w base (.slice none 0 0) [] := ⟨rfl, .inl ⟨rfl, rfl⟩⟩
theorem OwnT.lt {w : World} {base : Nat} {v : Value} {l : List Tk} (h : OwnT w base v l) : ∀ g, v.ownBlock = some g → g < w.heap.size ∧ base ≤ g := fun g hg => by
  have := World.ownsRow.lt h g hg
  exact ⟨this.2, this.1⟩
theorem OwnT.kept {w w1 : World} {base : Nat} {v : Value} {l : List Tk} (h : OwnT w base v l) (hb : ∀ g cs fr, base ≤ g → w.heap[g]? = some (.cells cs 40 fr) → w1.heap[g]? = some (.cells cs 40 fr)) : OwnT w1 base v l := by
  refine ⟨h.1, ?_⟩
  rcases h.2 with h0 | ⟨g, cap, cur, hv, hb', hh, hr⟩
  · exact .inl h0
  · exact .inr ⟨g, cap, cur, hv, hb', hb g _ _ hb' hh, hr⟩
theorem OwnT.later {w w1 : World} {base : Nat} {v : Value} {l : List Tk} (h : OwnT w base v l) (hb : Below w.heap.size w w1) : OwnT w1 base v l := h.kept fun g cs fr _ h0 => by rw [hb.block g (Array.getElem?_eq_some_iff.1 h0).1]; exact h0
theorem OwnT.weak {w : World} {base base' : Nat} {v : Value} {l : List Tk} (h : OwnT w base v l) (hb : base' ≤ base) : OwnT w base' v l := by
  refine ⟨h.1, ?_⟩
  rcases h.2 with h0 | ⟨g, cap, cur, hv, hb', hh, hr⟩
  · exact .inl h0
  · exact .inr ⟨g, cap, cur, hv, Nat.le_trans hb hb', hh, hr⟩
/-- A row stays where a map changes. -/
theorem OwnT.aside {w w1 : World} {base M : Nat} {v : Value} {l : List Tk} {m : List En} (h : OwnT w base v l) (hm : MapQ w M m) (hg : w.grownBy w1 (some M)) : OwnT w1 base v l := h.kept fun g cs fr _ h0 => by
  rw [hg.block g (Array.getElem?_eq_some_iff.1 h0).1 (fun e => by
    injection e with e
    subst e
    obtain ⟨es, clock, hb, -, -⟩ := hm.st
    rw [h0] at hb
    cases hb)]
  exact h0
/-- Quotas stay where a row of takes grows. -/
theorem QB.row {w w1 : World} {base q M : Nat} {n : Int} {m : List En} {v : Value} {l : List Tk} (h : QB w q M n m) (ho : OwnT w base v l) (hg : w.grownBy w1 v.ownBlock) : QB w1 q M n m := by
  have h1 : ∀ (b : Nat) (o : Obj), w.heap[b]? = some o → (∀ cs fr, o ≠ .cells cs 40 fr) → w1.heap[b]? = some o := fun b o hb hne => by
    rw [hg.block b (Array.getElem?_eq_some_iff.1 hb).1 (fun e => by
      rcases ho.2 with ⟨hv, -⟩ | ⟨g, cap, cur, hv, -, hh, -⟩
      · rw [hv] at e; cases e
      · rw [hv] at e
        injection e with e
        subst e
        rw [hh] at hb
        injection hb with hb
        exact hne _ _ hb.symm)]
    exact hb
  obtain ⟨es, clock, hb, -, -⟩ := h.hm.st
  exact ⟨h1 _ _ h.hq (fun cs fr e => by injection e with _ e2; exact absurd e2 (by decide)), h.hm.later ((h1 _ _ hb (fun cs fr e => by cases e)).trans hb.symm)⟩
theorem OwnT.form {w : World} {base : Nat} {v : Value} {l : List Tk} (h : OwnT w base v l) : ∃ a cap, v = .slice a l.length cap := by
  rcases h.2 with ⟨hv, h0⟩ | ⟨g, cap, cur, hv, _⟩
  · exact ⟨none, 0, by rw [h0]; exact hv⟩
  · exact ⟨_, cap, hv⟩
theorem ownT_below {w w1 : World} {base : Nat} {v : Value} {l : List Tk} (h : OwnT w base v l) (hg : w.grownBy w1 v.ownBlock) (hb : base ≤ w.heap.size) : Below base w w1 :=
  ⟨hg.os, hg.tape, hg.output, hg.size, fun i hi => hg.block i (by omega) (fun e => by have := (h.lt i e.symm).2; omega)⟩
/-- Takes that can be read. -/
def TksR (w : World) (v : Value) (l : List Tk) : Prop :=
  ∃ a cap, v = .slice a l.length cap ∧ (0 < l.length → ∃ g o, a = some ⟨g, o, none⟩ ∧ ∀ k, k < l.length → w.cell? ⟨g, o + k * 2, none⟩ = some (.int .i64 (l.getD k Tk.zero).s) ∧ w.cell? ⟨g, o + k * 2 + 1, none⟩ = some (.int .i64 (l.getD k Tk.zero).p))
theorem TksR.later {w w1 : World} {v : Value} {l : List Tk} (h : TksR w v l) (hb : Below w.heap.size w w1) : TksR w1 v l := by
  obtain ⟨a, cap, hv, hr⟩ := h
  refine ⟨a, cap, hv, fun hp => ?_⟩
  obtain ⟨g, o, ha, hc⟩ := hr hp
  refine ⟨g, o, ha, fun k hk => ?_⟩
  obtain ⟨h1, h2⟩ := hc k hk
  exact ⟨by rw [hb.cell (World.block_lt_of_cell? _ _ h1)]; exact h1, by rw [hb.cell (World.block_lt_of_cell? _ _ h2)]; exact h2⟩
theorem OwnT.reads {w : World} {base : Nat} {v : Value} {l : List Tk} (h : OwnT w base v l) : TksR w v l := by
  rcases h.2 with ⟨hv, h0⟩ | ⟨g, cap, cur, hv, _, hg, hc1, hc2, hc3, hc4⟩
  · exact ⟨none, 0, by rw [h0]; exact hv, fun hp => by omega⟩
  · refine ⟨_, cap, hv, fun _ => ⟨g, 0, rfl, fun k hk => ?_⟩⟩
    have hat : ∀ j u, (tkc (l.getD k Tk.zero))[j]? = some u → w.cell? ⟨g, k * 2 + j, none⟩ = some u := fun j u hj => by
      have hj4 : j < 2 := (List.getElem?_eq_some_iff.1 hj).1
      rw [cell_of_row _ _ _ _ _ _ hg, ← Array.getElem?_toList]
      have h1 : (cur.toList.take (l.length * 2))[k * 2 + j]? = (cells2 l)[k * 2 + j]? := by rw [hc4]
      rw [List.getElem?_take_of_lt (by omega)] at h1
      rw [h1]
      exact cells2_get l k hk j u hj
    rw [Nat.zero_add]
    exact ⟨hat 0 _ rfl, hat 1 _ rfl⟩
theorem run_apT11 (w : World) (base : Nat) (v : Value) (l : List Tk) (hown : OwnT w base v l) (g o : Nat) (e : Tk) (hr : w.rangeAt g o (tkc e)) (hn : l.length ≤ 1000) (hbase : base ≤ w.heap.size) (ty : TypeId) (cp : Nat) :
    ∃ v' w', (Builtin.append_ #[29, 29] ty #[v, .slice (some ⟨g, o, none⟩) 1 cp]).run Try.prog w = .ok v' w' ∧ OwnT w' base v' (l ++ [e]) ∧ w.grownBy w' v.ownBlock := by
  have hi : Try.prog.info? 40 = some ((Try.prog.info? 40).getD default) := by kernel_rfl
  obtain ⟨v', w', hrun, h2, h3, _, _⟩ := run_append_own_at (P := Try.prog) w base 29 ty 40 _ (.agg #[.int .i64 0, .int .i64 0]) 2 16 Try.underlying29 hi (by kernel_rfl) (by kernel_rfl) (by kernel_rfl) rfl (by omega) v l.length (cells2 l) hown ⟨g, o, none⟩ 1 cp (tkc e) (by simp [tkc])
    (fun j u hu => by rw [show (⟨g, o, none⟩ : Addr).add j = ⟨g, o + j, none⟩ by unfold Addr.add; split <;> simp_all]; exact hr j u hu)
    (fun u hu => by
      unfold tkc at hu
      simp at hu
      rcases hu with rfl | rfl
      · rfl
      · rfl) (by simp only [maxLen]; omega) (by omega) hbase
  refine ⟨v', w', hrun, ?_, h3⟩
  unfold OwnT
  rw [List.length_append, cells2_snoc]
  exact h2
theorem step_apT11 {w : World} {ops : Array Oper} {o : Oper} {a : Act} {K : Act → World → Prop} {Q : Exit → Act → World → Prop} {F : Prop} (hgd : o.guard = none) (sl x : Operand)
    (ho : o.op = .call { callee := .builtin .append, args := #[sl, x], argTypes := #[29, 29] }) (base : Nat) (v : Value) (l : List Tk) (hs : a.eval sl = v) (hown : OwnT w base v l) (g of : Nat) (e : Tk) (cp : Nat) (hx : a.eval x = .slice (some ⟨g, of, none⟩) 1 cp) (hr : w.rangeAt g of (tkc e))
    (hn : l.length ≤ 1000) (hbase : base ≤ w.heap.size)
    (h : ∀ v' w', OwnT w' base v' (l ++ [e]) → w.grownBy w' v.ownBlock → K (a.put o.dst v') w') : if Region.wanted o (yielded ops a.tmps) = true then Oper.wp Try.prog o a w K Q else F := by
  have hw : Region.wanted o (yielded ops a.tmps) = true := by simp [Region.wanted, hgd]
  rw [if_pos hw]
  obtain ⟨v', w', hrun, h1, h2⟩ := run_apT11 w base v l hown g of e hr hn hbase o.type cp
  unfold Oper.wp
  simp [execOp, ho, resolve, invoke, builtin, hs, hx, hrun, Result.andThen]
  exact h v' w' h1 h2
theorem tkc_new (W : World) (e : Tk) (t : TypeId) : (W.alloc (.cells #[.int .i64 e.s, .int .i64 e.p] t)).rangeAt W.heap.size 0 (tkc e) := fun j u hj => by
  rw [cell_of_row _ _ _ _ _ _ (hnew W _ _ rfl), Nat.zero_add, ← Array.getElem?_toList]
  exact hj
end Go.Proofs.Ytplkoijgokkmfaa
namespace Go.Proofs.Ytplkoijgokkmfaa
open Go Go.RowKit
/-- Was a sender taken? When last? How often in a period? -/
def isT (m : List Tk) (s : Int) : Bool := m.any fun x => decide (x.s = s)
def lastT (m : List Tk) (s : Int) : Int := m.foldl (fun a x => if x.s = s then max a x.p else a) 0
def timT (m : List Tk) (s p : Int) : Nat := m.countP fun x => decide (x.s = s) && decide (x.p = p)
theorem takeT_succ (m : List Tk) (k : Nat) (h : k < m.length) : m.take (k + 1) = m.take k ++ [m.getD k Tk.zero] := by
  rw [List.take_succ_eq_append_getElem h, List.getD_eq_getElem?_getD, List.getElem?_eq_getElem h]; rfl
theorem timT_succ (m : List Tk) (k : Nat) (h : k < m.length) (s p : Int) : timT (m.take (k + 1)) s p = timT (m.take k) s p + if (decide ((m.getD k Tk.zero).s = s) && decide ((m.getD k Tk.zero).p = p)) = true then 1 else 0 := by
  unfold timT; rw [takeT_succ m k h, List.countP_append, List.countP_singleton]
theorem timT_le (m : List Tk) (s p : Int) : timT m s p ≤ m.length := List.countP_le_length
set_option maxRecDepth 100000 in
set_option maxHeartbeats 4000000 in
theorem rtimes_any (m : List Tk) (v : Value) (s p : Int) (w : World) (hv : TksR w v m) (hn : m.length ≤ 1000) :
    Calls Try.prog 18 #[v, .int .i64 s, .int .i64 p] w fun e w' => e = .returned (.int .i64 ((timT m s p : Nat) : Int)) ∧ w = w' := by
  obtain ⟨a, cap, rfl, hr⟩ := hv
  obtain ⟨n, hnn⟩ : ∃ n, m.length = n := ⟨_, rfl⟩
  have HN := Bx.mk hnn
  rw [hnn] at hr hn ⊢
  have HR := Bx.mk hr
  clear hr hnn
  have hn1 : (n : Int) ≤ 1000 := by omega
  have HT : Bx (m.take n = m) := Bx.mk (by rw [← HN.out, List.take_length])
  go_enter Try.func18, Try.ntmps18
  go_wp2
  go_loopw [7, 8] (fun c i wr => ∃ k : Nat, k ≤ n ∧ c = .int .i64 ((timT (m.take k) s p : Nat) : Int) ∧ i = .int .i64 (k : Int) ∧ w = wr) (fun _ i _ => n - (intOf i).toNat)
  case atStart => exact ⟨0, by omega, rfl, rfl, rfl⟩
  case round =>
    obtain ⟨k, hk, rfl, rfl, rfl⟩ := hrel
    by_cases hlt : k < n
    · have t1 : (k : Int) < (n : Int) := by omega
      have t0 : (0 : Int) ≤ (k : Int) := by omega
      obtain ⟨g, o, ha, hcell⟩ := HR.out (by omega)
      subst ha
      obtain ⟨c1, c2⟩ := hcell k hlt
      have HS := Bx.mk (timT_succ m k (by rw [HN.out]; exact hlt) s p)
      have hle := timT_le (m.take k) s p
      rw [List.length_take] at hle
      have hle2 : timT (m.take k) s p ≤ 1000 := by omega
      generalize timT (m.take k) s p = tk at *
      generalize m.getD k Tk.zero = x at *
      obtain ⟨xs, xp⟩ := x
      have hw : IntKind.i64.wrap ((tk : Int) + 1) = (tk : Int) + 1 := by simp [IntKind.wrap_i64]; omega
      clear hcell hle hle2
      by_cases he : xs = s
      · by_cases hp : xp = p
        · have HS2 : Bx (timT (m.take (k + 1)) s p = tk + 1) := Bx.mk (by rw [HS.out]; simp [he, hp])
          go_wp2
          go_roundw
          case rel => exact ⟨k + 1, by omega, by rw [HS2.out]; rfl, by go_num, by first | rfl | trivial⟩
          case measure => simp [intOf]; omega
        · have HS2 : Bx (timT (m.take (k + 1)) s p = tk) := Bx.mk (by rw [HS.out]; simp [hp])
          go_wp2
          go_roundw
          case rel => exact ⟨k + 1, by omega, by rw [HS2.out], by go_num, by first | rfl | trivial⟩
          case measure => simp [intOf]; omega
      · have HS2 : Bx (timT (m.take (k + 1)) s p = tk) := Bx.mk (by rw [HS.out]; simp [he])
        go_wp2
        go_roundw
        case rel => exact ⟨k + 1, by omega, by rw [HS2.out], by go_num, by first | rfl | trivial⟩
        case measure => simp [intOf]; omega
    · have t1 : ¬ (k : Int) < (n : Int) := by omega
      obtain rfl : k = n := by omega
      rw [HT.out]
      go_wp2
      go_ret
      exact ⟨rfl, rfl⟩
end Go.Proofs.Ytplkoijgokkmfaa
namespace Go.Proofs.Ytplkoijgokkmfaa
open Go Go.RowKit
theorem ownT_shape {w : World} {base : Nat} {v : Value} {l : List Tk} (h : OwnT w base v l) : ∃ a n cap, v = .slice a n cap := by
  obtain ⟨a, cap, h⟩ := h.form
  exact ⟨a, _, cap, h⟩
end Go.Proofs.Ytplkoijgokkmfaa
