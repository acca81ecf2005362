/-
  Claims: rows of numbers, masks and what covers what.
  Claims: what follows of masks.
-/
import Derived.Test.YtnfgamekjbkbkaaDoorIa
namespace Go.Proofs.YtnfgamekjbkbkaaDoor
open Go Go.RowKit
theorem and64 (m n : Nat) (hm : m ≤ 9223372036854775807) (hn : n ≤ 9223372036854775807) : bits .and .i64 (m : Int) (n : Int) = ((m &&& n : Nat) : Int) := by
  show IntKind.i64.wrap ((BitVec.ofInt 64 (m : Int) &&& BitVec.ofInt 64 (n : Int)).toNat : Int) = _
  rw [BitVec.toNat_and, BitVec.ofInt_natCast, BitVec.ofInt_natCast, BitVec.toNat_ofNat, BitVec.toNat_ofNat, Nat.mod_eq_of_lt (by omega), Nat.mod_eq_of_lt (by omega)]
  have := Nat.and_le_left (n := m) (m := n)
  rw [IntKind.wrap_i64]
  omega
theorem or64 (m n : Nat) (hm : m < 256) (hn : n < 256) : bits .or .i64 (m : Int) (n : Int) = ((m ||| n : Nat) : Int) := by
  show IntKind.i64.wrap ((BitVec.ofInt 64 (m : Int) ||| BitVec.ofInt 64 (n : Int)).toNat : Int) = _
  rw [BitVec.toNat_or, BitVec.ofInt_natCast, BitVec.ofInt_natCast, BitVec.toNat_ofNat, BitVec.toNat_ofNat, Nat.mod_eq_of_lt (by omega), Nat.mod_eq_of_lt (by omega)]
  have := Nat.or_lt_two_pow (n := 8) (x := m) (y := n) (by omega) (by omega)
  rw [IntKind.wrap_i64]
  omega
/-- Does a mask cover another one? -/
def covN (a b : Nat) : Bool := decide (a &&& b = b)
/-- A row of numbers. -/
def Ints (w : World) (v : Value) (ns : List Int) : Prop :=
  ∃ a cap, v = .slice a ns.length cap ∧ ns.length ≤ cap ∧ (a = none → cap = 0) ∧ (0 < ns.length → ∃ c o, a = some ⟨c, o, none⟩ ∧ ∀ i, i < ns.length → w.cell? ⟨c, o + i, none⟩ = some (.int .i64 (ns.getD i 0)))
/-- The mask of roles. -/
def mkN (ns : List Int) : Nat := ns.foldl (fun m r => m ||| 2 ^ r.toNat) 0
/-- Is it a role? -/
def isR (r : Int) : Bool := decide (0 ≤ r) && decide (r < 8)
theorem mkN_take (ns : List Int) (k : Nat) (hk : k < ns.length) : mkN (ns.take (k + 1)) = mkN (ns.take k) ||| 2 ^ (ns.getD k 0).toNat := by
  unfold mkN
  rw [List.take_add_one, List.foldl_append, List.getElem?_eq_getElem hk, List.getD_eq_getElem?_getD, List.getElem?_eq_getElem hk]
  rfl
theorem pow_lt8 (r : Int) (h : isR r = true) : 2 ^ r.toNat < 256 := by
  simp [isR] at h
  have hr : r = 0 ∨ r = 1 ∨ r = 2 ∨ r = 3 ∨ r = 4 ∨ r = 5 ∨ r = 6 ∨ r = 7 := by omega
  rcases hr with rfl | rfl | rfl | rfl | rfl | rfl | rfl | rfl <;> decide
theorem fold_lt8 (ns : List Int) : ∀ m : Nat, m < 256 → ns.all isR = true → ns.foldl (fun m r => m ||| 2 ^ r.toNat) m < 256 := by
  induction ns with
  | nil => intro m h _; exact h
  | cons r ns ih =>
    intro m h ha
    simp only [List.all_cons, Bool.and_eq_true] at ha
    exact ih _ (Nat.or_lt_two_pow (n := 8) h (pow_lt8 r ha.1)) ha.2
theorem mkN_lt (ns : List Int) (h : ns.all isR = true) : mkN ns < 256 := fold_lt8 ns 0 (by omega) h
theorem Ints.later {w w1 : World} {v : Value} {ns : List Int} (h : Ints w v ns) (hb : Below w.heap.size w w1) : Ints w1 v ns := by
  obtain ⟨a, cap, hv, hc, hn, hr⟩ := h
  refine ⟨a, cap, hv, hc, hn, fun hp => ?_⟩
  obtain ⟨c, o, ha, hf⟩ := hr hp
  refine ⟨c, o, ha, fun i hi => ?_⟩
  rw [hb.cell (p := ⟨c, o + i, none⟩) (World.block_lt_of_cell? _ _ (hf i hi))]
  exact hf i hi
/-- The cells of numbers. -/
def i64s (ns : List Int) : List Value := ns.map fun n => Value.int .i64 n
theorem i64s_get (ns : List Int) (i : Nat) (h : i < ns.length) : (i64s ns)[i]? = some (.int .i64 (ns.getD i 0)) := by
  unfold i64s
  rw [List.getElem?_map, List.getElem?_eq_getElem h, List.getD_eq_getElem?_getD, List.getElem?_eq_getElem h]
  rfl
/-- A row of numbers that the call has made. -/
def OwnI (w : World) (base : Nat) (v : Value) (ns : List Int) : Prop := w.ownsRow base 3 1 v ns.length (i64s ns)
theorem OwnI.nil (w : World) (base : Nat) : OwnI w base (.slice none 0 0) [] := ⟨rfl, .inl ⟨rfl, rfl⟩⟩
theorem OwnI.later {w w1 : World} {base B : Nat} {v : Value} {ns : List Int} (h : OwnI w base v ns) (hb : Below B w w1) (hB : ∀ g, v.ownBlock = some g → g < B) : OwnI w1 base v ns := by
  obtain ⟨hl, hr⟩ := h
  refine ⟨hl, ?_⟩
  rcases hr with h | ⟨g, cap, cur, hv, hc, h1, h2, h3, h4⟩
  · exact .inl h
  · refine .inr ⟨g, cap, cur, hv, hc, ?_, h2, h3, h4⟩
    rw [hb.block g (hB g (by rw [hv]; rfl))]
    exact h1
theorem OwnI.lt {w : World} {base : Nat} {v : Value} {ns : List Int} (h : OwnI w base v ns) : ∀ g, v.ownBlock = some g → g < w.heap.size ∧ base ≤ g := by
  intro g hg
  rcases h.2 with ⟨rfl, _⟩ | ⟨g', cap, cur, rfl, hb, hh, _⟩
  · cases hg
  · injection hg with hg
    subst hg
    exact ⟨(Array.getElem?_eq_some_iff.1 hh).1, hb⟩
theorem OwnI.ints {w : World} {base : Nat} {v : Value} {ns : List Int} (h : OwnI w base v ns) : Ints w v ns := by
  rcases h.2 with ⟨rfl, h0⟩ | ⟨g, cap, cur, rfl, hb, hg, hn, hm, hs, hc⟩
  · refine ⟨none, 0, by rw [h0], by omega, fun _ => rfl, fun hp => by omega⟩
  · refine ⟨_, cap, rfl, hn, (fun hx => by cases hx), fun _ => ⟨g, 0, rfl, fun j hj => ?_⟩⟩
    rw [cell_of_row _ _ _ _ _ _ hg, Nat.zero_add, ← Array.getElem?_toList]
    have h1 : (cur.toList.take (ns.length * 1))[j]? = (i64s ns)[j]? := by rw [hc]
    rw [List.getElem?_take, if_pos (by omega), i64s_get ns j hj] at h1
    exact h1
theorem OwnI.form {w : World} {base : Nat} {v : Value} {ns : List Int} (h : OwnI w base v ns) : ∃ a cap, v = .slice a ns.length cap := by
  obtain ⟨a, cap, hv, -⟩ := h.ints
  exact ⟨a, cap, hv⟩
theorem ownI_below {w w1 : World} {base : Nat} {v : Value} {ns : List Int} (h : OwnI w base v ns) (hg : w.grownBy w1 v.ownBlock) (hb : base ≤ w.heap.size) : Below base w w1 :=
  ⟨hg.os, hg.tape, hg.output, hg.size, fun i hi => hg.block i (by omega) (fun e => by have := (h.lt i e.symm).2; omega)⟩
theorem ownI_a {W : World} {base : Nat} {v : Value} {ns : List Int} (h : OwnI W base v ns) (o : Obj) : OwnI (W.alloc o) base v ns := h.later (below_a _) (fun g hg => (h.lt g hg).1)
theorem OwnI.weak {w : World} {base base' : Nat} {v : Value} {l : List Int} (h : OwnI w base v l) (hb : base' ≤ base) : OwnI w base' v l := by
  refine ⟨h.1, ?_⟩
  rcases h.2 with h0 | ⟨g, cap, cur, hv, hb', hr⟩
  · exact .inl h0
  · exact .inr ⟨g, cap, cur, hv, by omega, hr⟩
set_option maxRecDepth 100000 in
theorem run_apI (w : World) (base : Nat) (v : Value) (l : List Int) (hown : OwnI w base v l) (x : Value) (ps : List Int) (hx : Ints w x ps) (hn : l.length + ps.length ≤ 10000) (hbase : base ≤ w.heap.size) (ty : TypeId) :
    ∃ v' w', (Builtin.append_ #[23, 23] ty #[v, x]).run Tryd.prog w = .ok v' w' ∧ OwnI w' base v' (l ++ ps) ∧ w.grownBy w' v.ownBlock := by
  have hi : Tryd.prog.info? 3 = some ((Tryd.prog.info? 3).getD default) := by kernel_rfl
  obtain ⟨a, cap, rfl, hc, hnone, hr⟩ := hx
  rcases a with _ | ad
  · have h0 : ps = [] := by have := hnone rfl; exact List.eq_nil_of_length_eq_zero (by omega)
    have hz := hnone rfl
    subst h0
    subst hz
    refine ⟨v, w, ?_, by rw [List.append_nil]; exact hown, World.grownBy.refl w _⟩
    exact run_append_owned_none (P := Tryd.prog) (w := w) base 23 ty 3 _ 1 Tryd.underlying23 hi v l.length _ hown
  · have hnews : ∀ j u, (i64s ps)[j]? = some u → w.cell? (ad.add j) = some u := by
      intro j u hu
      have hj : j < ps.length := by have := (List.getElem?_eq_some_iff.1 hu).1; simpa [i64s] using this
      obtain ⟨c, o, ha, hcell⟩ := hr (by omega)
      injection ha with ha
      subst ha
      rw [i64s_get ps j hj] at hu
      rw [show (⟨c, o, none⟩ : Addr).add j = ⟨c, o + j, none⟩ by unfold Addr.add; split <;> simp_all, hcell j hj]
      exact hu
    obtain ⟨v', w', hrun, h2, h3, _, h5⟩ := run_append_own_at (P := Tryd.prog) w base 23 ty 3 _ (.int .i64 0) 1 8 Tryd.underlying23 hi (by kernel_rfl) (by kernel_rfl) (by kernel_rfl) rfl (by omega) v l.length _ hown ad ps.length cap (i64s ps) (by simp [i64s]) hnews
      (fun u hu => by unfold i64s at hu; simp at hu; obtain ⟨n, -, rfl⟩ := hu; rfl) (by simp only [maxLen]; omega) (by omega) hbase
    refine ⟨v', w', hrun, ?_, h3⟩
    unfold OwnI
    rw [List.length_append]
    have e : i64s (l ++ ps) = i64s l ++ i64s ps := by simp [i64s]
    rw [e]
    exact h2
/-- At the list of a plain region's operations. -/
theorem wpList_apI {w : World} {ops : Array Oper} {rest : List Oper} {o : Oper} {a : Act} {Q : Exit → Act → World → Prop} (hgd : o.guard = none) (s x : Operand)
    (ho : o.op = .call { callee := .builtin .append, args := #[s, x], argTypes := #[23, 23] }) (base : Nat) (v : Value) (l : List Int) (hs : a.eval s = v) (hown : OwnI w base v l) (xv : Value) (ps : List Int) (hx : a.eval x = xv) (hb : Ints w xv ps)
    (hn : l.length + ps.length ≤ 10000) (hbase : base ≤ w.heap.size)
    (h : ∀ v' w', OwnI w' base v' (l ++ ps) → w.grownBy w' v.ownBlock → wpList Tryd.prog ops Q rest (a.put o.dst v') w') : wpList Tryd.prog ops Q (o :: rest) a w := by
  refine wpList_plain hgd fun K hK => ?_
  obtain ⟨v', w', hrun, h1, h2⟩ := run_apI w base v l hown xv ps hb hn hbase o.type
  unfold Oper.wp
  simp [execOp, ho, resolve, invoke, builtin, hs, hx, hrun, Result.andThen]
  exact hK _ _ (h v' w' h1 h2)
theorem ints1 (W : World) (n : Int) (t : TypeId) : Ints (W.alloc (.cells #[.int .i64 n] t)) (.slice (some ⟨W.heap.size, 0, none⟩) 1 1) [n] := by
  refine ⟨_, 1, rfl, by simp, (fun h => by cases h), fun _ => ⟨W.heap.size, 0, rfl, fun i hi => ?_⟩⟩
  obtain rfl : i = 0 := by simp at hi; omega
  rw [cell_of_row _ _ _ _ _ _ (hnew _ _ _ rfl)]
  rfl
/-- The roles of a mask, below a number. -/
def rolesK (m k : Nat) : List Int := ((List.range k).filter fun r => covN m (2 ^ r)).map fun (r : Nat) => (r : Int)
theorem rolesK_succ (m k : Nat) : rolesK m (k + 1) = rolesK m k ++ if covN m (2 ^ k) = true then [(k : Int)] else [] := by
  unfold rolesK
  rw [List.range_succ, List.filter_append, List.map_append]
  congr 1
  by_cases h : covN m (2 ^ k) = true
  · rw [if_pos h]; simp [h]
  · rw [if_neg h]; simp [h]
theorem rolesK_length (m k : Nat) : (rolesK m k).length ≤ k := by
  unfold rolesK
  rw [List.length_map]
  exact Nat.le_trans (List.length_filter_le _ _) (by simp)
end Go.Proofs.YtnfgamekjbkbkaaDoor
namespace Go.Proofs.YtnfgamekjbkbkaaDoor
open Go Go.RowKit
theorem fold_or (ns : List Int) : ∀ m : Nat, ns.foldl (fun m r => m ||| 2 ^ r.toNat) m = m ||| mkN ns := by
  induction ns with
  | nil => intro m; simp [mkN]
  | cons r ns ih =>
    intro m
    unfold mkN
    rw [List.foldl_cons, List.foldl_cons, ih, ih (0 ||| 2 ^ r.toNat), Nat.zero_or, Nat.or_assoc]
theorem mkN_append (a b : List Int) : mkN (a ++ b) = mkN a ||| mkN b := by
  show (a ++ b).foldl _ 0 = _
  rw [List.foldl_append]
  exact fold_or b _
theorem roles_back : ∀ x, x < 256 → mkN (rolesK x 8) = x ∧ (rolesK x 8).all isR = true := by decide +kernel
theorem cov_self (x : Nat) : covN x x = true := by simp [covN]
theorem cov_anti {x y : Nat} (h : covN x y = true) (k : covN y x = true) : x = y := by
  simp [covN] at h k
  rw [Nat.and_comm] at k
  rw [← h, k]
theorem cov_trans {x y z : Nat} (h : covN x y = true) (k : covN y z = true) : covN x z = true := by
  simp [covN] at h k ⊢
  rw [← k, ← Nat.and_assoc, h]
theorem cov_left (x y : Nat) : covN (x ||| y) x = true := by
  simp only [covN, decide_eq_true_eq]
  apply Nat.eq_of_testBit_eq
  intro i
  simp only [Nat.testBit_and, Nat.testBit_or]
  cases x.testBit i <;> simp
theorem cov_right (x y : Nat) : covN (x ||| y) y = true := by rw [Nat.or_comm]; exact cov_left y x
theorem cov_or {x y z : Nat} (h : covN z x = true) (k : covN z y = true) : covN z (x ||| y) = true := by
  simp only [covN, decide_eq_true_eq] at h k ⊢
  rw [Nat.and_or_distrib_left, h, k]
/-- A number's last eight bits. -/
theorem low8 (a : Int) : ∃ x : Nat, x < 256 ∧ wrap64 ((IntKind.u64.wrap a).tmod 256) = (x : Int) := by
  have h0 : 0 ≤ IntKind.u64.wrap a := by rw [IntKind.wrap_u64]; omega
  rw [Int.tmod_eq_emod_of_nonneg h0]
  generalize IntKind.u64.wrap a = z at h0
  refine ⟨(z % 256).toNat, by omega, ?_⟩
  rw [IntWalk.wrap64_in _ (by omega)]
  omega
end Go.Proofs.YtnfgamekjbkbkaaDoor
