/-
  Rows of reasons, and of what was counted.
-/
import Derived.Test.YtfommmkkdgdmfaaT8
import Derived.Test.YtfommmkkdgdmfaaRows
import Derived.ProofKit
import Derived.OpenShut
import Derived.ShutString
import Derived.ChangeOld
import Derived.Below
import Derived.Deep.DeepHandedRow
import Derived.Lib.LaidTab
import Derived.Deep.Matrix
import Derived.Deep.Slices
namespace Go.Proofs.Ytfommmkkdgdmfaa
open Go Go.RowKit
def OwnE (w : World) (base : Nat) (v : Value) (ns : List Int) : Prop := w.ownsRow base 24 1 v ns.length (i64s ns)
theorem OwnE.nil (w : World) (base : Nat) : OwnE w base (.slice none 0 0) [] := ⟨rfl, .inl ⟨rfl, rfl⟩⟩
theorem OwnE.later {w w1 : World} {base B : Nat} {v : Value} {ns : List Int} (h : OwnE w base v ns) (hb : Below B w w1) (hB : ∀ g, v.ownBlock = some g → g < B) : OwnE w1 base v ns := by
  obtain ⟨hl, hr⟩ := h
  refine ⟨hl, ?_⟩
  rcases hr with h | ⟨g, cap, cur, hv, hc, h1, h2, h3, h4⟩
  · exact .inl h
  · refine .inr ⟨g, cap, cur, hv, hc, ?_, h2, h3, h4⟩
    rw [hb.block g (hB g (by rw [hv]; rfl))]
    exact h1
theorem OwnE.lt {w : World} {base : Nat} {v : Value} {ns : List Int} (h : OwnE w base v ns) : ∀ g, v.ownBlock = some g → g < w.heap.size ∧ base ≤ g := by
  intro g hg
  rcases h.2 with ⟨rfl, _⟩ | ⟨g', cap, cur, rfl, hb, hh, _⟩
  · cases hg
  · injection hg with hg
    subst hg
    exact ⟨(Array.getElem?_eq_some_iff.1 hh).1, hb⟩
theorem OwnE.ints {w : World} {base : Nat} {v : Value} {ns : List Int} (h : OwnE w base v ns) : Ints w v ns := by
  rcases h.2 with ⟨rfl, h0⟩ | ⟨g, cap, cur, rfl, hb, hg, hn, hm, hs, hc⟩
  · refine ⟨none, 0, by rw [h0], by omega, fun _ => rfl, fun hp => by omega⟩
  · refine ⟨_, cap, rfl, hn, (fun hx => by cases hx), fun _ => ⟨g, 0, rfl, fun j hj => ?_⟩⟩
    rw [cell_of_row _ _ _ _ _ _ hg, Nat.zero_add, ← Array.getElem?_toList]
    have h1 : (cur.toList.take (ns.length * 1))[j]? = (i64s ns)[j]? := by rw [hc]
    rw [List.getElem?_take, if_pos (by omega), i64s_get ns j hj] at h1
    exact h1
theorem OwnE.form {w : World} {base : Nat} {v : Value} {ns : List Int} (h : OwnE w base v ns) : ∃ a cap, v = .slice a ns.length cap := by
  obtain ⟨a, cap, hv, -⟩ := h.ints
  exact ⟨a, cap, hv⟩
theorem ownE_below {w w1 : World} {base : Nat} {v : Value} {ns : List Int} (h : OwnE w base v ns) (hg : w.grownBy w1 v.ownBlock) (hb : base ≤ w.heap.size) : Below base w w1 :=
  ⟨hg.os, hg.tape, hg.output, hg.size, fun i hi => hg.block i (by omega) (fun e => by have := (h.lt i e.symm).2; omega)⟩
theorem ownE_a {W : World} {base : Nat} {v : Value} {ns : List Int} (h : OwnE W base v ns) (o : Obj) : OwnE (W.alloc o) base v ns := h.later (below_a _) (fun g hg => (h.lt g hg).1)
theorem OwnE.weak {w : World} {base base' : Nat} {v : Value} {l : List Int} (h : OwnE w base v l) (hb : base' ≤ base) : OwnE w base' v l := by
  refine ⟨h.1, ?_⟩
  rcases h.2 with h0 | ⟨g, cap, cur, hv, hb', hr⟩
  · exact .inl h0
  · exact .inr ⟨g, cap, cur, hv, by omega, hr⟩
set_option maxRecDepth 100000 in
theorem run_apE (w : World) (base : Nat) (v : Value) (l : List Int) (hown : OwnE w base v l) (x : Value) (ps : List Int) (hx : Ints w x ps) (hn : l.length + ps.length ≤ 10000) (hbase : base ≤ w.heap.size) (ty : TypeId) :
    ∃ v' w', (Builtin.append_ #[32, 32] ty #[v, x]).run Try.prog w = .ok v' w' ∧ OwnE w' base v' (l ++ ps) ∧ w.grownBy w' v.ownBlock := by
  have hi : Try.prog.info? 24 = some ((Try.prog.info? 24).getD default) := by kernel_rfl
  obtain ⟨a, cap, rfl, hc, hnone, hr⟩ := hx
  rcases a with _ | ad
  · have h0 : ps = [] := by have := hnone rfl; exact List.eq_nil_of_length_eq_zero (by omega)
    have hz := hnone rfl
    subst h0
    subst hz
    refine ⟨v, w, ?_, by rw [List.append_nil]; exact hown, World.grownBy.refl w _⟩
    exact run_append_owned_none (P := Try.prog) (w := w) base 32 ty 24 _ 1 Try.underlying32 hi v l.length _ hown
  · have hnews : ∀ j u, (i64s ps)[j]? = some u → w.cell? (ad.add j) = some u := by
      intro j u hu
      have hj : j < ps.length := by have := (List.getElem?_eq_some_iff.1 hu).1; simpa [i64s] using this
      obtain ⟨c, o, ha, hcell⟩ := hr (by omega)
      injection ha with ha
      subst ha
      rw [i64s_get ps j hj] at hu
      rw [show (⟨c, o, none⟩ : Addr).add j = ⟨c, o + j, none⟩ by unfold Addr.add; split <;> simp_all, hcell j hj]
      exact hu
    obtain ⟨v', w', hrun, h2, h3, _, h5⟩ := run_append_own_at (P := Try.prog) w base 32 ty 24 _ (.int .i64 0) 1 8 Try.underlying32 hi (by kernel_rfl) (by kernel_rfl) (by kernel_rfl) rfl (by omega) v l.length _ hown ad ps.length cap (i64s ps) (by simp [i64s]) hnews
      (fun u hu => by unfold i64s at hu; simp at hu; obtain ⟨n, -, rfl⟩ := hu; rfl) (by simp only [maxLen]; omega) (by omega) hbase
    refine ⟨v', w', hrun, ?_, h3⟩
    unfold OwnE
    rw [List.length_append]
    have e : i64s (l ++ ps) = i64s l ++ i64s ps := by simp [i64s]
    rw [e]
    exact h2
/-- At the list of a plain region's operations. -/
theorem wpList_apE {w : World} {ops : Array Oper} {rest : List Oper} {o : Oper} {a : Act} {Q : Exit → Act → World → Prop} (hgd : o.guard = none) (s x : Operand)
    (ho : o.op = .call { callee := .builtin .append, args := #[s, x], argTypes := #[32, 32] }) (base : Nat) (v : Value) (l : List Int) (hs : a.eval s = v) (hown : OwnE w base v l) (xv : Value) (ps : List Int) (hx : a.eval x = xv) (hb : Ints w xv ps)
    (hn : l.length + ps.length ≤ 10000) (hbase : base ≤ w.heap.size)
    (h : ∀ v' w', OwnE w' base v' (l ++ ps) → w.grownBy w' v.ownBlock → wpList Try.prog ops Q rest (a.put o.dst v') w') : wpList Try.prog ops Q (o :: rest) a w := by
  refine wpList_plain hgd fun K hK => ?_
  obtain ⟨v', w', hrun, h1, h2⟩ := run_apE w base v l hown xv ps hb hn hbase o.type
  unfold Oper.wp
  simp [execOp, ho, resolve, invoke, builtin, hs, hx, hrun, Result.andThen]
  exact hK _ _ (h v' w' h1 h2)
theorem own_kind13 {T : TypeId} {w : World} {base n : Nat} {v : Value} {cs : List Value} (h : w.ownsRow base T 1 v n cs) : ∀ g, v.ownBlock = some g → ∃ ds fr, w.heap[g]? = some (.cells ds T fr) := fun g hg => by
  rcases h.2 with ⟨hv, _⟩ | ⟨g', cap, cur, hv, _, hh, _⟩
  · rw [hv] at hg; cases hg
  · rw [hv] at hg
    injection hg with hg
    subst hg
    exact ⟨_, _, hh⟩
theorem own_kept13 {T : TypeId} {w w1 : World} {base n : Nat} {v : Value} {cs : List Value} (h : w.ownsRow base T 1 v n cs) (hb : ∀ g ds fr, base ≤ g → w.heap[g]? = some (.cells ds T fr) → w1.heap[g]? = some (.cells ds T fr)) : w1.ownsRow base T 1 v n cs := by
  refine ⟨h.1, ?_⟩
  rcases h.2 with h0 | ⟨g, cap, cur, hv, hb', hh, hr⟩
  · exact .inl h0
  · exact .inr ⟨g, cap, cur, hv, hb', hb g _ _ hb' hh, hr⟩
/-- A row stays where a row of another type grows. -/
theorem own_other13 {T T' : TypeId} (hT : T ≠ T') {w w1 : World} {base base' n n' : Nat} {v v' : Value} {cs cs' : List Value} (h : w.ownsRow base T 1 v n cs) (h' : w.ownsRow base' T' 1 v' n' cs') (hg : w.grownBy w1 v'.ownBlock) : w1.ownsRow base T 1 v n cs := own_kept13 h fun g ds fr _ h0 => by
  rw [hg.block g (Array.getElem?_eq_some_iff.1 h0).1 (fun e => by
    obtain ⟨ds', fr', hk⟩ := own_kind13 h' g e.symm
    rw [h0] at hk
    injection hk with hk
    injection hk with _ hk
    exact hT hk)]
  exact h0
/-- A row stays where a block of another type changes. -/
theorem own_aside13 {T : TypeId} {w w1 : World} {base n q : Nat} {v : Value} {cs : List Value} (h : w.ownsRow base T 1 v n cs) (hq : ∀ ds fr, w.heap[q]? ≠ some (.cells ds T fr)) (hg : w.grownBy w1 (some q)) : w1.ownsRow base T 1 v n cs := own_kept13 h fun g ds fr _ h0 => by
  rw [hg.block g (Array.getElem?_eq_some_iff.1 h0).1 (fun e => by
    injection e with e
    subst e
    exact hq _ _ h0)]
  exact h0
theorem DB.kind {W : World} {q : Nat} {top : Int} {cs : List Int} (h : DB W q top cs) {T : TypeId} (hT : T ≠ 46) : ∀ ds fr, W.heap[q]? ≠ some (.cells ds T fr) := fun ds fr e => by
  rw [h] at e
  injection e with e
  injection e with _ e2
  exact hT e2.symm
/-- Drops stay where a row grows. -/
theorem DB.row {W W1 : World} {T : TypeId} (hT : T ≠ 46) {q base n : Nat} {top : Int} {cs : List Int} {v : Value} {l : List Value} (h : DB W q top cs) (ho : W.ownsRow base T 1 v n l) (hg : W.grownBy W1 v.ownBlock) : DB W1 q top cs := (hg.block q h.lt (fun e => by
  obtain ⟨ds, fr, hk⟩ := own_kind13 ho q e.symm
  exact h.kind hT ds fr hk)).trans h
set_option maxRecDepth 100000 in
set_option maxHeartbeats 4000000 in
theorem to13_any (l : List Int) (v : Value) (w : World) (hv : Ints w v l) (hl : l.length ≤ 9223372036854775807) : Calls Try.prog 7 #[v] w fun e w' => ∃ x y, e = .returned (.tuple #[x, y]) ∧ OwnE w' w.heap.size x (l.take 20) ∧ OwnI w' w.heap.size y (l.take 20) ∧ Below w.heap.size w w' := by
  have HV := Bx.mk hv
  obtain ⟨a, cap, rfl, -⟩ := hv
  obtain ⟨n, hn⟩ : ∃ n, l.length = n := ⟨_, rfl⟩
  have HN := Bx.mk hn
  rw [hn] at hl HV ⊢
  have hl1 : (n : Int) ≤ 9223372036854775807 := by omega
  clear hn
  have H0 : Bx (OwnE w w.heap.size (.slice none 0 0) (l.take 0) ∧ OwnI w w.heap.size (.slice none 0 0) (l.take 0) ∧ Below w.heap.size w w) := Bx.mk ⟨OwnE.nil _ _, OwnI.nil _ _, Below.refl _ _⟩
  go_enter Try.func7, Try.ntmps7
  go_wp2
  go_loopw [4, 5, 6] (fun x y i wr => ∃ k : Nat, k ≤ n ∧ k ≤ 20 ∧ i = .int .i64 (k : Int) ∧ Bx (OwnE wr w.heap.size x (l.take k) ∧ OwnI wr w.heap.size y (l.take k) ∧ Below w.heap.size w wr)) (fun _ _ i _ => n - (intOf i).toNat)
  case atStart => exact ⟨0, by omega, by omega, rfl, H0⟩
  case round =>
    clear H0
    skip -- M1
    obtain ⟨k, hk, hk20, rfl, HB⟩ := hrel
    by_cases hlt : k < n
    · by_cases hlt2 : k < 20
      · have t1 : (k : Int) < (n : Int) := by omega
        have t2 : (k : Int) < 20 := by omega
        have t3 : (0 : Int) ≤ (k : Int) := by omega
        obtain ⟨a', cap', hv', -, -, hr⟩ := HV.out
        injection hv' with e1 e2 e3
        subst e1
        clear e2 e3
        obtain ⟨g, o, rfl, hf⟩ := hr (by rw [HN.out]; omega)
        have hw0 := hf k (by rw [HN.out]; exact hlt)
        have ck := (HB.out.2.2.cell (p := ⟨g, o + k, none⟩) (World.block_lt_of_cell? _ _ hw0)).trans hw0
        have HS : Bx (l.take (k + 1) = l.take k ++ [l.getD k 0]) := Bx.mk (by rw [List.take_add_one, List.getElem?_eq_getElem (by rw [HN.out]; exact hlt), List.getD_eq_getElem?_getD, List.getElem?_eq_getElem (by rw [HN.out]; exact hlt)]; rfl)
        have HLn : Bx ((l.take k).length = k) := Bx.mk (by rw [List.length_take, HN.out]; omega)
        generalize l.getD k 0 = e at *
        have HW0 := Bx.mk hw0
        clear hw0 hr hf
        obtain ⟨ax, cx, hxf⟩ := HB.out.1.form
        obtain ⟨ay, cy, hyf⟩ := HB.out.2.1.form
        rw [HLn.out] at hxf hyf
        subst hxf hyf
        have c1 := ((below_a (W := wr) (.cells #[.int .i64 e] 24)).cell (p := ⟨g, o + k, none⟩) (World.block_lt_of_cell? _ _ ck)).trans ck
        have H1 : Bx (OwnE (wr.alloc (.cells #[.int .i64 e] 24)) w.heap.size (.slice ax k cx) (l.take k) ∧ Ints (wr.alloc (.cells #[.int .i64 e] 24)) (.slice (some ⟨wr.heap.size, 0, none⟩) 1 1) [e] ∧ w.heap.size ≤ (wr.alloc (.cells #[.int .i64 e] 24)).heap.size) := Bx.mk ⟨ownE_a HB.out.1 _, ints1 _ _ _, by have := HB.out.2.2.size; simp; omega⟩
        go_upto_region 7 with (refine wpList_apE rfl _ _ rfl w.heap.size _ _ rfl H1.out.1 _ _ rfl H1.out.2.1 (by rw [HLn.out]; simp; omega) H1.out.2.2 ?_; intro x1 w1 ho1 hg1)
        have H2 : Bx (OwnE w1 w.heap.size x1 (l.take k ++ [e]) ∧ OwnI w1 w.heap.size (.slice ay k cy) (l.take k) ∧ Below w.heap.size w w1) := Bx.mk (by
          have hb1 := ownE_below (ownE_a HB.out.1 (.cells #[.int .i64 e] 24)) hg1 (by have := HB.out.2.2.size; simp; omega)
          exact ⟨ho1, own_other13 (by decide) (ownI_a HB.out.2.1 (.cells #[.int .i64 e] 24)) H1.out.1 hg1, (HB.out.2.2.trans ((below_a _).mono HB.out.2.2.size)).trans hb1⟩)
        clear ck c1 H1 HB ho1 hg1
        have hw0 := HW0.out
        have ck := (H2.out.2.2.cell (p := ⟨g, o + k, none⟩) (World.block_lt_of_cell? _ _ hw0)).trans hw0
        have c1 := ((below_a (W := w1) (.cells #[.int .i64 e] 3)).cell (p := ⟨g, o + k, none⟩) (World.block_lt_of_cell? _ _ ck)).trans ck
        have H3 : Bx (OwnI (w1.alloc (.cells #[.int .i64 e] 3)) w.heap.size (.slice ay k cy) (l.take k) ∧ Ints (w1.alloc (.cells #[.int .i64 e] 3)) (.slice (some ⟨w1.heap.size, 0, none⟩) 1 1) [e] ∧ w.heap.size ≤ (w1.alloc (.cells #[.int .i64 e] 3)).heap.size) := Bx.mk ⟨ownI_a H2.out.2.1 _, ints1 _ _ _, by have := H2.out.2.2.size; simp; omega⟩
        clear hw0
        go_wp2_with (refine wpList_apI rfl _ _ rfl w.heap.size _ _ rfl H3.out.1 _ _ rfl H3.out.2.1 (by rw [HLn.out]; simp; omega) H3.out.2.2 ?_; intro y1 w2 ho2 hg2)
        have H4 : Bx (OwnE w2 w.heap.size x1 (l.take (k + 1)) ∧ OwnI w2 w.heap.size y1 (l.take (k + 1)) ∧ Below w.heap.size w w2) := Bx.mk (by
          have hb1 := ownI_below (ownI_a H2.out.2.1 (.cells #[.int .i64 e] 3)) hg2 (by have := H2.out.2.2.size; simp; omega)
          rw [HS.out]
          exact ⟨own_other13 (by decide) (ownE_a H2.out.1 (.cells #[.int .i64 e] 3)) H3.out.1 hg2, ho2, (H2.out.2.2.trans ((below_a _).mono H2.out.2.2.size)).trans hb1⟩)
        clear H3 H2 ho2 hg2 c1 ck
        go_roundw
        case rel => exact ⟨k + 1, by omega, by omega, by go_num, H4⟩
        case measure => simp [intOf]; omega
      · obtain rfl : k = 20 := by omega
        have t1 : ((20 : Nat) : Int) < (n : Int) := by omega
        go_wp2
        go_ret2
        exact ⟨_, _, rfl, HB.out⟩
    · obtain rfl : k = n := by omega
      have HE : Bx (l.take k = l.take 20) := Bx.mk (by rw [List.take_of_length_le (by rw [HN.out]; exact Nat.le_refl _), List.take_of_length_le (by rw [HN.out]; exact hk20)])
      rw [HE.out] at HB
      go_wp2
      go_ret2
      exact ⟨_, _, rfl, HB.out⟩
end Go.Proofs.Ytfommmkkdgdmfaa
namespace Go.Proofs.Ytfommmkkdgdmfaa
open Go Go.RowKit
/-- How often, one number more. -/
def stepD (top e n x : Int) : Int := if x = e ∧ 1 ≤ e ∧ e ≤ 15 ∧ n < top then n + 1 else n
/-- How often a reason is in a list, up to a number. -/
def cntD (top : Int) (l : List Int) (e : Int) : Int := l.foldl (stepD top e) 0
theorem cntD_take (top : Int) (l : List Int) (e : Int) (k : Nat) (hk : k < l.length) : cntD top (l.take (k + 1)) e = stepD top e (cntD top (l.take k) e) (l.getD k 0) := by
  unfold cntD
  rw [List.take_add_one, List.foldl_append, List.getElem?_eq_getElem hk, List.getD_eq_getElem?_getD, List.getElem?_eq_getElem hk]
  rfl
theorem foldD_bound (top e : Int) (l : List Int) : ∀ c : Int, 0 ≤ c → 0 ≤ l.foldl (stepD top e) c ∧ l.foldl (stepD top e) c ≤ c + l.length := by
  induction l with
  | nil => intro c hc; exact ⟨hc, by simp⟩
  | cons x l ih =>
    intro c hc
    have hs : c ≤ stepD top e c x ∧ stepD top e c x ≤ c + 1 := by unfold stepD; split <;> omega
    obtain ⟨h1, h2⟩ := ih (stepD top e c x) (by omega)
    simp only [List.foldl_cons, List.length_cons]
    omega
theorem cntD_bound (top e : Int) (l : List Int) : 0 ≤ cntD top l e ∧ cntD top l e ≤ l.length := by
  have := foldD_bound top e l 0 (Int.le_refl 0)
  unfold cntD
  omega
theorem stepC_get {top : Int} {cs : List Int} (h : Cts top cs) (e : Int) (k : Nat) (hk : k < 16) : (stepC top cs e).getD k 0 = stepD top (k : Int) (cs.getD k 0) e := by
  unfold stepC stepD
  have hh := h.high k
  by_cases he : isRe e = true
  · rw [if_pos he]
    have h2 := (isRe_iff e).1 he
    unfold addC
    rw [getD_set]
    by_cases hj : e.toNat = k
    · rw [if_pos ⟨hj, by rw [h.len]; exact hk⟩, hj]
      split <;> omega
    · rw [if_neg (fun h => hj h.1), if_neg (fun h => hj (by omega))]
  · rw [if_neg he, if_neg (fun h => he ((isRe_iff e).2 (by omega)))]
theorem cntC_get {top : Int} (l : List Int) : ∀ {cs : List Int}, Cts top cs → ∀ k : Nat, k < 16 → (cntC top cs l).getD k 0 = l.foldl (stepD top (k : Int)) (cs.getD k 0) := by
  induction l with
  | nil => intro cs _ k _; rfl
  | cons e l ih =>
    intro cs h k hk
    have := ih (stepC_cts h e) k hk
    rw [stepC_get h e k hk] at this
    exact this
theorem z16_get (k : Nat) : z16.getD k 0 = 0 := by
  rw [List.getD_eq_getElem?_getD, z16, List.getElem?_replicate]
  split <;> rfl
theorem cntC_z16 {top : Int} (h1 : 1 ≤ top) (h2 : top ≤ 2147483647) (l : List Int) (k : Nat) (hk : k < 16) : (cntC top z16 l).getD k 0 = cntD top l (k : Int) := by
  rw [cntC_get l (Cts.start h1 h2) k hk, z16_get]
  rfl
theorem cntC_append (top : Int) (cs l m : List Int) : cntC top cs (l ++ m) = cntC top (cntC top cs l) m := by
  unfold cntC
  rw [List.foldl_append]
/-- The document's drops in their block. -/
def RefB (W : World) (p : Nat) (top : Int) (v : Value) : Prop := W.heap[p]? = some (.cells #[.int .i64 top, v] 31 (0, 0))
theorem RefB.lt {W : World} {p : Nat} {top : Int} {v : Value} (h : RefB W p top v) : p < W.heap.size := (Array.getElem?_eq_some_iff.1 h).1
theorem RefB.later {W W1 : World} {p : Nat} {top : Int} {v : Value} (h : RefB W p top v) (hb : Below W.heap.size W W1) : RefB W1 p top v := (hb.block p h.lt).trans h
theorem RefB.aside {W W1 : World} {p q : Nat} {top : Int} {v : Value} (h : RefB W p top v) (hg : W.grownBy W1 (some q)) (hne : p ≠ q) : RefB W1 p top v := (hg.block p h.lt (fun e => hne (by injection e))).trans h
theorem RefB.cells {W : World} {p : Nat} {top : Int} {v : Value} (h : RefB W p top v) : W.cell? ⟨p, 0, none⟩ = some (.int .i64 top) ∧ W.cell? ⟨p, 1, none⟩ = some v := ⟨by rw [cell_of_row _ _ _ _ _ _ h]; rfl, by rw [cell_of_row _ _ _ _ _ _ h]; rfl⟩
theorem RefB.frozen {W : World} {p : Nat} {top : Int} {v : Value} (h : RefB W p top v) (i : Nat) : W.frozen? ⟨p, i, none⟩ = false := frozen_of_row _ _ _ _ _ h
theorem RefB.kind {W : World} {p : Nat} {top : Int} {v : Value} (h : RefB W p top v) {T : TypeId} (hT : T ≠ 31) : ∀ ds fr, W.heap[p]? ≠ some (.cells ds T fr) := fun ds fr e => by
  rw [h] at e
  injection e with e
  injection e with _ e2
  exact hT e2.symm
theorem RefB.row {W W1 : World} {T : TypeId} (hT : T ≠ 31) {p base n : Nat} {top : Int} {u v : Value} {l : List Value} (h : RefB W p top u) (ho : W.ownsRow base T 1 v n l) (hg : W.grownBy W1 v.ownBlock) : RefB W1 p top u := (hg.block p h.lt (fun e => by
  obtain ⟨ds, fr, hk⟩ := own_kind13 ho p e.symm
  exact h.kind hT ds fr hk)).trans h
set_option maxRecDepth 100000 in
set_option maxHeartbeats 4000000 in
theorem rof_any13 (p : Nat) (top : Int) (l : List Int) (v : Value) (e : Int) (w : World) (h : RefB w p top v) (hv : Ints w v l) (hl : l.length ≤ 100000) : Calls Try.prog 19 #[.pointer (some ⟨p, 0, none⟩), .int .i64 e] w fun x w' => x = .returned (.int .i64 (cntD top l e)) ∧ w' = w := by
  obtain ⟨c0, c1⟩ := h.cells
  have HV := Bx.mk hv
  obtain ⟨a, cap, rfl, -⟩ := hv
  obtain ⟨n, hn⟩ : ∃ n, l.length = n := ⟨_, rfl⟩
  have HN := Bx.mk hn
  rw [hn] at hl HV c1
  have hl1 : (n : Int) ≤ 100000 := by omega
  clear h hn
  go_enter Try.func19, Try.ntmps19
  go_wp2
  go_loopw [5, 6] (fun c i wr => ∃ k : Nat, k ≤ n ∧ i = .int .i64 (k : Int) ∧ c = .int .i64 (cntD top (l.take k) e) ∧ wr = w) (fun _ i _ => n - (intOf i).toNat)
  case atStart => exact ⟨0, by omega, rfl, rfl, rfl⟩
  case round =>
    obtain ⟨k, hk, rfl, rfl, rfl⟩ := hrel
    by_cases hlt : k < n
    · have t1 : (k : Int) < (n : Int) := by omega
      have t3 : (0 : Int) ≤ (k : Int) := by omega
      obtain ⟨a', cap', hv', -, -, hr⟩ := HV.out
      injection hv' with e1 e2 e3
      subst e1
      clear e2 e3
      obtain ⟨g, o, rfl, hf⟩ := hr (by rw [HN.out]; omega)
      have ck := hf k (by rw [HN.out]; exact hlt)
      have HS := Bx.mk (cntD_take top l e k (by rw [HN.out]; exact hlt))
      have HL : Bx (0 ≤ cntD top (l.take k) e ∧ cntD top (l.take k) e ≤ 100000) := Bx.mk (by
        have h1 := cntD_bound top e (l.take k)
        rw [List.length_take, HN.out] at h1
        omega)
      generalize l.getD k 0 = x at *
      clear hr hf
      by_cases g1 : x = e
      · subst g1
        have d1 : decide (x = x) = true := decide_eq_true rfl
        by_cases g2 : 1 ≤ x
        · have d2 : decide (1 ≤ x) = true := decide_eq_true g2
          by_cases g3 : x ≤ 15
          · have d3 : decide (x ≤ 15) = true := decide_eq_true g3
            by_cases g4 : cntD top (l.take k) x < top
            · have d4 : decide (cntD top (l.take k) x < top) = true := decide_eq_true g4
              have HS2 : Bx (cntD top (l.take (k + 1)) x = cntD top (l.take k) x + 1) := Bx.mk (by rw [HS.out]; unfold stepD; rw [if_pos ⟨rfl, g2, g3, g4⟩])
              clear HS
              go_wp2
              go_roundw
              case rel => exact ⟨k + 1, by omega, by go_num, by rw [HS2.out]; have h := HL.out; generalize cntD top (l.take k) x = m at *; congr 1; unfold wrap64; omega, by first | rfl | trivial⟩
              case measure => simp [intOf]; omega
            · have d4 : decide (cntD top (l.take k) x < top) = false := decide_eq_false g4
              have HS2 : Bx (cntD top (l.take (k + 1)) x = cntD top (l.take k) x) := Bx.mk (by rw [HS.out]; unfold stepD; rw [if_neg (fun h => g4 h.2.2.2)])
              clear HS
              go_wp2
              go_roundw
              case rel => exact ⟨k + 1, by omega, by go_num, by rw [HS2.out], by first | rfl | trivial⟩
              case measure => simp [intOf]; omega
          · have d3 : decide (x ≤ 15) = false := decide_eq_false g3
            have HS2 : Bx (cntD top (l.take (k + 1)) x = cntD top (l.take k) x) := Bx.mk (by rw [HS.out]; unfold stepD; rw [if_neg (fun h => g3 h.2.2.1)])
            clear HS
            go_wp2
            go_roundw
            case rel => exact ⟨k + 1, by omega, by go_num, by rw [HS2.out], by first | rfl | trivial⟩
            case measure => simp [intOf]; omega
        · have d2 : decide (1 ≤ x) = false := decide_eq_false g2
          have HS2 : Bx (cntD top (l.take (k + 1)) x = cntD top (l.take k) x) := Bx.mk (by rw [HS.out]; unfold stepD; rw [if_neg (fun h => g2 h.2.1)])
          clear HS
          go_wp2
          go_roundw
          case rel => exact ⟨k + 1, by omega, by go_num, by rw [HS2.out], by first | rfl | trivial⟩
          case measure => simp [intOf]; omega
      · have d1 : decide (x = e) = false := decide_eq_false g1
        have HS2 : Bx (cntD top (l.take (k + 1)) e = cntD top (l.take k) e) := Bx.mk (by rw [HS.out]; unfold stepD; rw [if_neg (fun h => g1 h.1)])
        clear HS
        go_wp2
        go_roundw
        case rel => exact ⟨k + 1, by omega, by go_num, by rw [HS2.out], by first | rfl | trivial⟩
        case measure => simp [intOf]; omega
    · obtain rfl : k = n := by omega
      have HE : Bx (cntD top (l.take k) e = cntD top l e) := Bx.mk (by rw [List.take_of_length_le (by rw [HN.out]; exact Nat.le_refl _)])
      go_wp2
      go_ret
      exact ⟨by rw [← HE.out]; rfl, rfl⟩
end Go.Proofs.Ytfommmkkdgdmfaa
namespace Go.Proofs.Ytfommmkkdgdmfaa
open Go Go.RowKit
set_option maxRecDepth 100000 in
theorem open71 {a : Act} (h : Fr 71 a) : ∃ x : Nat → Value, a = ⟨List.toArray (x 0 :: x 1 :: x 2 :: x 3 :: x 4 :: x 5 :: x 6 :: x 7 :: x 8 :: x 9 :: x 10 :: x 11 :: x 12 :: x 13 :: x 14 :: x 15 :: x 16 :: x 17 :: x 18 :: x 19 :: x 20 :: x 21 :: x 22 :: x 23 :: x 24 :: x 25 :: x 26 :: x 27 :: x 28 :: x 29 :: x 30 :: x 31 :: x 32 :: x 33 :: x 34 :: x 35 :: x 36 :: x 37 :: x 38 :: x 39 :: x 40 :: x 41 :: x 42 :: x 43 :: x 44 :: x 45 :: x 46 :: x 47 :: x 48 :: x 49 :: x 50 :: x 51 :: x 52 :: x 53 :: x 54 :: x 55 :: x 56 :: x 57 :: x 58 :: x 59 :: x 60 :: x 61 :: x 62 :: x 63 :: x 64 :: x 65 :: x 66 :: x 67 :: x 68 :: x 69 :: x 70 :: []), []⟩ ∧ ∀ i, a.eval (.tmp i) = x i := ⟨fun i => a.tmps.getD i undef, h.form, fun _ => rfl⟩
/-- What lies in memory while drops and the document's are held against each other. -/
structure TB (w : World) (q p X : Nat) (top : Int) (cs : List Int) (v : Value) (l : List Int) (W : World) : Prop where
  db : DB W q top cs
  rb : RefB W p top v
  iv : Ints W v l
  box : W.heap[X]? = some (.cells (i64s cs).toArray 35 (0, 0))
  below : Below w.heap.size w W
theorem TB.later {w : World} {q p X : Nat} {top : Int} {cs : List Int} {v : Value} {l : List Int} {W W1 : World} (h : TB w q p X top cs v l W) (hb : Below W.heap.size W W1) : TB w q p X top cs v l W1 :=
  ⟨h.db.later hb, h.rb.later hb, h.iv.later hb, (hb.block X (Array.getElem?_eq_some_iff.1 h.box).1).trans h.box, h.below.trans (hb.mono h.below.size)⟩
theorem TB.cell {w : World} {q p X : Nat} {top : Int} {cs : List Int} {v : Value} {l : List Int} {W : World} (h : TB w q p X top cs v l W) (k : Nat) (hk : k < cs.length) : W.cell? ⟨X, k, none⟩ = some (.int .i64 (cs.getD k 0)) := by
  rw [cell_of_row _ _ _ _ _ _ h.box, List.getElem?_toArray]
  exact i64s_get cs k hk
/-- What stays in the frame. -/
structure FTl (q p X : Nat) (a : Act) : Prop where
  fr : Fr 71 a
  s0 : a.eval (.tmp 0) = .pointer (some ⟨q, 0, none⟩)
  s1 : a.eval (.tmp 1) = .pointer (some ⟨p, 0, none⟩)
  s8 : a.eval (.tmp 8) = .pointer (some ⟨X, 0, none⟩)
/-- Between two rounds. -/
structure ITl (w : World) (q p X : Nat) (top : Int) (cs : List Int) (v : Value) (l : List Int) (k : Nat) (a : Act) (W : World) : Prop where
  fp : FTl q p X a
  s5 : a.eval (.tmp 5) = .int .i64 (totC cs k)
  s6 : a.eval (.tmp 6) = .int .i64 (worC cs k).1
  s7 : a.eval (.tmp 7) = .int .i64 (worC cs k).2
  s9 : a.eval (.tmp 9) = .int .i64 (k : Int)
  st : TB w q p X top cs v l W
set_option maxRecDepth 100000 in
set_option maxHeartbeats 4000000 in
theorem roundTl (w : World) (q p X : Nat) (top : Int) (cs : List Int) (v : Value) (l : List Int) (hc : Cts top cs) (hl : l.length ≤ 100000) (hcs : ∀ k : Nat, k < 16 → cntD top l (k : Int) = cs.getD k 0)
    (Q : Exit → Act → World → Prop) (k : Nat) (a : Act) (wr : World) (hk : k < 16) (h : ITl w q p X top cs v l k a wr) :
    Code.wp Try.prog (loopAt (Try.f10.body) 0) (Exit.then (fun a' w' => ITl w q p X top cs v l (k + 1) a' w') Q) a wr := by
  obtain ⟨hf, s5, s6, s7, s9, hB⟩ := h
  have HR := Bx.mk (rof_any13 p top l v (k : Int) wr hB.rb hB.iv hl)
  have HO := Bx.mk (of_any13 q top cs (k : Int) wr hB.db hc.len)
  rw [hcs k hk] at HR
  rw [show (if isRe (k : Int) = true then cs.getD (k : Int).toNat 0 else 0) = cs.getD k 0 by
    by_cases hr : isRe (k : Int) = true
    · rw [if_pos hr, Int.toNat_natCast]
    · rw [if_neg hr]
      have : k = 0 := by
        by_cases h0 : k = 0
        · exact h0
        · exact absurd ((isRe_iff _).2 (by omega)) hr
      subst this
      exact hc.zero.symm] at HO
  have ck := hB.cell k (by rw [hc.len]; exact hk)
  have HB := Bx.mk hB
  have hlo := hc.low k
  have hhi := hc.high k
  have ht2 := hc.top2
  have htot := totC_bound hc k
  obtain ⟨tn, htn⟩ : ∃ tn, totC cs (k + 1) = tn := ⟨_, rfl⟩
  obtain ⟨wn, hwn⟩ : ∃ wn, worC cs (k + 1) = wn := ⟨_, rfl⟩
  have HT := Bx.mk htn
  have HW := Bx.mk hwn
  unfold totC at htn
  unfold worC at hwn
  generalize totC cs k = ct at *
  generalize worC cs k = cw at *
  generalize cs.getD k 0 = c at *
  obtain ⟨wa, wb⟩ := cw
  simp only at s6 s7 hwn
  have k1 : (k : Int) < 16 := by omega
  have k0 : (0 : Int) ≤ (k : Int) := by omega
  have e1 : IntKind.i64.wrap (ct + c) = tn := by rw [IntKind.wrap_i64]; omega
  have hwk : IntKind.i64.wrap ((k : Int) + 1) = (k : Int) + 1 := by simp [IntKind.wrap_i64]; omega
  have e2 : (c != c) = false := by simp
  obtain ⟨y, rfl, hy⟩ := open71 hf.fr
  have e0 := (hy 0).symm.trans hf.s0
  have e1 := (hy 1).symm.trans hf.s1
  have e5 := (hy 5).symm.trans s5
  have e6 := (hy 6).symm.trans s6
  have e7 := (hy 7).symm.trans s7
  have e8 := (hy 8).symm.trans hf.s8
  have e9 := (hy 9).symm.trans s9
  clear hf hy s5 s6 s7 s9 hB hcs hc hl hlo hhi ht2 htot htn
  rw [e0, e1, e5, e6, e7, e8, e9]
  clear e0 e1 e5 e6 e7 e8 e9
  conv => arg 2; whnf
  by_cases h1 : wb < c
  · rw [if_pos h1] at hwn
    subst hwn
    go_wp2_with (first | (refine HR.out.mono ?_; rintro e w1 ⟨rfl, hw⟩; obtain rfl : wr = w1 := hw.symm; clear hw) | (refine HO.out.mono ?_; rintro e w1 ⟨rfl, hw⟩; obtain rfl : wr = w1 := hw.symm; clear hw))
    skip -- M1
    exact ⟨⟨⟨rfl, rfl⟩, rfl, rfl, rfl⟩, by rw [HT.out]; rfl, by rw [HW.out]; rfl, by rw [HW.out]; rfl, by first | rfl | go_num, HB.out⟩
  · rw [if_neg h1] at hwn
    subst hwn
    go_wp2_with (first | (refine HR.out.mono ?_; rintro e w1 ⟨rfl, hw⟩; obtain rfl : wr = w1 := hw.symm; clear hw) | (refine HO.out.mono ?_; rintro e w1 ⟨rfl, hw⟩; obtain rfl : wr = w1 := hw.symm; clear hw))
    exact ⟨⟨⟨rfl, rfl⟩, rfl, rfl, rfl⟩, by rw [HT.out]; rfl, by rw [HW.out]; rfl, by rw [HW.out]; rfl, by first | rfl | go_num, HB.out⟩
set_option maxRecDepth 100000 in
set_option maxHeartbeats 4000000 in
theorem lastTl (w : World) (q p X : Nat) (top : Int) (cs : List Int) (v : Value) (l : List Int)
    (Q : Exit → Act → World → Prop) (N : Act → World → Prop) (hq : ∀ a' w', FTl q p X a' → a'.eval (.tmp 5) = .int .i64 (totC cs 16) → a'.eval (.tmp 6) = .int .i64 (worC cs 16).1 → a'.eval (.tmp 7) = .int .i64 (worC cs 16).2 → TB w q p X top cs v l w' → Q (.exit 0) a' w') (a : Act) (wr : World) (h : ITl w q p X top cs v l 16 a wr) :
    Code.wp Try.prog (loopAt (Try.f10.body) 0) (Exit.then N Q) a wr := by
  obtain ⟨hf, s5, s6, s7, s9, hB⟩ := h
  have HB := Bx.mk hB
  have HQ := Bx.mk hq
  obtain ⟨x5, h5⟩ : ∃ x, totC cs 16 = x := ⟨_, rfl⟩
  obtain ⟨x6, h6⟩ : ∃ x, (worC cs 16).1 = x := ⟨_, rfl⟩
  obtain ⟨x7, h7⟩ : ∃ x, (worC cs 16).2 = x := ⟨_, rfl⟩
  rw [h5] at s5 HQ
  rw [h6] at s6 HQ
  rw [h7] at s7 HQ
  obtain ⟨y, rfl, hy⟩ := open71 hf.fr
  have e0 := (hy 0).symm.trans hf.s0
  have e1 := (hy 1).symm.trans hf.s1
  have e5 := (hy 5).symm.trans s5
  have e6 := (hy 6).symm.trans s6
  have e7 := (hy 7).symm.trans s7
  have e8 := (hy 8).symm.trans hf.s8
  have e9 := (hy 9).symm.trans s9
  clear hf hy s5 s6 s7 s9 hB hq h5 h6 h7
  rw [e0, e1, e5, e6, e7, e8, e9]
  clear e0 e1 e5 e6 e7 e8 e9
  conv => arg 2; whnf
  go_wp2
  exact HQ.out _ _ ⟨⟨rfl, rfl⟩, rfl, rfl, rfl⟩ rfl rfl rfl HB.out
theorem loopTl (w : World) (q p X : Nat) (top : Int) (cs : List Int) (v : Value) (l : List Int) (hc : Cts top cs) (hl : l.length ≤ 100000) (hcs : ∀ k : Nat, k < 16 → cntD top l (k : Int) = cs.getD k 0)
    (Q : Exit → Act → World → Prop) (a : Act) (wr : World) (h : ITl w q p X top cs v l 0 a wr) (hq : ∀ a' w', FTl q p X a' → a'.eval (.tmp 5) = .int .i64 (totC cs 16) → a'.eval (.tmp 6) = .int .i64 (worC cs 16).1 → a'.eval (.tmp 7) = .int .i64 (worC cs 16).2 → TB w q p X top cs v l w' → Q (.exit 0) a' w') :
    Code.wp Try.prog (.loop (loopAt (Try.f10.body) 0)) Q a wr :=
  wp_count 16 (fun k a w' => ITl w q p X top cs v l k a w') 0 (Nat.zero_le _) h (fun k a w' hk hI => roundTl w q p X top cs v l hc hl hcs Q k a w' hk hI) (fun a w' hI => lastTl w q p X top cs v l Q _ hq a w' hI)
set_option maxRecDepth 100000 in
set_option maxHeartbeats 4000000 in
theorem tells_any (q p : Nat) (top : Int) (cs : List Int) (v : Value) (l : List Int) (w : World) (hd : DB w q top cs) (hc : Cts top cs) (hr : RefB w p top v) (hv : Ints w v l) (hl : l.length ≤ 100000) (hcs : ∀ k : Nat, k < 16 → cntD top l (k : Int) = cs.getD k 0) :
    Calls Try.prog 10 #[.pointer (some ⟨q, 0, none⟩), .pointer (some ⟨p, 0, none⟩)] w fun e w' => e = .returned (.bool true) ∧ Below w.heap.size w w' := by
  have HA := Bx.mk (all_any13 q top cs w hd hc.len)
  have HP := Bx.mk fun (X : Nat) (Q : Exit → Act → World → Prop) (a : Act) (wr : World) => loopTl w q p X top cs v l hc hl hcs Q a wr
  have HWo := Bx.mk fun (W : World) (h : DB W q top cs) => worst_any13 q top cs W h hc
  have HTo := Bx.mk fun (W : World) (h : DB W q top cs) => total_any13 q top cs W h hc
  have HO1 := Bx.mk fun (W : World) (h : DB W q top cs) => of_any13 q top cs (-1) W h hc.len
  have HO2 := Bx.mk fun (W : World) (h : DB W q top cs) => of_any13 q top cs 16 W h hc.len
  rw [if_neg (by decide)] at HO1 HO2
  have H0 : Bx (∀ (w1 w2 : World), Below w.heap.size w w1 → Below w1.heap.size w1 w2 → w2.heap[w1.heap.size]? = some (.cells (i64s cs).toArray 35 (0, 0)) → TB w q p w1.heap.size top cs v l w2) := Bx.mk (fun w1 w2 h1 h2 h3 => by
    have hb := h1.trans (h2.mono h1.size)
    exact ⟨hd.later hb, hr.later hb, hv.later hb, h3, hb⟩)
  have HI := Bx.mk (info16 (i64s cs).toArray.size (by simp [i64s, hc.len]))
  have HSz : Bx ((i64s cs).toArray.size = (i64s z16).toArray.size) := Bx.mk (by simp [i64s, hc.len, z16])
  have HO := Bx.mk (i64s_one cs)
  obtain ⟨ar, har⟩ : ∃ ar, (i64s cs).toArray = ar := ⟨_, rfl⟩
  rw [har] at HA H0 HI HSz HO
  clear hd hc hr hv hl hcs har
  go_enter Try.func10, Try.ntmps10
  go_wp2_with (first | (refine HA.out.mono ?_; rintro e w1 ⟨rfl, hb⟩; have HB1 := Bx.mk hb; clear hb) | (refine wpList_store_var rfl 35 _ _ rfl w1 (i64s z16).toArray 35 (by rfl) (by rfl) ar (by rfl) HSz.out HI.out HO.out ?_; intro w2 hb hr _; have R2 := Bx.mk (H0.out w1 w2 HB1.out hb hr); clear hb hr HB1 HA))
  skip -- M2
  refine HP.out w1.heap.size _ _ _ ⟨⟨⟨rfl, rfl⟩, rfl, rfl, rfl⟩, rfl, rfl, rfl, rfl, R2.out⟩ ?_
  intro a6 w6 hf h5 h6 h7 hB
  have R6 := Bx.mk hB
  obtain ⟨y, rfl, hy⟩ := open71 hf.fr
  have e0 := (hy 0).symm.trans hf.s0
  have e5 := (hy 5).symm.trans h5
  have e6 := (hy 6).symm.trans h6
  have e7 := (hy 7).symm.trans h7
  clear hf hy h5 h6 h7 hB HP R2 H0
  rw [e0, e5, e6, e7]
  clear e0 e5 e6 e7
  generalize totC cs 16 = ct at *
  generalize hwo : worC cs 16 = cw at *
  clear hwo
  obtain ⟨wa, wb⟩ := cw
  simp only at HWo ⊢
  skip -- M3
  go_wp2_with fail
  refine (HWo.out _ R6.out.db).mono ?_
  rintro e w7 ⟨rfl, hb⟩
  have R7 := Bx.mk (R6.out.later hb)
  clear hb R6 HWo
  skip -- M4
  go_wp2_with fail
  refine (HTo.out _ R7.out.db).mono ?_
  rintro e w8 ⟨rfl, hb⟩
  have R8 := Bx.mk (R7.out.later hb)
  clear hb R7 HTo
  go_wp2_with fail
  refine (HO1.out _ R8.out.db).mono ?_
  rintro e w9 ⟨rfl, hw⟩
  obtain rfl : w8 = w9 := hw.symm
  clear hw
  go_wp2_with fail
  refine (HO2.out _ R8.out.db).mono ?_
  rintro e w9 ⟨rfl, hw⟩
  obtain rfl : w8 = w9 := hw.symm
  clear hw
  go_wp2
  go_ret
  exact ⟨rfl, R8.out.below⟩
end Go.Proofs.Ytfommmkkdgdmfaa
namespace Go.Proofs.Ytfommmkkdgdmfaa
open Go Go.ChangeShapes Go.WideShapes Go.ChangeAt Go.RowKit
theorem own : ownKnob Try.prog.godebug = none := by kernel_rfl
theorem laidOut : laidOutB Try.prog = true := by kernel_rfl
end Go.Proofs.Ytfommmkkdgdmfaa
namespace Go.Proofs.Ytfommmkkdgdmfaa
open Go Go.RowKit
set_option maxRecDepth 100000 in
theorem open115 {a : Act} (h : Fr 115 a) : ∃ x : Nat → Value, a = ⟨List.toArray (x 0 :: x 1 :: x 2 :: x 3 :: x 4 :: x 5 :: x 6 :: x 7 :: x 8 :: x 9 :: x 10 :: x 11 :: x 12 :: x 13 :: x 14 :: x 15 :: x 16 :: x 17 :: x 18 :: x 19 :: x 20 :: x 21 :: x 22 :: x 23 :: x 24 :: x 25 :: x 26 :: x 27 :: x 28 :: x 29 :: x 30 :: x 31 :: x 32 :: x 33 :: x 34 :: x 35 :: x 36 :: x 37 :: x 38 :: x 39 :: x 40 :: x 41 :: x 42 :: x 43 :: x 44 :: x 45 :: x 46 :: x 47 :: x 48 :: x 49 :: x 50 :: x 51 :: x 52 :: x 53 :: x 54 :: x 55 :: x 56 :: x 57 :: x 58 :: x 59 :: x 60 :: x 61 :: x 62 :: x 63 :: x 64 :: x 65 :: x 66 :: x 67 :: x 68 :: x 69 :: x 70 :: x 71 :: x 72 :: x 73 :: x 74 :: x 75 :: x 76 :: x 77 :: x 78 :: x 79 :: x 80 :: x 81 :: x 82 :: x 83 :: x 84 :: x 85 :: x 86 :: x 87 :: x 88 :: x 89 :: x 90 :: x 91 :: x 92 :: x 93 :: x 94 :: x 95 :: x 96 :: x 97 :: x 98 :: x 99 :: x 100 :: x 101 :: x 102 :: x 103 :: x 104 :: x 105 :: x 106 :: x 107 :: x 108 :: x 109 :: x 110 :: x 111 :: x 112 :: x 113 :: x 114 :: []), []⟩ ∧ ∀ i, a.eval (.tmp i) = x i := ⟨fun i => a.tmps.getD i undef, h.form, fun _ => rfl⟩
/-- What stays in the frame of the first inner loop. -/
structure FDa (v1 v5 v7 v8 v9 v10 v11 : Value) (a : Act) : Prop where
  fr : Fr 115 a
  s1 : a.eval (.tmp 1) = v1
  s5 : a.eval (.tmp 5) = v5
  s7 : a.eval (.tmp 7) = v7
  s8 : a.eval (.tmp 8) = v8
  s9 : a.eval (.tmp 9) = v9
  s10 : a.eval (.tmp 10) = v10
  s11 : a.eval (.tmp 11) = v11
/-- What stays in the frame of the second inner loop. -/
structure FDb (v1 v5 v7 v8 v11 v14 : Value) (a : Act) : Prop where
  fr : Fr 115 a
  s1 : a.eval (.tmp 1) = v1
  s5 : a.eval (.tmp 5) = v5
  s7 : a.eval (.tmp 7) = v7
  s8 : a.eval (.tmp 8) = v8
  s11 : a.eval (.tmp 11) = v11
  s14 : a.eval (.tmp 14) = v14
/-- Between two rounds of the first inner loop. -/
structure IDa (wf : World) (v1 v5 v7 v8 v9 v10 v11 : Value) (ys : List Int) (j : Nat) (a : Act) (W : World) : Prop where
  fo : FDa v1 v5 v7 v8 v9 v10 v11 a
  s12 : a.eval (.tmp 12) = .int .i64 (reaN (ys.take j) : Int)
  s13 : a.eval (.tmp 13) = .int .i64 (j : Int)
  st : W = wf
/-- Between two rounds of the second inner loop. -/
structure IDb (wf : World) (v1 v5 v7 v8 v11 v14 : Value) (j : Nat) (a : Act) (W : World) : Prop where
  fo : FDb v1 v5 v7 v8 v11 v14 a
  s15 : a.eval (.tmp 15) = .int .i64 (j : Int)
  bel : Below wf.heap.size wf W
set_option maxRecDepth 100000 in
set_option maxHeartbeats 4000000 in
theorem roundDa (wf : World) (v1 v5 v7 v8 v9 v10 v11 : Value) (ys : List Int) (hy0 : Ints wf v10 ys) (hy2 : ys.length ≤ 20)
    (Q : Exit → Act → World → Prop) (j : Nat) (a : Act) (wr : World) (hj : j < ys.length) (h : IDa wf v1 v5 v7 v8 v9 v10 v11 ys j a wr) :
    Code.wp Try.prog (loopAt (Try.f3.body) 1) (Exit.then (fun a' w' => IDa wf v1 v5 v7 v8 v9 v10 v11 ys (j + 1) a' w') Q) a wr := by
  obtain ⟨hf, s12, s13, rfl⟩ := h
  obtain ⟨a0, cg, rfl, -, -, hr⟩ := hy0
  obtain ⟨g, o, rfl, hc⟩ := hr (by omega)
  have ck := hc j hj
  have HN := Bx.mk (reaN_take ys j hj)
  have hm := reaN_le (ys.take j)
  rw [List.length_take] at hm
  generalize reaN (ys.take j) = m at *
  generalize ys.getD j 0 = x at *
  obtain ⟨yn, hyn⟩ : ∃ n, ys.length = n := ⟨_, rfl⟩
  rw [hyn] at hj hy2 hf ⊢
  have t1 : (j : Int) < (yn : Int) := by omega
  have t0 : (0 : Int) ≤ (j : Int) := by omega
  have t2 : (yn : Int) ≤ 20 := by omega
  have hwj : IntKind.i64.wrap ((j : Int) + 1) = (j : Int) + 1 := by simp [IntKind.wrap_i64]; omega
  have hwm : IntKind.i64.wrap ((m : Int) + 1) = (m : Int) + 1 := by simp [IntKind.wrap_i64]; omega
  obtain ⟨y, rfl, hy⟩ := open115 hf.fr
  have e1 := (hy 1).symm.trans hf.s1
  have e5 := (hy 5).symm.trans hf.s5
  have e7 := (hy 7).symm.trans hf.s7
  have e8 := (hy 8).symm.trans hf.s8
  have e9 := (hy 9).symm.trans hf.s9
  have e10 := (hy 10).symm.trans hf.s10
  have e11 := (hy 11).symm.trans hf.s11
  have e12 := (hy 12).symm.trans s12
  have e13 := (hy 13).symm.trans s13
  clear hf hy s12 s13 hj hy2 hyn hr hc hm
  rw [e1, e5, e7, e8, e9, e10, e11, e12, e13]
  clear e1 e5 e7 e8 e9 e10 e11 e12 e13
  conv => arg 2; whnf
  by_cases g1 : 1 ≤ x
  · have d1 : decide (1 ≤ x) = true := decide_eq_true g1
    by_cases g2 : x ≤ 15
    · have d2 : decide (x ≤ 15) = true := decide_eq_true g2
      rw [if_pos ((isRe_iff x).2 ⟨g1, g2⟩)] at HN
      go_wp2
      exact ⟨⟨⟨rfl, rfl⟩, rfl, rfl, rfl, rfl, rfl, rfl, rfl⟩, by rw [HN.out]; rfl, by first | rfl | go_num, rfl⟩
    · have d2 : decide (x ≤ 15) = false := decide_eq_false g2
      rw [if_neg (fun h => g2 ((isRe_iff x).1 h).2)] at HN
      go_wp2
      exact ⟨⟨⟨rfl, rfl⟩, rfl, rfl, rfl, rfl, rfl, rfl, rfl⟩, by rw [HN.out]; rfl, by first | rfl | go_num, rfl⟩
  · have d1 : decide (1 ≤ x) = false := decide_eq_false g1
    rw [if_neg (fun h => g1 ((isRe_iff x).1 h).1)] at HN
    go_wp2
    exact ⟨⟨⟨rfl, rfl⟩, rfl, rfl, rfl, rfl, rfl, rfl, rfl⟩, by rw [HN.out]; rfl, by first | rfl | go_num, rfl⟩
set_option maxRecDepth 100000 in
set_option maxHeartbeats 4000000 in
theorem lastDa (wf : World) (v1 v5 v7 v8 v9 v10 v11 : Value) (ys : List Int) (hy0 : Ints wf v10 ys) (hy2 : ys.length ≤ 20)
    (Q : Exit → Act → World → Prop) (N : Act → World → Prop) (hq : ∀ a', FDa v1 v5 v7 v8 v9 v10 v11 a' → a'.eval (.tmp 12) = .int .i64 (reaN ys : Int) → Q (.exit 2) a' wf) (a : Act) (wr : World) (h : IDa wf v1 v5 v7 v8 v9 v10 v11 ys ys.length a wr) :
    Code.wp Try.prog (loopAt (Try.f3.body) 1) (Exit.then N Q) a wr := by
  obtain ⟨hf, s12, s13, rfl⟩ := h
  rw [List.take_length] at s12
  have HQ := Bx.mk hq
  obtain ⟨a0, cg, rfl, -⟩ := hy0
  generalize reaN ys = m at *
  obtain ⟨yn, hyn⟩ : ∃ n, ys.length = n := ⟨_, rfl⟩
  rw [hyn] at s13 hy2 hf HQ
  have t2 : (yn : Int) ≤ 20 := by omega
  obtain ⟨y, rfl, hy⟩ := open115 hf.fr
  have e1 := (hy 1).symm.trans hf.s1
  have e5 := (hy 5).symm.trans hf.s5
  have e7 := (hy 7).symm.trans hf.s7
  have e8 := (hy 8).symm.trans hf.s8
  have e9 := (hy 9).symm.trans hf.s9
  have e10 := (hy 10).symm.trans hf.s10
  have e11 := (hy 11).symm.trans hf.s11
  have e12 := (hy 12).symm.trans s12
  have e13 := (hy 13).symm.trans s13
  clear hf hy s12 s13 hy2 hyn hq
  rw [e1, e5, e7, e8, e9, e10, e11, e12, e13]
  clear e1 e5 e7 e8 e9 e10 e11 e12 e13
  conv => arg 2; whnf
  go_wp2
  exact HQ.out _ ⟨⟨rfl, rfl⟩, rfl, rfl, rfl, rfl, rfl, rfl, rfl⟩ rfl
theorem loopDa (wf : World) (v1 v5 v7 v8 v9 v10 v11 : Value) (ys : List Int) (hy0 : Ints wf v10 ys) (hy2 : ys.length ≤ 20)
    (Q : Exit → Act → World → Prop) (a : Act) (h : IDa wf v1 v5 v7 v8 v9 v10 v11 ys 0 a wf) (hq : ∀ a', FDa v1 v5 v7 v8 v9 v10 v11 a' → a'.eval (.tmp 12) = .int .i64 (reaN ys : Int) → Q (.exit 2) a' wf) :
    Code.wp Try.prog (.loop (loopAt (Try.f3.body) 1)) Q a wf :=
  wp_count ys.length (fun j a w' => IDa wf v1 v5 v7 v8 v9 v10 v11 ys j a w') 0 (Nat.zero_le _) h (fun j a w' hj hI => roundDa wf v1 v5 v7 v8 v9 v10 v11 ys hy0 hy2 Q j a w' hj hI) (fun a w' hI => lastDa wf v1 v5 v7 v8 v9 v10 v11 ys hy0 hy2 Q _ hq a w' hI)
set_option maxRecDepth 100000 in
set_option maxHeartbeats 4000000 in
theorem roundDb (wf : World) (v1 v5 v7 v8 : Value) (X Y : Nat) (cs ds : List Int) (hX : wf.heap[X]? = some (.cells (i64s cs).toArray 35 (0, 0))) (hY : wf.heap[Y]? = some (.cells (i64s ds).toArray 35 (0, 0))) (hc : cs.length = 16) (hd : ds.length = 16) (hle : ∀ k : Nat, k < 16 → cs.getD k 0 ≤ ds.getD k 0)
    (Q : Exit → Act → World → Prop) (j : Nat) (a : Act) (wr : World) (hj : j < 16) (h : IDb wf v1 v5 v7 v8 (.pointer (some ⟨X, 0, none⟩)) (.pointer (some ⟨Y, 0, none⟩)) j a wr) :
    Code.wp Try.prog (loopAt (Try.f3.body) 2) (Exit.then (fun a' w' => IDb wf v1 v5 v7 v8 (.pointer (some ⟨X, 0, none⟩)) (.pointer (some ⟨Y, 0, none⟩)) (j + 1) a' w') Q) a wr := by
  obtain ⟨hf, s15, hbel⟩ := h
  have cX : wr.cell? ⟨X, j, none⟩ = some (.int .i64 (cs.getD j 0)) := by
    rw [cell_of_row _ _ _ _ _ _ ((hbel.block X (Array.getElem?_eq_some_iff.1 hX).1).trans hX), List.getElem?_toArray]
    exact i64s_get cs j (by omega)
  have cY : wr.cell? ⟨Y, j, none⟩ = some (.int .i64 (ds.getD j 0)) := by
    rw [cell_of_row _ _ _ _ _ _ ((hbel.block Y (Array.getElem?_eq_some_iff.1 hY).1).trans hY), List.getElem?_toArray]
    exact i64s_get ds j (by omega)
  have HB := Bx.mk hbel
  have hl := hle j hj
  generalize cs.getD j 0 = c at *
  generalize ds.getD j 0 = d at *
  have t1 : (j : Int) < 16 := by omega
  have t0 : (0 : Int) ≤ (j : Int) := by omega
  have d1 : decide (d < c) = false := decide_eq_false (by omega)
  have hwj : IntKind.i64.wrap ((j : Int) + 1) = (j : Int) + 1 := by simp [IntKind.wrap_i64]; omega
  obtain ⟨y, rfl, hy⟩ := open115 hf.fr
  have e1 := (hy 1).symm.trans hf.s1
  have e5 := (hy 5).symm.trans hf.s5
  have e7 := (hy 7).symm.trans hf.s7
  have e8 := (hy 8).symm.trans hf.s8
  have e11 := (hy 11).symm.trans hf.s11
  have e14 := (hy 14).symm.trans hf.s14
  have e15 := (hy 15).symm.trans s15
  clear hf hy s15 hbel hj hX hY hc hd hle hl
  rw [e1, e5, e7, e8, e11, e14, e15]
  clear e1 e5 e7 e8 e11 e14 e15
  conv => arg 2; whnf
  go_wp2
  go_quiet (fail)
  have HB4 := Bx.mk (below_drewN HB.out nq)
  clear cX cY
  generalize wr.drewN nq = w4 at *
  go_wp2
  exact ⟨⟨⟨rfl, rfl⟩, rfl, rfl, rfl, rfl, rfl, rfl⟩, by first | rfl | go_num, HB4.out⟩
theorem lastDb (wf : World) (v1 v5 v7 v8 v11 v14 : Value)
    (Q : Exit → Act → World → Prop) (N : Act → World → Prop) (hq : ∀ a' w', FDb v1 v5 v7 v8 v11 v14 a' → Below wf.heap.size wf w' → Q (.exit 4) a' w') (a : Act) (wr : World) (h : IDb wf v1 v5 v7 v8 v11 v14 16 a wr) :
    Code.wp Try.prog (loopAt (Try.f3.body) 2) (Exit.then N Q) a wr := by
  obtain ⟨hf, s15, hbel⟩ := h
  have HB := Bx.mk hbel
  have HQ := Bx.mk hq
  obtain ⟨y, rfl, hy⟩ := open115 hf.fr
  have e1 := (hy 1).symm.trans hf.s1
  have e5 := (hy 5).symm.trans hf.s5
  have e7 := (hy 7).symm.trans hf.s7
  have e8 := (hy 8).symm.trans hf.s8
  have e11 := (hy 11).symm.trans hf.s11
  have e14 := (hy 14).symm.trans hf.s14
  have e15 := (hy 15).symm.trans s15
  clear hf hy s15 hbel hq
  rw [e1, e5, e7, e8, e11, e14, e15]
  clear e1 e5 e7 e8 e11 e14 e15
  conv => arg 2; whnf
  go_wp2
  exact HQ.out _ _ ⟨⟨rfl, rfl⟩, rfl, rfl, rfl, rfl, rfl, rfl⟩ HB.out
theorem loopDb (wf : World) (v1 v5 v7 v8 : Value) (X Y : Nat) (cs ds : List Int) (hX : wf.heap[X]? = some (.cells (i64s cs).toArray 35 (0, 0))) (hY : wf.heap[Y]? = some (.cells (i64s ds).toArray 35 (0, 0))) (hc : cs.length = 16) (hd : ds.length = 16) (hle : ∀ k : Nat, k < 16 → cs.getD k 0 ≤ ds.getD k 0)
    (Q : Exit → Act → World → Prop) (a : Act) (h : IDb wf v1 v5 v7 v8 (.pointer (some ⟨X, 0, none⟩)) (.pointer (some ⟨Y, 0, none⟩)) 0 a wf) (hq : ∀ a' w', FDb v1 v5 v7 v8 (.pointer (some ⟨X, 0, none⟩)) (.pointer (some ⟨Y, 0, none⟩)) a' → Below wf.heap.size wf w' → Q (.exit 4) a' w') :
    Code.wp Try.prog (.loop (loopAt (Try.f3.body) 2)) Q a wf :=
  wp_count 16 (fun j a w' => IDb wf v1 v5 v7 v8 (.pointer (some ⟨X, 0, none⟩)) (.pointer (some ⟨Y, 0, none⟩)) j a w') 0 (Nat.zero_le _) h (fun j a w' hj hI => roundDb wf v1 v5 v7 v8 X Y cs ds hX hY hc hd hle Q j a w' hj hI) (fun a w' hI => lastDb wf v1 v5 v7 v8 (.pointer (some ⟨X, 0, none⟩)) (.pointer (some ⟨Y, 0, none⟩)) Q _ hq a w' hI)
end Go.Proofs.Ytfommmkkdgdmfaa
namespace Go.Proofs.Ytfommmkkdgdmfaa
open Go Go.RowKit
/-- Rows behind a slice of slices. -/
def NssR (w : World) (v : Value) (nss : List (List Int)) : Prop :=
  ∃ a cap, v = .slice a nss.length cap ∧ (0 < nss.length → ∃ p o, a = some ⟨p, o, none⟩ ∧ ∀ j, j < nss.length → ∃ x, w.cell? ⟨p, o + j, none⟩ = some x ∧ Ints w x (nss.getD j []))
theorem NssR.form {w : World} {v : Value} {nss : List (List Int)} (h : NssR w v nss) : ∃ a cap, v = .slice a nss.length cap := by
  obtain ⟨a, cap, hv, _⟩ := h
  exact ⟨a, cap, hv⟩
theorem NssR.start {w : World} {v : Value} {nss : List (List Int)} (h : NssR w v nss) (hp : 0 < nss.length) : ∃ p o cap, v = .slice (some ⟨p, o, none⟩) nss.length cap ∧ ∀ j, j < nss.length → ∃ x, w.cell? ⟨p, o + j, none⟩ = some x ∧ Ints w x (nss.getD j []) := by
  obtain ⟨a, cap, hv, hr⟩ := h
  obtain ⟨p, o, ha, hf⟩ := hr hp
  exact ⟨p, o, cap, by rw [hv, ha], hf⟩
open Go.ChangeShapes Go.WideShapes Go.ChangeAt in
theorem open_nss {H : Type} {enc : TypeId × Value → H} {W : World} {a : Option Addr} {len cap : Nat} {d : DataW H} {p : List MemPlace} (h : DataW.Trod enc Try.prog W 0 (fun _ => true) true 22 (.slice a len cap) d p) :
    ∃ nss, NssR W (.slice a len cap) nss ∧ nss.length ≤ 9223372036854775807 ∧ ∀ q ∈ nss, q.length ≤ 9223372036854775807 := by
  obtain ⟨fuel, hf⟩ := h
  rcases Deep.open_int_rows Try.underlying22 Try.underlying29 Try.underlying3 (by kernel_rfl) (by kernel_rfl) hf with ⟨hcs, _⟩ | ⟨x, l, c, A, L, C, Z, hcs, _, hl, hm, _, hr⟩
  · simp [Value.cells] at hcs
    obtain ⟨rfl, rfl, rfl⟩ := hcs
    exact ⟨[], ⟨none, 0, rfl, fun h => by simp at h⟩, by simp, fun q hq => by simp at hq⟩
  · simp [Value.cells] at hcs
    obtain ⟨rfl, rfl, rfl⟩ := hcs
    have hm' : cap ≤ 9223372036854775807 := hm
    have hrow : ∀ r, r < len → ∃ ns, Ints W (.slice (A r) (L r) (C r)) ns ∧ ns.length ≤ 9223372036854775807 := fun r hrl => by
      obtain ⟨hc, h1, h2, h3, h4, h5, h6⟩ := hr r (by omega)
      have h2' : C r ≤ 9223372036854775807 := h2
      match hA : A r with
      | none =>
        have hC := h5 hA
        exact ⟨[], ⟨none, C r, by rw [show L r = 0 by omega]; rfl, Nat.zero_le _, fun _ => hC, fun hp => by simp at hp⟩, by simp⟩
      | some y =>
        refine ⟨(Z r).take (L r), ⟨some y, C r, ?_, ?_, (fun h => by cases h), fun hp => ?_⟩, by rw [List.length_take]; omega⟩
        · rw [List.length_take, Nat.min_eq_left (by omega)]
        · rw [List.length_take]; omega
        · rw [List.length_take] at hp
          obtain ⟨b, off, rfl, hc'⟩ := ints_at (fun i hi => (h6 y hA).2 i (by omega)) (by omega)
          refine ⟨b, off, rfl, fun j hj => ?_⟩
          rw [List.length_take] at hj
          rw [hc' j (by omega)]
          have hjz : j < (Z r).length := by omega
          simp [hjz, show j < L r by omega]
    obtain ⟨f, hfb⟩ := Deep.choose_lt hrow
    have hlen : ((List.range len).map f).length = len := by simp
    refine ⟨(List.range len).map f, ⟨some x, cap, by rw [hlen], fun hp => ?_⟩, by rw [hlen]; omega, fun q hq => ?_⟩
    · rw [hlen] at hp
      obtain ⟨b, off, spot⟩ := x
      have hspot : spot = none := by simpa [Addr.add] using World.cell?_spot (hr 0 (by omega)).1
      subst hspot
      refine ⟨b, off, rfl, fun j hj => ?_⟩
      rw [hlen] at hj
      refine ⟨_, by rw [← Go.WideShapes.add_plain]; exact (hr j (by omega)).1, ?_⟩
      have e : ((List.range len).map f).getD j [] = f j := by simp [hj]
      rw [e]
      exact (hfb j hj).1
    · obtain ⟨r, hr1, rfl⟩ := List.mem_map.1 hq
      exact (hfb r (List.mem_range.1 hr1)).2
end Go.Proofs.Ytfommmkkdgdmfaa
