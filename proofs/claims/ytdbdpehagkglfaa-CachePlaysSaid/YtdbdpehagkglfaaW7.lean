/-
  A book: Drop.
-/
import Derived.Test.YtdbdpehagkglfaaH18
import Derived.Test.YtdbdpehagkglfaaCu
import Derived.Test.YtdbdpehagkglfaaRows
import Derived.ProofKit
import Derived.OpenShut
import Derived.ChangeOld
import Derived.Below
import Derived.Deep.DeepHandedRow
import Derived.Deep.Matrix
import Derived.Deep.Slices
import Derived.Test.YtdbdpehagkglfaaH4
namespace Go.Proofs.Ytdbdpehagkglfaa
open Go Go.RowKit
theorem step_del15 {w w1 : World} {ops : Array Oper} {o : Oper} {a : Act} {K : Act → World → Prop} {Q : Exit → Act → World → Prop} {E : Prop} (hgd : o.guard = none) (x y : Operand)
    (ho : o.op = .call { callee := .builtin .delete, args := #[x, y], argTypes := #[69, 34] }) (hrun : (Builtin.delete_ #[69, 34] o.type #[a.eval x, a.eval y]).run Try.prog w = .ok (.tuple #[]) w1) (h : K (a.put o.dst (.tuple #[])) w1) :
    if Region.wanted o (yielded ops a.tmps) = true then Oper.wp Try.prog o a w K Q else E := by
  have hw : Region.wanted o (yielded ops a.tmps) = true := by simp [Region.wanted, hgd]
  rw [if_pos hw]
  unfold Oper.wp
  simp [execOp, ho, resolve, invoke, builtin, hrun, Result.andThen]
  exact h
theorem BookAt.del {B Q : Nat} {l : List En} {W : World} (h : BookAt B Q l W) (c : Cl) (hc : Cl64 c) (mb : Option Nat) (hM : W.cell? ⟨Q, 0, none⟩ = some (.map mb)) (ty : TypeId) :
    ∃ W2, (Builtin.delete_ #[69, 34] ty #[.map mb, clV c]).run Try.prog W = .ok (.tuple #[]) W2 ∧ BookAt B Q (l.filter fun e => decide (e.c ≠ c)) W2 ∧ KB B W W2 ∧ (W2 = W ∨ ∃ M, W.grownBy W2 (some M) ∧ (∃ es clock, W.heap[M]? = some (.map es clock))) ∧ W2.heap[Q]? = W.heap[Q]? := by
  obtain ⟨mb', ml, h1, h2, h3⟩ := h.row
  have h4 : W.cell? ⟨Q, 0, none⟩ = some (.map mb') := by rw [cell_of_row _ _ _ _ _ _ h1]; rfl
  rw [hM] at h4
  injection h4 with h4
  injection h4 with h4
  subst h4
  cases mb with
  | none =>
    have h5 := MapL.none_nil h2
    subst h5
    have h6 : l = [] := List.map_eq_nil_iff.1 h3.symm.eq_nil
    subst h6
    obtain ⟨kl, hk⟩ := key_cl c hc
    exact ⟨W, by simp [Builtin.delete_, run_underlying Try.underlying69, clKeyed.check W _ hk, Result.andThen], h, KB.refl _ _, .inl rfl, rfl⟩
  | some M =>
    obtain ⟨ml, h5, h6, h7, h8⟩ := h.mapOf hM
    obtain ⟨W2, hrun, hm2, hg⟩ := h7.dropG _ _ Try.underlying69 c hc ty
    have hk : KB B W W2 := KB.by_ hg h6 h7.soft
    have hQM : Q ≠ M := row_ne_map h5 h7
    have hQ2 := hg.block Q h.lt (fun ex => hQM (by injection ex))
    refine ⟨W2, hrun, ⟨⟨some M, _, hQ2.trans h5, .inr ⟨M, rfl, h6, hm2⟩, ?_⟩, fun y hy => ?_, h.dist.filter _, h.keys.filter _, h.qB⟩, hk, .inr ⟨M, hg, by obtain ⟨es, clock, hb, -⟩ := h7.st; exact ⟨es, clock, hb⟩⟩, hQ2⟩
    · have h9 := h8.filter fun y => decide (y.1 ≠ c)
      have h10 : (prsE l).filter (fun y => decide (y.1 ≠ c)) = prsE (l.filter fun e => decide (e.c ≠ c)) := by
        unfold prsE
        rw [List.filter_map]
        rfl
      rw [h10] at h9
      exact h9
    · have hy := (List.mem_filter.1 hy).1
      exact (h.ent y hy).keepB hk (hg.block _ (h.ent y hy).lt (fun ex => (h.ent y hy).ne_map h7 (by injection ex)))
theorem rng4 {W : World} {g o : Nat} {a b c d : Value} (h : W.rangeAt g o [a, b, c, d]) : W.cell? ⟨g, o, none⟩ = some a ∧ W.cell? ⟨g, o + 1, none⟩ = some b ∧ W.cell? ⟨g, o + 2, none⟩ = some c ∧ W.cell? ⟨g, o + 3, none⟩ = some d := ⟨h 0 a rfl, h 1 b rfl, h 2 c rfl, h 3 d rfl⟩
/-- What is left behind a drop. -/
def leftE (l : List En) (cs : List Cl) : List En := l.filter fun e => decide (e.c ∉ cs)
theorem leftE_nil (l : List En) : leftE l [] = l := List.filter_eq_self.2 fun e _ => by simp
theorem leftE_snoc (l : List En) (cs : List Cl) (c : Cl) : leftE l (cs ++ [c]) = (leftE l cs).filter fun e => decide (e.c ≠ c) := by
  unfold leftE
  rw [List.filter_filter]
  refine List.filter_congr fun e _ => ?_
  rw [← Bool.decide_and]
  congr 1
  simp only [List.mem_append, List.mem_singleton, eq_iff_iff]
  constructor
  · exact fun h => ⟨fun h1 => h (.inr h1), fun h1 => h (.inl h1)⟩
  · rintro ⟨h1, h2⟩ (h3 | h3)
    · exact h2 h3
    · exact h1 h3
theorem takeC_succ (cs : List Cl) (k : Nat) (hk : k < cs.length) : cs.take (k + 1) = cs.take k ++ [cs.getD k c0] := by
  rw [List.take_add_one, show cs[k]? = some (cs.getD k c0) by simp [hk]]
  rfl
set_option maxRecDepth 100000 in
set_option maxHeartbeats 4000000 in
theorem drop_any15 (B Q : Nat) (l : List En) (v : Value) (cs : List Cl) (w : World) (h : BookAt B Q l w) (hl : l.length ≤ 1000) (hv : RowC w v cs) (hcs : cs.length ≤ 1000) (hfit : ∀ c ∈ cs, Cl64 c) :
    Calls Try.prog 20 #[ptr Q, v] w fun x w' => x = .returned (.int .i64 ((l.length : Int) - ((leftE l cs).length : Int))) ∧ Keeps B Q (leftE l cs) w w' ∧ RowC w' v cs := by
  obtain ⟨mb, hM, -, hln⟩ := h.look c0 (by unfold Cl64 in64 c0; simp)
  have HL : Bx (∀ W, BookAt B Q (leftE l cs) W → W.cell? ⟨Q, 0, none⟩ = some (.map mb) → ∀ ty, (Builtin.len_ #[69] ty #[.map mb]).run Try.prog W = .ok (.int .i64 ((leftE l cs).length : Int)) W) := Bx.mk fun W hb hm ty => by
    obtain ⟨mb2, h1, -, h2⟩ := hb.look c0 (by unfold Cl64 in64 c0; simp)
    rw [hm] at h1
    injection h1 with h1
    injection h1 with h1
    subst h1
    exact h2 ty
  have HLe : Bx ((leftE l cs).length ≤ l.length ∧ l.length ≤ 1000) := Bx.mk ⟨List.length_filter_le _ _, hl⟩
  have HF := Bx.mk hfit
  have H0 : Bx (BookAt B Q (leftE l (cs.take 0)) w ∧ KB B w w ∧ RowC w v cs ∧ w.cell? ⟨Q, 0, none⟩ = some (.map mb)) := Bx.mk ⟨by rw [List.take_zero, leftE_nil]; exact h, KB.refl _ _, hv, hM⟩
  obtain ⟨a, cap, rfl⟩ := hv.form
  obtain ⟨n, hn⟩ : ∃ n, cs.length = n := ⟨_, rfl⟩
  rw [hn] at H0 hcs ⊢
  have HN := Bx.mk hn
  obtain ⟨nl, hnl⟩ : ∃ nl, l.length = nl := ⟨_, rfl⟩
  rw [hnl] at hln HLe ⊢
  obtain ⟨l2, hl2⟩ : ∃ l2, (leftE l cs).length = l2 := ⟨_, rfl⟩
  rw [hl2] at HL HLe ⊢
  clear h hv hfit hn hl hnl hl2
  unfold ptr
  go_enter Try.func20, Try.ntmps20
  go_wp2
  clear hln
  go_loopw [17] (fun j wr => ∃ k : Nat, k ≤ n ∧ j = .int .i64 (k : Int) ∧ Bx (BookAt B Q (leftE l (cs.take k)) wr ∧ KB B w wr ∧ RowC wr (.slice a n cap) cs ∧ wr.cell? ⟨Q, 0, none⟩ = some (.map mb))) (fun j _ => n - (intOf j).toNat)
  case atStart => exact ⟨0, Nat.zero_le _, rfl, H0⟩
  case round =>
    clear H0 hM
    obtain ⟨k, hk, rfl, HI⟩ := hrel
    by_cases hlt : k < n
    · have hlt' : (k : Int) < (n : Int) := by omega
      obtain ⟨g, rfl, -, hrg⟩ := HI.out.2.2.1.at_ k (by rw [HN.out]; exact hlt)
      have HS : Bx (leftE l (cs.take (k + 1)) = (leftE l (cs.take k)).filter fun e => decide (e.c ≠ cs.getD k c0)) := Bx.mk (by rw [takeC_succ cs k (by rw [HN.out]; exact hlt), leftE_snoc])
      have HC : Bx (Cl64 (cs.getD k c0)) := Bx.mk (HF.out _ (by
        have hks : k < cs.length := by rw [HN.out]; exact hlt
        rw [show cs.getD k c0 = cs[k] by simp [hks]]
        exact List.getElem_mem hks))
      generalize cs.getD k c0 = y at *
      obtain ⟨i, r, x, q⟩ := y
      simp only at hrg
      obtain ⟨g0, g1, g2, g3⟩ := rng4 hrg
      have R0 : Bx (BookAt B Q (leftE l (cs.take k)) (wr.alloc (.cells #[.int .i64 i, .int .i64 r, .int .i64 x, .int .i64 q] 34)).drew ∧ KB B w (wr.alloc (.cells #[.int .i64 i, .int .i64 r, .int .i64 x, .int .i64 q] 34)).drew ∧ RowC (wr.alloc (.cells #[.int .i64 i, .int .i64 r, .int .i64 x, .int .i64 q] 34)).drew (.slice (some ⟨g, 0, none⟩) n cap) cs ∧ (wr.alloc (.cells #[.int .i64 i, .int .i64 r, .int .i64 x, .int .i64 q] 34)).drew.cell? ⟨Q, 0, none⟩ = some (.map mb) ∧ (wr.alloc (.cells #[.int .i64 i, .int .i64 r, .int .i64 x, .int .i64 q] 34)).drew.heap[wr.heap.size]? = some (.cells #[.int .i64 i, .int .i64 r, .int .i64 x, .int .i64 q] 34 (0, 0))) := Bx.mk (by
        have hb : Below wr.heap.size wr (wr.alloc (.cells #[.int .i64 i, .int .i64 r, .int .i64 x, .int .i64 q] 34)).drew := (below_a _).drew
        exact ⟨HI.out.1.later hb, HI.out.2.1.trans (KB.of hb), HI.out.2.2.1.later hb, (hb.cell (p := ⟨Q, 0, none⟩) HI.out.1.lt).trans HI.out.2.2.2, hnew _ _ _ rfl⟩)
      clear HI hrg
      go_upto_region 7 with fail
      clear g0 g1 g2 g3
      generalize hX : wr.heap.size = X at *
      generalize wr.alloc (.cells #[.int .i64 i, .int .i64 r, .int .i64 x, .int .i64 q] 34) = w1 at *
      refine wp_region_noPanic ?_
      refine wp_region_held_drew (S := fun W => W.cell? ⟨Q, 0, none⟩ = some (.map mb) ∧ W.rangeAt X 0 [.int .i64 i, .int .i64 r, .int .i64 x, .int .i64 q]) (by kernel_rfl) (⟨R0.out.2.2.2.1, row_rng15 (l := [.int .i64 i, .int .i64 r, .int .i64 x, .int .i64 q]) R0.out.2.2.2.2⟩) (fun hHeld => ?_)
      generalize w1.drew = W0 at *
      refine takeL 0 (v := ?_) rfl (by kernel_rfl) (by kernel_rfl) (by kernel_rfl) (fun _ _ _ h => h) (Or.inl ⟨by rfl, ?_⟩) hHeld ?_
      rotate_left 1
      · (intro w hSw; go_simp; try with_reducible rfl)
      try simp only [Act.put, List.setIfInBounds_toArray, List.set_cons_zero, List.set_cons_succ]
      refine takeL 1 (v := ?_) rfl (by kernel_rfl) (by kernel_rfl) (by kernel_rfl) (fun _ _ _ h => h) (Or.inl ⟨by rfl, ?_⟩) hHeld ?_
      rotate_left 1
      · (intro w hSw; go_simp; try with_reducible rfl)
      try simp only [Act.put, List.setIfInBounds_toArray, List.set_cons_zero, List.set_cons_succ]
      refine takeL 2 (v := ?_) rfl (by kernel_rfl) (by kernel_rfl) (by kernel_rfl) (fun _ _ _ h => h) (Or.inl ⟨by rfl, ?_⟩) hHeld ?_
      rotate_left 1
      · (intro w hSw; go_simp; try with_reducible rfl)
      try simp only [Act.put, List.setIfInBounds_toArray, List.set_cons_zero, List.set_cons_succ]
      refine takeL 3 (v := ?_) rfl (by kernel_rfl) (by kernel_rfl) (by kernel_rfl) (fun _ _ _ h => h) (Or.inl ⟨by rfl, ?_⟩) hHeld ?_
      rotate_left 1
      · (intro w hSw; have h1 := hSw.1; go_simp; try with_reducible rfl)
      try simp only [Act.put, List.setIfInBounds_toArray, List.set_cons_zero, List.set_cons_succ]
      refine takeL 4 rfl (by kernel_rfl) (by kernel_rfl) (by kernel_rfl) (fun _ _ _ h => h) (yieldsIf_load_mid (by rfl) _ _ rfl _ _ rfl _ _ (fun w hSw => hSw.2) Try.underlying34 rfl (by kernel_rfl)) hHeld ?_
      try simp only [Act.put, List.setIfInBounds_toArray, List.set_cons_zero, List.set_cons_succ]
      refine stepL 5 (by kernel_rfl) rfl (fun K hK => ?_)
      obtain ⟨W2, hrun, hb2, hk2, hor, hQ2⟩ := R0.out.1.del ⟨i, r, x, q⟩ HC.out mb R0.out.2.2.2.1 0
      refine step_del15 rfl _ _ rfl hrun ?_
      have R2 : Bx (BookAt B Q (leftE l (cs.take (k + 1))) W2 ∧ KB B w W2 ∧ RowC W2 (.slice (some ⟨g, 0, none⟩) n cap) cs ∧ W2.cell? ⟨Q, 0, none⟩ = some (.map mb)) := Bx.mk ⟨by rw [HS.out]; exact hb2, R0.out.2.1.trans hk2, by
        rcases hor with rfl | ⟨M, hg, hm⟩
        · exact R0.out.2.2.1
        · exact R0.out.2.2.1.map_aside hg hm, (cell_heap hQ2).trans R0.out.2.2.2.1⟩
      refine hK.out _ _ (⟨R2.out.2.2.2, row_rng15 (l := [.int .i64 i, .int .i64 r, .int .i64 x, .int .i64 q]) (hk2.block _ _ R0.out.2.2.2.2 (.inr (hard_cells (by decide) (by decide))))⟩) (fun hHeld => ?_)
      clear hK K hrun hb2 hk2 hor hQ2 R0
      try simp only [Act.put, List.setIfInBounds_toArray, List.set_cons_zero, List.set_cons_succ]
      refine wpAnyH_done (by kernel_rfl) ?_ _
      refine NoPanic.normal ?_
      clear hHeld
      go_wp2
      go_roundw
      case rel => exact ⟨k + 1, by omega, by go_num, R2⟩
      case measure => simp [intOf]; omega
    · have ek : k = n := by omega
      have HE : Bx (BookAt B Q (leftE l cs) wr ∧ KB B w wr ∧ RowC wr (.slice a n cap) cs) := Bx.mk (by
        have h1 := HI.out.1
        rw [ek, ← HN.out, List.take_length] at h1
        exact ⟨h1, HI.out.2.1, HI.out.2.2.1⟩)
      have hM1 := HI.out.2.2.2
      have hln1 := HL.out wr HE.out.1 hM1
      have hlt' : ¬ (k : Int) < (n : Int) := by omega
      have hw : IntKind.i64.wrap ((nl : Int) - (l2 : Int)) = (nl : Int) - (l2 : Int) := by have := HLe.out; simp [IntKind.wrap_i64]; omega
      clear ek HI HL
      go_wp2
      go_ret
      exact ⟨rfl, ⟨HE.out.1, HE.out.2.1⟩, HE.out.2.2⟩
end Go.Proofs.Ytdbdpehagkglfaa
namespace Go.Proofs.Ytdbdpehagkglfaa
open Go Go.RowKit
set_option maxRecDepth 100000 in
set_option maxHeartbeats 4000000 in
theorem only1_any (B : Nat) (e : En) (T : Nat) (v : Value) (cs : List Cl) (w : World) (h : EntAt B w e) (hT : w.cell? ⟨T, 0, none⟩ = some v) (hv : RowC w v cs) (hcs : cs.length ≤ 1000) : Calls Try.prog 44 #[clV e.c, ptr e.p, .pointer (some ⟨T, 0, none⟩)] w fun x w' => x = .returned (.bool (decide (e.c ∉ cs))) ∧ Below w.heap.size w w' := by
  have HC : Bx (∀ W, Below w.heap.size w W → Calls Try.prog 45 #[v, clV e.c] W fun x w' => x = .returned (.bool (decide (e.c ∈ cs))) ∧ Below W.heap.size W w') := Bx.mk fun W hb => contains15 e.c cs v W (hv.later hb) hcs
  have HT : Bx (∀ W, Below w.heap.size w W → W.cell? ⟨T, 0, none⟩ = some v) := Bx.mk fun W hb => (hb.cell (p := ⟨T, 0, none⟩) (World.block_lt_of_cell? _ _ hT)).trans hT
  obtain ⟨a, cap, rfl⟩ := hv.form
  generalize cs.length = n at *
  clear hv hT h
  have hD : decide (e.c ∉ cs) = !decide (e.c ∈ cs) := by simp
  rw [hD]
  generalize decide (e.c ∈ cs) = D at *
  obtain ⟨⟨i, r, x, q⟩, p, s, k, a'⟩ := e
  unfold clV ptr at *
  simp only at HC ⊢
  clear hD
  have HBe := Bx.mk (below_a (W := w) (.cells #[.int .i64 i, .int .i64 r, .int .i64 x, .int .i64 q] 34))
  have hT1 := HT.out _ HBe.out
  go_enter Try.func44, Try.ntmps44
  go_wp2_with fail
  refine (HC.out _ HBe.out).mono ?_
  rintro e w2 ⟨rfl, hb⟩
  have H2 := Bx.mk (HBe.out.trans (hb.mono HBe.out.size))
  clear hb HBe HC HT hT1
  go_wp2
  go_ret
  exact ⟨by first | rfl | (cases D <;> rfl), H2.out⟩
/-- Those that are not among the claims. -/
def goneE (l : List En) (cs : List Cl) : List Cl := whoE (fun e => decide (e.c ∉ cs)) l
theorem whoE_mem (f : En → Bool) (l : List En) (c : Cl) : c ∈ whoE f l ↔ ∃ e ∈ l, f e = true ∧ e.c = c := by
  unfold whoE
  rw [(sortC_perm _).mem_iff, List.mem_map]
  constructor
  · rintro ⟨e, he, rfl⟩
    obtain ⟨h1, h2⟩ := List.mem_filter.1 he
    exact ⟨e, h1, h2, rfl⟩
  · rintro ⟨e, h1, h2, rfl⟩
    exact ⟨e, List.mem_filter.2 ⟨h1, h2⟩, rfl⟩
theorem whoE_len (f : En → Bool) (l : List En) : (whoE f l).length ≤ l.length := by
  unfold whoE
  rw [sortC_length, List.length_map]
  exact List.length_filter_le _ _
theorem left_gone {l : List En} (hk : l.Pairwise (fun x y => x.c ≠ y.c)) (cs : List Cl) : leftE l (goneE l cs) = l.filter fun e => decide (e.c ∈ cs) := by
  unfold leftE
  refine List.filter_congr fun e he => ?_
  congr 1
  unfold goneE
  rw [whoE_mem]
  simp only [decide_eq_true_eq, eq_iff_iff]
  constructor
  · intro h
    exact Decidable.byContradiction fun hn => h ⟨e, he, hn, rfl⟩
  · rintro h ⟨y, hy, h2, h3⟩
    rw [h3] at h2
    exact h2 h
set_option maxRecDepth 100000 in
set_option maxHeartbeats 4000000 in
theorem only_any15 (B Q : Nat) (l : List En) (v : Value) (cs : List Cl) (w : World) (h : BookAt B Q l w) (hl : l.length ≤ 1000) (hv : RowC w v cs) (hcs : cs.length ≤ 1000) :
    Calls Try.prog 22 #[ptr Q, v] w fun x w' => ∃ u, x = .returned u ∧ RowC w' u (goneE l cs) ∧ Keeps B Q (l.filter fun e => decide (e.c ∈ cs)) w w' := by
  have hbx := below_a (W := w) (.cells #[v] 41)
  have HN : Bx (Calls Try.prog 35 #[ptr Q, .func (.func 44) #[] #[.pointer (some ⟨w.heap.size, 0, none⟩)]] (w.alloc (.cells #[v] 41)) fun x w' => ∃ u, x = .returned u ∧ RowC w' u (goneE l cs) ∧ Below w.heap.size w w') := Bx.mk (by
    refine ((h.later hbx).whose hl 44 #[.pointer (some ⟨w.heap.size, 0, none⟩)] (fun e => decide (e.c ∉ cs)) (enters_of Try.func44 (by kernel_rfl) rfl) (fun e he W hb => ?_)).mono ?_
    · have hb' : Below w.heap.size w W := hbx.trans (hb.mono hbx.size)
      exact only1_any B e w.heap.size v cs W ((h.later hb').ent e he) ((hb.cell (p := ⟨w.heap.size, 0, none⟩) (by simp)).trans (by rw [cell_of_row _ _ _ _ _ _ (hnew _ _ _ rfl)]; rfl)) (hv.later hb') hcs
    · rintro x w' ⟨u, rfl, h1, h2⟩
      exact ⟨u, rfl, h1.1, hbx.trans (h2.mono hbx.size)⟩)
  have HD : Bx (∀ W u, Below w.heap.size w W → RowC W u (goneE l cs) → Calls Try.prog 20 #[ptr Q, u] W fun x w' => (∃ n : Int, x = .returned (.int .i64 n)) ∧ Keeps B Q (l.filter fun e => decide (e.c ∈ cs)) w w' ∧ RowC w' u (goneE l cs)) := Bx.mk fun W u hb hu => by
    refine (drop_any15 B Q l u (goneE l cs) W (h.later hb) hl hu (Nat.le_trans (whoE_len _ _) hl) (fun c hc => ?_)).mono ?_
    · obtain ⟨e, he, -, rfl⟩ := (whoE_mem _ _ _).1 hc
      exact (h.ent e he).fit
    · rintro x w' ⟨rfl, h1, h2⟩
      rw [left_gone h.keys] at h1
      exact ⟨⟨_, rfl⟩, ⟨h1.1, (KB.of hb).trans h1.2⟩, h2⟩
  obtain ⟨a, cap, rfl⟩ := hv.form
  generalize cs.length = n at *
  clear h hl hv hcs hbx
  unfold ptr at *
  go_enter Try.func22, Try.ntmps22
  go_wp2_with fail
  refine HN.out.mono ?_
  rintro e w2 ⟨u, rfl, h1, h2⟩
  have H2 := Bx.mk (And.intro h1 h2)
  obtain ⟨ua, uc, rfl⟩ := h1.form
  generalize (goneE l cs).length = m at *
  clear h1 h2 HN
  go_wp2_with fail
  refine (HD.out _ _ H2.out.2 H2.out.1).mono ?_
  rintro e w3 ⟨⟨n', rfl⟩, h1, h2⟩
  have H3 := Bx.mk (And.intro h2 h1)
  clear h1 h2 HD H2
  go_wp2
  go_ret
  exact ⟨_, rfl, H3.out⟩
end Go.Proofs.Ytdbdpehagkglfaa
namespace Go.Proofs.Ytdbdpehagkglfaa
open Go Go.RowKit
theorem step_st15 {w w1 : World} {ops : Array Oper} {o : Oper} {a : Act} {K : Act → World → Prop} {Q : Exit → Act → World → Prop} {E : Prop} (hgd : o.guard = none) (tt : TypeId) (x y : Operand)
    (ho : o.op = .store tt x y) (hrun : (Instr.storeAt tt (a.eval x) (a.eval y)).run Try.prog w = .ok () w1) (h : K (a.put o.dst undef) w1) :
    if Region.wanted o (yielded ops a.tmps) = true then Oper.wp Try.prog o a w K Q else E := by
  have hw : Region.wanted o (yielded ops a.tmps) = true := by simp [Region.wanted, hgd]
  rw [if_pos hw]
  unfold Oper.wp execOp
  simp only [ho, hrun, Sem.run_bind, Sem.run_pure, Result.andThen_ok]
  exact h
theorem run_st15 (w : World) (b off : Nat) (n : Int) (u : Value) (hc : w.cell? ⟨b, off, none⟩ = some u) (hf : w.frozen? ⟨b, off, none⟩ = false) : (Instr.storeAt 3 (.pointer (some ⟨b, off, none⟩)) (.int .i64 n)).run Try.prog w = .ok () (w.setCell ⟨b, off, none⟩ (.int .i64 n)) := by
  go_simp
set_option maxRecDepth 100000 in
set_option maxHeartbeats 4000000 in
theorem due1_any (B : Nat) (e : En) (T : Nat) (tk : Int) (w : World) (h : EntAt B w e) (hT : w.cell? ⟨T, 0, none⟩ = some (.int .i64 tk)) (ht : 0 ≤ tk ∧ tk ≤ 1073741824) : Calls Try.prog 36 #[clV e.c, ptr e.p, .pointer (some ⟨T, 0, none⟩)] w fun x w' => x = .returned (.bool (dueE tk e)) ∧ Below w.heap.size w w' := by
  have HC : Bx (∀ W, Below w.heap.size w W → Calls Try.prog 37 #[.pointer (some ⟨e.p, 0, none⟩), .int .i64 tk] W fun x w' => x = .returned (.bool (dueE tk e)) ∧ w' = W) := Bx.mk fun W hb => due_any B e tk W (h.later hb) ht
  have HT : Bx (∀ W, Below w.heap.size w W → W.cell? ⟨T, 0, none⟩ = some (.int .i64 tk)) := Bx.mk fun W hb => (hb.cell (p := ⟨T, 0, none⟩) (World.block_lt_of_cell? _ _ hT)).trans hT
  generalize dueE tk e = D at *
  clear hT h ht
  obtain ⟨⟨i, r, x, q⟩, p, s, k, a'⟩ := e
  unfold clV ptr at *
  simp only at HC ⊢
  have HBe := Bx.mk (below_a (W := w) (.cells #[.int .i64 i, .int .i64 r, .int .i64 x, .int .i64 q] 34))
  have hT1 := HT.out _ HBe.out
  go_enter Try.func36, Try.ntmps36
  go_wp2_with fail
  refine (HC.out _ HBe.out).mono ?_
  rintro e w2 ⟨rfl, hw⟩
  obtain rfl : (w.alloc (.cells #[.int .i64 i, .int .i64 r, .int .i64 x, .int .i64 q] 34)) = w2 := hw.symm
  go_wp2
  go_ret
  exact ⟨rfl, HBe.out⟩
/-- Asked for at the tick: those whose claims are among these. -/
def askE (tk : Int) (cs : List Cl) (l : List En) : List En := l.map fun e => if e.c ∈ cs then ⟨e.c, e.p, e.s, e.k, tk⟩ else e
theorem askE_nil (tk : Int) (l : List En) : askE tk [] l = l := by simp [askE]
theorem askE_in {tk : Int} {cs : List Cl} {l : List En} {e : En} (he : e ∈ l) : ∃ y ∈ askE tk cs l, y.c = e.c ∧ y.p = e.p ∧ y.s = e.s ∧ y.k = e.k := by
  refine ⟨_, List.mem_map.2 ⟨e, he, rfl⟩, ?_⟩
  split <;> exact ⟨rfl, rfl, rfl, rfl⟩
theorem askE_snoc {tk : Int} {cs : List Cl} {l : List En} (hk : l.Pairwise (fun x y => x.c ≠ y.c)) {e : En} (he : e ∈ l) : askE tk (cs ++ [e.c]) l = setC (askE tk cs l) ⟨e.c, e.p, e.s, e.k, tk⟩ := by
  unfold askE setC
  rw [List.map_map]
  refine List.map_congr_left fun y hy => ?_
  simp only [Function.comp]
  by_cases h1 : y.c = e.c
  · have := pw_inj hk he hy h1
    subst this
    have h2 : y.c ∈ cs ++ [y.c] := by simp
    rw [if_pos h2]
    split <;> simp
  · by_cases h2 : y.c ∈ cs
    · rw [if_pos (List.mem_append.2 (.inl h2)), if_pos h2]
      simp [h1]
    · have h3 : ¬ y.c ∈ cs ++ [e.c] := fun h => by
        rcases List.mem_append.1 h with h | h
        · exact h2 h
        · exact h1 (by simpa using h)
      rw [if_neg h3, if_neg h2, if_neg h1]
/-- What Due leaves. -/
def dueL (tk : Int) (l : List En) : List En := l.map fun e => if dueE tk e then ⟨e.c, e.p, e.s, e.k, tk⟩ else e
theorem askE_due (tk : Int) {l : List En} (hk : l.Pairwise (fun x y => x.c ≠ y.c)) : askE tk (whoE (dueE tk) l) l = dueL tk l := by
  unfold askE dueL
  refine List.map_congr_left fun e he => ?_
  by_cases h : dueE tk e = true
  · rw [if_pos ((whoE_mem _ _ _).2 ⟨e, he, h, rfl⟩), if_pos h]
  · rw [if_neg h, if_neg]
    intro hm
    obtain ⟨y, hy, h1, h2⟩ := (whoE_mem _ _ _).1 hm
    rw [pw_inj hk he hy h2] at h1
    exact h h1
/-- Between two of those that are due. -/
structure DueR (B Q T : Nat) (l : List En) (tk : Int) (cs : List Cl) (base : Nat) (mb : Option Nat) (v : Value) (k : Nat) (w W : World) : Prop where
  book : BookAt B Q (askE tk (cs.take k) l) W
  keep : KB B w W
  row : RowF base W v cs
  map : W.cell? ⟨Q, 0, none⟩ = some (.map mb)
  tick : W.heap[T]? = some (.cells #[.int .i64 tk] 3 (0, 0))
  size : w.heap.size ≤ W.heap.size
theorem DueR.later {B Q T : Nat} {l : List En} {tk : Int} {cs : List Cl} {base : Nat} {mb : Option Nat} {v : Value} {k : Nat} {w W W1 : World} (h : DueR B Q T l tk cs base mb v k w W) (hb : Below W.heap.size W W1) : DueR B Q T l tk cs base mb v k w W1 :=
  ⟨h.book.later hb, h.keep.trans (KB.of hb), h.row.later hb, (hb.cell (p := ⟨Q, 0, none⟩) h.book.lt).trans h.map, (hb.block T (Array.getElem?_eq_some_iff.1 h.tick).1).trans h.tick, Nat.le_trans h.size hb.size⟩
/-- One of them is asked for. -/
theorem DueR.ask {B Q T : Nat} {l : List En} {tk : Int} {cs : List Cl} {base : Nat} {mb : Option Nat} {v : Value} {k : Nat} {w W : World} (h : DueR B Q T l tk cs base mb v k w W) (hk : l.Pairwise (fun x y => x.c ≠ y.c)) (hkl : k < cs.length) {e : En} (he : e ∈ l) (hc : cs.getD k c0 = e.c) (ht : 0 ≤ tk ∧ tk ≤ 1073741824) (hp : e.p < base) :
    W.cell? ⟨e.p, 4, none⟩ ≠ none ∧ W.frozen? ⟨e.p, 4, none⟩ = false ∧ DueR B Q T l tk cs base mb v (k + 1) w (W.setCell ⟨e.p, 4, none⟩ (.int .i64 tk)) ∧ posE (askE tk (cs.take k) l) e.c = some e.p ∧ KB B W (W.setCell ⟨e.p, 4, none⟩ (.int .i64 tk)) := by
  obtain ⟨y, hy, h1, h2, h3, h4⟩ := askE_in (tk := tk) (cs := cs.take k) he
  have hE := h.book.ent y hy
  obtain ⟨kv, hw, hkv⟩ := hE.row
  rw [h2] at hw
  have hrow : (W.setCell ⟨e.p, 4, none⟩ (.int .i64 tk)).heap[e.p]? = _ := heap_setCells_same e.p _ [.int .i64 tk] 4 W _ hw
  have hg : W.grownBy (W.setCell ⟨e.p, 4, none⟩ (.int .i64 tk)) (some e.p) := kb_setCell _ _ _
  have hkb : KB B W (W.setCell ⟨e.p, 4, none⟩ (.int .i64 tk)) := KB.by_ hg (h2 ▸ hE.old) (fun o ho => by
    rw [show W.heap[e.p]? = _ from hw] at ho
    injection ho with ho
    subst ho
    exact .inr ⟨_, _, _, rfl, .inl rfl⟩)
  have hupd := h.book.upd (W1 := W.setCell ⟨e.p, 4, none⟩ (.int .i64 tk)) (e' := ⟨e.c, e.p, e.s, e.k, tk⟩) hy h1.symm h2.symm ⟨⟨kv, by simpa [spl, WinE, h3] using hrow, by
    have := hkv.keepB hkb
    rw [h4] at this
    exact this⟩, h3 ▸ hE.ok, h2 ▸ hE.old, h1 ▸ hE.fit, ht⟩ (by rw [h2]; exact hg)
  have hTe : T ≠ e.p := fun ex => by
    have h5 := h.tick
    rw [ex, show W.heap[e.p]? = _ from hw] at h5
    injection h5 with h5
    injection h5 with _ h5
    exact absurd h5 (by decide)
  have hQe : Q ≠ e.p := fun ex => by
    obtain ⟨mb', ml, h5, -⟩ := h.book.row
    rw [ex, show W.heap[e.p]? = _ from hw] at h5
    injection h5 with h5
    injection h5 with _ h5
    exact absurd h5 (by decide)
  refine ⟨by rw [hw.at4]; simp, hw.frozen 4, ⟨?_, h.keep.trans hkb, h.row.aside hg hp, ?_, ?_, Nat.le_trans h.size hg.size⟩, ?_, hkb⟩
  · rw [takeC_succ cs k hkl, hc, askE_snoc hk he]
    exact hupd.1
  · rw [cell_heap (hg.block Q h.book.lt (fun ex => hQe (by injection ex)))]
    exact h.map
  · exact (hg.block T (Array.getElem?_eq_some_iff.1 h.tick).1 (fun ex => hTe (by injection ex))).trans h.tick
  · have := posE_in h.book.keys hy
    rw [h1, h2] at this
    exact this
set_option maxRecDepth 100000 in
set_option maxHeartbeats 4000000 in
theorem due_any15 (B Q : Nat) (l : List En) (tk : Int) (w : World) (h : BookAt B Q l w) (hl : l.length ≤ 1000) (ht : 0 ≤ tk ∧ tk ≤ 1073741824) :
    Calls Try.prog 11 #[ptr Q, .int .i64 tk] w fun x w' => ∃ u, x = .returned u ∧ RowF w.heap.size w' u (whoE (dueE tk) l) ∧ Keeps B Q (dueL tk l) w w' := by
  have hbx := below_a (W := w) (.cells #[.int .i64 tk] 3)
  obtain ⟨mb, hM, -⟩ := h.look c0 (by unfold Cl64 in64 c0; simp)
  have HN : Bx (Calls Try.prog 35 #[.pointer (some ⟨Q, 0, none⟩), .func (.func 36) #[] #[.pointer (some ⟨w.heap.size, 0, none⟩)]] (w.alloc (.cells #[.int .i64 tk] 3)) fun x w' => ∃ u, x = .returned u ∧ DueR B Q w.heap.size l tk (whoE (dueE tk) l) (w.heap.size + 1) mb u 0 w w') := Bx.mk (by
    have h1 := h.later hbx
    refine (h1.whose hl 36 #[.pointer (some ⟨w.heap.size, 0, none⟩)] (dueE tk) (enters_of Try.func36 (by kernel_rfl) rfl) (fun e he W hb => ?_)).mono ?_
    · have hb' : Below w.heap.size w W := hbx.trans (hb.mono hbx.size)
      exact due1_any B e w.heap.size tk W ((h.later hb').ent e he) ((hb.cell (p := ⟨w.heap.size, 0, none⟩) (by simp)).trans (by rw [cell_of_row _ _ _ _ _ _ (hnew _ _ _ rfl)]; rfl)) ht
    · rintro x w' ⟨u, rfl, h2, h3⟩
      have h4 : Below w.heap.size w w' := hbx.trans (h3.mono hbx.size)
      refine ⟨u, rfl, ⟨by rw [List.take_zero, askE_nil]; exact h.later h4, KB.of h4, by rw [World.size_alloc] at h2; exact h2, (h4.cell (p := ⟨Q, 0, none⟩) h.lt).trans hM, (h3.block w.heap.size (by simp)).trans (hnew _ _ _ rfl), h4.size⟩⟩)
  have HA : Bx (∀ k v W, k < (whoE (dueE tk) l).length → DueR B Q w.heap.size l tk (whoE (dueE tk) l) (w.heap.size + 1) mb v k w W → ∃ p, Cl64 ((whoE (dueE tk) l).getD k c0) ∧ W.cell? ⟨p, 4, none⟩ ≠ none ∧ W.frozen? ⟨p, 4, none⟩ = false ∧ DueR B Q w.heap.size l tk (whoE (dueE tk) l) (w.heap.size + 1) mb v (k + 1) w (W.setCell ⟨p, 4, none⟩ (.int .i64 tk)) ∧ posE (askE tk ((whoE (dueE tk) l).take k) l) ((whoE (dueE tk) l).getD k c0) = some p ∧ posE (askE tk ((whoE (dueE tk) l).take (k + 1)) l) ((whoE (dueE tk) l).getD k c0) = some p ∧ KB B W (W.setCell ⟨p, 4, none⟩ (.int .i64 tk))) := Bx.mk fun k v W hk hD => by
    have hm : (whoE (dueE tk) l).getD k c0 ∈ whoE (dueE tk) l := by
      rw [show (whoE (dueE tk) l).getD k c0 = (whoE (dueE tk) l)[k] by simp [hk]]
      exact List.getElem_mem hk
    obtain ⟨e, he, h1, h2⟩ := (whoE_mem _ _ _).1 hm
    obtain ⟨h3, h4, h5, h6, h7⟩ := hD.ask h.keys hk he h2.symm ht (by have := (h.ent e he).lt; omega)
    refine ⟨e.p, h2 ▸ (h.ent e he).fit, h3, h4, h5, h2 ▸ h6, ?_, h7⟩
    obtain ⟨y, hy, g1, g2, -, -⟩ := askE_in (tk := tk) (cs := (whoE (dueE tk) l).take (k + 1)) he
    have := posE_in h5.book.keys hy
    rw [g1, g2, h2] at this
    exact this
  have HE := Bx.mk (askE_due tk h.keys)
  have hbn : (whoE (dueE tk) l).length ≤ 1000 := Nat.le_trans (whoE_len _ _) hl
  generalize whoE (dueE tk) l = cs at *
  generalize dueL tk l = l' at *
  clear h hl ht hbx hM
  unfold ptr
  go_enter Try.func11, Try.ntmps11
  go_wp2_with fail
  refine HN.out.mono ?_
  rintro e w2 ⟨u, rfl, h2⟩
  obtain ⟨a, cap, rfl⟩ := h2.row.1.form
  obtain ⟨n, hn⟩ : ∃ n, cs.length = n := ⟨_, rfl⟩
  rw [hn] at h2 HA hbn ⊢
  have HN2 := Bx.mk hn
  have H2 := Bx.mk h2
  obtain ⟨T, hT⟩ : ∃ T, w.heap.size = T := ⟨_, rfl⟩
  rw [hT] at H2 HA ⊢
  clear h2 HN hn
  go_wp2
  go_loopw [13] (fun j wr => ∃ k : Nat, k ≤ n ∧ j = .int .i64 (k : Int) ∧ Bx (DueR B Q T l tk cs (T + 1) mb (.slice a n cap) k w wr)) (fun j _ => n - (intOf j).toNat)
  case atStart => exact ⟨0, Nat.zero_le _, rfl, H2⟩
  case round =>
    clear H2
    obtain ⟨k, hk, rfl, HI⟩ := hrel
    by_cases hlt : k < n
    · have hlt' : (k : Int) < (n : Int) := by omega
      obtain ⟨g, rfl, -, hrg⟩ := HI.out.row.1.at_ k (by rw [HN2.out]; exact hlt)
      have R0 : Bx (DueR B Q T l tk cs (T + 1) mb (.slice (some ⟨g, 0, none⟩) n cap) k w (wr.alloc (.cells #[.int .i64 (cs.getD k c0).id, .int .i64 (cs.getD k c0).ro, .int .i64 (cs.getD k c0).ex, .int .i64 (cs.getD k c0).se] 34)).drew ∧ (wr.alloc (.cells #[.int .i64 (cs.getD k c0).id, .int .i64 (cs.getD k c0).ro, .int .i64 (cs.getD k c0).ex, .int .i64 (cs.getD k c0).se] 34)).drew.heap[wr.heap.size]? = some (.cells #[.int .i64 (cs.getD k c0).id, .int .i64 (cs.getD k c0).ro, .int .i64 (cs.getD k c0).ex, .int .i64 (cs.getD k c0).se] 34 (0, 0))) := Bx.mk ⟨HI.out.later (below_a _).drew, hnew _ _ _ rfl⟩
      obtain ⟨p, hp⟩ := HA.out k _ _ hlt R0.out.1
      have HP := Bx.mk hp
      clear HI hp
      generalize hy : cs.getD k c0 = y at *
      obtain ⟨i, r, x, q⟩ := y
      simp only at hrg R0 HP
      obtain ⟨g0, g1, g2, g3⟩ := rng4 hrg
      clear hrg
      go_upto_region 5 with fail
      clear g0 g1 g2 g3
      generalize hX : wr.heap.size = X at *
      generalize wr.alloc (.cells #[.int .i64 i, .int .i64 r, .int .i64 x, .int .i64 q] 34) = w1 at *
      have hlk : (Instr.lookup 69 (.map mb) (.agg #[.int .i64 i, .int .i64 r, .int .i64 x, .int .i64 q]) false).run Try.prog w1.drew = .ok (.pointer (some ⟨p, 0, none⟩)) w1.drew := by
        obtain ⟨mb2, h1, h2, -⟩ := R0.out.1.book.look ⟨i, r, x, q⟩ HP.out.1
        rw [R0.out.1.map] at h1
        injection h1 with h1
        injection h1 with h1
        subst h1
        rw [HP.out.2.2.2.2.1] at h2
        exact h2
      have hc4 : ∃ u4, w1.drew.cell? ⟨p, 4, none⟩ = some u4 := Option.ne_none_iff_exists'.1 HP.out.2.1
      obtain ⟨u4, hu4⟩ := hc4
      refine wp_region_noPanic ?_
      refine wp_region_held_drew (S := fun W => W.cell? ⟨Q, 0, none⟩ = some (.map mb) ∧ (W.rangeAt X 0 [.int .i64 i, .int .i64 r, .int .i64 x, .int .i64 q] ∧ ((Instr.lookup 69 (.map mb) (.agg #[.int .i64 i, .int .i64 r, .int .i64 x, .int .i64 q]) false).run Try.prog W = .ok (.pointer (some ⟨p, 0, none⟩)) W ∧ W.cell? ⟨T, 0, none⟩ = some (.int .i64 tk)))) (by kernel_rfl) (⟨R0.out.1.map, row_rng15 (l := [.int .i64 i, .int .i64 r, .int .i64 x, .int .i64 q]) R0.out.2, hlk, by rw [cell_of_row _ _ _ _ _ _ R0.out.1.tick]; rfl⟩) (fun hHeld => ?_)
      clear hlk
      generalize w1.drew = W0 at *
      refine takeL 0 (v := ?_) rfl (by kernel_rfl) (by kernel_rfl) (by kernel_rfl) (fun _ _ _ h => h) (Or.inl ⟨by rfl, ?_⟩) hHeld ?_
      rotate_left 1
      · (intro w hSw; go_simp; try with_reducible rfl)
      try simp only [Act.put, List.setIfInBounds_toArray, List.set_cons_zero, List.set_cons_succ]
      refine takeL 1 (v := ?_) rfl (by kernel_rfl) (by kernel_rfl) (by kernel_rfl) (fun _ _ _ h => h) (Or.inl ⟨by rfl, ?_⟩) hHeld ?_
      rotate_left 1
      · (intro w hSw; go_simp; try with_reducible rfl)
      try simp only [Act.put, List.setIfInBounds_toArray, List.set_cons_zero, List.set_cons_succ]
      refine takeL 2 (v := ?_) rfl (by kernel_rfl) (by kernel_rfl) (by kernel_rfl) (fun _ _ _ h => h) (Or.inl ⟨by rfl, ?_⟩) hHeld ?_
      rotate_left 1
      · (intro w hSw; go_simp; try with_reducible rfl)
      try simp only [Act.put, List.setIfInBounds_toArray, List.set_cons_zero, List.set_cons_succ]
      refine takeL 3 (v := ?_) rfl (by kernel_rfl) (by kernel_rfl) (by kernel_rfl) (fun _ _ _ h => h) (Or.inl ⟨by rfl, ?_⟩) hHeld ?_
      rotate_left 1
      · (intro w hSw; have h1 := hSw.1; go_simp; try with_reducible rfl)
      try simp only [Act.put, List.setIfInBounds_toArray, List.set_cons_zero, List.set_cons_succ]
      refine takeL 4 rfl (by kernel_rfl) (by kernel_rfl) (by kernel_rfl) (fun _ _ _ h => h) (yieldsIf_load_mid (by rfl) _ _ rfl _ _ rfl _ _ (fun w hSw => hSw.2.1) Try.underlying34 rfl (by kernel_rfl)) hHeld ?_
      try simp only [Act.put, List.setIfInBounds_toArray, List.set_cons_zero, List.set_cons_succ]
      refine takeL 5 (v := ?_) rfl (by kernel_rfl) (by kernel_rfl) (by kernel_rfl) (fun _ _ _ h => h) (Or.inl ⟨by rfl, ?_⟩) hHeld ?_
      rotate_left 1
      · (intro w hSw; have h3 := hSw.2.2.1; go_simp; try with_reducible rfl)
      try simp only [Act.put, List.setIfInBounds_toArray, List.set_cons_zero, List.set_cons_succ]
      refine takeL 6 (v := ?_) rfl (by kernel_rfl) (by kernel_rfl) (by kernel_rfl) (fun _ _ _ h => h) (Or.inl ⟨by rfl, ?_⟩) hHeld ?_
      rotate_left 1
      · (intro w hSw; have h4 := hSw.2.2.2; go_simp; try with_reducible rfl)
      try simp only [Act.put, List.setIfInBounds_toArray, List.set_cons_zero, List.set_cons_succ]
      refine takeL 7 (v := ?_) rfl (by kernel_rfl) (by kernel_rfl) (by kernel_rfl) (fun _ _ _ h => h) (Or.inl ⟨by rfl, ?_⟩) hHeld ?_
      rotate_left 1
      · (intro w hSw; go_simp; try with_reducible rfl)
      try simp only [Act.put, List.setIfInBounds_toArray, List.set_cons_zero, List.set_cons_succ]
      refine takeL 8 (v := ?_) rfl (by kernel_rfl) (by kernel_rfl) (by kernel_rfl) (fun _ _ _ h => h) (Or.inl ⟨by rfl, ?_⟩) hHeld ?_
      rotate_left 1
      · (intro w hSw; go_simp; try with_reducible rfl)
      try simp only [Act.put, List.setIfInBounds_toArray, List.set_cons_zero, List.set_cons_succ]
      refine stepL 9 (by kernel_rfl) rfl (fun K hK => ?_)
      refine step_st15 rfl 3 _ _ rfl (run_st15 W0 p 4 tk u4 hu4 HP.out.2.2.1) ?_
      have R2 := Bx.mk HP.out.2.2.2.1
      have hX2 := HP.out.2.2.2.2.2.2.block _ _ R0.out.2 (.inr (hard_cells (by decide) (by decide)))
      have hlk2 : (Instr.lookup 69 (.map mb) (.agg #[.int .i64 i, .int .i64 r, .int .i64 x, .int .i64 q]) false).run Try.prog (W0.setCell ⟨p, 4, none⟩ (.int .i64 tk)) = .ok (.pointer (some ⟨p, 0, none⟩)) (W0.setCell ⟨p, 4, none⟩ (.int .i64 tk)) := by
        obtain ⟨mb2, h1, h2, -⟩ := R2.out.book.look ⟨i, r, x, q⟩ HP.out.1
        rw [R2.out.map] at h1
        injection h1 with h1
        injection h1 with h1
        subst h1
        rw [HP.out.2.2.2.2.2.1] at h2
        exact h2
      refine hK.out _ _ (⟨R2.out.map, row_rng15 (l := [.int .i64 i, .int .i64 r, .int .i64 x, .int .i64 q]) hX2, hlk2, by rw [cell_of_row _ _ _ _ _ _ R2.out.tick]; rfl⟩) (fun hHeld => ?_)
      clear hK K hX2 hlk2 hu4
      generalize W0.setCell ⟨p, 4, none⟩ (.int .i64 tk) = W2 at *
      try simp only [Act.put, List.setIfInBounds_toArray, List.set_cons_zero, List.set_cons_succ]
      refine wpAnyH_done (by kernel_rfl) ?_ _
      refine NoPanic.normal ?_
      clear hHeld
      go_wp2
      go_roundw
      case rel => exact ⟨k + 1, by omega, by go_num, R2⟩
      case measure => simp [intOf]; omega
    · have ek : k = n := by omega
      have HF : Bx (RowF T wr (.slice a n cap) cs ∧ Keeps B Q l' w wr) := Bx.mk (by
        have h1 := HI.out.book
        rw [ek, ← HN2.out, List.take_length, HE.out] at h1
        exact ⟨⟨HI.out.row.1, fun g hg => Nat.le_trans (Nat.le_succ _) (HI.out.row.2 g hg)⟩, h1, HI.out.keep⟩)
      have hlt' : ¬ (k : Int) < (n : Int) := by omega
      clear ek HI
      go_wp2
      go_ret
      exact ⟨_, rfl, by first | exact HF.out | (rw [hT]; exact HF.out)⟩
end Go.Proofs.Ytdbdpehagkglfaa
namespace Go.Proofs.Ytdbdpehagkglfaa
open Go Go.RowKit
theorem who_none (f : En → Bool) (e : En) (h : f e = false) : whoE f [e] = [] := by simp [whoE, h, sortC]
theorem who_one (f : En → Bool) (e : En) (h : f e = true) : whoE f [e] = [e.c] := by simp [whoE, h, sortC]
theorem due_none (tk : Int) (e : En) (h : dueE tk e = false) : dueL tk [e] = [e] := by simp [dueL, h]
theorem due_one (tk : Int) (e : En) (h : dueE tk e = true) : dueL tk [e] = [⟨e.c, e.p, e.s, e.k, tk⟩] := by simp [dueL, h]
/-- One that is not due. -/
theorem due_no (B Q p : Nat) (c : Cl) (s : Ws) (a tk : Int) (w : World) (h : BookAt B Q [⟨c, p, s, none, a⟩] w) (ht : 0 ≤ tk ∧ tk ≤ 1073741824) (hd : ¬ 8 ≤ tk - a) : Calls Try.prog 11 #[.pointer (some ⟨Q, 0, none⟩), .int .i64 tk] w fun x w' => (∃ ad cap, x = .returned (.slice ad 0 cap)) ∧ Keeps B Q [⟨c, p, s, none, a⟩] w w' := by
  have hf : dueE tk ⟨c, p, s, none, a⟩ = false := by simp [dueE]; omega
  refine (due_any15 B Q _ tk w h (by simp) ht).mono ?_
  rintro x w' ⟨u, rfl, h1, h2⟩
  rw [who_none _ _ hf] at h1
  rw [due_none _ _ hf] at h2
  obtain ⟨ad, cap, rfl⟩ := h1.1.form
  exact ⟨⟨ad, cap, rfl⟩, h2⟩
/-- One that is due. -/
theorem due_yes (B Q p : Nat) (c : Cl) (s : Ws) (a tk : Int) (w : World) (h : BookAt B Q [⟨c, p, s, none, a⟩] w) (ht : 0 ≤ tk ∧ tk ≤ 1073741824) (hd : 8 ≤ tk - a) : Calls Try.prog 11 #[.pointer (some ⟨Q, 0, none⟩), .int .i64 tk] w fun x w' => (∃ ad cap, x = .returned (.slice ad 1 cap)) ∧ Keeps B Q [⟨c, p, s, none, tk⟩] w w' := by
  have hf : dueE tk ⟨c, p, s, none, a⟩ = true := by simp [dueE]; omega
  refine (due_any15 B Q _ tk w h (by simp) ht).mono ?_
  rintro x w' ⟨u, rfl, h1, h2⟩
  rw [who_one _ _ hf] at h1
  rw [due_one _ _ hf] at h2
  obtain ⟨ad, cap, rfl⟩ := h1.1.form
  exact ⟨⟨ad, cap, rfl⟩, h2⟩
set_option maxRecDepth 100000 in
set_option maxHeartbeats 4000000 in
theorem known15_ex (w : World) : Calls Try.prog 24 #[] w fun x w' => x = .returned (.bool true) ∧ Below w.heap.size w w' := by
  have HNw := Bx.mk (new15 w)
  obtain ⟨B, hB⟩ : ∃ B, w.heap.size = B := ⟨_, rfl⟩
  have HWt := Bx.mk fun W (h : BookAt B B [] W) (hs : B ≤ W.heap.size) => want_ok B B [] 5 W h ⟨5, 0, 0, 1⟩ (by unfold Cl64 in64; simp) (fun e he => by cases he) rfl (by simp) (by simp) hs
  have HNo := Bx.mk fun p a tk W (h : BookAt B B [⟨⟨5, 0, 0, 1⟩, p, Ws.zero, none, a⟩] W) ht hd => due_no B B p ⟨5, 0, 0, 1⟩ Ws.zero a tk W h ht hd
  have HYe := Bx.mk fun p a tk W (h : BookAt B B [⟨⟨5, 0, 0, 1⟩, p, Ws.zero, none, a⟩] W) ht hd => due_yes B B p ⟨5, 0, 0, 1⟩ Ws.zero a tk W h ht hd
  rw [hB] at HNw ⊢
  unfold ptr clV at *
  simp only at HWt
  go_enter Try.func24, Try.ntmps24
  go_wp2_with fail
  refine HNw.out.mono ?_
  rintro e w1 ⟨rfl, h1, h2⟩
  have H1 : Bx (BookAt B B [] (w1.alloc (.cells #[.int .i64 5, .int .i64 0, .int .i64 0, .int .i64 1] 34)) ∧ Below B w (w1.alloc (.cells #[.int .i64 5, .int .i64 0, .int .i64 0, .int .i64 1] 34))) := Bx.mk ⟨h1.later (below_a _), h2.alloc (by have := h2.size; omega) _⟩
  clear h1 h2 HNw
  go_wp2_with fail
  refine (HWt.out _ H1.out.1 (by have := H1.out.2.size; rw [← hB]; exact this)).mono ?_
  rintro e w2 ⟨rfl, p, h1, h2⟩
  have H2 : Bx (BookAt B B [⟨⟨5, 0, 0, 1⟩, p, Ws.zero, none, 5⟩] w2 ∧ KB B w w2) := Bx.mk ⟨h1, ((KB.of (by rw [hB]; exact H1.out.2) : KB B w _)).trans h2⟩
  clear h1 h2 HWt H1
  go_wp2_with fail
  refine (HNo.out p 5 12 _ H2.out.1 (by omega) (by omega)).mono ?_
  rintro e w3 ⟨⟨ad0, cap0, rfl⟩, h1, h2⟩
  have H3 := Bx.mk (And.intro h1 (H2.out.2.trans h2))
  clear h1 h2 H2
  go_wp2_with fail
  refine (HYe.out p 5 13 _ H3.out.1 (by omega) (by omega)).mono ?_
  rintro e w4 ⟨⟨ad1, cap1, rfl⟩, h1, h2⟩
  have H4 := Bx.mk (And.intro h1 (H3.out.2.trans h2))
  clear h1 h2 H3
  go_wp2_with fail
  refine (HNo.out p 13 20 _ H4.out.1 (by omega) (by omega)).mono ?_
  rintro e w5 ⟨⟨ad2, cap2, rfl⟩, h1, h2⟩
  have H5 := Bx.mk (And.intro h1 (H4.out.2.trans h2))
  clear h1 h2 H4
  go_wp2_with fail
  refine (HYe.out p 13 21 _ H5.out.1 (by omega) (by omega)).mono ?_
  rintro e w6 ⟨⟨ad3, cap3, rfl⟩, h1, h2⟩
  have H6 := Bx.mk (And.intro h1 (H5.out.2.trans h2))
  clear h1 h2 H5
  go_wp2
  go_ret
  exact ⟨rfl, H6.out.2.below (by omega)⟩
end Go.Proofs.Ytdbdpehagkglfaa
namespace Go.Proofs.Ytdbdpehagkglfaa
open Go Go.ChangeShapes Go.WideShapes Go.ChangeAt Go.RowKit
/-- Claims behind a slice. -/
def ClsR (w : World) (v : Value) (l : List Cl) : Prop :=
  ∃ a cap, v = .slice a l.length cap ∧ (0 < l.length → ∃ b o, a = some ⟨b, o, none⟩ ∧ ∀ i, i < l.length → w.rangeAt b (o + i * 4) [.int .i64 (l.getD i c0).id, .int .i64 (l.getD i c0).ro, .int .i64 (l.getD i c0).ex, .int .i64 (l.getD i c0).se] ∧ Cl64 (l.getD i c0))
theorem ClsR.form {w : World} {v : Value} {l : List Cl} (h : ClsR w v l) : ∃ a cap, v = .slice a l.length cap := by
  obtain ⟨a, cap, hv, -⟩ := h
  exact ⟨a, cap, hv⟩
theorem ClsR.start {w : World} {v : Value} {l : List Cl} (h : ClsR w v l) (hp : 0 < l.length) : ∃ b o cap, v = .slice (some ⟨b, o, none⟩) l.length cap := by
  obtain ⟨a, cap, hv, hr⟩ := h
  obtain ⟨b, o, ha, -⟩ := hr hp
  exact ⟨b, o, cap, by rw [hv, ha]⟩
theorem ClsR.at_ {w : World} {b o n cap : Nat} {l : List Cl} (h : ClsR w (.slice (some ⟨b, o, none⟩) n cap) l) (k : Nat) (hk : k < l.length) : w.rangeAt b (o + k * 4) [.int .i64 (l.getD k c0).id, .int .i64 (l.getD k c0).ro, .int .i64 (l.getD k c0).ex, .int .i64 (l.getD k c0).se] ∧ Cl64 (l.getD k c0) := by
  obtain ⟨a, cap', hv, hr⟩ := h
  obtain ⟨b', o', ha, hi⟩ := hr (by omega)
  injection hv with h1 h2 h3
  rw [ha] at h1
  injection h1 with h1
  injection h1 with h1 h4
  subst h1 h4
  exact hi k hk
set_option maxRecDepth 100000 in
theorem cl_in {H : Type} {enc : TypeId × Value → H} {W : World} {fuel : Nat} {cs : List Value} {x : DataW H × List MemPlace} (h : DataW.trod enc Try.prog W 0 (fun _ => true) true fuel 24 cs = some x) :
    ∃ c : Cl, cs = [.int .i64 c.id, .int .i64 c.ro, .int .i64 c.ex, .int .i64 c.se] ∧ Cl64 c := by
  obtain ⟨zs, n2, -, -, hlen2, hxl2, hf2⟩ := DataW.trod_struct Try.underlying24 h
  have hl4 : cs.length = 4 := hlen2.trans (by kernel_rfl)
  have hz4 : zs.length = 4 := hxl2
  match cs, hl4, zs, hz4 with
  | [c2, c3, c4, c5], _, [z0, z1, z2, z3], _ =>
    have k0 : DataW.trod enc Try.prog W 0 (fun _ => true) true n2 3 [c2] = some z0 := hf2 0 _ rfl
    have k1 : DataW.trod enc Try.prog W 0 (fun _ => true) true n2 3 [c3] = some z1 := hf2 1 _ rfl
    have k2 : DataW.trod enc Try.prog W 0 (fun _ => true) true n2 3 [c4] = some z2 := hf2 2 _ rfl
    have k3 : DataW.trod enc Try.prog W 0 (fun _ => true) true n2 3 [c5] = some z3 := hf2 3 _ rfl
    obtain ⟨n0, e2, -, w0⟩ := DataW.trod_int Try.underlying3 k0
    obtain ⟨n1, e3, -, w1⟩ := DataW.trod_int Try.underlying3 k1
    obtain ⟨n4, e4, -, w2⟩ := DataW.trod_int Try.underlying3 k2
    obtain ⟨n5, e5, -, w3⟩ := DataW.trod_int Try.underlying3 k3
    simp at e2 e3 e4 e5
    subst e2 e3 e4 e5
    exact ⟨⟨n0, n1, n4, n5⟩, rfl, lit_i64 n0 w0, lit_i64 n1 w1, lit_i64 n4 w2, lit_i64 n5 w3⟩
/-- The first claims that a book is filled with. -/
def fullC (m : Nat) : List Cl := (List.range m).map fun (j : Nat) => (⟨(j : Int) + 1, 0, 0, (j : Int) + 1⟩ : Cl)
theorem fullC_len (m : Nat) : (fullC m).length = m := by simp [fullC]
/-- A book with the first m, all of them wanted. -/
structure FullB (B : Nat) (w : World) (m : Nat) (l : List En) (W : World) : Prop where
  book : BookAt B B l W
  cls : l.map (·.c) = fullC m
  want : ∀ e ∈ l, e.k = none
  keep : KB B w W
theorem FullB.len {B : Nat} {w : World} {m : Nat} {l : List En} {W : World} (h : FullB B w m l W) : l.length = m := by
  have := congrArg List.length h.cls
  rw [fullC_len] at this
  simpa using this
theorem FullB.later {B : Nat} {w : World} {m : Nat} {l : List En} {W W1 : World} (h : FullB B w m l W) (hb : Below W.heap.size W W1) : FullB B w m l W1 := ⟨h.book.later hb, h.cls, h.want, h.keep.trans (KB.of hb)⟩
theorem FullB.new {B : Nat} {w : World} {m : Nat} {l : List En} {W : World} (h : FullB B w m l W) (k : Nat) (hk : m ≤ k) : ∀ e ∈ l, e.c ≠ ⟨(k : Int) + 1, 0, 0, (k : Int) + 1⟩ := fun e he hc => by
  have h1 : e.c ∈ fullC m := by rw [← h.cls]; exact List.mem_map.2 ⟨e, he, rfl⟩
  rw [hc] at h1
  obtain ⟨j, hj, h2⟩ := List.mem_map.1 h1
  have h3 := List.mem_range.1 hj
  injection h2 with h2
  omega
end Go.Proofs.Ytdbdpehagkglfaa
namespace Go.Proofs.Ytdbdpehagkglfaa
open Go Go.RowKit
/-- The greatest of all. -/
def latN (l : List Nn) : Nn := l.foldl (fun a x => if lessN a x = true then x else a) Nn.zero
theorem takeN_succ (m : List Nn) (k : Nat) (h : k < m.length) : m.take (k + 1) = m.take k ++ [m.getD k Nn.zero] := by
  rw [List.take_succ_eq_append_getElem h, List.getD_eq_getElem?_getD, List.getElem?_eq_getElem h]; rfl
theorem latN_snoc (m : List Nn) (x : Nn) : latN (m ++ [x]) = if lessN (latN m) x = true then x else latN m := by
  unfold latN; rw [List.foldl_append]; rfl
theorem latN_succ (m : List Nn) (k : Nat) (h : k < m.length) : latN (m.take (k + 1)) = if lessN (latN (m.take k)) (m.getD k Nn.zero) = true then m.getD k Nn.zero else latN (m.take k) := by
  rw [takeN_succ m k h, latN_snoc]
/-- What the document tells of a nonce. -/
def dlookN (m : List Nn) (n : Nn) : Int := if okN n = false then 10 else if n.b < (latN m).b ∨ n.b = (latN m).b ∧ n.c ≤ (latN m).c - 64 then 9 else if n ∈ m then 8 else 0
theorem BoxN.store {T : TypeId} {X : Nat} {n : Nn} {W : World} (h : BoxN T X n W) (b c : Int) : BoxN T X ⟨b, c⟩ ((W.setCell ⟨X, 0, none⟩ (.int .i64 b)).setCell ⟨X, 1, none⟩ (.int .i64 c)) := by
  have := heap_setCells_same X _ [.int .i64 b, .int .i64 c] 0 W _ h
  exact this
theorem BoxN.frozen {T : TypeId} {X : Nat} {n : Nn} {W : World} (h : BoxN T X n W) (i : Nat) : W.frozen? ⟨X, i, none⟩ = false := frozen_of_row _ _ _ _ _ h
theorem below_set2 {B X : Nat} {a W : World} (h : Below B a W) (hX : B ≤ X) (u v : Value) : Below B a ((W.setCell ⟨X, 0, none⟩ u).setCell ⟨X, 1, none⟩ v) := below_setCells hX [u, v] 0 a W h
theorem grown_set2 (X : Nat) (W : World) (u v : Value) : W.grownBy ((W.setCell ⟨X, 0, none⟩ u).setCell ⟨X, 1, none⟩ v) (some X) := kb_setCells [u, v] 0 W
theorem rangeN_later {w w1 : World} {b o : Nat} {x : Value} {l : List Value} (h : w.rangeAt b o (x :: l)) (hb : Below w.heap.size w w1) : w1.rangeAt b o (x :: l) := fun j u hj => by
  have h1 := h j u hj
  rw [hb.cell (World.block_lt_of_cell? _ _ h1)]
  exact h1
theorem two_range {W : World} {g o : Nat} {u v : Value} (h1 : W.cell? ⟨g, o, none⟩ = some u) (h2 : W.cell? ⟨g, o + 1, none⟩ = some v) : W.rangeAt g o [u, v] := fun j x hj => by
  have hj2 : j < 2 := (List.getElem?_eq_some_iff.1 hj).1
  match j, hj2 with
  | 0, _ => injection hj with hj; rw [← hj]; exact h1
  | 1, _ => injection hj with hj; rw [← hj]; exact h2
set_option maxRecDepth 100000 in
set_option maxHeartbeats 4000000 in
theorem rlatest_any (m : List Nn) (v : Value) (w : World) (hv : NnsR w v m) (hn : m.length ≤ 1000) :
    Calls Try.prog 56 #[v] w fun e w' => e = .returned (nv (latN m)) ∧ Below w.heap.size w w' := by
  obtain ⟨a, cap, rfl, -, -, hr⟩ := hv
  obtain ⟨n, hnn⟩ : ∃ n, m.length = n := ⟨_, rfl⟩
  have HN := Bx.mk hnn
  rw [hnn] at hr hn ⊢
  have HR := Bx.mk hr
  clear hr hnn
  have hn1 : (n : Int) ≤ 1000 := by omega
  have HT : Bx (m.take n = m) := Bx.mk (by rw [← HN.out, List.take_length])
  obtain ⟨X, hX⟩ : ∃ X, w.heap.size + 1 = X := ⟨_, rfl⟩
  have HX := Bx.mk hX
  have HLs := Bx.mk fun (x y : Nn) (W : World) => rless_any x y W
  have H0 : Bx (BoxN 26 w.heap.size Nn.zero ((w.alloc (.cells #[.int .i64 0, .int .i64 0] 26)).alloc (.cells #[.int .i64 0, .int .i64 0] 26)) ∧ BoxN 26 X (latN (m.take 0)) ((w.alloc (.cells #[.int .i64 0, .int .i64 0] 26)).alloc (.cells #[.int .i64 0, .int .i64 0] 26)) ∧ Below w.heap.size w ((w.alloc (.cells #[.int .i64 0, .int .i64 0] 26)).alloc (.cells #[.int .i64 0, .int .i64 0] 26))) := Bx.mk ⟨(hold _ _ _ (by simp)).trans (hnew _ _ _ rfl), hnew _ _ _ (by rw [← hX]; simp), (below_a _).trans ((below_a _).mono (by simp))⟩
  go_enter Try.func56, Try.ntmps56
  go_wp2
  go_loopw [4] (fun i wr => ∃ k : Nat, k ≤ n ∧ i = .int .i64 (k : Int) ∧ Bx (BoxN 26 w.heap.size Nn.zero wr ∧ BoxN 26 X (latN (m.take k)) wr ∧ Below w.heap.size w wr)) (fun i _ => n - (intOf i).toNat)
  case atStart => exact ⟨0, by omega, rfl, H0⟩
  case round =>
    clear H0
    obtain ⟨k, hk, rfl, HB⟩ := hrel

    by_cases hlt : k < n
    · have t1 : (k : Int) < (n : Int) := by omega
      have t0 : (0 : Int) ≤ (k : Int) := by omega
      obtain ⟨g, o, ha, hcell⟩ := HR.out (by omega)
      subst ha
      obtain ⟨d1, d2⟩ := hcell k hlt
      have HS := Bx.mk (latN_succ m k (by rw [HN.out]; exact hlt))
      have R1 := Bx.mk (And.intro HB.out.1 (And.intro HB.out.2.1 (And.intro (two_range ((HB.out.2.2.cell (p := ⟨g, o + k * 2, none⟩) (World.block_lt_of_cell? _ _ d1)).trans d1) ((HB.out.2.2.cell (p := ⟨g, o + k * 2 + 1, none⟩) (World.block_lt_of_cell? _ _ d2)).trans d2)) HB.out.2.2)))
      have HLe := Bx.mk (HLs.out (latN (m.take k)) (m.getD k Nn.zero))
      generalize latN (m.take k) = y at *
      generalize m.getD k Nn.zero = x at *
      obtain ⟨xb, xc⟩ := x
      obtain ⟨yb, yc⟩ := y
      unfold nv at HLe
      simp only at HLe R1
      clear hcell d1 d2 HB HLs HR HT hX
      cases hl : lessN ⟨yb, yc⟩ ⟨xb, xc⟩ with
      | true =>
        have HS2 : Bx (latN (m.take (k + 1)) = ⟨xb, xc⟩) := Bx.mk (by rw [HS.out, hl]; rfl)
        rw [hl] at HLe
        clear hl HS
        go_upto_region 5 with fail
        have RD : Bx (BoxN 26 w.heap.size Nn.zero wr.drew ∧ BoxN 26 X ⟨yb, yc⟩ wr.drew ∧ wr.drew.rangeAt g (o + k * 2) [.int .i64 xb, .int .i64 xc] ∧ Below w.heap.size w wr.drew) := Bx.mk ⟨R1.out.1.later (Below.refl _ _).drew, R1.out.2.1.later (Below.refl _ _).drew, rangeN_later R1.out.2.2.1 (Below.refl _ _).drew, R1.out.2.2.2.trans ((Below.refl _ _).drew.mono R1.out.2.2.2.size)⟩
        refine wp_region_noPanic ?_
        refine wp_region_held_drew (S := fun W => W.rangeAt X 0 [.int .i64 yb, .int .i64 yc] ∧ W.rangeAt g (o + k * 2) [.int .i64 xb, .int .i64 xc]) (by kernel_rfl) (⟨RD.out.2.1.range, RD.out.2.2.1⟩) (fun hHeld => ?_)
        have R0 := RD
        clear RD R1
        generalize wr.drew = W0 at *
        refine takeL 0 rfl (by kernel_rfl) (by kernel_rfl) (by kernel_rfl) (fun _ _ _ h => h) (yieldsIf_load_mid (by rfl) _ _ rfl _ _ rfl _ _ (fun w hSw => hSw.1) Try.underlying26 rfl (by kernel_rfl)) hHeld ?_
        try simp only [Act.put, List.setIfInBounds_toArray, List.set_cons_zero, List.set_cons_succ]
        refine takeL 1 (v := ?_) rfl (by kernel_rfl) (by kernel_rfl) (by kernel_rfl) (fun _ _ _ h => h) (Or.inl ⟨by rfl, ?_⟩) hHeld ?_
        rotate_left 1
        · (intro w hSw; go_simp; try with_reducible rfl)
        try simp only [Act.put, List.setIfInBounds_toArray, List.set_cons_zero, List.set_cons_succ]
        refine takeL 2 (v := ?_) rfl (by kernel_rfl) (by kernel_rfl) (by kernel_rfl) (fun _ _ _ h => h) (Or.inl ⟨by rfl, ?_⟩) hHeld ?_
        rotate_left 1
        · (intro w hSw; go_simp; try with_reducible rfl)
        try simp only [Act.put, List.setIfInBounds_toArray, List.set_cons_zero, List.set_cons_succ]
        refine takeL 3 (v := ?_) rfl (by kernel_rfl) (by kernel_rfl) (by kernel_rfl) (fun _ _ _ h => h) (Or.inl ⟨by rfl, ?_⟩) hHeld ?_
        rotate_left 1
        · (intro w hSw; go_simp; try with_reducible rfl)
        try simp only [Act.put, List.setIfInBounds_toArray, List.set_cons_zero, List.set_cons_succ]
        refine takeL 4 rfl (by kernel_rfl) (by kernel_rfl) (by kernel_rfl) (fun _ _ _ h => h) (yieldsIf_load_mid (by rfl) _ _ rfl _ _ rfl _ _ (fun w hSw => hSw.2) Try.underlying26 rfl (by kernel_rfl)) hHeld ?_
        try simp only [Act.put, List.setIfInBounds_toArray, List.set_cons_zero, List.set_cons_succ]
        refine stepL 5 (by kernel_rfl) rfl (fun K hK => ?_)
        go_simp
        refine (HLe.out W0).mono ?_
        rintro e W1 ⟨rfl, hb⟩
        show K _ _
        have R1 : Bx (BoxN 26 w.heap.size Nn.zero W1 ∧ BoxN 26 X ⟨yb, yc⟩ W1 ∧ W1.rangeAt g (o + k * 2) [.int .i64 xb, .int .i64 xc] ∧ Below w.heap.size w W1) := Bx.mk ⟨R0.out.1.later hb, R0.out.2.1.later hb, rangeN_later R0.out.2.2.1 hb, R0.out.2.2.2.trans (hb.mono R0.out.2.2.2.size)⟩
        clear hb R0
        refine hK.out _ _ (⟨R1.out.2.1.range, R1.out.2.2.1⟩) (fun hHeld => ?_)
        clear hK K
        try simp only [Act.put, List.setIfInBounds_toArray, List.set_cons_zero, List.set_cons_succ]
        refine wpAnyH_done (by kernel_rfl) ?_ _
        refine NoPanic.normal ?_
        clear hHeld
        have x0 := R1.out.2.2.1 0 _ rfl
        have x1 := R1.out.2.2.1 1 _ rfl
        rw [Nat.add_zero] at x0
        obtain ⟨y0, y1⟩ := R1.out.2.1.cells
        have f0 := R1.out.2.1.frozen 0
        have f1 := R1.out.2.1.frozen 1
        go_wp2
        go_roundw
        case rel => exact ⟨k + 1, by omega, by go_num, Bx.mk ⟨R1.out.1.aside (grown_set2 _ _ _ _) (by have := HX.out; omega), by rw [HS2.out]; exact R1.out.2.1.store xb xc, below_set2 R1.out.2.2.2 (by have := HX.out; omega) _ _⟩⟩
        case measure => simp [intOf]; omega
      | false =>
        have HS2 : Bx (latN (m.take (k + 1)) = ⟨yb, yc⟩) := Bx.mk (by rw [HS.out, hl]; rfl)
        rw [hl] at HLe
        clear hl HS
        go_upto_region 5 with fail
        have RD : Bx (BoxN 26 w.heap.size Nn.zero wr.drew ∧ BoxN 26 X ⟨yb, yc⟩ wr.drew ∧ wr.drew.rangeAt g (o + k * 2) [.int .i64 xb, .int .i64 xc] ∧ Below w.heap.size w wr.drew) := Bx.mk ⟨R1.out.1.later (Below.refl _ _).drew, R1.out.2.1.later (Below.refl _ _).drew, rangeN_later R1.out.2.2.1 (Below.refl _ _).drew, R1.out.2.2.2.trans ((Below.refl _ _).drew.mono R1.out.2.2.2.size)⟩
        refine wp_region_noPanic ?_
        refine wp_region_held_drew (S := fun W => W.rangeAt X 0 [.int .i64 yb, .int .i64 yc] ∧ W.rangeAt g (o + k * 2) [.int .i64 xb, .int .i64 xc]) (by kernel_rfl) (⟨RD.out.2.1.range, RD.out.2.2.1⟩) (fun hHeld => ?_)
        have R0 := RD
        clear RD R1
        generalize wr.drew = W0 at *
        refine takeL 0 rfl (by kernel_rfl) (by kernel_rfl) (by kernel_rfl) (fun _ _ _ h => h) (yieldsIf_load_mid (by rfl) _ _ rfl _ _ rfl _ _ (fun w hSw => hSw.1) Try.underlying26 rfl (by kernel_rfl)) hHeld ?_
        try simp only [Act.put, List.setIfInBounds_toArray, List.set_cons_zero, List.set_cons_succ]
        refine takeL 1 (v := ?_) rfl (by kernel_rfl) (by kernel_rfl) (by kernel_rfl) (fun _ _ _ h => h) (Or.inl ⟨by rfl, ?_⟩) hHeld ?_
        rotate_left 1
        · (intro w hSw; go_simp; try with_reducible rfl)
        try simp only [Act.put, List.setIfInBounds_toArray, List.set_cons_zero, List.set_cons_succ]
        refine takeL 2 (v := ?_) rfl (by kernel_rfl) (by kernel_rfl) (by kernel_rfl) (fun _ _ _ h => h) (Or.inl ⟨by rfl, ?_⟩) hHeld ?_
        rotate_left 1
        · (intro w hSw; go_simp; try with_reducible rfl)
        try simp only [Act.put, List.setIfInBounds_toArray, List.set_cons_zero, List.set_cons_succ]
        refine takeL 3 (v := ?_) rfl (by kernel_rfl) (by kernel_rfl) (by kernel_rfl) (fun _ _ _ h => h) (Or.inl ⟨by rfl, ?_⟩) hHeld ?_
        rotate_left 1
        · (intro w hSw; go_simp; try with_reducible rfl)
        try simp only [Act.put, List.setIfInBounds_toArray, List.set_cons_zero, List.set_cons_succ]
        refine takeL 4 rfl (by kernel_rfl) (by kernel_rfl) (by kernel_rfl) (fun _ _ _ h => h) (yieldsIf_load_mid (by rfl) _ _ rfl _ _ rfl _ _ (fun w hSw => hSw.2) Try.underlying26 rfl (by kernel_rfl)) hHeld ?_
        try simp only [Act.put, List.setIfInBounds_toArray, List.set_cons_zero, List.set_cons_succ]
        refine stepL 5 (by kernel_rfl) rfl (fun K hK => ?_)
        go_simp
        refine (HLe.out W0).mono ?_
        rintro e W1 ⟨rfl, hb⟩
        show K _ _
        have R1 : Bx (BoxN 26 w.heap.size Nn.zero W1 ∧ BoxN 26 X ⟨yb, yc⟩ W1 ∧ W1.rangeAt g (o + k * 2) [.int .i64 xb, .int .i64 xc] ∧ Below w.heap.size w W1) := Bx.mk ⟨R0.out.1.later hb, R0.out.2.1.later hb, rangeN_later R0.out.2.2.1 hb, R0.out.2.2.2.trans (hb.mono R0.out.2.2.2.size)⟩
        clear hb R0
        refine hK.out _ _ (⟨R1.out.2.1.range, R1.out.2.2.1⟩) (fun hHeld => ?_)
        clear hK K
        try simp only [Act.put, List.setIfInBounds_toArray, List.set_cons_zero, List.set_cons_succ]
        refine wpAnyH_done (by kernel_rfl) ?_ _
        refine NoPanic.normal ?_
        clear hHeld
        go_wp2
        go_roundw
        case rel => exact ⟨k + 1, by omega, by go_num, Bx.mk ⟨R1.out.1, by rw [HS2.out]; exact R1.out.2.1, R1.out.2.2.2⟩⟩
        case measure => simp [intOf]; omega
    · have t1 : ¬ (k : Int) < (n : Int) := by omega
      obtain rfl : k = n := by omega
      rw [HT.out] at HB
      obtain ⟨⟨yb, yc⟩, hy⟩ : ∃ y, latN m = y := ⟨_, rfl⟩
      have HY := Bx.mk hy
      rw [hy] at HB
      clear hy
      obtain ⟨y0, y1⟩ := HB.out.2.1.cells
      obtain ⟨z0, z1⟩ := HB.out.1.cells
      have f0 := HB.out.1.frozen 0
      have f1 := HB.out.1.frozen 1
      clear HLs HR HT
      simp only [Nn.zero] at y0 y1 z0 z1
      go_wp2
      skip -- M1
      refine bodyPost_ret (results_cell_row rfl _ _ w.heap.size _ _ _ _ rfl (HB.out.1.store yb yc) Try.underlying26 rfl (by kernel_rfl)) rfl ?_
      exact ⟨by rw [HY.out]; rfl, below_set2 HB.out.2.2 (Nat.le_refl _) _ _⟩
end Go.Proofs.Ytdbdpehagkglfaa
