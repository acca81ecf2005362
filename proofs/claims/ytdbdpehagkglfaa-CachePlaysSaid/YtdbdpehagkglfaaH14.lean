/-
  A book: an entry is kept.
-/
import Derived.Test.YtdbdpehagkglfaaH12
import Derived.Test.YtdbdpehagkglfaaH6
namespace Go.Proofs.Ytdbdpehagkglfaa
open Go Go.RowKit
theorem step_mapU15 {w w1 : World} {ops : Array Oper} {o : Oper} {a : Act} {K : Act → World → Prop} {Q : Exit → Act → World → Prop} {E : Prop} (hgd : o.guard = none) (tt : TypeId) (m k v : Operand)
    (ho : o.op = .mapUpdate tt m k v) (hrun : (Instr.mapUpdate tt (a.eval m) (a.eval k) (a.eval v)).run Try.prog w = .ok () w1) (h : K (a.put o.dst undef) w1) :
    if Region.wanted o (yielded ops a.tmps) = true then Oper.wp Try.prog o a w K Q else E := by
  have hw : Region.wanted o (yielded ops a.tmps) = true := by simp [Region.wanted, hgd]
  rw [if_pos hw]
  unfold Oper.wp
  simp [execOp, ho, hrun, Result.andThen]
  exact h
theorem map_some_nil (M : Nat) (W : World) : (binOp BinOp.eql 69 (.map (some M)) (.map none)).run Try.prog W = .ok (.bool false) W := by kernel_rfl
theorem map_nil_nil (W : World) : (binOp BinOp.eql 69 (.map none) (.map none)).run Try.prog W = .ok (.bool true) W := by kernel_rfl
theorem BookAt.mapOf {B Q : Nat} {l : List En} {W : World} (h : BookAt B Q l W) {M : Nat} (hM : W.cell? ⟨Q, 0, none⟩ = some (.map (some M))) : ∃ ml, W.heap[Q]? = some (.cells #[.map (some M)] 71 (0, 0)) ∧ B ≤ M ∧ MapL W M ml ∧ ml.Perm (prsE l) := by
  obtain ⟨mb, ml, h1, h2, h3⟩ := h.row
  have h4 : W.cell? ⟨Q, 0, none⟩ = some (.map mb) := by rw [cell_of_row _ _ _ _ _ _ h1]; rfl
  rw [hM] at h4
  injection h4 with h4
  injection h4 with h4
  subst h4
  rcases h2 with ⟨h2, _⟩ | ⟨M', h2, h5, h6⟩
  · cases h2
  · injection h2 with h2
    subst h2
    exact ⟨ml, h1, h5, h6, h3⟩
theorem EntAt.ne_map {B : Nat} {W : World} {e : En} {M : Nat} {ml : List (Cl × Nat)} (h : EntAt B W e) (hm : MapL W M ml) : e.p ≠ M := fun ex => by
  obtain ⟨kv, hw, -⟩ := h.row
  obtain ⟨es, clock, hb, -⟩ := hm.st
  rw [← ex, show W.heap[e.p]? = _ from hw] at hb
  cases hb
theorem row_ne_map {W : World} {Q M : Nat} {cs : Array Value} {T : TypeId} {fr : Nat × Nat} {ml : List (Cl × Nat)} (h : W.heap[Q]? = some (.cells cs T fr)) (hm : MapL W M ml) : Q ≠ M := fun ex => by
  obtain ⟨es, clock, hb, -⟩ := hm.st
  rw [← ex, h] at hb
  cases hb
theorem prs_out {ml : List (Cl × Nat)} {l : List En} (hp : ml.Perm (prsE l)) {c : Cl} (hn : ∀ e ∈ l, e.c ≠ c) : ∀ x ∈ ml, x.1 ≠ c := fun x hx => by
  obtain ⟨e, he, rfl⟩ := List.mem_map.1 (hp.mem_iff.1 hx)
  exact hn e he
/-- A new entry in the book's map. -/
theorem BookAt.ins {B Q : Nat} {l : List En} {W : World} (h : BookAt B Q l W) {M : Nat} (hM : W.cell? ⟨Q, 0, none⟩ = some (.map (some M))) (e' : En) (hE : EntAt B W e') (hn : ∀ y ∈ l, y.c ≠ e'.c) (hd : ∀ y ∈ l, y.p ≠ e'.p) :
    ∃ W2, (Instr.mapUpdate 69 (.map (some M)) (clV e'.c) (ptr e'.p)).run Try.prog W = .ok () W2 ∧ BookAt B Q (l ++ [e']) W2 ∧ KB B W W2 ∧ W.grownBy W2 (some M) ∧ Q ≠ M := by
  obtain ⟨ml, h1, h2, h3, h4⟩ := h.mapOf hM
  obtain ⟨W2, hrun, hm2, hg⟩ := h3.putG _ _ Try.underlying69 e'.c e'.p hE.fit (prs_out h4 hn)
  have hk : KB B W W2 := KB.by_ hg h2 h3.soft
  have hQM : Q ≠ M := row_ne_map h1 h3
  refine ⟨W2, hrun, ⟨⟨some M, _, (hg.block Q h.lt (fun ex => hQM (by injection ex))).trans h1, .inr ⟨M, rfl, h2, hm2⟩, ?_⟩, fun y hy => ?_, ?_, ?_, h.qB⟩, hk, hg, hQM⟩
  · rw [show prsE (l ++ [e']) = prsE l ++ [(e'.c, e'.p)] from by simp [prsE]]
    exact h4.append_right _
  · rcases List.mem_append.1 hy with hy | hy
    · exact (h.ent y hy).keepB hk (hg.block _ (h.ent y hy).lt (fun ex => (h.ent y hy).ne_map h3 (by injection ex)))
    · obtain rfl : y = e' := by simpa using hy
      exact hE.keepB hk (hg.block _ hE.lt (fun ex => hE.ne_map h3 (by injection ex)))
  · rw [List.pairwise_append]
    exact ⟨h.dist, List.pairwise_singleton _ _, fun y hy z hz => by obtain rfl : z = e' := by simpa using hz
                                                                    exact hd y hy⟩
  · rw [List.pairwise_append]
    exact ⟨h.keys, List.pairwise_singleton _ _, fun y hy z hz => by obtain rfl : z = e' := by simpa using hz
                                                                    exact hn y hy⟩
/-- Another entry for the same claims in the book's map. -/
theorem BookAt.rep {B Q : Nat} {l : List En} {W : World} (h : BookAt B Q l W) {M : Nat} (hM : W.cell? ⟨Q, 0, none⟩ = some (.map (some M))) (e e' : En) (he : e ∈ l) (hc : e'.c = e.c) (hE : EntAt B W e') (hd : ∀ y ∈ l, y.p ≠ e'.p) :
    ∃ W2, (Instr.mapUpdate 69 (.map (some M)) (clV e'.c) (ptr e'.p)).run Try.prog W = .ok () W2 ∧ BookAt B Q (setC l e') W2 ∧ KB B W W2 ∧ W.grownBy W2 (some M) ∧ Q ≠ M := by
  obtain ⟨ml, h1, h2, h3, h4⟩ := h.mapOf hM
  obtain ⟨W2, hrun, hm2, hg⟩ := h3.setG _ _ Try.underlying69 e'.c e'.p hE.fit ⟨(e.c, e.p), h4.mem_iff.2 (List.mem_map.2 ⟨e, he, rfl⟩), hc.symm⟩
  have hk : KB B W W2 := KB.by_ hg h2 h3.soft
  have hQM : Q ≠ M := row_ne_map h1 h3
  refine ⟨W2, hrun, ⟨⟨some M, _, (hg.block Q h.lt (fun ex => hQM (by injection ex))).trans h1, .inr ⟨M, rfl, h2, hm2⟩, ?_⟩, fun y hy => ?_, ?_, setC_keys h.keys e', h.qB⟩, hk, hg, hQM⟩
  · have h5 := h4.map fun x => if x.1 = e'.c then (e'.c, e'.p) else x
    have h6 : (prsE l).map (fun x => if x.1 = e'.c then (e'.c, e'.p) else x) = prsE (setC l e') := by
      unfold prsE setC
      rw [List.map_map, List.map_map]
      refine List.map_congr_left fun y _ => ?_
      simp only [Function.comp]
      split <;> rfl
    rw [h6] at h5
    exact h5
  · rcases setC_in hy with rfl | ⟨hy, _⟩
    · exact hE.keepB hk (hg.block _ hE.lt (fun ex => hE.ne_map h3 (by injection ex)))
    · exact (h.ent y hy).keepB hk (hg.block _ (h.ent y hy).lt (fun ex => (h.ent y hy).ne_map h3 (by injection ex)))
  · unfold setC
    rw [List.pairwise_map]
    refine (h.dist.and h.keys).imp_of_mem fun {a b} ha hb hab => ?_
    split <;> split
    · rename_i h7 h8
      exact absurd (h7.trans h8.symm) hab.2
    · exact (hd b hb).symm
    · exact hd a ha
    · exact hab.1
theorem MapL.none_nil {B : Nat} {W : World} {ml : List (Cl × Nat)} (h : MapB B W none ml) : ml = [] := by
  rcases h with ⟨_, h⟩ | ⟨M, h, _⟩
  · exact h
  · cases h
/-- What is kept. -/
def Keeps (B Q : Nat) (l' : List En) (w : World) (W : World) : Prop := BookAt B Q l' W ∧ KB B w W
set_option maxRecDepth 100000 in
set_option maxHeartbeats 1000000 in
theorem keep_new_map (B Q : Nat) (l : List En) (e' : En) (hn : ∀ y ∈ l, y.c ≠ e'.c) (w : World) (M : Nat) (hM : w.cell? ⟨Q, 0, none⟩ = some (.map (some M))) (h : BookAt B Q l w) (hE : EntAt B w e') (hd : ∀ y ∈ l, y.p ≠ e'.p) :
    Calls Try.prog 33 #[ptr Q, clV e'.c, ptr e'.p] w fun x w' => x = .returned (.tuple #[]) ∧ Keeps B Q (l ++ [e']) w w' := by
  have HU : Bx (∀ W, Below w.heap.size w W → ∃ W2, (Instr.mapUpdate 69 (.map (some M)) (clV e'.c) (ptr e'.p)).run Try.prog W = .ok () W2 ∧ BookAt B Q (l ++ [e']) W2 ∧ KB B W W2 ∧ W.grownBy W2 (some M) ∧ Q ≠ M) := Bx.mk fun W hb => (h.later hb).ins ((hb.cell (p := ⟨Q, 0, none⟩) h.lt).trans hM) e' (hE.later hb) hn hd
  have HXM : Bx (w.heap.size ≠ M) := Bx.mk (by
    obtain ⟨ml, -, -, h3, -⟩ := h.mapOf hM
    have := h3.lt
    omega)
  have HQl := Bx.mk h.lt
  obtain ⟨l', hl'⟩ : ∃ l', (l ++ [e']) = l' := ⟨_, rfl⟩
  rw [hl'] at HU ⊢
  clear h hE hd hl' hn
  obtain ⟨⟨i, r, x, q⟩, p, s, k, a⟩ := e'
  unfold clV ptr at *
  simp only at HU ⊢
  have HBo := Bx.mk (box_rng w ⟨i, r, x, q⟩ 34)
  have HBe := Bx.mk (below_a (W := w) (.cells #[.int .i64 i, .int .i64 r, .int .i64 x, .int .i64 q] 34))
  simp only at HBo HBe
  have hM0 : (w.alloc (.cells #[.int .i64 i, .int .i64 r, .int .i64 x, .int .i64 q] 34)).cell? ⟨Q, 0, none⟩ = some (.map (some M)) := (HBe.out.cell (p := ⟨Q, 0, none⟩) HQl.out).trans hM
  have HM := Bx.mk hM
  clear hM
  have hmn := map_some_nil M (w.alloc (.cells #[.int .i64 i, .int .i64 r, .int .i64 x, .int .i64 q] 34))
  go_enter Try.func33, Try.ntmps33
  go_upto_region 3 with fail
  obtain ⟨X, hX⟩ : ∃ X, w.heap.size = X := ⟨_, rfl⟩
  have HR : Bx ((w.alloc (.cells #[.int .i64 i, .int .i64 r, .int .i64 x, .int .i64 q] 34)).drew.cell? ⟨Q, 0, none⟩ = some (.map (some M)) ∧ (w.alloc (.cells #[.int .i64 i, .int .i64 r, .int .i64 x, .int .i64 q] 34)).drew.rangeAt X 0 [.int .i64 i, .int .i64 r, .int .i64 x, .int .i64 q] ∧ _) := Bx.mk ⟨hM0, hX ▸ HBo.out, HU.out _ HBe.out.drew⟩
  have HL0 : Bx (Q < (w.alloc (.cells #[.int .i64 i, .int .i64 r, .int .i64 x, .int .i64 q] 34)).drew.heap.size ∧ X < (w.alloc (.cells #[.int .i64 i, .int .i64 r, .int .i64 x, .int .i64 q] 34)).drew.heap.size) := Bx.mk ⟨by have := HQl.out; show Q < (w.alloc _).heap.size; rw [World.size_alloc]; omega, by show X < (w.alloc _).heap.size; rw [World.size_alloc]; omega⟩
  have HK0 : Bx (KB B w (w.alloc (.cells #[.int .i64 i, .int .i64 r, .int .i64 x, .int .i64 q] 34)).drew) := Bx.mk (KB.of HBe.out.drew)
  rw [hX] at HXM ⊢
  clear hM0 HBo HBe HU HM hmn
  generalize w.alloc (.cells #[.int .i64 i, .int .i64 r, .int .i64 x, .int .i64 q] 34) = wa at *
  refine wp_region_noPanic ?_
  refine wp_region_held_drew (S := fun W => W.cell? ⟨Q, 0, none⟩ = some (.map (some M)) ∧ W.rangeAt X 0 [.int .i64 i, .int .i64 r, .int .i64 x, .int .i64 q]) (by kernel_rfl) (⟨HR.out.1, HR.out.2.1⟩) (fun hHeld => ?_)
  generalize wa.drew = W0 at *
  refine takeL 0 (v := ?_) rfl (by kernel_rfl) (by kernel_rfl) (by kernel_rfl) (fun _ _ _ h => h) (Or.inl ⟨by rfl, ?_⟩) hHeld ?_
  rotate_left 1
  · (intro w hSw; go_simp; try with_reducible rfl)
  try simp only [Act.put, List.setIfInBounds_toArray, List.set_cons_zero, List.set_cons_succ]
  refine takeL 1 (v := ?_) rfl (by kernel_rfl) (by kernel_rfl) (by kernel_rfl) (fun _ _ _ h => h) (Or.inl ⟨by rfl, ?_⟩) hHeld ?_
  rotate_left 1
  · (intro w hSw; go_simp; try with_reducible rfl)
  try simp only [Act.put, List.setIfInBounds_toArray, List.set_cons_zero, List.set_cons_succ]
  refine takeL 2 (v := ?_) rfl (by kernel_rfl) (by kernel_rfl) (by kernel_rfl) (fun _ _ _ h => h) (Or.inl ⟨by rfl, ?_⟩) hHeld ?_
  rotate_left 1
  · (intro w hSw; go_simp; try with_reducible rfl)
  try simp only [Act.put, List.setIfInBounds_toArray, List.set_cons_zero, List.set_cons_succ]
  refine takeL 3 (v := ?_) rfl (by kernel_rfl) (by kernel_rfl) (by kernel_rfl) (fun _ _ _ h => h) (Or.inl ⟨by rfl, ?_⟩) hHeld ?_
  rotate_left 1
  · (intro w hSw; have h1 := hSw.1; go_simp; try with_reducible rfl)
  try simp only [Act.put, List.setIfInBounds_toArray, List.set_cons_zero, List.set_cons_succ]
  refine takeL 4 rfl (by kernel_rfl) (by kernel_rfl) (by kernel_rfl) (fun _ _ _ h => h) (yieldsIf_load_mid (by rfl) _ _ rfl _ _ rfl _ _ (fun w hSw => hSw.2) Try.underlying34 rfl (by kernel_rfl)) hHeld ?_
  try simp only [Act.put, List.setIfInBounds_toArray, List.set_cons_zero, List.set_cons_succ]
  refine takeL 5 (v := ?_) rfl (by kernel_rfl) (by kernel_rfl) (by kernel_rfl) (fun _ _ _ h => h) (Or.inl ⟨by rfl, ?_⟩) hHeld ?_
  rotate_left 1
  · (intro w hSw; go_simp; try with_reducible rfl)
  try simp only [Act.put, List.setIfInBounds_toArray, List.set_cons_zero, List.set_cons_succ]
  refine stepL 6 (by kernel_rfl) rfl (fun K hK => ?_)
  obtain ⟨W2, hrun, hb2, hk2, hg2, hQM⟩ := HR.out.2.2
  refine step_mapU15 rfl 69 _ _ _ rfl hrun ?_
  have R2 : Bx (Keeps B Q l' w W2) := Bx.mk ⟨hb2, HK0.out.trans hk2⟩
  refine hK.out _ _ (⟨by rw [cell_heap (hg2.block Q HL0.out.1 (fun ex => hQM (by injection ex)))]; exact HR.out.1, fun j u hj => by
    rw [cell_heap (hg2.block X HL0.out.2 (fun ex => HXM.out (by injection ex)))]
    exact HR.out.2.1 j u hj⟩) (fun hHeld => ?_)
  clear hK K hrun hb2 hk2 hg2 hQM
  try simp only [Act.put, List.setIfInBounds_toArray, List.set_cons_zero, List.set_cons_succ]
  refine wpAnyH_done (by kernel_rfl) ?_ _
  refine NoPanic.normal ?_
  clear hHeld
  try go_wp2
  go_end0
  exact ⟨rfl, R2.out⟩
set_option maxRecDepth 100000 in
set_option maxHeartbeats 1000000 in
theorem keep_old_map (B Q : Nat) (l : List En) (e' : En) (e : En) (he : e ∈ l) (hc : e'.c = e.c) (w : World) (M : Nat) (hM : w.cell? ⟨Q, 0, none⟩ = some (.map (some M))) (h : BookAt B Q l w) (hE : EntAt B w e') (hd : ∀ y ∈ l, y.p ≠ e'.p) :
    Calls Try.prog 33 #[ptr Q, clV e'.c, ptr e'.p] w fun x w' => x = .returned (.tuple #[]) ∧ Keeps B Q (setC l e') w w' := by
  have HU : Bx (∀ W, Below w.heap.size w W → ∃ W2, (Instr.mapUpdate 69 (.map (some M)) (clV e'.c) (ptr e'.p)).run Try.prog W = .ok () W2 ∧ BookAt B Q (setC l e') W2 ∧ KB B W W2 ∧ W.grownBy W2 (some M) ∧ Q ≠ M) := Bx.mk fun W hb => (h.later hb).rep ((hb.cell (p := ⟨Q, 0, none⟩) h.lt).trans hM) e e' he hc (hE.later hb) hd
  have HXM : Bx (w.heap.size ≠ M) := Bx.mk (by
    obtain ⟨ml, -, -, h3, -⟩ := h.mapOf hM
    have := h3.lt
    omega)
  have HQl := Bx.mk h.lt
  obtain ⟨l', hl'⟩ : ∃ l', (setC l e') = l' := ⟨_, rfl⟩
  rw [hl'] at HU ⊢
  clear h hE hd hl' he hc
  obtain ⟨⟨i, r, x, q⟩, p, s, k, a⟩ := e'
  unfold clV ptr at *
  simp only at HU ⊢
  have HBo := Bx.mk (box_rng w ⟨i, r, x, q⟩ 34)
  have HBe := Bx.mk (below_a (W := w) (.cells #[.int .i64 i, .int .i64 r, .int .i64 x, .int .i64 q] 34))
  simp only at HBo HBe
  have hM0 : (w.alloc (.cells #[.int .i64 i, .int .i64 r, .int .i64 x, .int .i64 q] 34)).cell? ⟨Q, 0, none⟩ = some (.map (some M)) := (HBe.out.cell (p := ⟨Q, 0, none⟩) HQl.out).trans hM
  have HM := Bx.mk hM
  clear hM
  have hmn := map_some_nil M (w.alloc (.cells #[.int .i64 i, .int .i64 r, .int .i64 x, .int .i64 q] 34))
  go_enter Try.func33, Try.ntmps33
  go_upto_region 3 with fail
  obtain ⟨X, hX⟩ : ∃ X, w.heap.size = X := ⟨_, rfl⟩
  have HR : Bx ((w.alloc (.cells #[.int .i64 i, .int .i64 r, .int .i64 x, .int .i64 q] 34)).drew.cell? ⟨Q, 0, none⟩ = some (.map (some M)) ∧ (w.alloc (.cells #[.int .i64 i, .int .i64 r, .int .i64 x, .int .i64 q] 34)).drew.rangeAt X 0 [.int .i64 i, .int .i64 r, .int .i64 x, .int .i64 q] ∧ _) := Bx.mk ⟨hM0, hX ▸ HBo.out, HU.out _ HBe.out.drew⟩
  have HL0 : Bx (Q < (w.alloc (.cells #[.int .i64 i, .int .i64 r, .int .i64 x, .int .i64 q] 34)).drew.heap.size ∧ X < (w.alloc (.cells #[.int .i64 i, .int .i64 r, .int .i64 x, .int .i64 q] 34)).drew.heap.size) := Bx.mk ⟨by have := HQl.out; show Q < (w.alloc _).heap.size; rw [World.size_alloc]; omega, by show X < (w.alloc _).heap.size; rw [World.size_alloc]; omega⟩
  have HK0 : Bx (KB B w (w.alloc (.cells #[.int .i64 i, .int .i64 r, .int .i64 x, .int .i64 q] 34)).drew) := Bx.mk (KB.of HBe.out.drew)
  rw [hX] at HXM ⊢
  clear hM0 HBo HBe HU HM hmn
  generalize w.alloc (.cells #[.int .i64 i, .int .i64 r, .int .i64 x, .int .i64 q] 34) = wa at *
  refine wp_region_noPanic ?_
  refine wp_region_held_drew (S := fun W => W.cell? ⟨Q, 0, none⟩ = some (.map (some M)) ∧ W.rangeAt X 0 [.int .i64 i, .int .i64 r, .int .i64 x, .int .i64 q]) (by kernel_rfl) (⟨HR.out.1, HR.out.2.1⟩) (fun hHeld => ?_)
  generalize wa.drew = W0 at *
  refine takeL 0 (v := ?_) rfl (by kernel_rfl) (by kernel_rfl) (by kernel_rfl) (fun _ _ _ h => h) (Or.inl ⟨by rfl, ?_⟩) hHeld ?_
  rotate_left 1
  · (intro w hSw; go_simp; try with_reducible rfl)
  try simp only [Act.put, List.setIfInBounds_toArray, List.set_cons_zero, List.set_cons_succ]
  refine takeL 1 (v := ?_) rfl (by kernel_rfl) (by kernel_rfl) (by kernel_rfl) (fun _ _ _ h => h) (Or.inl ⟨by rfl, ?_⟩) hHeld ?_
  rotate_left 1
  · (intro w hSw; go_simp; try with_reducible rfl)
  try simp only [Act.put, List.setIfInBounds_toArray, List.set_cons_zero, List.set_cons_succ]
  refine takeL 2 (v := ?_) rfl (by kernel_rfl) (by kernel_rfl) (by kernel_rfl) (fun _ _ _ h => h) (Or.inl ⟨by rfl, ?_⟩) hHeld ?_
  rotate_left 1
  · (intro w hSw; go_simp; try with_reducible rfl)
  try simp only [Act.put, List.setIfInBounds_toArray, List.set_cons_zero, List.set_cons_succ]
  refine takeL 3 (v := ?_) rfl (by kernel_rfl) (by kernel_rfl) (by kernel_rfl) (fun _ _ _ h => h) (Or.inl ⟨by rfl, ?_⟩) hHeld ?_
  rotate_left 1
  · (intro w hSw; have h1 := hSw.1; go_simp; try with_reducible rfl)
  try simp only [Act.put, List.setIfInBounds_toArray, List.set_cons_zero, List.set_cons_succ]
  refine takeL 4 rfl (by kernel_rfl) (by kernel_rfl) (by kernel_rfl) (fun _ _ _ h => h) (yieldsIf_load_mid (by rfl) _ _ rfl _ _ rfl _ _ (fun w hSw => hSw.2) Try.underlying34 rfl (by kernel_rfl)) hHeld ?_
  try simp only [Act.put, List.setIfInBounds_toArray, List.set_cons_zero, List.set_cons_succ]
  refine takeL 5 (v := ?_) rfl (by kernel_rfl) (by kernel_rfl) (by kernel_rfl) (fun _ _ _ h => h) (Or.inl ⟨by rfl, ?_⟩) hHeld ?_
  rotate_left 1
  · (intro w hSw; go_simp; try with_reducible rfl)
  try simp only [Act.put, List.setIfInBounds_toArray, List.set_cons_zero, List.set_cons_succ]
  refine stepL 6 (by kernel_rfl) rfl (fun K hK => ?_)
  obtain ⟨W2, hrun, hb2, hk2, hg2, hQM⟩ := HR.out.2.2
  refine step_mapU15 rfl 69 _ _ _ rfl hrun ?_
  have R2 : Bx (Keeps B Q l' w W2) := Bx.mk ⟨hb2, HK0.out.trans hk2⟩
  refine hK.out _ _ (⟨by rw [cell_heap (hg2.block Q HL0.out.1 (fun ex => hQM (by injection ex)))]; exact HR.out.1, fun j u hj => by
    rw [cell_heap (hg2.block X HL0.out.2 (fun ex => HXM.out (by injection ex)))]
    exact HR.out.2.1 j u hj⟩) (fun hHeld => ?_)
  clear hK K hrun hb2 hk2 hg2 hQM
  try simp only [Act.put, List.setIfInBounds_toArray, List.set_cons_zero, List.set_cons_succ]
  refine wpAnyH_done (by kernel_rfl) ?_ _
  refine NoPanic.normal ?_
  clear hHeld
  try go_wp2
  go_end0
  exact ⟨rfl, R2.out⟩
set_option maxRecDepth 100000 in
set_option maxHeartbeats 1000000 in
theorem keep_new_nil (B Q : Nat) (l : List En) (e' : En) (w : World) (hM : w.cell? ⟨Q, 0, none⟩ = some (.map none)) (h : BookAt B Q l w) (hE : EntAt B w e') (hB : B ≤ w.heap.size) :
    Calls Try.prog 33 #[ptr Q, clV e'.c, ptr e'.p] w fun x w' => x = .returned (.tuple #[]) ∧ Keeps B Q (l ++ [e']) w w' := by
  obtain ⟨hl, hrow⟩ : l = [] ∧ w.heap[Q]? = some (.cells #[.map none] 71 (0, 0)) := by
    obtain ⟨mb, ml, h1, h2, h3⟩ := h.row
    have h4 : w.cell? ⟨Q, 0, none⟩ = some (.map mb) := by rw [cell_of_row _ _ _ _ _ _ h1]; rfl
    rw [hM] at h4
    injection h4 with h4
    injection h4 with h4
    subst h4
    have h5 := MapL.none_nil h2
    subst h5
    exact ⟨List.map_eq_nil_iff.1 h3.symm.eq_nil, h1⟩
  subst hl
  obtain ⟨X, hX⟩ : ∃ X, w.heap.size = X := ⟨_, rfl⟩
  obtain ⟨w0, hw0⟩ : ∃ w0, w.alloc (.cells (clC e'.c) 34) = w0 := ⟨_, rfl⟩
  have hs0 : w0.heap.size = X + 1 := by rw [← hw0, ← hX]; simp
  have hb0 : Below w.heap.size w w0 := by rw [← hw0]; exact below_a _
  have hX0 : w0.heap[X]? = some (.cells (clC e'.c) 34 (0, 0)) := by rw [← hw0]; exact hnew _ _ _ hX.symm
  have hQ0 : w0.heap[Q]? = some (.cells #[.map none] 71 (0, 0)) := (hb0.block Q h.lt).trans hrow
  have hc0' : w0.cell? ⟨Q, 0, none⟩ = some (.map none) := by rw [cell_of_row _ _ _ _ _ _ hQ0]; rfl
  obtain ⟨w1, hw1⟩ : ∃ w1, w0.alloc (.map #[] 0) = w1 := ⟨_, rfl⟩
  have hb1 : Below w0.heap.size w0 w1 := by rw [← hw1]; exact below_a _
  obtain ⟨M, hM'⟩ : ∃ M, M = X + 1 := ⟨_, rfl⟩
  have hmk : (Instr.makeMap 69 none).run Try.prog w0 = .ok (.map (some M)) w1 := by
    rw [← hw1, hM', ← hs0]
    kernel_rfl
  have hm1 : MapL w1 M [] := by rw [← hw1, hM', ← hs0]; exact mapL_made w0
  have hQl : Q < X := by rw [← hX]; exact h.lt
  have hQ1 : w1.heap[Q]? = some (.cells #[.map none] 71 (0, 0)) := (hb1.block Q (by omega)).trans hQ0
  have fz1 : w1.frozen? ⟨Q, 0, none⟩ = false := frozen_of_row _ _ _ _ _ hQ1
  have hc1 : w1.cell? ⟨Q, 0, none⟩ = some (.map none) := by rw [cell_of_row _ _ _ _ _ _ hQ1]; rfl
  obtain ⟨w2, hw2⟩ : ∃ w2, w1.setCell ⟨Q, 0, none⟩ (.map (some M)) = w2 := ⟨_, rfl⟩
  have hQ2 : w2.heap[Q]? = some (.cells #[.map (some M)] 71 (0, 0)) := by
    rw [← hw2]
    exact heap_setCells_same Q _ [.map (some M)] 0 w1 _ hQ1
  have hg2 : w1.grownBy w2 (some Q) := by rw [← hw2]; exact kb_setCell _ _ _
  have hm2 : MapL w2 M [] := hm1.later (hg2.block M hm1.lt (fun e => by injection e with e; omega))
  have hk2 : KB B w w2 := ((KB.of hb0).trans (KB.of hb1)).trans (KB.by_ hg2 h.qB (fun o ho => by
    rw [hQ1] at ho
    injection ho with ho
    subst ho
    exact .inr ⟨_, _, _, rfl, .inr rfl⟩))
  have hbk : BookAt B Q [] w2 := ⟨⟨some M, [], hQ2, .inr ⟨M, rfl, by omega, hm2⟩, .nil⟩, (fun e he => by cases he), .nil, .nil, h.qB⟩
  have hEp : e'.p < X := by rw [← hX]; exact hE.lt
  have hEQ : e'.p ≠ Q := fun ex => by
    obtain ⟨kv, hw, -⟩ := hE.row
    rw [← ex, show w.heap[e'.p]? = _ from hw] at hrow
    injection hrow with hrow
    injection hrow with _ hrow
    exact absurd hrow (by decide)
  have hE2 : EntAt B w2 e' := hE.keepB hk2 ((hg2.block _ (by have := hb1.size; omega) (fun e => hEQ (by injection e))).trans ((hb1.block _ (by omega)).trans (hb0.block _ (by omega))))
  have hX2 : w2.heap[X]? = some (.cells (clC e'.c) 34 (0, 0)) := (hg2.block X (by have := hb1.size; omega) (fun e => by injection e with e; omega)).trans ((hb1.block X (by omega)).trans hX0)
  have hM2 : w2.cell? ⟨Q, 0, none⟩ = some (.map (some M)) := by rw [cell_of_row _ _ _ _ _ _ hQ2]; rfl
  have HU := Bx.mk ((hbk.later (Below.refl _ w2).drew).ins (W := w2.drew) hM2 e' (hE2.later (Below.refl _ w2).drew) (fun y hy => by cases hy) (fun y hy => by cases hy))
  have HR : Bx (w2.drew.cell? ⟨Q, 0, none⟩ = some (.map (some M)) ∧ w2.drew.rangeAt X 0 (clC e'.c).toList ∧ ∃ W2, (Instr.mapUpdate 69 (.map (some M)) (clV e'.c) (ptr e'.p)).run Try.prog w2.drew = .ok () W2 ∧ BookAt B Q ([] ++ [e']) W2 ∧ KB B w2.drew W2 ∧ w2.drew.grownBy W2 (some M) ∧ Q ≠ M) := Bx.mk ⟨hM2, fun j u hj => by
    show w2.cell? _ = _
    rw [cell_of_row _ _ _ _ _ _ hX2, Nat.zero_add, ← Array.getElem?_toList]
    exact hj, HU.out⟩
  have HK0 : Bx (KB B w w2.drew) := Bx.mk (hk2.trans (KB.of (Below.refl _ w2).drew))
  have HL0 : Bx (Q < w2.drew.heap.size ∧ X < w2.drew.heap.size) := Bx.mk ⟨by have := (Array.getElem?_eq_some_iff.1 hQ2).1; exact this, (Array.getElem?_eq_some_iff.1 hX2).1⟩
  have HXM : Bx (X ≠ M) := Bx.mk (by omega)
  obtain ⟨l', hl'⟩ : ∃ l', [] ++ [e'] = l' := ⟨_, rfl⟩
  rw [hl'] at HR ⊢
  clear HU hl' hE2 hX2 hM2 hEQ hEp hbk hk2 hm2 hg2 hQ2 hm1 hQl hb1 hM' hX0 hQ0 hb0 hs0 hrow h hE hM hB hQ1
  obtain ⟨⟨i, r, x, q⟩, p, s, k, a⟩ := e'
  unfold clV clC ptr at *
  simp only at HR hw0 ⊢
  have hmn := map_nil_nil w0
  go_enter Try.func33, Try.ntmps33
  go_upto_region 3 with fail
  clear hw0 hw1 hw2 hmk hc0' hc1 fz1 hmn
  refine wp_region_noPanic ?_
  refine wp_region_held_drew (S := fun W => W.cell? ⟨Q, 0, none⟩ = some (.map (some M)) ∧ W.rangeAt X 0 [.int .i64 i, .int .i64 r, .int .i64 x, .int .i64 q]) (by kernel_rfl) (⟨HR.out.1, HR.out.2.1⟩) (fun hHeld => ?_)
  generalize w2.drew = W0 at *
  refine takeL 0 (v := ?_) rfl (by kernel_rfl) (by kernel_rfl) (by kernel_rfl) (fun _ _ _ h => h) (Or.inl ⟨by rfl, ?_⟩) hHeld ?_
  rotate_left 1
  · (intro w hSw; go_simp; try with_reducible rfl)
  try simp only [Act.put, List.setIfInBounds_toArray, List.set_cons_zero, List.set_cons_succ]
  refine takeL 1 (v := ?_) rfl (by kernel_rfl) (by kernel_rfl) (by kernel_rfl) (fun _ _ _ h => h) (Or.inl ⟨by rfl, ?_⟩) hHeld ?_
  rotate_left 1
  · (intro w hSw; go_simp; try with_reducible rfl)
  try simp only [Act.put, List.setIfInBounds_toArray, List.set_cons_zero, List.set_cons_succ]
  refine takeL 2 (v := ?_) rfl (by kernel_rfl) (by kernel_rfl) (by kernel_rfl) (fun _ _ _ h => h) (Or.inl ⟨by rfl, ?_⟩) hHeld ?_
  rotate_left 1
  · (intro w hSw; go_simp; try with_reducible rfl)
  try simp only [Act.put, List.setIfInBounds_toArray, List.set_cons_zero, List.set_cons_succ]
  refine takeL 3 (v := ?_) rfl (by kernel_rfl) (by kernel_rfl) (by kernel_rfl) (fun _ _ _ h => h) (Or.inl ⟨by rfl, ?_⟩) hHeld ?_
  rotate_left 1
  · (intro w hSw; have h1 := hSw.1; go_simp; try with_reducible rfl)
  try simp only [Act.put, List.setIfInBounds_toArray, List.set_cons_zero, List.set_cons_succ]
  refine takeL 4 rfl (by kernel_rfl) (by kernel_rfl) (by kernel_rfl) (fun _ _ _ h => h) (yieldsIf_load_mid (by rfl) _ _ rfl _ _ rfl _ _ (fun w hSw => hSw.2) Try.underlying34 rfl (by kernel_rfl)) hHeld ?_
  try simp only [Act.put, List.setIfInBounds_toArray, List.set_cons_zero, List.set_cons_succ]
  refine takeL 5 (v := ?_) rfl (by kernel_rfl) (by kernel_rfl) (by kernel_rfl) (fun _ _ _ h => h) (Or.inl ⟨by rfl, ?_⟩) hHeld ?_
  rotate_left 1
  · (intro w hSw; go_simp; try with_reducible rfl)
  try simp only [Act.put, List.setIfInBounds_toArray, List.set_cons_zero, List.set_cons_succ]
  refine stepL 6 (by kernel_rfl) rfl (fun K hK => ?_)
  obtain ⟨W2, hrun, hb2, hk2, hg2, hQM⟩ := HR.out.2.2
  refine step_mapU15 rfl 69 _ _ _ rfl hrun ?_
  have R2 : Bx (Keeps B Q l' w W2) := Bx.mk ⟨hb2, HK0.out.trans hk2⟩
  refine hK.out _ _ (⟨by rw [cell_heap (hg2.block Q HL0.out.1 (fun ex => hQM (by injection ex)))]; exact HR.out.1, fun j u hj => by
    rw [cell_heap (hg2.block X HL0.out.2 (fun ex => HXM.out (by injection ex)))]
    exact HR.out.2.1 j u hj⟩) (fun hHeld => ?_)
  clear hK K hrun hb2 hk2 hg2 hQM
  try simp only [Act.put, List.setIfInBounds_toArray, List.set_cons_zero, List.set_cons_succ]
  refine wpAnyH_done (by kernel_rfl) ?_ _
  refine NoPanic.normal ?_
  clear hHeld
  try go_wp2
  go_end0
  exact ⟨rfl, R2.out⟩
end Go.Proofs.Ytdbdpehagkglfaa
namespace Go.Proofs.Ytdbdpehagkglfaa
open Go Go.RowKit
theorem keep_new (B Q : Nat) (l : List En) (e' : En) (hn : ∀ y ∈ l, y.c ≠ e'.c) (w : World) (h : BookAt B Q l w) (hE : EntAt B w e') (hd : ∀ y ∈ l, y.p ≠ e'.p) (hB : B ≤ w.heap.size) :
    Calls Try.prog 33 #[ptr Q, clV e'.c, ptr e'.p] w fun x w' => x = .returned (.tuple #[]) ∧ Keeps B Q (l ++ [e']) w w' := by
  obtain ⟨mb, hm, -⟩ := h.look c0 (by unfold Cl64 in64 c0; simp)
  cases mb with
  | none => exact keep_new_nil B Q l e' w hm h hE hB
  | some M => exact keep_new_map B Q l e' hn w M hm h hE hd
theorem keep_old (B Q : Nat) (l : List En) (e' e : En) (he : e ∈ l) (hc : e'.c = e.c) (w : World) (h : BookAt B Q l w) (hE : EntAt B w e') (hd : ∀ y ∈ l, y.p ≠ e'.p) :
    Calls Try.prog 33 #[ptr Q, clV e'.c, ptr e'.p] w fun x w' => x = .returned (.tuple #[]) ∧ Keeps B Q (setC l e') w w' := by
  obtain ⟨mb, ml, h1, h2, h3⟩ := h.row
  have hm : w.cell? ⟨Q, 0, none⟩ = some (.map mb) := by rw [cell_of_row _ _ _ _ _ _ h1]; rfl
  cases mb with
  | none =>
    have h4 := MapL.none_nil h2
    subst h4
    have h5 : l = [] := List.map_eq_nil_iff.1 h3.symm.eq_nil
    subst h5
    cases he
  | some M => exact keep_old_map B Q l e' e he hc w M hm h hE hd
set_option maxRecDepth 100000 in
set_option maxHeartbeats 1000000 in
theorem want_bad (Q : Nat) (c : Cl) (tk : Int) (hok : okC c = false) (w : World) : Calls Try.prog 9 #[ptr Q, clV c, .int .i64 tk] w fun e w' => e = .returned (.int .i64 10) ∧ Below w.heap.size w w' := by
  have HCk : Bx (∀ W, Calls Try.prog 32 #[clV c] W fun e w' => e = .returned (.int .i64 10) ∧ Below W.heap.size W w') := Bx.mk fun W => by
    have h := ccheck_any c W
    rw [if_neg (by rw [hok]; exact Bool.false_ne_true)] at h
    exact h
  clear hok
  obtain ⟨i, r, x, q⟩ := c
  unfold clV ptr at *
  simp only at HCk ⊢
  have HBe := Bx.mk (below_a (W := w) (.cells #[.int .i64 i, .int .i64 r, .int .i64 x, .int .i64 q] 34))
  go_enter Try.func9, Try.ntmps9
  go_wp2_with fail
  refine (HCk.out _).mono ?_
  rintro e w1 ⟨rfl, hb⟩
  have H1 := Bx.mk (HBe.out.trans (hb.mono HBe.out.size))
  clear hb HBe HCk
  go_wp2
  go_ret
  exact ⟨rfl, H1.out⟩
set_option maxRecDepth 100000 in
set_option maxHeartbeats 1000000 in
theorem want_twice (B Q : Nat) (l : List En) (tk : Int) (w : World) (h : BookAt B Q l w) (e : En) (he : e ∈ l) (hok : okC e.c = true) : Calls Try.prog 9 #[ptr Q, clV e.c, .int .i64 tk] w fun x w' => x = .returned (.int .i64 8) ∧ Below w.heap.size w w' := by
  have HCk : Bx (∀ W, Calls Try.prog 32 #[clV e.c] W fun e w' => e = .returned (.int .i64 0) ∧ Below W.heap.size W w') := Bx.mk fun W => by
    have h := ccheck_any e.c W
    rw [if_pos hok] at h
    exact h
  obtain ⟨mb, hmb⟩ := h.looks e.c (h.ent e he).fit
  rw [posE_in h.keys he] at hmb
  have HLo := Bx.mk hmb
  clear h hok hmb he
  obtain ⟨c, p, s, k, a⟩ := e
  simp only at HLo HCk ⊢
  obtain ⟨i, r, x, q⟩ := c
  unfold clV ptr at *
  unfold ptrO at HLo
  simp only at HLo HCk ⊢
  have HBo := Bx.mk (box_rng w ⟨i, r, x, q⟩ 34)
  have HBe := Bx.mk (below_a (W := w) (.cells #[.int .i64 i, .int .i64 r, .int .i64 x, .int .i64 q] 34))
  simp only at HBo HBe
  go_enter Try.func9, Try.ntmps9
  go_wp2_with fail
  refine (HCk.out _).mono ?_
  rintro e w1 ⟨rfl, hb⟩
  have H1 : Bx (Below w.heap.size w w1 ∧ w1.rangeAt w.heap.size 0 [.int .i64 i, .int .i64 r, .int .i64 x, .int .i64 q]) := Bx.mk ⟨HBe.out.trans (hb.mono HBe.out.size), rng_later HBo.out hb⟩
  clear hb HBe HBo HCk
  go_upto_region 6 with fail
  have R0 : Bx (Below w.heap.size w w1.drew ∧ w1.drew.rangeAt w.heap.size 0 [.int .i64 i, .int .i64 r, .int .i64 x, .int .i64 q]) := Bx.mk ⟨H1.out.1.drew, H1.out.2⟩
  clear H1
  refine wp_region_noPanic ?_
  refine wp_region_held_drew (S := fun W => W.cell? ⟨Q, 0, none⟩ = some (.map mb) ∧ (W.rangeAt w.heap.size 0 [.int .i64 i, .int .i64 r, .int .i64 x, .int .i64 q] ∧ (Instr.lookup 69 (.map mb) (.agg #[.int .i64 i, .int .i64 r, .int .i64 x, .int .i64 q]) false).run Try.prog W = .ok (.pointer (some ⟨p, 0, none⟩)) W)) (by kernel_rfl) (⟨(HLo.out _ R0.out.1).1, R0.out.2, (HLo.out _ R0.out.1).2.1⟩) (fun hHeld => ?_)
  refine takeL 0 (v := ?_) rfl (by kernel_rfl) (by kernel_rfl) (by kernel_rfl) (fun _ _ _ h => h) (Or.inl ⟨by rfl, ?_⟩) hHeld ?_
  rotate_left 1
  · (intro w hSw; go_simp; try with_reducible rfl)
  try simp only [Act.put, List.setIfInBounds_toArray, List.set_cons_zero, List.set_cons_succ]
  refine takeL 1 (v := ?_) rfl (by kernel_rfl) (by kernel_rfl) (by kernel_rfl) (fun _ _ _ h => h) (Or.inl ⟨by rfl, ?_⟩) hHeld ?_
  rotate_left 1
  · (intro w hSw; go_simp; try with_reducible rfl)
  try simp only [Act.put, List.setIfInBounds_toArray, List.set_cons_zero, List.set_cons_succ]
  refine takeL 2 (v := ?_) rfl (by kernel_rfl) (by kernel_rfl) (by kernel_rfl) (fun _ _ _ h => h) (Or.inl ⟨by rfl, ?_⟩) hHeld ?_
  rotate_left 1
  · (intro w hSw; go_simp; try with_reducible rfl)
  try simp only [Act.put, List.setIfInBounds_toArray, List.set_cons_zero, List.set_cons_succ]
  refine takeL 3 (v := ?_) rfl (by kernel_rfl) (by kernel_rfl) (by kernel_rfl) (fun _ _ _ h => h) (Or.inl ⟨by rfl, ?_⟩) hHeld ?_
  rotate_left 1
  · (intro w hSw; have h1 := hSw.1; go_simp; try with_reducible rfl)
  try simp only [Act.put, List.setIfInBounds_toArray, List.set_cons_zero, List.set_cons_succ]
  refine takeL 4 rfl (by kernel_rfl) (by kernel_rfl) (by kernel_rfl) (fun _ _ _ h => h) (yieldsIf_load_mid (by rfl) _ _ rfl _ _ rfl _ _ (fun w hSw => hSw.2.1) Try.underlying34 rfl (by kernel_rfl)) hHeld ?_
  try simp only [Act.put, List.setIfInBounds_toArray, List.set_cons_zero, List.set_cons_succ]
  refine takeL 5 (v := ?_) rfl (by kernel_rfl) (by kernel_rfl) (by kernel_rfl) (fun _ _ _ h => h) (Or.inl ⟨by rfl, ?_⟩) hHeld ?_
  rotate_left 1
  · (intro w hSw; have h3 := hSw.2.2; go_simp; try with_reducible rfl)
  try simp only [Act.put, List.setIfInBounds_toArray, List.set_cons_zero, List.set_cons_succ]
  refine takeL 6 (v := ?_) rfl (by kernel_rfl) (by kernel_rfl) (by kernel_rfl) (fun _ _ _ h => h) (Or.inl ⟨by rfl, ?_⟩) hHeld ?_
  rotate_left 1
  · (intro w hSw; go_simp; try with_reducible rfl)
  try simp only [Act.put, List.setIfInBounds_toArray, List.set_cons_zero, List.set_cons_succ]
  refine wpAnyH_done (by kernel_rfl) ?_ _
  refine NoPanic.normal ?_
  clear hHeld
  go_wp2
  go_ret
  exact ⟨rfl, R0.out.1⟩
set_option maxRecDepth 100000 in
set_option maxHeartbeats 1000000 in
theorem want_full (B Q : Nat) (l : List En) (tk : Int) (w : World) (h : BookAt B Q l w) (c : Cl) (hc : Cl64 c) (hn : ∀ e ∈ l, e.c ≠ c) (hok : okC c = true) (hlen : 16 ≤ l.length) : Calls Try.prog 9 #[ptr Q, clV c, .int .i64 tk] w fun x w' => x = .returned (.int .i64 6) ∧ Below w.heap.size w w' := by
  have HCk : Bx (∀ W, Calls Try.prog 32 #[clV c] W fun e w' => e = .returned (.int .i64 0) ∧ Below W.heap.size W w') := Bx.mk fun W => by
    have h := ccheck_any c W
    rw [if_pos hok] at h
    exact h
  obtain ⟨mb, hmb⟩ := h.looks c hc
  rw [posE_out hn] at hmb
  have HLo := Bx.mk hmb
  have HLn : Bx ((16 ≤ (l.length : Int))) := Bx.mk (by omega)
  clear h hok hmb hc hn hlen
  obtain ⟨nl, hnl⟩ : ∃ nl, l.length = nl := ⟨_, rfl⟩
  rw [hnl] at HLo HLn
  clear hnl
  obtain ⟨i, r, x, q⟩ := c
  unfold clV ptr at *
  unfold ptrO at HLo
  simp only at HLo HCk ⊢
  have HBo := Bx.mk (box_rng w ⟨i, r, x, q⟩ 34)
  have HBe := Bx.mk (below_a (W := w) (.cells #[.int .i64 i, .int .i64 r, .int .i64 x, .int .i64 q] 34))
  simp only at HBo HBe
  go_enter Try.func9, Try.ntmps9
  go_wp2_with fail
  refine (HCk.out _).mono ?_
  rintro e w1 ⟨rfl, hb⟩
  have H1 : Bx (Below w.heap.size w w1 ∧ w1.rangeAt w.heap.size 0 [.int .i64 i, .int .i64 r, .int .i64 x, .int .i64 q]) := Bx.mk ⟨HBe.out.trans (hb.mono HBe.out.size), rng_later HBo.out hb⟩
  clear hb HBe HBo HCk
  go_upto_region 6 with fail
  have R0 : Bx (Below w.heap.size w w1.drew ∧ w1.drew.rangeAt w.heap.size 0 [.int .i64 i, .int .i64 r, .int .i64 x, .int .i64 q]) := Bx.mk ⟨H1.out.1.drew, H1.out.2⟩
  clear H1
  refine wp_region_noPanic ?_
  refine wp_region_held_drew (S := fun W => W.cell? ⟨Q, 0, none⟩ = some (.map mb) ∧ (W.rangeAt w.heap.size 0 [.int .i64 i, .int .i64 r, .int .i64 x, .int .i64 q] ∧ (Instr.lookup 69 (.map mb) (.agg #[.int .i64 i, .int .i64 r, .int .i64 x, .int .i64 q]) false).run Try.prog W = .ok (.pointer none) W)) (by kernel_rfl) (⟨(HLo.out _ R0.out.1).1, R0.out.2, (HLo.out _ R0.out.1).2.1⟩) (fun hHeld => ?_)
  refine takeL 0 (v := ?_) rfl (by kernel_rfl) (by kernel_rfl) (by kernel_rfl) (fun _ _ _ h => h) (Or.inl ⟨by rfl, ?_⟩) hHeld ?_
  rotate_left 1
  · (intro w hSw; go_simp; try with_reducible rfl)
  try simp only [Act.put, List.setIfInBounds_toArray, List.set_cons_zero, List.set_cons_succ]
  refine takeL 1 (v := ?_) rfl (by kernel_rfl) (by kernel_rfl) (by kernel_rfl) (fun _ _ _ h => h) (Or.inl ⟨by rfl, ?_⟩) hHeld ?_
  rotate_left 1
  · (intro w hSw; go_simp; try with_reducible rfl)
  try simp only [Act.put, List.setIfInBounds_toArray, List.set_cons_zero, List.set_cons_succ]
  refine takeL 2 (v := ?_) rfl (by kernel_rfl) (by kernel_rfl) (by kernel_rfl) (fun _ _ _ h => h) (Or.inl ⟨by rfl, ?_⟩) hHeld ?_
  rotate_left 1
  · (intro w hSw; go_simp; try with_reducible rfl)
  try simp only [Act.put, List.setIfInBounds_toArray, List.set_cons_zero, List.set_cons_succ]
  refine takeL 3 (v := ?_) rfl (by kernel_rfl) (by kernel_rfl) (by kernel_rfl) (fun _ _ _ h => h) (Or.inl ⟨by rfl, ?_⟩) hHeld ?_
  rotate_left 1
  · (intro w hSw; have h1 := hSw.1; go_simp; try with_reducible rfl)
  try simp only [Act.put, List.setIfInBounds_toArray, List.set_cons_zero, List.set_cons_succ]
  refine takeL 4 rfl (by kernel_rfl) (by kernel_rfl) (by kernel_rfl) (fun _ _ _ h => h) (yieldsIf_load_mid (by rfl) _ _ rfl _ _ rfl _ _ (fun w hSw => hSw.2.1) Try.underlying34 rfl (by kernel_rfl)) hHeld ?_
  try simp only [Act.put, List.setIfInBounds_toArray, List.set_cons_zero, List.set_cons_succ]
  refine takeL 5 (v := ?_) rfl (by kernel_rfl) (by kernel_rfl) (by kernel_rfl) (fun _ _ _ h => h) (Or.inl ⟨by rfl, ?_⟩) hHeld ?_
  rotate_left 1
  · (intro w hSw; have h3 := hSw.2.2; go_simp; try with_reducible rfl)
  try simp only [Act.put, List.setIfInBounds_toArray, List.set_cons_zero, List.set_cons_succ]
  refine takeL 6 (v := ?_) rfl (by kernel_rfl) (by kernel_rfl) (by kernel_rfl) (fun _ _ _ h => h) (Or.inl ⟨by rfl, ?_⟩) hHeld ?_
  rotate_left 1
  · (intro w hSw; go_simp; try with_reducible rfl)
  try simp only [Act.put, List.setIfInBounds_toArray, List.set_cons_zero, List.set_cons_succ]
  refine wpAnyH_done (by kernel_rfl) ?_ _
  refine NoPanic.normal ?_
  clear hHeld
  have hc1 := (HLo.out _ R0.out.1).1
  have hln := (HLo.out _ R0.out.1).2.2
  have hrg := R0.out.2
  have h16 := HLn.out
  go_wp2
  go_ret
  exact ⟨rfl, R0.out.1⟩
set_option maxRecDepth 100000 in
set_option maxHeartbeats 1000000 in
theorem want_ok (B Q : Nat) (l : List En) (tk : Int) (w : World) (h : BookAt B Q l w) (c : Cl) (hc : Cl64 c) (hn : ∀ e ∈ l, e.c ≠ c) (hok : okC c = true) (hlen : l.length < 16) (ht : 0 ≤ tk ∧ tk ≤ 1073741824) (hB : B ≤ w.heap.size) : Calls Try.prog 9 #[ptr Q, clV c, .int .i64 tk] w fun x w' => x = .returned (.int .i64 0) ∧ ∃ p, Keeps B Q (l ++ [⟨c, p, Ws.zero, none, tk⟩]) w w' := by
  have HCk : Bx (∀ W, Calls Try.prog 32 #[clV c] W fun e w' => e = .returned (.int .i64 0) ∧ Below W.heap.size W w') := Bx.mk fun W => by
    have h := ccheck_any c W
    rw [if_pos hok] at h
    exact h
  obtain ⟨mb, hmb⟩ := h.looks c hc
  rw [posE_out hn] at hmb
  have HLo := Bx.mk hmb
  have HKp : Bx (∀ W, Below w.heap.size w W → Calls Try.prog 33 #[ptr Q, clV c, ptr W.heap.size] (W.alloc (.cells #[.int .i64 0, .int .i64 0, .int .u64 0, .pointer none, .int .i64 tk] 80)) fun x w' => x = .returned (.tuple #[]) ∧ ∃ p, Keeps B Q (l ++ [⟨c, p, Ws.zero, none, tk⟩]) w w') := Bx.mk fun W hb => by
    have hs : B ≤ W.heap.size := Nat.le_trans hB hb.size
    have hE : EntAt B (W.alloc (.cells #[.int .i64 0, .int .i64 0, .int .u64 0, .pointer none, .int .i64 tk] 80)) ⟨c, W.heap.size, Ws.zero, none, tk⟩ := ⟨⟨.pointer none, hnew _ _ _ rfl, .inl ⟨rfl, rfl⟩⟩, zero_ok, hs, hc, ht⟩
    refine (keep_new B Q l ⟨c, W.heap.size, Ws.zero, none, tk⟩ hn _ ((h.later hb).later (below_a _)) hE (fun y hy => ?_) (by rw [World.size_alloc]; omega)).mono ?_
    · have := ((h.later hb).ent y hy).lt
      show y.p ≠ W.heap.size
      omega
    · rintro x w' ⟨rfl, h1, h2⟩
      exact ⟨rfl, W.heap.size, h1, ((KB.of hb).trans (KB.of (below_a _))).trans h2⟩
  have HLn : Bx ((¬ 16 ≤ (l.length : Int))) := Bx.mk (by omega)
  clear h hok hmb hc hn hlen ht hB
  obtain ⟨nl, hnl⟩ : ∃ nl, l.length = nl := ⟨_, rfl⟩
  rw [hnl] at HLo HLn
  clear hnl
  obtain ⟨i, r, x, q⟩ := c
  unfold clV ptr at *
  unfold ptrO at HLo
  simp only at HLo HCk HKp ⊢
  have HBo := Bx.mk (box_rng w ⟨i, r, x, q⟩ 34)
  have HBe := Bx.mk (below_a (W := w) (.cells #[.int .i64 i, .int .i64 r, .int .i64 x, .int .i64 q] 34))
  simp only at HBo HBe
  go_enter Try.func9, Try.ntmps9
  go_wp2_with fail
  refine (HCk.out _).mono ?_
  rintro e w1 ⟨rfl, hb⟩
  have H1 : Bx (Below w.heap.size w w1 ∧ w1.rangeAt w.heap.size 0 [.int .i64 i, .int .i64 r, .int .i64 x, .int .i64 q]) := Bx.mk ⟨HBe.out.trans (hb.mono HBe.out.size), rng_later HBo.out hb⟩
  clear hb HBe HBo HCk
  go_upto_region 6 with fail
  have R0 : Bx (Below w.heap.size w w1.drew ∧ w1.drew.rangeAt w.heap.size 0 [.int .i64 i, .int .i64 r, .int .i64 x, .int .i64 q]) := Bx.mk ⟨H1.out.1.drew, H1.out.2⟩
  clear H1
  refine wp_region_noPanic ?_
  refine wp_region_held_drew (S := fun W => W.cell? ⟨Q, 0, none⟩ = some (.map mb) ∧ (W.rangeAt w.heap.size 0 [.int .i64 i, .int .i64 r, .int .i64 x, .int .i64 q] ∧ (Instr.lookup 69 (.map mb) (.agg #[.int .i64 i, .int .i64 r, .int .i64 x, .int .i64 q]) false).run Try.prog W = .ok (.pointer none) W)) (by kernel_rfl) (⟨(HLo.out _ R0.out.1).1, R0.out.2, (HLo.out _ R0.out.1).2.1⟩) (fun hHeld => ?_)
  refine takeL 0 (v := ?_) rfl (by kernel_rfl) (by kernel_rfl) (by kernel_rfl) (fun _ _ _ h => h) (Or.inl ⟨by rfl, ?_⟩) hHeld ?_
  rotate_left 1
  · (intro w hSw; go_simp; try with_reducible rfl)
  try simp only [Act.put, List.setIfInBounds_toArray, List.set_cons_zero, List.set_cons_succ]
  refine takeL 1 (v := ?_) rfl (by kernel_rfl) (by kernel_rfl) (by kernel_rfl) (fun _ _ _ h => h) (Or.inl ⟨by rfl, ?_⟩) hHeld ?_
  rotate_left 1
  · (intro w hSw; go_simp; try with_reducible rfl)
  try simp only [Act.put, List.setIfInBounds_toArray, List.set_cons_zero, List.set_cons_succ]
  refine takeL 2 (v := ?_) rfl (by kernel_rfl) (by kernel_rfl) (by kernel_rfl) (fun _ _ _ h => h) (Or.inl ⟨by rfl, ?_⟩) hHeld ?_
  rotate_left 1
  · (intro w hSw; go_simp; try with_reducible rfl)
  try simp only [Act.put, List.setIfInBounds_toArray, List.set_cons_zero, List.set_cons_succ]
  refine takeL 3 (v := ?_) rfl (by kernel_rfl) (by kernel_rfl) (by kernel_rfl) (fun _ _ _ h => h) (Or.inl ⟨by rfl, ?_⟩) hHeld ?_
  rotate_left 1
  · (intro w hSw; have h1 := hSw.1; go_simp; try with_reducible rfl)
  try simp only [Act.put, List.setIfInBounds_toArray, List.set_cons_zero, List.set_cons_succ]
  refine takeL 4 rfl (by kernel_rfl) (by kernel_rfl) (by kernel_rfl) (fun _ _ _ h => h) (yieldsIf_load_mid (by rfl) _ _ rfl _ _ rfl _ _ (fun w hSw => hSw.2.1) Try.underlying34 rfl (by kernel_rfl)) hHeld ?_
  try simp only [Act.put, List.setIfInBounds_toArray, List.set_cons_zero, List.set_cons_succ]
  refine takeL 5 (v := ?_) rfl (by kernel_rfl) (by kernel_rfl) (by kernel_rfl) (fun _ _ _ h => h) (Or.inl ⟨by rfl, ?_⟩) hHeld ?_
  rotate_left 1
  · (intro w hSw; have h3 := hSw.2.2; go_simp; try with_reducible rfl)
  try simp only [Act.put, List.setIfInBounds_toArray, List.set_cons_zero, List.set_cons_succ]
  refine takeL 6 (v := ?_) rfl (by kernel_rfl) (by kernel_rfl) (by kernel_rfl) (fun _ _ _ h => h) (Or.inl ⟨by rfl, ?_⟩) hHeld ?_
  rotate_left 1
  · (intro w hSw; go_simp; try with_reducible rfl)
  try simp only [Act.put, List.setIfInBounds_toArray, List.set_cons_zero, List.set_cons_succ]
  refine wpAnyH_done (by kernel_rfl) ?_ _
  refine NoPanic.normal ?_
  clear hHeld
  have hc1 := (HLo.out _ R0.out.1).1
  have hln := (HLo.out _ R0.out.1).2.2
  have hrg := R0.out.2
  have h16 := HLn.out
  go_wp2_with (refine wpList_load_mid rfl _ _ rfl _ _ rfl _ _ hrg Try.underlying34 rfl (by kernel_rfl) ?_)
  refine (HKp.out _ R0.out.1).mono ?_
  rintro e w2 ⟨rfl, h2⟩
  have H2 := Bx.mk h2
  clear h2 hc1 hln hrg h16 HKp HLn HLo R0
  go_wp2
  go_ret
  exact ⟨rfl, H2.out⟩
end Go.Proofs.Ytdbdpehagkglfaa
