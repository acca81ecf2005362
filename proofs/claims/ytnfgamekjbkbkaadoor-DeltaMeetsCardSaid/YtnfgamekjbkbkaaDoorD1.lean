/-
  Delta: a set's digest.
-/
import Derived.Test.YtnfgamekjbkbkaaDoorEo
namespace Go.Proofs.YtnfgamekjbkbkaaDoor
open Go Go.RowKit
/-- How a print begins. -/
structure B8 where
  a : UInt8
  b : UInt8
  c : UInt8
  d : UInt8
  e : UInt8
  f : UInt8
  g : UInt8
  h : UInt8
def B8.list (p : B8) : List UInt8 := [p.a, p.b, p.c, p.d, p.e, p.f, p.g, p.h]
def B8.cells (p : B8) : List Value := [.int .u8 (ub p.a), .int .u8 (ub p.b), .int .u8 (ub p.c), .int .u8 (ub p.d), .int .u8 (ub p.e), .int .u8 (ub p.f), .int .u8 (ub p.g), .int .u8 (ub p.h)]
theorem B8.is (p : B8) : (u8s p.list).toList = p.cells := rfl
theorem list8_of (l : List UInt8) (h : 8 ≤ l.length) : ∃ p : B8, ∃ r, l = p.list ++ r := by
  match l, h with
  | a :: b :: c :: d :: e :: f :: g :: k :: r, _ => exact ⟨⟨a, b, c, d, e, f, g, k⟩, r, rfl⟩
/-- A digest's cells. -/
def dgC (v : V4) (p : B8) : Array Value := #[.int .i64 v.a, .int .i64 v.b, .int .i64 v.c, .int .i64 v.d, .int .u8 (ub p.a), .int .u8 (ub p.b), .int .u8 (ub p.c), .int .u8 (ub p.d), .int .u8 (ub p.e), .int .u8 (ub p.f), .int .u8 (ub p.g), .int .u8 (ub p.h)]
/-- The print's first bytes, of any bytes. -/
def p8 (s : List UInt8) : B8 := ⟨s.getD 0 0, s.getD 1 0, s.getD 2 0, s.getD 3 0, s.getD 4 0, s.getD 5 0, s.getD 6 0, s.getD 7 0⟩
def prtL (l : L4) : B8 := p8 (sha (printB l))
theorem rng8_p {W : World} {F : Nat} {s r : List UInt8} {p : B8} {t : TypeId} (h : W.heap[F]? = some (.cells (u8s s) t (0, 0))) (hs : s = p.list ++ r) : W.rangeAt F 0 p.cells := fun j u hj => by
  have hj' : (u8s s).toList[j]? = some u := by
    subst hs
    unfold u8s
    rw [List.map_append, List.getElem?_append_left (by rw [List.length_map]; have := (List.getElem?_eq_some_iff.1 hj).1; exact this)]
    exact hj
  exact row_rng8 (l := (u8s s).toList) h j u hj'
theorem KR.var9 {w : World} {E : Nat} {rs : List (Nat × Obj)} {W W1 : World} {o : Obj} {X : Nat} (h : KR w E rs W) (_ : W.heap.size = X) (hb : Below W.heap.size W W1) (hr : W1.heap[X]? = some o) : KR w E ((X, o) :: rs) W1 := by
  have h1 := h.later hb
  refine ⟨fun z hz => ?_, h1.below, h1.le⟩
  rcases List.mem_cons.1 hz with rfl | hz
  · exact hr
  · exact h1.rows z hz
theorem kb_of9 {w w1 : World} {b o : Nat} {vs : List Value} (h : w1 = w.setCells b o vs) : w.grownBy w1 (some b) := by rw [h]; exact kb_setCells _ _ _
theorem wpList_store_v9 {P : Program} {ops : Array Oper} {rest : List Oper} {op : Oper} {a : Act} {w : World} {Q : Exit → Act → World → Prop} (hgd : op.guard = none) (ty : TypeId) (x y : Operand) (ho : op.op = .store ty x y)
    (W : World) (X : Nat) (hX : W.heap.size = X) (ds : Array Value) (t : TypeId) (hw : w = W.alloc (.cells ds t (0, 0))) (hx : a.eval x = .pointer (some ⟨X, 0, none⟩)) (cs : Array Value) (hy : a.eval y = .agg cs) (hs : cs.size = ds.size)
    (hi : (P.info? ty).map (·.size) = some cs.size) (h1 : cs.all (·.oneCell') = true)
    (k : ∀ w', Below W.heap.size W w' → w'.heap[X]? = some (.cells cs t (0, 0)) → X < w'.heap.size → wpList P ops Q rest (a.put op.dst undef) w') : wpList P ops Q (op :: rest) a w := by
  subst hX
  exact wpList_store_var hgd ty x y ho W ds t hw hx cs hy hs hi h1 k
theorem yieldsIf_build9 {P : Program} {ops : Array Oper} {S : World → Prop} {o : Oper} {a : Act} (hw : Region.wanted o (yielded ops a.tmps) = true) (t : TypeId) (parts : Array (Nat × Operand)) (ho : o.op = .build t parts) (cells : Array Value)
    (hf : P.built t (parts.map fun (i, x) => (i, a.eval x)).toList = some cells) : YieldsIf P ops S o (.agg cells) a :=
  .inl ⟨hw, fun w _ => by
    unfold execOp
    simp only [ho, Sem.run_bind, run_build w t _ cells hf, Result.andThen_ok]
    rfl⟩
theorem arr8 (b : Addr) (cap : Nat) (W : World) : (Instr.arrayAt 48 (.slice (some b) 8 cap)).run Tryd.prog W = .ok (.pointer (some b)) W := run_arrayAt W 48 _ 8 _ 8 cap Tryd.underlying48 (by decide)
theorem cut8 (F : Nat) (W : World) : (Instr.sliceAt 121 (.pointer (some ⟨F, 0, none⟩)) none (some (.int .i64 8)) none).run Tryd.prog W = .ok (.slice (some ⟨F, 0, none⟩) 8 32) W := by kernel_rfl
theorem KR.two9 {w : World} {E F : Nat} {o : Obj} {W : World} {cs ds : Array Value} {t : TypeId} (h : KR w E [(F, o), (E, .cells ds t (0, 0))] W) (hF : F ≠ E) (hs : cs.size = ds.size) : KR w E [(F, o), (E, .cells cs t (0, 0))] (W.setCells E 0 cs.toList) := by
  have hg : W.grownBy (W.setCells E 0 cs.toList) (some E) := kb_setCells _ _ _
  refine ⟨fun z hz => ?_, h.below.trans (grown_below hg (Nat.le_refl _) h.le), Nat.le_trans h.le hg.size⟩
  rcases List.mem_cons.1 hz with rfl | hz
  · rw [hg.block F (h.lt (.head _)) (fun e => hF (Option.some.inj e))]
    exact h.rows _ (.head _)
  · rw [List.mem_singleton.1 hz]
    exact heap_setCells_all (h.rows _ (.tail _ (.head _))) hs
set_option maxRecDepth 100000 in
set_option maxHeartbeats 4000000 in
theorem dof_any (v : Value) (l : L4) (w : World) (hv : SetV w v l) (hg : Good l) (hTab : Tab w) (hG : 1 < w.heap.size) : Calls Tryd.prog 23 #[v] w fun e w' => e = .returned (.agg (dgC l.ver (prtL l))) ∧ Below w.heap.size w w' := by
  obtain ⟨E, hE⟩ : ∃ E, w.heap.size = E := ⟨_, rfl⟩
  have K0 : Bx (KR w E [(E, .cells #[.int .i64 0, .int .i64 0, .int .i64 0, .int .i64 0, .int .u8 0, .int .u8 0, .int .u8 0, .int .u8 0, .int .u8 0, .int .u8 0, .int .u8 0, .int .u8 0] 62)] (w.alloc (.cells #[.int .i64 0, .int .i64 0, .int .i64 0, .int .i64 0, .int .u8 0, .int .u8 0, .int .u8 0, .int .u8 0, .int .u8 0, .int .u8 0, .int .u8 0, .int .u8 0] 62))) := ⟨by
    subst hE
    exact (KR.start w).new _⟩
  have HP := Bx.mk (print_any8 v l (w.alloc (.cells #[.int .i64 0, .int .i64 0, .int .i64 0, .int .i64 0, .int .u8 0, .int .u8 0, .int .u8 0, .int .u8 0, .int .u8 0, .int .u8 0, .int .u8 0, .int .u8 0] 62)) (hv.later (below_a _)) hg (hTab.later (below_a _) hG) (by simp; omega))
  have HV : Bx (∀ W, Below E w W → Calls Tryd.prog 36 #[v] W fun e w' => e = .returned (.agg #[.int .i64 l.ver.a, .int .i64 l.ver.b, .int .i64 l.ver.c, .int .i64 l.ver.d]) ∧ Below W.heap.size W w') := ⟨fun W h => versions_any v l W (hv.later (by rw [hE]; exact h))⟩
  have hs32 : (sha (printB l)).length = 32 := sha_length _
  obtain ⟨p, r, hp⟩ := list8_of (sha (printB l)) (by omega)
  have hpl : prtL l = p := by unfold prtL; rw [hp]; rfl
  rw [hpl]
  clear hpl hv hg hTab hG
  generalize sha (printB l) = s at *
  generalize l.ver = lv at *
  have HSp := Bx.mk hp
  clear hp
  obtain ⟨z32, hz32⟩ : ∃ z, u8s (List.replicate 32 0) = z := ⟨_, rfl⟩
  have hz32v : ∀ W : World, (zeroValue 121).run Tryd.prog W = .ok (.agg z32) W := fun W => by rw [← hz32, zero32]; kernel_rfl
  have HI : Bx ((Tryd.prog.info? 121).map (·.size) = some (u8s s).size) := Bx.mk (by rw [u8s_size, hs32]; kernel_rfl)
  have HZ3 : Bx ((u8s s).size = z32.size) := Bx.mk (by rw [u8s_size, hs32, ← hz32]; rfl)
  clear hz32 hs32
  unfold dgC
  go_enter Tryd.func23, Tryd.ntmps23
  rw [hE]
  go_wp2_with fail
  generalize w.alloc (.cells #[.int .i64 0, .int .i64 0, .int .i64 0, .int .i64 0, .int .u8 0, .int .u8 0, .int .u8 0, .int .u8 0, .int .u8 0, .int .u8 0, .int .u8 0, .int .u8 0] 62) = w0 at *
  refine HP.out.mono ?_
  rintro e w1 ⟨rfl, hb⟩
  have K1 := Bx.mk (K0.out.later hb)
  have HFE0 := Bx.mk (K1.out.lt (.head _))
  clear hb HP K0
  obtain ⟨F, hF⟩ : ∃ F, w1.heap.size = F := ⟨_, rfl⟩
  rw [hF] at HFE0
  have HFE : Bx (F ≠ E) := ⟨by have := HFE0.out; simp only at this; omega⟩
  clear HFE0
  go_upto_region 2 with (refine wpList_store_v9 rfl 121 _ _ rfl w1 F hF z32 121 rfl (by rfl) (u8s s) (by rfl) HZ3.out HI.out (one_u8s _) ?_; intro w2 hb hr _; have K2 := Bx.mk (K1.out.var9 hF hb hr); clear hb hr K1)
  have ha8 := arr8
  have hc8 := cut8 F
  have R0 := Bx.mk K2.out.drew
  clear K2 HI HZ3 hz32v hF
  refine wp_region_noPanic ?_
  refine wp_region_held_drew (S := fun W => W.rangeAt F 0 p.cells) (by kernel_rfl) (rng8_p (R0.out.rows _ (.head _)) HSp.out) (fun hHeld => ?_)
  generalize w2.drew = W0 at *
  refine takeL 0 (v := ?_) rfl (by kernel_rfl) (by kernel_rfl) (by kernel_rfl) (fun _ _ _ h => h) (Or.inl ⟨by rfl, ?_⟩) hHeld ?_
  rotate_left 1
  · (intro w hSw; go_simp; try with_reducible rfl)
  try simp only [Act.put, List.setIfInBounds_toArray, List.set_cons_zero, List.set_cons_succ]
  refine takeL 2 (v := ?_) rfl (by kernel_rfl) (by kernel_rfl) (by kernel_rfl) (fun _ _ _ h => h) (Or.inl ⟨by rfl, ?_⟩) hHeld ?_
  rotate_left 1
  · (intro w hSw; go_simp; try with_reducible rfl)
  try simp only [Act.put, List.setIfInBounds_toArray, List.set_cons_zero, List.set_cons_succ]
  refine takeL 3 (v := ?_) rfl (by kernel_rfl) (by kernel_rfl) (by kernel_rfl) (fun _ _ _ h => h) (Or.inl ⟨by rfl, ?_⟩) hHeld ?_
  rotate_left 1
  · (intro w hSw; go_simp; try with_reducible rfl)
  try simp only [Act.put, List.setIfInBounds_toArray, List.set_cons_zero, List.set_cons_succ]
  refine takeL 4 rfl (by kernel_rfl) (by kernel_rfl) (by kernel_rfl) (fun _ _ _ h => h) (yieldsIf_load_mid (by rfl) _ _ rfl _ _ rfl _ _ (fun w hSw => hSw) Tryd.underlying48 rfl (by kernel_rfl)) hHeld ?_
  try simp only [Act.put, List.setIfInBounds_toArray, List.set_cons_zero, List.set_cons_succ]
  refine stepL 1 (by kernel_rfl) rfl (fun K hK => ?_)
  go_simp
  refine (HV.out W0 R0.out.below).mono ?_
  rintro e W1 ⟨rfl, hb⟩
  show K _ _
  have R1 := Bx.mk (R0.out.later hb)
  clear hb R0
  refine hK.out _ _ (rng8_p (R1.out.rows _ (.head _)) HSp.out) (fun hHeld => ?_)
  clear hK K
  try simp only [Act.put, List.setIfInBounds_toArray, List.set_cons_zero, List.set_cons_succ]
  refine takeL 5 rfl (by kernel_rfl) (by kernel_rfl) (by kernel_rfl) (fun _ _ _ h => h) (yieldsIf_build9 (by rfl) 62 _ rfl #[.int .i64 lv.a, .int .i64 lv.b, .int .i64 lv.c, .int .i64 lv.d, .int .u8 (ub p.a), .int .u8 (ub p.b), .int .u8 (ub p.c), .int .u8 (ub p.d), .int .u8 (ub p.e), .int .u8 (ub p.f), .int .u8 (ub p.g), .int .u8 (ub p.h)] (by kernel_rfl)) hHeld ?_
  try simp only [Act.put, List.setIfInBounds_toArray, List.set_cons_zero, List.set_cons_succ]
  refine stepL 6 (by kernel_rfl) rfl (fun K hK => ?_)
  refine step_st rfl 62 _ _ rfl E #[.int .i64 lv.a, .int .i64 lv.b, .int .i64 lv.c, .int .i64 lv.d, .int .u8 (ub p.a), .int .u8 (ub p.b), .int .u8 (ub p.c), .int .u8 (ub p.d), .int .u8 (ub p.e), .int .u8 (ub p.f), .int .u8 (ub p.g), .int .u8 (ub p.h)] (by rfl) (by rfl) (there_row (R1.out.rows _ (.tail _ (.head _))) 0 _ (by simp)) (by kernel_rfl) (by simp [Value.oneCell']) ?_
  have Z9 := Bx.mk (R1.out.two9 HFE.out (cs := #[.int .i64 lv.a, .int .i64 lv.b, .int .i64 lv.c, .int .i64 lv.d, .int .u8 (ub p.a), .int .u8 (ub p.b), .int .u8 (ub p.c), .int .u8 (ub p.d), .int .u8 (ub p.e), .int .u8 (ub p.f), .int .u8 (ub p.g), .int .u8 (ub p.h)]) rfl)
  clear R1
  generalize W1.setCells E 0 (#[.int .i64 lv.a, .int .i64 lv.b, .int .i64 lv.c, .int .i64 lv.d, .int .u8 (ub p.a), .int .u8 (ub p.b), .int .u8 (ub p.c), .int .u8 (ub p.d), .int .u8 (ub p.e), .int .u8 (ub p.f), .int .u8 (ub p.g), .int .u8 (ub p.h)] : Array Value).toList = W9 at *
  refine hK.out _ _ (rng8_p (Z9.out.rows _ (.head _)) HSp.out) (fun hHeld => ?_)
  clear hK K
  try simp only [Act.put]
  refine wpAnyH_done (by kernel_rfl) ?_ _
  refine NoPanic.normal ?_
  clear hHeld
  go_wp2_with fail
  refine bodyPost_ret (results_cell_row rfl _ _ E _ #[.int .i64 lv.a, .int .i64 lv.b, .int .i64 lv.c, .int .i64 lv.d, .int .u8 (ub p.a), .int .u8 (ub p.b), .int .u8 (ub p.c), .int .u8 (ub p.d), .int .u8 (ub p.e), .int .u8 (ub p.f), .int .u8 (ub p.g), .int .u8 (ub p.h)] _ _ rfl (Z9.out.rows _ (.tail _ (.head _))) Tryd.underlying62 rfl (by kernel_rfl)) rfl ?_
  exact ⟨rfl, Z9.out.below⟩
end Go.Proofs.YtnfgamekjbkbkaaDoor
