/-
  Delta: digests that are compared and turned; Alike, Ask.
-/
import Derived.Test.YtnfgamekjbkbkaaDoorD1
import Derived.Test.YtnfgamekjbkbkaaDoorJb
namespace Go.Proofs.YtnfgamekjbkbkaaDoor
open Go Go.RowKit
/-- Are two digests the same? -/
def eqD (v x : V4) (p q : B8) : Bool := ([v.a, v.b, v.c, v.d] == [x.a, x.b, x.c, x.d]) && (p.list == q.list)
theorem eqD_iff (v x : V4) (p q : B8) : eqD v x p q = true ↔ v = x ∧ p = q := by
  obtain ⟨a, b, c, d⟩ := v
  obtain ⟨e, f, g, h⟩ := x
  obtain ⟨p1, p2, p3, p4, p5, p6, p7, p8⟩ := p
  obtain ⟨q1, q2, q3, q4, q5, q6, q7, q8⟩ := q
  simp [eqD, B8.list, and_assoc]
theorem eqD_self (v : V4) (p : B8) : eqD v v p p = true := (eqD_iff v v p p).2 ⟨rfl, rfl⟩
theorem u8_size9 (W : World) : (sizeOf 5).run Tryd.prog W = .ok 1 W := by kernel_rfl
theorem dg_eq (T TF : TypeId) (hT : (T = 62 ∧ TF = 28) ∨ (T = 50 ∧ TF = 22)) (v x : V4) (p q : B8) (W : World) : (Op.equalIn 10000 T (.agg (dgC v p)) (.agg (dgC x q))).run Tryd.prog W = .ok (eqD v x p q) W := by
  have hF : ∃ f g : Field, (Tryd.prog.fieldsOf T).toList = [f, g] ∧ f.name ≠ "_" ∧ f.type = TF ∧ f.offset = 0 ∧ g.name ≠ "_" ∧ g.type = 48 ∧ g.offset = 4 := by
    rcases hT with ⟨rfl, rfl⟩ | ⟨rfl, rfl⟩
    · exact ⟨(Tryd.prog.fieldsOf 62).toList.getD 0 default, (Tryd.prog.fieldsOf 62).toList.getD 1 default, by kernel_rfl, of_decide_eq_true (by kernel_rfl), by kernel_rfl, by kernel_rfl, of_decide_eq_true (by kernel_rfl), by kernel_rfl, by kernel_rfl⟩
    · exact ⟨(Tryd.prog.fieldsOf 50).toList.getD 0 default, (Tryd.prog.fieldsOf 50).toList.getD 1 default, by kernel_rfl, of_decide_eq_true (by kernel_rfl), by kernel_rfl, by kernel_rfl, of_decide_eq_true (by kernel_rfl), by kernel_rfl, by kernel_rfl⟩
  have hs : (Op.equalIn 10000 T (.agg (dgC v p)) (.agg (dgC x q))).run Tryd.prog W = (Op.eqFields 9999 (dgC v p) (dgC x q) (Tryd.prog.fieldsOf T).toList).run Tryd.prog W := by
    rcases hT with ⟨rfl, rfl⟩ | ⟨rfl, rfl⟩
    · exact run_equalIn_struct W 9999 62 _ _ (by kernel_rfl) (by kernel_rfl)
    · exact run_equalIn_struct W 9999 50 _ _ (by kernel_rfl) (by kernel_rfl)
  have e1 : (Op.equalIn 9999 TF (.agg #[.int .i64 v.a, .int .i64 v.b, .int .i64 v.c, .int .i64 v.d]) (.agg #[.int .i64 x.a, .int .i64 x.b, .int .i64 x.c, .int .i64 x.d])).run Tryd.prog W = .ok ([v.a, v.b, v.c, v.d] == [x.a, x.b, x.c, x.d]) W := by
    rcases hT with ⟨rfl, rfl⟩ | ⟨rfl, rfl⟩
    · exact equalIn_ints (P := Tryd.prog) W 9997 28 3 4 Tryd.underlying28 Tryd.underlying3 i_size [v.a, v.b, v.c, v.d] [x.a, x.b, x.c, x.d] rfl rfl
    · exact equalIn_ints (P := Tryd.prog) W 9997 22 3 4 Tryd.underlying22 Tryd.underlying3 i_size [v.a, v.b, v.c, v.d] [x.a, x.b, x.c, x.d] rfl rfl
  have e2 : (Op.equalIn 9999 48 (.agg #[.int .u8 (ub p.a), .int .u8 (ub p.b), .int .u8 (ub p.c), .int .u8 (ub p.d), .int .u8 (ub p.e), .int .u8 (ub p.f), .int .u8 (ub p.g), .int .u8 (ub p.h)]) (.agg #[.int .u8 (ub q.a), .int .u8 (ub q.b), .int .u8 (ub q.c), .int .u8 (ub q.d), .int .u8 (ub q.e), .int .u8 (ub q.f), .int .u8 (ub q.g), .int .u8 (ub q.h)])).run Tryd.prog W = .ok (p.list == q.list) W := Go.run_equalIn_bytes (P := Tryd.prog) W 9997 48 5 8 Tryd.underlying48 Tryd.underlying5 u8_size9 p.list q.list rfl rfl
  have a1 : ∀ (v : V4) (p : B8), (part TF (dgC v p) 0).run Tryd.prog W = .ok (.agg #[.int .i64 v.a, .int .i64 v.b, .int .i64 v.c, .int .i64 v.d]) W := fun v p => by
    rcases hT with ⟨rfl, rfl⟩ | ⟨rfl, rfl⟩
    · kernel_rfl
    · kernel_rfl
  have a2 : ∀ (v : V4) (p : B8), (part 48 (dgC v p) 4).run Tryd.prog W = .ok (.agg #[.int .u8 (ub p.a), .int .u8 (ub p.b), .int .u8 (ub p.c), .int .u8 (ub p.d), .int .u8 (ub p.e), .int .u8 (ub p.f), .int .u8 (ub p.g), .int .u8 (ub p.h)]) W := fun v p => by kernel_rfl
  rw [hs]
  obtain ⟨f, g, hf, n1, t1, o1, n2, t2, o2⟩ := hF
  rw [hf]
  unfold eqD
  cases hb : ([v.a, v.b, v.c, v.d] == [x.a, x.b, x.c, x.d])
  · simp only [Op.eqFields, n1, ne_eq, not_false_eq_true, if_true, t1, o1, Sem.run_bind, a1, Result.andThen_ok, e1, hb, Bool.not_false, Sem.run_pure, Bool.false_and]
  · simp only [Op.eqFields, n1, n2, ne_eq, not_false_eq_true, if_true, t1, o1, t2, o2, Sem.run_bind, a1, a2, Result.andThen_ok, e1, e2, hb, Bool.not_true, Bool.false_eq_true, if_false, Bool.true_and]
    cases (p.list == q.list) <;> rfl
theorem dg_eql (v x : V4) (p q : B8) (W : World) : (binOp .eql 62 (.agg #[.int .i64 v.a, .int .i64 v.b, .int .i64 v.c, .int .i64 v.d, .int .u8 (ub p.a), .int .u8 (ub p.b), .int .u8 (ub p.c), .int .u8 (ub p.d), .int .u8 (ub p.e), .int .u8 (ub p.f), .int .u8 (ub p.g), .int .u8 (ub p.h)]) (.agg #[.int .i64 x.a, .int .i64 x.b, .int .i64 x.c, .int .i64 x.d, .int .u8 (ub q.a), .int .u8 (ub q.b), .int .u8 (ub q.c), .int .u8 (ub q.d), .int .u8 (ub q.e), .int .u8 (ub q.f), .int .u8 (ub q.g), .int .u8 (ub q.h)])).run Tryd.prog W = .ok (.bool (eqD v x p q)) W := by
  rw [run_eql_struct]
  exact (congrArg (fun z => z.andThen fun b w' => Result.ok (Value.bool b) w') (dg_eq 62 28 (.inl ⟨rfl, rfl⟩) v x p q W)).trans rfl
theorem rng_dg {W : World} {E : Nat} {v : V4} {p : B8} {t : TypeId} (h : W.heap[E]? = some (.cells #[.int .i64 v.a, .int .i64 v.b, .int .i64 v.c, .int .i64 v.d, .int .u8 (ub p.a), .int .u8 (ub p.b), .int .u8 (ub p.c), .int .u8 (ub p.d), .int .u8 (ub p.e), .int .u8 (ub p.f), .int .u8 (ub p.g), .int .u8 (ub p.h)] t (0, 0))) : W.rangeAt E 0 [.int .i64 v.a, .int .i64 v.b, .int .i64 v.c, .int .i64 v.d] ∧ W.rangeAt E 4 [.int .u8 (ub p.a), .int .u8 (ub p.b), .int .u8 (ub p.c), .int .u8 (ub p.d), .int .u8 (ub p.e), .int .u8 (ub p.f), .int .u8 (ub p.g), .int .u8 (ub p.h)] :=
  ⟨range_to8 (m := [.int .u8 (ub p.a), .int .u8 (ub p.b), .int .u8 (ub p.c), .int .u8 (ub p.d), .int .u8 (ub p.e), .int .u8 (ub p.f), .int .u8 (ub p.g), .int .u8 (ub p.h)]) (row_rng8 (l := [.int .i64 v.a, .int .i64 v.b, .int .i64 v.c, .int .i64 v.d, .int .u8 (ub p.a), .int .u8 (ub p.b), .int .u8 (ub p.c), .int .u8 (ub p.d), .int .u8 (ub p.e), .int .u8 (ub p.f), .int .u8 (ub p.g), .int .u8 (ub p.h)]) h), range_from8 (l := [.int .i64 v.a, .int .i64 v.b, .int .i64 v.c, .int .i64 v.d]) (row_rng8 (l := [.int .i64 v.a, .int .i64 v.b, .int .i64 v.c, .int .i64 v.d, .int .u8 (ub p.a), .int .u8 (ub p.b), .int .u8 (ub p.c), .int .u8 (ub p.d), .int .u8 (ub p.e), .int .u8 (ub p.f), .int .u8 (ub p.g), .int .u8 (ub p.h)]) h) rfl⟩
set_option maxRecDepth 100000 in
set_option maxHeartbeats 4000000 in
theorem alike_any (u : Value) (l : L4) (x : V4) (q : B8) (w : World) (hv : SetV w u l) (hg : Good l) (hTab : Tab w) (hG : 1 < w.heap.size) : Calls Tryd.prog 26 #[u, .agg (dgC x q)] w fun e w' => e = .returned (.bool (eqD l.ver x (prtL l) q)) ∧ Below w.heap.size w w' := by
  obtain ⟨E, hE⟩ : ∃ E, w.heap.size = E := ⟨_, rfl⟩
  have K0 : Bx (KR w E [(E, .cells #[.int .i64 x.a, .int .i64 x.b, .int .i64 x.c, .int .i64 x.d, .int .u8 (ub q.a), .int .u8 (ub q.b), .int .u8 (ub q.c), .int .u8 (ub q.d), .int .u8 (ub q.e), .int .u8 (ub q.f), .int .u8 (ub q.g), .int .u8 (ub q.h)] 62)] (w.alloc (.cells #[.int .i64 x.a, .int .i64 x.b, .int .i64 x.c, .int .i64 x.d, .int .u8 (ub q.a), .int .u8 (ub q.b), .int .u8 (ub q.c), .int .u8 (ub q.d), .int .u8 (ub q.e), .int .u8 (ub q.f), .int .u8 (ub q.g), .int .u8 (ub q.h)] 62))) := ⟨by
    subst hE
    exact (KR.start w).new _⟩
  have HD : Bx (∀ W, Below E w W → Calls Tryd.prog 23 #[u] W fun e w' => e = .returned (.agg #[.int .i64 l.ver.a, .int .i64 l.ver.b, .int .i64 l.ver.c, .int .i64 l.ver.d, .int .u8 (ub (prtL l).a), .int .u8 (ub (prtL l).b), .int .u8 (ub (prtL l).c), .int .u8 (ub (prtL l).d), .int .u8 (ub (prtL l).e), .int .u8 (ub (prtL l).f), .int .u8 (ub (prtL l).g), .int .u8 (ub (prtL l).h)]) ∧ Below W.heap.size W w') := ⟨fun W h => dof_any u l W (hv.later (by rw [hE]; exact h)) hg (hTab.later h (by omega)) (by have := h.size; omega)⟩
  clear hv hg hTab hG
  generalize prtL l = p at *
  generalize l.ver = v at *
  have heq := dg_eql v x p q
  unfold dgC
  rw [hE]
  go_enter Tryd.func26, Tryd.ntmps26
  go_upto_region 1 with fail
  have R0 := Bx.mk K0.out.drew
  clear K0
  refine wp_region_noPanic ?_
  refine wp_region_held_drew (S := fun W => W.rangeAt E 0 [.int .i64 x.a, .int .i64 x.b, .int .i64 x.c, .int .i64 x.d, .int .u8 (ub q.a), .int .u8 (ub q.b), .int .u8 (ub q.c), .int .u8 (ub q.d), .int .u8 (ub q.e), .int .u8 (ub q.f), .int .u8 (ub q.g), .int .u8 (ub q.h)]) (by kernel_rfl) (row_rng8 (l := [.int .i64 x.a, .int .i64 x.b, .int .i64 x.c, .int .i64 x.d, .int .u8 (ub q.a), .int .u8 (ub q.b), .int .u8 (ub q.c), .int .u8 (ub q.d), .int .u8 (ub q.e), .int .u8 (ub q.f), .int .u8 (ub q.g), .int .u8 (ub q.h)]) (R0.out.rows _ (.head _))) (fun hHeld => ?_)
  generalize (w.alloc (.cells #[.int .i64 x.a, .int .i64 x.b, .int .i64 x.c, .int .i64 x.d, .int .u8 (ub q.a), .int .u8 (ub q.b), .int .u8 (ub q.c), .int .u8 (ub q.d), .int .u8 (ub q.e), .int .u8 (ub q.f), .int .u8 (ub q.g), .int .u8 (ub q.h)] 62)).drew = W0 at *
  refine takeL 0 (v := ?_) rfl (by kernel_rfl) (by kernel_rfl) (by kernel_rfl) (fun _ _ _ h => h) (Or.inl ⟨by rfl, ?_⟩) hHeld ?_
  rotate_left 1
  · (intro w hSw; go_simp; try with_reducible rfl)
  try simp only [Act.put, List.setIfInBounds_toArray, List.set_cons_zero, List.set_cons_succ]
  refine takeL 2 rfl (by kernel_rfl) (by kernel_rfl) (by kernel_rfl) (fun _ _ _ h => h) (yieldsIf_load_mid (by rfl) _ _ rfl _ _ rfl _ _ (fun w hSw => hSw) Tryd.underlying62 rfl (by kernel_rfl)) hHeld ?_
  try simp only [Act.put, List.setIfInBounds_toArray, List.set_cons_zero, List.set_cons_succ]
  refine stepL 1 (by kernel_rfl) rfl (fun K hK => ?_)
  go_simp
  refine (HD.out W0 R0.out.below).mono ?_
  rintro e W1 ⟨rfl, hb⟩
  show K _ _
  have R1 := Bx.mk (R0.out.later hb)
  clear hb R0
  refine hK.out _ _ (row_rng8 (l := [.int .i64 x.a, .int .i64 x.b, .int .i64 x.c, .int .i64 x.d, .int .u8 (ub q.a), .int .u8 (ub q.b), .int .u8 (ub q.c), .int .u8 (ub q.d), .int .u8 (ub q.e), .int .u8 (ub q.f), .int .u8 (ub q.g), .int .u8 (ub q.h)]) (R1.out.rows _ (.head _))) (fun hHeld => ?_)
  clear hK K
  try simp only [Act.put, List.setIfInBounds_toArray, List.set_cons_zero, List.set_cons_succ]
  refine takeL 3 (v := ?_) rfl (by kernel_rfl) (by kernel_rfl) (by kernel_rfl) (fun _ _ _ h => h) (Or.inl ⟨by rfl, ?_⟩) hHeld ?_
  rotate_left 1
  · (intro w hSw; go_simp; try with_reducible rfl)
  try simp only [Act.put, List.setIfInBounds_toArray, List.set_cons_zero, List.set_cons_succ]
  refine takeL 4 (v := ?_) rfl (by kernel_rfl) (by kernel_rfl) (by kernel_rfl) (fun _ _ _ h => h) (Or.inl ⟨by rfl, ?_⟩) hHeld ?_
  rotate_left 1
  · (intro w hSw; go_simp; try with_reducible rfl)
  try simp only [Act.put, List.setIfInBounds_toArray, List.set_cons_zero, List.set_cons_succ]
  refine wpAnyH_done (by kernel_rfl) ?_ _
  refine NoPanic.normal ?_
  clear hHeld
  go_wp2_with fail
  go_ret
  exact ⟨rfl, R1.out.below⟩
/-- What is asked by a digest. -/
def askV (v x : V4) : V4 := if covV v x = true then V4.zero else v
set_option maxRecDepth 100000 in
set_option maxHeartbeats 4000000 in
theorem ask_any (u : Value) (l : L4) (x : V4) (q : B8) (w : World) (hv : SetV w u l) : Calls Tryd.prog 35 #[u, .agg (dgC x q)] w fun e w' => e = .returned (.tuple #[(askV l.ver x).v, .bool (!covV l.ver x)]) ∧ Below w.heap.size w w' := by
  obtain ⟨E, hE⟩ : ∃ E, w.heap.size = E := ⟨_, rfl⟩
  have K0 : Bx (KR w E [(E + 1, .cells #[.int .i64 0, .int .i64 0, .int .i64 0, .int .i64 0] 28), (E, .cells #[.int .i64 x.a, .int .i64 x.b, .int .i64 x.c, .int .i64 x.d, .int .u8 (ub q.a), .int .u8 (ub q.b), .int .u8 (ub q.c), .int .u8 (ub q.d), .int .u8 (ub q.e), .int .u8 (ub q.f), .int .u8 (ub q.g), .int .u8 (ub q.h)] 62)] ((w.alloc (.cells #[.int .i64 x.a, .int .i64 x.b, .int .i64 x.c, .int .i64 x.d, .int .u8 (ub q.a), .int .u8 (ub q.b), .int .u8 (ub q.c), .int .u8 (ub q.d), .int .u8 (ub q.e), .int .u8 (ub q.f), .int .u8 (ub q.g), .int .u8 (ub q.h)] 62)).alloc (.cells #[.int .i64 0, .int .i64 0, .int .i64 0, .int .i64 0] 28))) := Bx.mk (by
    subst hE
    have h := ((KR.start w).new (.cells #[.int .i64 x.a, .int .i64 x.b, .int .i64 x.c, .int .i64 x.d, .int .u8 (ub q.a), .int .u8 (ub q.b), .int .u8 (ub q.c), .int .u8 (ub q.d), .int .u8 (ub q.e), .int .u8 (ub q.f), .int .u8 (ub q.g), .int .u8 (ub q.h)] 62)).new (.cells #[.int .i64 0, .int .i64 0, .int .i64 0, .int .i64 0] 28)
    simpa using h)
  have HV : Bx (∀ W, Below E w W → Calls Tryd.prog 36 #[u] W fun e w' => e = .returned (.agg #[.int .i64 l.ver.a, .int .i64 l.ver.b, .int .i64 l.ver.c, .int .i64 l.ver.d]) ∧ Below W.heap.size W w') := ⟨fun W h => versions_any u l W (hv.later (by rw [hE]; exact h))⟩
  clear hv
  generalize l.ver = v at *
  have HC : Bx (∀ W, Calls Tryd.prog 44 #[.agg #[.int .i64 v.a, .int .i64 v.b, .int .i64 v.c, .int .i64 v.d], .agg #[.int .i64 x.a, .int .i64 x.b, .int .i64 x.c, .int .i64 x.d]] W fun e w' => e = .returned (.bool (covV v x)) ∧ Below W.heap.size W w') := ⟨fun W => covers_any8 v x W⟩
  obtain ⟨av, hav⟩ : ∃ z, askV v x = z := ⟨_, rfl⟩
  have HA := Bx.mk hav
  rw [hav]
  clear hav
  unfold dgC V4.v
  rw [hE]
  go_enter Tryd.func35, Tryd.ntmps35
  go_wp2_with fail
  generalize (w.alloc (.cells #[.int .i64 x.a, .int .i64 x.b, .int .i64 x.c, .int .i64 x.d, .int .u8 (ub q.a), .int .u8 (ub q.b), .int .u8 (ub q.c), .int .u8 (ub q.d), .int .u8 (ub q.e), .int .u8 (ub q.f), .int .u8 (ub q.g), .int .u8 (ub q.h)] 62)).alloc (.cells #[.int .i64 0, .int .i64 0, .int .i64 0, .int .i64 0] 28) = w0 at *
  refine (HV.out w0 K0.out.below).mono ?_
  rintro e w1 ⟨rfl, hb⟩
  have K1 := Bx.mk (K0.out.later hb)
  clear hb K0 HV
  have hD : E + 1 < w1.heap.size := K1.out.lt (.head _)
  obtain ⟨D, hDD⟩ : ∃ D, w1.heap.size = D := ⟨_, rfl⟩
  rw [hDD] at hD
  have HDE := Bx.mk hD
  clear hD
  go_wp2_with (first | (refine wpList_store_v9 rfl 28 _ _ rfl w1 D hDD #[.int .i64 0, .int .i64 0, .int .i64 0, .int .i64 0] 28 rfl (by rfl) #[.int .i64 v.a, .int .i64 v.b, .int .i64 v.c, .int .i64 v.d] (by rfl) rfl (by kernel_rfl) (by simp [Value.oneCell']) ?_; intro w2 hb hr _; have K2 := Bx.mk (K1.out.var9 hDD hb hr); clear hb hr K1) | (refine wpList_load_mid rfl 28 _ rfl D 0 (by rfl) [.int .i64 v.a, .int .i64 v.b, .int .i64 v.c, .int .i64 v.d] _ (row_rng8 (l := [.int .i64 v.a, .int .i64 v.b, .int .i64 v.c, .int .i64 v.d]) (K2.out.rows _ (.head _))) Tryd.underlying28 rfl (by kernel_rfl) ?_) | (refine wpList_load_mid rfl 28 _ rfl E 0 (by rfl) [.int .i64 x.a, .int .i64 x.b, .int .i64 x.c, .int .i64 x.d] _ (rng_dg (K2.out.rows _ (.tail _ (.tail _ (.head _))))).1 Tryd.underlying28 rfl (by kernel_rfl) ?_))
  refine (HC.out w2).mono ?_
  rintro e w3 ⟨rfl, hb⟩
  have K3 := Bx.mk (K2.out.later hb)
  clear hb K2 HC hDD
  cases hc : covV v x with
  | true =>
    have h1 : V4.zero = av := by rw [← HA.out]; unfold askV; rw [hc]; rfl
    subst h1
    go_wp2_with (refine wpList_store_new rfl 28 _ _ rfl (E + 1) #[.int .i64 0, .int .i64 0, .int .i64 0, .int .i64 0] _ _ (by rfl) (by rfl) (K3.out.rows _ (.tail _ (.head _))) rfl (by kernel_rfl) (by simp [Value.oneCell']) ?_; intro w9 hw9 hr9; have HR := Bx.mk hr9; have HG := Bx.mk hw9; clear hw9 hr9)
    refine bodyPost_ret (results_pair rfl _ _ _ (E + 1) _ rfl (run_loadVar_row _ _ _ _ _ _ _ HR.out Tryd.underlying28 rfl (by kernel_rfl))) rfl ?_
    exact ⟨rfl, by rw [HG.out]; exact below_setCells (by omega) _ _ _ _ K3.out.below⟩
  | false =>
    have h1 : v = av := by rw [← HA.out]; unfold askV; rw [hc]; rfl
    subst h1
    go_wp2_with (first | (refine wpList_load_mid rfl 28 _ rfl D 0 (by rfl) [.int .i64 v.a, .int .i64 v.b, .int .i64 v.c, .int .i64 v.d] _ (row_rng8 (l := [.int .i64 v.a, .int .i64 v.b, .int .i64 v.c, .int .i64 v.d]) (K3.out.rows _ (.head _))) Tryd.underlying28 rfl (by kernel_rfl) ?_) | (refine wpList_store_new rfl 28 _ _ rfl (E + 1) #[.int .i64 v.a, .int .i64 v.b, .int .i64 v.c, .int .i64 v.d] _ _ (by rfl) (by rfl) (K3.out.rows _ (.tail _ (.head _))) rfl (by kernel_rfl) (by simp [Value.oneCell']) ?_; intro w9 hw9 hr9; have HR := Bx.mk hr9; have HG := Bx.mk hw9; clear hw9 hr9))
    refine bodyPost_ret (results_pair rfl _ _ _ (E + 1) _ rfl (run_loadVar_row _ _ _ _ _ _ _ HR.out Tryd.underlying28 rfl (by kernel_rfl))) rfl ?_
    exact ⟨rfl, by rw [HG.out]; exact below_setCells (by omega) _ _ _ _ K3.out.below⟩
end Go.Proofs.YtnfgamekjbkbkaaDoor
