/-
  Revocations: versions, rows compared, two rows joined.
-/
import Derived.Test.YtmfhdhggpepbbaaDoorEc
import Derived.Stop.BytesEq
namespace Go.Proofs.YtmfhdhggpepbbaaDoor
open Go Go.RowKit
/-- Four versions. -/
structure V4 where
  a : Int
  b : Int
  c : Int
  d : Int
deriving DecidableEq
def V4.v (x : V4) : Value := .agg #[.int .i64 x.a, .int .i64 x.b, .int .i64 x.c, .int .i64 x.d]
def joinV (x y : V4) : V4 := ⟨max x.a y.a, max x.b y.b, max x.c y.c, max x.d y.d⟩
/-- Is none of the first below the second? -/
def covV (x y : V4) : Bool := decide (y.a ≤ x.a ∧ y.b ≤ x.b ∧ y.c ≤ x.c ∧ y.d ≤ x.d)
theorem idxV0 (p q r s : Int) (W : World) : (Instr.index 39 (.agg #[.int .i64 p, .int .i64 q, .int .i64 r, .int .i64 s]) (.int .i64 0)).run Tryd.prog W = .ok (.int .i64 p) W := by kernel_rfl
theorem idxV1 (p q r s : Int) (W : World) : (Instr.index 39 (.agg #[.int .i64 p, .int .i64 q, .int .i64 r, .int .i64 s]) (.int .i64 1)).run Tryd.prog W = .ok (.int .i64 q) W := by kernel_rfl
theorem idxV2 (p q r s : Int) (W : World) : (Instr.index 39 (.agg #[.int .i64 p, .int .i64 q, .int .i64 r, .int .i64 s]) (.int .i64 2)).run Tryd.prog W = .ok (.int .i64 r) W := by kernel_rfl
theorem idxV3 (p q r s : Int) (W : World) : (Instr.index 39 (.agg #[.int .i64 p, .int .i64 q, .int .i64 r, .int .i64 s]) (.int .i64 3)).run Tryd.prog W = .ok (.int .i64 s) W := by kernel_rfl
set_option maxRecDepth 100000 in
set_option maxHeartbeats 1000000 in
theorem join_any8 (x y : V4) (w : World) : Calls Tryd.prog 29 #[x.v, y.v] w fun e w' => e = .returned (joinV x y).v ∧ Below w.heap.size w w' := by
  obtain ⟨a, b, c, d⟩ := x
  obtain ⟨p, q, r, s⟩ := y
  simp only [V4.v, joinV]
  have i0 := idxV0 p q r s
  have i1 := idxV1 p q r s
  have i2 := idxV2 p q r s
  have i3 := idxV3 p q r s
  go_enter Tryd.func29, Tryd.ntmps29
  go_wp2
  refine wp_loop_rounds 5 ?_
  rw [rounds_succ]
  go_wp2
  rw [rounds_succ]
  go_wp2
  rw [rounds_succ]
  go_wp2
  rw [rounds_succ]
  go_wp2
  rw [rounds_succ]
  go_wp2
  refine bodyPost_ret (results_cell_row rfl _ _ (w.heap.size + 1 + 1) _ _ _ _ rfl (hnew _ _ _ (by simp)) Tryd.underlying39 rfl (by kernel_rfl)) rfl ?_
  refine ⟨rfl, ?_⟩
  exact (((Below.refl _ _).alloc (Nat.le_refl _) _).alloc (by simp) _).alloc (by simp; omega) _
/-- Cells of numbers, compared. -/
def i64c (n : Int) : Value := .int .i64 n
theorem all_range_eqI : ∀ (xs ys : List Int), xs.length = ys.length → ((List.range xs.length).all fun i => xs.getD i 0 == ys.getD i 0) = (xs == ys)
  | [], [], _ => rfl
  | x :: xs, y :: ys, h => by
    have ih := all_range_eqI xs ys (by simpa using h)
    rw [List.length_cons, List.range_succ_eq_map, List.all_cons, List.all_map]
    simp only [List.getD_cons_zero, Function.comp_def, List.getD_cons_succ, ih]
    simp [List.cons_beq_cons]
  | [], _ :: _, h => by simp at h
  | _ :: _, [], h => by simp at h
theorem equalIn_ints {P : Program} (w : World) (d : Nat) (t e : TypeId) (n : Nat) (ht : P.underlying t = some (.array n e)) (he : P.underlying e = some (.int .i64)) (hsz : ∀ w, (sizeOf e).run P w = .ok 1 w)
    (xs ys : List Int) (hx : xs.length = n) (hy : ys.length = n) :
    (Op.equalIn (d + 2) t (.agg (xs.map i64c).toArray) (.agg (ys.map i64c).toArray)).run P w = .ok (xs == ys) w := by
  rw [← all_range_eqI xs ys (hx.trans hy.symm), hx, List.range_eq_range', Op.equalIn]
  simp only [Sem.run_bind, run_underlying ht, Result.andThen_ok, hsz, Std.Legacy.Range.forIn_eq_forIn_range', Std.Legacy.Range.size, Nat.sub_zero, Nat.add_sub_cancel, Nat.div_one]
  have hl : ∀ i ∈ List.range' 0 n 1, i < n := fun i hi => by simpa using (List.mem_range'_1.1 hi).2
  generalize List.range' 0 n 1 = l at hl ⊢
  induction l with
  | nil => simp
  | cons i l ih =>
    have hi : i < n := hl i (by simp)
    have px : (part e (xs.map i64c).toArray (i * 1)).run P w = .ok (i64c (xs.getD i 0)) w := by
      simp [part, isAgg, run_underlying he, List.getD, List.getElem?_eq_getElem (show i < xs.length by omega)]
    have py : (part e (ys.map i64c).toArray (i * 1)).run P w = .ok (i64c (ys.getD i 0)) w := by
      simp [part, isAgg, run_underlying he, List.getD, List.getElem?_eq_getElem (show i < ys.length by omega)]
    have pe : (Op.equalIn (d + 1) e (i64c (xs.getD i 0)) (i64c (ys.getD i 0))).run P w = .ok (xs.getD i 0 == ys.getD i 0) w := by
      rw [i64c, i64c, run_equalIn_int w d e .i64 .i64 _ _ he]
      try congr 1
    simp only [List.forIn_cons, Sem.run_bind, px, py, pe, Result.andThen_ok, List.all_cons]
    cases hb : (xs.getD i 0 == ys.getD i 0)
    · simp
    · simp only [Bool.not_true, Bool.false_eq_true, if_false, Sem.run_pure, Result.andThen_ok, Bool.true_and]
      exact ih fun j hj => hl j (by simp [hj])
theorem i_size (W : World) : (sizeOf 3).run Tryd.prog W = .ok 1 W := by kernel_rfl
theorem vers_eql (a b c d p q r s : Int) (W : World) : (binOp BinOp.eql 39 (.agg #[.int .i64 a, .int .i64 b, .int .i64 c, .int .i64 d]) (.agg #[.int .i64 p, .int .i64 q, .int .i64 r, .int .i64 s])).run Tryd.prog W = .ok (.bool ([a, b, c, d] == [p, q, r, s])) W := by
  have h := equalIn_ints (P := Tryd.prog) W 9998 39 3 4 Tryd.underlying39 Tryd.underlying3 i_size [a, b, c, d] [p, q, r, s] rfl rfl
  rw [run_eql_struct]
  exact (congrArg (fun z => z.andThen fun b w' => Result.ok (Value.bool b) w') h).trans rfl
theorem cov_join (x y : V4) : ([(joinV x y).a, (joinV x y).b, (joinV x y).c, (joinV x y).d] == [x.a, x.b, x.c, x.d]) = covV x y := by
  obtain ⟨a, b, c, d⟩ := x
  obtain ⟨p, q, r, s⟩ := y
  unfold covV joinV
  rw [Bool.eq_iff_iff]
  simp
  omega
set_option maxRecDepth 100000 in
theorem covers_any8 (x y : V4) (w : World) : Calls Tryd.prog 26 #[x.v, y.v] w fun e w' => e = .returned (.bool (covV x y)) ∧ Below w.heap.size w w' := by
  have HC := Bx.mk (join_any8 x y)
  have heq : ∀ W : World, (binOp BinOp.eql 39 (joinV x y).v x.v).run Tryd.prog W = .ok (.bool (covV x y)) W := fun W => by
    rw [← cov_join]
    exact vers_eql _ _ _ _ _ _ _ _ W
  generalize covV x y = z at *
  generalize joinV x y = u at *
  simp only [V4.v] at *
  obtain ⟨E, hE⟩ : ∃ E, w.heap.size = E := ⟨_, rfl⟩
  have K0 : Bx (KR w E [(E + 1, .cells (List.toArray [.int .i64 y.a, .int .i64 y.b, .int .i64 y.c, .int .i64 y.d]) 39), (E, .cells (List.toArray [.int .i64 x.a, .int .i64 x.b, .int .i64 x.c, .int .i64 x.d]) 39)] ((w.alloc (.cells #[.int .i64 x.a, .int .i64 x.b, .int .i64 x.c, .int .i64 x.d] 39)).alloc (.cells #[.int .i64 y.a, .int .i64 y.b, .int .i64 y.c, .int .i64 y.d] 39))) := Bx.mk (by
    subst hE
    have h := ((KR.start w).new (.cells #[.int .i64 x.a, .int .i64 x.b, .int .i64 x.c, .int .i64 x.d] 39)).new (.cells #[.int .i64 y.a, .int .i64 y.b, .int .i64 y.c, .int .i64 y.d] 39)
    simpa using h)
  have HK : Bx (∀ W, KR w E [(E + 1, .cells (List.toArray [.int .i64 y.a, .int .i64 y.b, .int .i64 y.c, .int .i64 y.d]) 39), (E, .cells (List.toArray [.int .i64 x.a, .int .i64 x.b, .int .i64 x.c, .int .i64 x.d]) 39)] W →
      W.rangeAt E 0 [.int .i64 x.a, .int .i64 x.b, .int .i64 x.c, .int .i64 x.d] ∧ W.rangeAt (E + 1) 0 [.int .i64 y.a, .int .i64 y.b, .int .i64 y.c, .int .i64 y.d]) := Bx.mk fun W h =>
    ⟨row_rng8 (h.rows _ (.tail _ (.head _))), row_rng8 (h.rows _ (.head _))⟩
  rw [hE]
  go_enter Tryd.func26, Tryd.ntmps26
  go_upto_region 1 with fail
  generalize ((w.alloc (.cells #[.int .i64 x.a, .int .i64 x.b, .int .i64 x.c, .int .i64 x.d] 39)).alloc (.cells #[.int .i64 y.a, .int .i64 y.b, .int .i64 y.c, .int .i64 y.d] 39)) = w0 at *
  have R0 := Bx.mk K0.out.drew
  clear K0
  refine wp_region_noPanic ?_
  refine wp_region_held_drew (S := fun W => W.rangeAt E 0 [.int .i64 x.a, .int .i64 x.b, .int .i64 x.c, .int .i64 x.d] ∧ W.rangeAt (E + 1) 0 [.int .i64 y.a, .int .i64 y.b, .int .i64 y.c, .int .i64 y.d]) (by kernel_rfl) (HK.out _ R0.out) (fun hHeld => ?_)
  generalize w0.drew = W0 at *
  refine takeL 0 rfl (by kernel_rfl) (by kernel_rfl) (by kernel_rfl) (fun _ _ _ h => h) (yieldsIf_load_mid (by rfl) _ _ rfl _ _ rfl _ _ (fun w hSw => hSw.1) Tryd.underlying39 rfl (by kernel_rfl)) hHeld ?_
  try simp only [Act.put, List.setIfInBounds_toArray, List.set_cons_zero, List.set_cons_succ]
  refine takeL 1 rfl (by kernel_rfl) (by kernel_rfl) (by kernel_rfl) (fun _ _ _ h => h) (yieldsIf_load_mid (by rfl) _ _ rfl _ _ rfl _ _ (fun w hSw => hSw.2) Tryd.underlying39 rfl (by kernel_rfl)) hHeld ?_
  try simp only [Act.put, List.setIfInBounds_toArray, List.set_cons_zero, List.set_cons_succ]
  refine takeL 3 rfl (by kernel_rfl) (by kernel_rfl) (by kernel_rfl) (fun _ _ _ h => h) (yieldsIf_load_mid (by rfl) _ _ rfl _ _ rfl _ _ (fun w hSw => hSw.1) Tryd.underlying39 rfl (by kernel_rfl)) hHeld ?_
  try simp only [Act.put, List.setIfInBounds_toArray, List.set_cons_zero, List.set_cons_succ]
  refine stepL 2 (by kernel_rfl) rfl (fun K hK => ?_)
  go_simp
  refine (HC.out W0).mono ?_
  rintro e W1 ⟨rfl, hb⟩
  show K _ _
  have R1 := Bx.mk (R0.out.later hb)
  clear hb
  refine hK.out _ _ (HK.out _ R1.out) (fun hHeld => ?_)
  clear hK K
  try simp only [Act.put, List.setIfInBounds_toArray, List.set_cons_zero, List.set_cons_succ]
  refine takeL 4 (v := ?_) rfl (by kernel_rfl) (by kernel_rfl) (by kernel_rfl) (fun _ _ _ h => h) (Or.inl ⟨by rfl, ?_⟩) hHeld ?_
  rotate_left 1
  · (intro w hSw; have h := heq w; go_simp; try with_reducible rfl)
  try simp only [Act.put, List.setIfInBounds_toArray, List.set_cons_zero, List.set_cons_succ]
  refine takeL 5 (v := ?_) rfl (by kernel_rfl) (by kernel_rfl) (by kernel_rfl) (fun _ _ _ h => h) (Or.inl ⟨by rfl, ?_⟩) hHeld ?_
  rotate_left 1
  · (intro w hSw; go_simp; try with_reducible rfl)
  try simp only [Act.put, List.setIfInBounds_toArray, List.set_cons_zero, List.set_cons_succ]
  refine wpAnyH_done (by kernel_rfl) ?_ _
  refine NoPanic.normal ?_
  clear hHeld
  go_wp2
  go_ret
  exact ⟨rfl, R1.out.below⟩
end Go.Proofs.YtmfhdhggpepbbaaDoor
