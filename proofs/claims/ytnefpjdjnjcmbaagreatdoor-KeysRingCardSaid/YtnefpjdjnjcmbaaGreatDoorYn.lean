/-
  A ring's methods: From, Add.
-/
import Derived.Test.YtnefpjdjnjcmbaaGreatDoorYl
namespace Go.Proofs.YtnefpjdjnjcmbaaGreatDoor
open Go Go.RowKit
set_option maxRecDepth 100000 in
set_option maxHeartbeats 1000000 in
theorem ring_from_none (R B : Nat) (tk : List Value) (mv : Value) (lb : List Value) (l : List (Cl × Nat)) (c : Cl) (w : World) (hr : RingAt w R tk mv lb) (hm : MapV w B mv l) (hc : Cl64 c) (ha : atC l c = none) :
    Calls Tryz.prog 15 #[.pointer (some ⟨R, 0, none⟩), clV c] w fun e w' => e = .returned (.tuple #[.pointer none, .int .i64 7]) ∧ Below w.heap.size w w' := by
  have HLo : Bx (∀ W, Below w.heap.size w W → (Instr.lookup 70 mv (clV c) true).run Tryz.prog W = .ok (.tuple #[.pointer none, .bool false]) W ∧ W.cell? ⟨R, 36, none⟩ = some mv) := Bx.mk fun W hb => ⟨by
    have h := (hm.later hb).look c hc
    rw [ha] at h
    exact h, (hr.later (hb.block R hr.lt)).map⟩
  have HRt := Bx.mk hr
  clear hr hm hc ha
  obtain ⟨i, r, x, q⟩ := c
  unfold clV at *
  simp only at HLo ⊢
  obtain ⟨E, hE⟩ : ∃ E, w.heap.size = E := ⟨_, rfl⟩
  have H0 := Bx.mk ((KS.start w E hE).new (.cells #[.int .i64 i, .int .i64 r, .int .i64 x, .int .i64 q] 26))
  rw [hE] at H0 HLo ⊢
  go_enter Tryz.func15, Tryz.ntmps15
  go_upto_region 3 with fail
  generalize w.alloc (.cells #[.int .i64 i, .int .i64 r, .int .i64 x, .int .i64 q] 26) = w0 at *
  have R0 := Bx.mk H0.out.drew
  clear H0
  refine wp_region_noPanic ?_
  refine wp_region_held_drew (S := fun W => W.cell? ⟨R, 36, none⟩ = some mv ∧ (W.rangeAt E 0 [.int .i64 i, .int .i64 r, .int .i64 x, .int .i64 q] ∧ (Instr.lookup 70 mv (.agg #[.int .i64 i, .int .i64 r, .int .i64 x, .int .i64 q]) true).run Tryz.prog W = .ok (.tuple #[.pointer none, .bool false]) W)) (by kernel_rfl) (⟨(HLo.out _ R0.out.below).2, row_rng (l := [.int .i64 i, .int .i64 r, .int .i64 x, .int .i64 q]) (R0.out.rows _ (.head _)), (HLo.out _ R0.out.below).1⟩) (fun hHeld => ?_)
  generalize w0.drew = W0 at *
  refine takeL 0 (v := ?_) rfl (by kernel_rfl) (by kernel_rfl) (by kernel_rfl) (fun _ _ _ h => h) (Or.inl ⟨by rfl, ?_⟩) hHeld ?_
  rotate_left 1
  · (intro w hSw; go_simp; try with_reducible rfl)
  try simp only [Act.put, List.setIfInBounds_toArray, List.set_cons_zero, List.set_cons_succ]
  refine takeL 1 (v := ?_) rfl (by kernel_rfl) (by kernel_rfl) (by kernel_rfl) (fun _ _ _ h => h) (Or.inl ⟨by rfl, ?_⟩) hHeld ?_
  rotate_left 1
  · (intro w hSw; go_simp; try with_reducible rfl)
  try simp only [Act.put, List.setIfInBounds_toArray, List.set_cons_zero, List.set_cons_succ]
  refine takeL 2 (v := ?_) rfl (by kernel_rfl) (by kernel_rfl) (by kernel_rfl) (fun _ _ _ h => h) (Or.inl ⟨by rfl, ?_⟩) hHeld ?_
  rotate_left 1
  · (intro w hSw; go_simp; try with_reducible rfl)
  try simp only [Act.put, List.setIfInBounds_toArray, List.set_cons_zero, List.set_cons_succ]
  refine takeL 3 (v := ?_) rfl (by kernel_rfl) (by kernel_rfl) (by kernel_rfl) (fun _ _ _ h => h) (Or.inl ⟨by rfl, ?_⟩) hHeld ?_
  rotate_left 1
  · (intro w hSw; have h1 := hSw.1; go_simp; try with_reducible rfl)
  try simp only [Act.put, List.setIfInBounds_toArray, List.set_cons_zero, List.set_cons_succ]
  refine takeL 4 rfl (by kernel_rfl) (by kernel_rfl) (by kernel_rfl) (fun _ _ _ h => h) (yieldsIf_load_mid (by rfl) _ _ rfl _ _ rfl _ _ (fun w hSw => hSw.2.1) Tryz.underlying26 rfl (by kernel_rfl)) hHeld ?_
  try simp only [Act.put, List.setIfInBounds_toArray, List.set_cons_zero, List.set_cons_succ]
  refine takeL 5 (v := ?_) rfl (by kernel_rfl) (by kernel_rfl) (by kernel_rfl) (fun _ _ _ h => h) (Or.inl ⟨by rfl, ?_⟩) hHeld ?_
  rotate_left 1
  · (intro w hSw; have h3 := hSw.2.2; go_simp; try with_reducible rfl)
  try simp only [Act.put, List.setIfInBounds_toArray, List.set_cons_zero, List.set_cons_succ]
  refine takeL 6 (v := ?_) rfl (by kernel_rfl) (by kernel_rfl) (by kernel_rfl) (fun _ _ _ h => h) (Or.inl ⟨by rfl, ?_⟩) hHeld ?_
  rotate_left 1
  · (intro w hSw; go_simp; try with_reducible rfl)
  try simp only [Act.put, List.setIfInBounds_toArray, List.set_cons_zero, List.set_cons_succ]
  refine takeL 7 (v := ?_) rfl (by kernel_rfl) (by kernel_rfl) (by kernel_rfl) (fun _ _ _ h => h) (Or.inl ⟨by rfl, ?_⟩) hHeld ?_
  rotate_left 1
  · (intro w hSw; go_simp; try with_reducible rfl)
  try simp only [Act.put, List.setIfInBounds_toArray, List.set_cons_zero, List.set_cons_succ]
  refine takeL 8 (v := ?_) rfl (by kernel_rfl) (by kernel_rfl) (by kernel_rfl) (fun _ _ _ h => h) (Or.inl ⟨by rfl, ?_⟩) hHeld ?_
  rotate_left 1
  · (intro w hSw; go_simp; try with_reducible rfl)
  try simp only [Act.put, List.setIfInBounds_toArray, List.set_cons_zero, List.set_cons_succ]
  refine takeL 9 (v := ?_) rfl (by kernel_rfl) (by kernel_rfl) (by kernel_rfl) (fun _ _ _ h => h) (Or.inl ⟨by rfl, ?_⟩) hHeld ?_
  rotate_left 1
  · (intro w hSw; go_simp; try with_reducible rfl)
  try simp only [Act.put, List.setIfInBounds_toArray, List.set_cons_zero, List.set_cons_succ]
  refine takeL 10 (v := ?_) rfl (by kernel_rfl) (by kernel_rfl) (by kernel_rfl) (fun _ _ _ h => h) (Or.inl ⟨by rfl, ?_⟩) hHeld ?_
  rotate_left 1
  · (intro w hSw; go_simp; try with_reducible rfl)
  try simp only [Act.put, List.setIfInBounds_toArray, List.set_cons_zero, List.set_cons_succ]
  refine wpAnyH_done (by kernel_rfl) ?_ _
  refine NoPanic.normal ?_
  clear hHeld
  go_wp2
  go_ret2
  exact ⟨rfl, R0.out.below⟩
set_option maxRecDepth 100000 in
set_option maxHeartbeats 1000000 in
theorem ring_from_some (R B : Nat) (tk : List Value) (mv : Value) (lb : List Value) (l : List (Cl × Nat)) (c : Cl) (w : World) (hr : RingAt w R tk mv lb) (hm : MapV w B mv l) (hc : Cl64 c) (p : Nat) (bs : List UInt8) (ha : atC l c = some p) (hk : IsKey w (ptr p) bs) (hbl : bs.length ≤ 140737488355328) :
    Calls Tryz.prog 15 #[.pointer (some ⟨R, 0, none⟩), clV c] w fun e w' => ∃ v', e = .returned (.tuple #[v', .int .i64 0]) ∧ KeyO w' w.heap.size v' bs ∧ Below w.heap.size w w' := by
  have HLo : Bx (∀ W, Below w.heap.size w W → (Instr.lookup 70 mv (clV c) true).run Tryz.prog W = .ok (.tuple #[.pointer (some ⟨p, 0, none⟩), .bool true]) W ∧ W.cell? ⟨R, 36, none⟩ = some mv) := Bx.mk fun W hb => ⟨by
    have h := (hm.later hb).look c hc
    rw [ha] at h
    exact h, (hr.later (hb.block R hr.lt)).map⟩
  have HRt := Bx.mk hr
  have HCk : Bx (∀ W, Below w.heap.size w W → Calls Tryz.prog 34 #[.pointer (some ⟨p, 0, none⟩)] W fun e w' => ∃ v', e = .returned v' ∧ KeyO w' W.heap.size v' bs ∧ Below W.heap.size W w') := Bx.mk fun W hb => copied_key bs _ W (hk.later hb) hbl
  clear hr hm hc ha hk hbl
  obtain ⟨i, r, x, q⟩ := c
  unfold clV at *
  simp only at HLo ⊢
  obtain ⟨E, hE⟩ : ∃ E, w.heap.size = E := ⟨_, rfl⟩
  have H0 := Bx.mk ((KS.start w E hE).new (.cells #[.int .i64 i, .int .i64 r, .int .i64 x, .int .i64 q] 26))
  rw [hE] at H0 HLo HCk ⊢
  go_enter Tryz.func15, Tryz.ntmps15
  go_upto_region 3 with fail
  generalize w.alloc (.cells #[.int .i64 i, .int .i64 r, .int .i64 x, .int .i64 q] 26) = w0 at *
  have R0 := Bx.mk H0.out.drew
  clear H0
  refine wp_region_noPanic ?_
  refine wp_region_held_drew (S := fun W => W.cell? ⟨R, 36, none⟩ = some mv ∧ (W.rangeAt E 0 [.int .i64 i, .int .i64 r, .int .i64 x, .int .i64 q] ∧ (Instr.lookup 70 mv (.agg #[.int .i64 i, .int .i64 r, .int .i64 x, .int .i64 q]) true).run Tryz.prog W = .ok (.tuple #[.pointer (some ⟨p, 0, none⟩), .bool true]) W)) (by kernel_rfl) (⟨(HLo.out _ R0.out.below).2, row_rng (l := [.int .i64 i, .int .i64 r, .int .i64 x, .int .i64 q]) (R0.out.rows _ (.head _)), (HLo.out _ R0.out.below).1⟩) (fun hHeld => ?_)
  generalize w0.drew = W0 at *
  refine takeL 0 (v := ?_) rfl (by kernel_rfl) (by kernel_rfl) (by kernel_rfl) (fun _ _ _ h => h) (Or.inl ⟨by rfl, ?_⟩) hHeld ?_
  rotate_left 1
  · (intro w hSw; go_simp; try with_reducible rfl)
  try simp only [Act.put, List.setIfInBounds_toArray, List.set_cons_zero, List.set_cons_succ]
  refine takeL 1 (v := ?_) rfl (by kernel_rfl) (by kernel_rfl) (by kernel_rfl) (fun _ _ _ h => h) (Or.inl ⟨by rfl, ?_⟩) hHeld ?_
  rotate_left 1
  · (intro w hSw; go_simp; try with_reducible rfl)
  try simp only [Act.put, List.setIfInBounds_toArray, List.set_cons_zero, List.set_cons_succ]
  refine takeL 2 (v := ?_) rfl (by kernel_rfl) (by kernel_rfl) (by kernel_rfl) (fun _ _ _ h => h) (Or.inl ⟨by rfl, ?_⟩) hHeld ?_
  rotate_left 1
  · (intro w hSw; go_simp; try with_reducible rfl)
  try simp only [Act.put, List.setIfInBounds_toArray, List.set_cons_zero, List.set_cons_succ]
  refine takeL 3 (v := ?_) rfl (by kernel_rfl) (by kernel_rfl) (by kernel_rfl) (fun _ _ _ h => h) (Or.inl ⟨by rfl, ?_⟩) hHeld ?_
  rotate_left 1
  · (intro w hSw; have h1 := hSw.1; go_simp; try with_reducible rfl)
  try simp only [Act.put, List.setIfInBounds_toArray, List.set_cons_zero, List.set_cons_succ]
  refine takeL 4 rfl (by kernel_rfl) (by kernel_rfl) (by kernel_rfl) (fun _ _ _ h => h) (yieldsIf_load_mid (by rfl) _ _ rfl _ _ rfl _ _ (fun w hSw => hSw.2.1) Tryz.underlying26 rfl (by kernel_rfl)) hHeld ?_
  try simp only [Act.put, List.setIfInBounds_toArray, List.set_cons_zero, List.set_cons_succ]
  refine takeL 5 (v := ?_) rfl (by kernel_rfl) (by kernel_rfl) (by kernel_rfl) (fun _ _ _ h => h) (Or.inl ⟨by rfl, ?_⟩) hHeld ?_
  rotate_left 1
  · (intro w hSw; have h3 := hSw.2.2; go_simp; try with_reducible rfl)
  try simp only [Act.put, List.setIfInBounds_toArray, List.set_cons_zero, List.set_cons_succ]
  refine takeL 6 (v := ?_) rfl (by kernel_rfl) (by kernel_rfl) (by kernel_rfl) (fun _ _ _ h => h) (Or.inl ⟨by rfl, ?_⟩) hHeld ?_
  rotate_left 1
  · (intro w hSw; go_simp; try with_reducible rfl)
  try simp only [Act.put, List.setIfInBounds_toArray, List.set_cons_zero, List.set_cons_succ]
  refine takeL 7 (v := ?_) rfl (by kernel_rfl) (by kernel_rfl) (by kernel_rfl) (fun _ _ _ h => h) (Or.inl ⟨by rfl, ?_⟩) hHeld ?_
  rotate_left 1
  · (intro w hSw; go_simp; try with_reducible rfl)
  try simp only [Act.put, List.setIfInBounds_toArray, List.set_cons_zero, List.set_cons_succ]
  refine takeL 8 (v := ?_) rfl (by kernel_rfl) (by kernel_rfl) (by kernel_rfl) (fun _ _ _ h => h) (Or.inl ⟨by rfl, ?_⟩) hHeld ?_
  rotate_left 1
  · (intro w hSw; go_simp; try with_reducible rfl)
  try simp only [Act.put, List.setIfInBounds_toArray, List.set_cons_zero, List.set_cons_succ]
  refine takeL 9 (v := ?_) rfl (by kernel_rfl) (by kernel_rfl) (by kernel_rfl) (fun _ _ _ h => h) (Or.inl ⟨by rfl, ?_⟩) hHeld ?_
  rotate_left 1
  · (intro w hSw; go_simp; try with_reducible rfl)
  try simp only [Act.put, List.setIfInBounds_toArray, List.set_cons_zero, List.set_cons_succ]
  refine takeL 10 (v := ?_) rfl (by kernel_rfl) (by kernel_rfl) (by kernel_rfl) (fun _ _ _ h => h) (Or.inl ⟨by rfl, ?_⟩) hHeld ?_
  rotate_left 1
  · (intro w hSw; go_simp; try with_reducible rfl)
  try simp only [Act.put, List.setIfInBounds_toArray, List.set_cons_zero, List.set_cons_succ]
  refine wpAnyH_done (by kernel_rfl) ?_ _
  refine NoPanic.normal ?_
  clear hHeld
  go_wp2_with fail
  refine (HCk.out W0 R0.out.below).mono ?_
  rintro e W1 ⟨v', rfl, hk, hb⟩
  have R1 := Bx.mk (And.intro (hk.weak R0.out.le) (R0.out.later hb).below)
  clear hk hb R0
  go_wp2
  go_ret2
  exact ⟨_, rfl, R1.out⟩
theorem RingAt.setMap {W : World} {R : Nat} {tk : List Value} {mv : Value} {lb : List Value} (h : RingAt W R tk mv lb) (mv' : Value) : RingAt (W.setCell ⟨R, 36, none⟩ mv') R tk mv' lb := by
  refine ⟨?_, h.tkl, h.lbl⟩
  show (W.heap.modify R _)[R]? = _
  rw [Array.getElem?_modify, if_pos rfl, h.row]
  show some (Obj.cells ((rgC tk (mv :: lb)).setIfInBounds 36 mv') 73 (0, 0)) = _
  unfold rgC
  rw [List.setIfInBounds_toArray, List.set_append_right _ _ (by rw [h.tkl]; exact Nat.le_refl _), h.tkl]
  rfl
theorem step_mapU {w w1 : World} {ops : Array Oper} {o : Oper} {a : Act} {K : Act → World → Prop} {Q : Exit → Act → World → Prop} {E : Prop} (hgd : o.guard = none) (tt : TypeId) (m k v : Operand)
    (ho : o.op = .mapUpdate tt m k v) (hrun : (Instr.mapUpdate tt (a.eval m) (a.eval k) (a.eval v)).run Tryz.prog w = .ok () w1) (h : K (a.put o.dst undef) w1) :
    if Region.wanted o (yielded ops a.tmps) = true then Oper.wp Tryz.prog o a w K Q else E := by
  have hw : Region.wanted o (yielded ops a.tmps) = true := by simp [Region.wanted, hgd]
  rw [if_pos hw]
  unfold Oper.wp
  simp [execOp, ho, hrun, Result.andThen]
  exact h
/-- What a ring is, behind a key that is kept. -/
def Kept (R B : Nat) (tk : List Value) (lb : List Value) (l : List (Cl × Nat)) (c : Cl) (bs : List UInt8) (w w' : World) : Prop :=
  ∃ M p, RingAt w' R tk (.map (some M)) lb ∧ B ≤ M ∧ MapL w' M (l ++ [(c, p)]) ∧ KeyO w' w.heap.size (ptr p) bs ∧ KP R R B w w'
theorem set_grown (W : World) (b i : Nat) (v : Value) : W.grownBy (W.setCell ⟨b, i, none⟩ v) (some b) :=
  ⟨rfl, rfl, rfl, by simp [World.setCell], fun k _ hk => Below.heap_setCell _ _ _ _ (fun e => hk (by simp [e]))⟩
theorem MapL.walk {W : World} {M : Nat} {l : List (Cl × Nat)} (m : MapL W M l) : ∃ o, W.heap[M]? = some o ∧ o.isWalk = true := by
  obtain ⟨es, clock, hb, -, -⟩ := m.st
  exact ⟨_, hb, rfl⟩
theorem Kept.of {R B M : Nat} {tk lb : List Value} {l : List (Cl × Nat)} {c : Cl} {bs : List UInt8} {p : Nat} {w W0 W1 W2 : World} (hr : RingAt W1 R tk (.map (some M)) lb) (hRB : R < B) (hM : B ≤ M) (hm1 : MapL W1 M l)
    (hm : MapL W2 M (l ++ [(c, p)])) (hg : W1.grownBy W2 (some M)) (hk : KeyO W1 W0.heap.size (ptr p) bs) (hb : Below W0.heap.size W0 W1) (hm0 : M < W0.heap.size) (hw : w.heap.size ≤ W0.heap.size) (kp : KP R R B w W0) : Kept R B tk lb l c bs w W2 :=
  ⟨M, p, hr.later (hg.block R hr.lt (fun e => by injection e with e; omega)), hM, hm, (hk.keep (KP.by_ (R := M) (L := M) (B := W0.heap.size) hg (.inl rfl)) hm0 hm0).weak hw,
    (kp.trans (KP.below hb)).trans (KP.by_ hg (.inr (.inr ⟨hM, hm1.walk⟩)))⟩
set_option maxRecDepth 100000 in
set_option maxHeartbeats 1000000 in
theorem keep_map (R B M : Nat) (tk : List Value) (lb : List Value) (l : List (Cl × Nat)) (c : Cl) (bs : List UInt8) (v : Value) (w : World) (hr : RingAt w R tk (.map (some M)) lb) (hRB : R < B) (hB : B ≤ w.heap.size) (hM : B ≤ M) (hm : MapL w M l) (hc : Cl64 c) (hn : ∀ x ∈ l, x.1 ≠ c) (hk : IsKey w v bs) (hbl : bs.length ≤ 140737488355328) :
    Calls Tryz.prog 31 #[.pointer (some ⟨R, 0, none⟩), clV c, v] w fun e w' => e = .returned (.tuple #[]) ∧ Kept R B tk lb l c bs w w' := by
  have HCp := Bx.mk fun (W : World) (hW : IsKey W v bs) => copied_key bs v W hW hbl
  obtain ⟨E, hE⟩ : ∃ E, w.heap.size = E := ⟨_, rfl⟩
  have HC : Bx (Cl64 c ∧ ∀ x ∈ l, x.1 ≠ c) := Bx.mk ⟨hc, hn⟩
  have HB : Bx (R < B ∧ B ≤ M) := Bx.mk ⟨hRB, hM⟩
  obtain ⟨w0, hw0⟩ : ∃ w0, w.alloc (.cells (clC c) 26) = w0 := ⟨_, rfl⟩
  have hb0 : Below w.heap.size w w0 := by rw [← hw0]; exact below_a _
  have hE0 : w0.heap[E]? = some (.cells (clC c) 26 (0, 0)) := by rw [← hw0]; exact hnew _ _ _ hE.symm
  have Ra : Bx (RingAt w0 R tk (.map (some M)) lb ∧ MapL w0 M l ∧ IsKey w0 v bs ∧ w.heap.size ≤ w0.heap.size ∧ KP R R B w w0) := Bx.mk ⟨hr.later (hb0.block R hr.lt), hm.later (hb0.block M hm.lt), hk.later hb0, hb0.size, KP.below hb0⟩
  have hc1 := Ra.out.1.map
  have R0 : Bx (RingAt w0.drew R tk (.map (some M)) lb ∧ MapL w0.drew M l ∧ IsKey w0.drew v bs ∧ w.heap.size ≤ w0.drew.heap.size ∧ KP R R B w w0.drew) := Bx.mk ⟨Ra.out.1.later rfl, Ra.out.2.1.later rfl, Ra.out.2.2.1.later (Below.refl _ _).drew, Ra.out.2.2.2.1, Ra.out.2.2.2.2.trans (KP.below (Below.refl _ _).drew)⟩
  clear Ra
  have HS2 : Bx (∀ W : World, W.heap[R]? = w0.drew.heap[R]? → W.heap[E]? = w0.drew.heap[E]? → W.cell? ⟨R, 36, none⟩ = some (.map (some M)) ∧ W.rangeAt E 0 (clC c).toList) := Bx.mk fun W h1 h2 => ⟨(R0.out.1.later h1).map, row_rng (l := (clC c).toList) (by rw [h2]; exact hE0)⟩
  have HEM : Bx (E ≠ M ∧ E < w0.drew.heap.size) := Bx.mk ⟨by have := hm.lt; omega, (Array.getElem?_eq_some_iff.1 hE0).1⟩
  have HSS : Bx (∀ W, Below w0.drew.heap.size w0.drew W → W.cell? ⟨R, 36, none⟩ = some (.map (some M)) ∧ W.rangeAt E 0 (clC c).toList) := Bx.mk fun W hb => HS2.out W (hb.block R R0.out.1.lt) (hb.block E HEM.out.2)
  obtain ⟨pk, sk, rfl, -, -⟩ := hk
  clear hr hRB hM hm hc hn hbl hb0 hB
  obtain ⟨i, r, x, q⟩ := c
  have HCV : Bx (clV ⟨i, r, x, q⟩ = .agg #[.int .i64 i, .int .i64 r, .int .i64 x, .int .i64 q]) := Bx.mk rfl
  unfold clC at hw0 hE0 HSS HS2
  rw [HCV.out]
  simp only at hw0 hE0 HSS HS2
  have hbo : ∀ W, (binOp .eql 70 (.map (some M)) (.map none)).run Tryz.prog W = .ok (.bool false) W := fun W => by kernel_rfl
  go_enter Tryz.func31, Tryz.ntmps31
  go_upto_region 3 with fail
  obtain ⟨W0, hW0⟩ : ∃ W, w0.drew = W := ⟨_, rfl⟩
  rw [hW0] at R0 HSS HS2 HEM
  refine wp_region_noPanic ?_
  refine wp_region_held_drew (S := fun W => W.cell? ⟨R, 36, none⟩ = some (.map (some M)) ∧ W.rangeAt E 0 [.int .i64 i, .int .i64 r, .int .i64 x, .int .i64 q]) (by kernel_rfl) (by rw [hW0]; exact HSS.out _ (Below.refl _ _)) (fun hHeld => ?_)
  rw [hW0] at hHeld ⊢
  clear hW0 hc1 hw0 hE0 w0
  refine takeL 0 (v := ?_) rfl (by kernel_rfl) (by kernel_rfl) (by kernel_rfl) (fun _ _ _ h => h) (Or.inl ⟨by rfl, ?_⟩) hHeld ?_
  rotate_left 1
  · (intro w hSw; go_simp; try with_reducible rfl)
  try simp only [Act.put, List.setIfInBounds_toArray, List.set_cons_zero, List.set_cons_succ]
  refine takeL 1 (v := ?_) rfl (by kernel_rfl) (by kernel_rfl) (by kernel_rfl) (fun _ _ _ h => h) (Or.inl ⟨by rfl, ?_⟩) hHeld ?_
  rotate_left 1
  · (intro w hSw; go_simp; try with_reducible rfl)
  try simp only [Act.put, List.setIfInBounds_toArray, List.set_cons_zero, List.set_cons_succ]
  refine takeL 2 (v := ?_) rfl (by kernel_rfl) (by kernel_rfl) (by kernel_rfl) (fun _ _ _ h => h) (Or.inl ⟨by rfl, ?_⟩) hHeld ?_
  rotate_left 1
  · (intro w hSw; go_simp; try with_reducible rfl)
  try simp only [Act.put, List.setIfInBounds_toArray, List.set_cons_zero, List.set_cons_succ]
  refine takeL 3 (v := ?_) rfl (by kernel_rfl) (by kernel_rfl) (by kernel_rfl) (fun _ _ _ h => h) (Or.inl ⟨by rfl, ?_⟩) hHeld ?_
  rotate_left 1
  · (intro w hSw; have h1 := hSw.1; go_simp; try with_reducible rfl)
  try simp only [Act.put, List.setIfInBounds_toArray, List.set_cons_zero, List.set_cons_succ]
  refine takeL 4 rfl (by kernel_rfl) (by kernel_rfl) (by kernel_rfl) (fun _ _ _ h => h) (yieldsIf_load_mid (by rfl) _ _ rfl _ _ rfl _ _ (fun w hSw => hSw.2) Tryz.underlying26 rfl (by kernel_rfl)) hHeld ?_
  try simp only [Act.put, List.setIfInBounds_toArray, List.set_cons_zero, List.set_cons_succ]
  refine takeL 5 (v := ?_) rfl (by kernel_rfl) (by kernel_rfl) (by kernel_rfl) (fun _ _ _ h => h) (Or.inl ⟨by rfl, ?_⟩) hHeld ?_
  rotate_left 1
  · (intro w hSw; go_simp; try with_reducible rfl)
  try simp only [Act.put, List.setIfInBounds_toArray, List.set_cons_zero, List.set_cons_succ]
  refine stepL 6 (by kernel_rfl) rfl (fun K hK => ?_)
  go_simp
  refine (HCp.out W0 R0.out.2.2.1).mono ?_
  rintro e W1 ⟨v', rfl, hk', hb'⟩
  obtain ⟨p, hp⟩ : ∃ p, v' = ptr p := by obtain ⟨p, _, h, _⟩ := hk'; exact ⟨p, h⟩
  subst hp
  show K _ _
  have R1 := Bx.mk (And.intro hk' hb')
  clear hk' hb'
  refine hK.out _ _ (HSS.out _ R1.out.2) (fun hHeld => ?_)
  clear hK K
  try simp only [Act.put, List.setIfInBounds_toArray, List.set_cons_zero, List.set_cons_succ]
  refine stepL 7 (by kernel_rfl) rfl (fun K hK => ?_)
  obtain ⟨W2, hrun, hm2, hg2⟩ := (R0.out.2.1.later (R1.out.2.block M R0.out.2.1.lt)).put ⟨i, r, x, q⟩ p HC.out.1 HC.out.2
  rw [HCV.out] at hrun
  refine step_mapU rfl 70 _ _ _ rfl hrun ?_
  have R2 := Bx.mk (Kept.of (R0.out.1.later (R1.out.2.block R R0.out.1.lt)) HB.out.1 HB.out.2 (R0.out.2.1.later (R1.out.2.block M R0.out.2.1.lt)) hm2 hg2 R1.out.1 R1.out.2 R0.out.2.1.lt R0.out.2.2.2.1 R0.out.2.2.2.2)
  have hs2 := HS2.out W2 (by rw [hg2.block R (by have h := R0.out.1.lt; have k := R1.out.2.size; omega) (fun e => by injection e with e; have h1 := HB.out.1; have h2 := HB.out.2; omega), R1.out.2.block R R0.out.1.lt]) (by rw [hg2.block E (by have h := HEM.out.2; have k := R1.out.2.size; omega) (fun e => by injection e with e; exact HEM.out.1 e), R1.out.2.block E HEM.out.2])
  clear hrun hm2 hg2
  refine hK.out _ _ hs2 (fun hHeld => ?_)
  clear hK K
  try simp only [Act.put, List.setIfInBounds_toArray, List.set_cons_zero, List.set_cons_succ]
  refine wpAnyH_done (by kernel_rfl) ?_ _
  refine NoPanic.normal ?_
  clear hHeld
  try go_wp2
  go_end0
  exact ⟨rfl, R2.out⟩
set_option maxRecDepth 100000 in
set_option maxHeartbeats 1000000 in
theorem keep_nil (R B : Nat) (tk : List Value) (lb : List Value) (c : Cl) (bs : List UInt8) (v : Value) (w : World) (hr : RingAt w R tk (.map none) lb) (hRB : R < B) (hB : B ≤ w.heap.size) (hc : Cl64 c) (hk : IsKey w v bs) (hRk : ∀ W, KP R R B w W → IsKey W v bs) (hbl : bs.length ≤ 140737488355328) :
    Calls Tryz.prog 31 #[.pointer (some ⟨R, 0, none⟩), clV c, v] w fun e w' => e = .returned (.tuple #[]) ∧ Kept R B tk lb [] c bs w w' := by
  have HCp := Bx.mk fun (W : World) (hW : IsKey W v bs) => copied_key bs v W hW hbl
  obtain ⟨E, hE⟩ : ∃ E, w.heap.size = E := ⟨_, rfl⟩
  obtain ⟨w0, hw0⟩ : ∃ w0, w.alloc (.cells (clC c) 26) = w0 := ⟨_, rfl⟩
  have hs0 : w0.heap.size = E + 1 := by rw [← hw0, ← hE]; simp
  have hb0 : Below w.heap.size w w0 := by rw [← hw0]; exact below_a _
  have hE0 : w0.heap[E]? = some (.cells (clC c) 26 (0, 0)) := by rw [← hw0]; exact hnew _ _ _ hE.symm
  have hr0 : RingAt w0 R tk (.map none) lb := hr.later (hb0.block R hr.lt)
  have hc0 := hr0.map
  obtain ⟨w1, hw1⟩ : ∃ w1, w0.alloc (.map #[] 0) = w1 := ⟨_, rfl⟩
  have hb1 : Below w0.heap.size w0 w1 := by rw [← hw1]; exact below_a _
  obtain ⟨M, hM⟩ : ∃ M, M = E + 1 := ⟨_, rfl⟩
  have hmk : (Instr.makeMap 70 none).run Tryz.prog w0 = .ok (.map (some M)) w1 := by
    rw [← hw1, hM, ← hs0]
    kernel_rfl
  have hm1 : MapL w1 M [] := by rw [← hw1, hM, ← hs0]; exact mapL_made w0
  have hr1 : RingAt w1 R tk (.map none) lb := hr0.later (hb1.block R hr0.lt)
  have fz1 : w1.frozen? ⟨R, 36, none⟩ = false := frozen_of_row _ _ _ _ _ hr1.row
  have hc1 := hr1.map
  obtain ⟨w2, hw2⟩ : ∃ w2, w1.setCell ⟨R, 36, none⟩ (.map (some M)) = w2 := ⟨_, rfl⟩
  have hr2 : RingAt w2 R tk (.map (some M)) lb := by rw [← hw2]; exact hr1.setMap _
  have hg2 : w1.grownBy w2 (some R) := by rw [← hw2]; exact set_grown _ _ _ _
  have hRE : R < E := by omega
  have hm2 : MapL w2 M [] := hm1.later (hg2.block M hm1.lt (fun e => by injection e with e; omega))
  have kp2 : KP R R B w w2 := ((KP.below hb0).trans (KP.below hb1)).trans (KP.by_ hg2 (.inl rfl))
  have hE2 : w2.heap[E]? = some (.cells (clC c) 26 (0, 0)) := by
    rw [hg2.block E (by have := hb1.size; omega) (fun e => by injection e with e; omega), hb1.block E (by omega)]; exact hE0
  have HC : Bx (Cl64 c ∧ ∀ x ∈ ([] : List (Cl × Nat)), x.1 ≠ c) := Bx.mk ⟨hc, fun x hx => by cases hx⟩
  have HB : Bx (R < B ∧ B ≤ M) := Bx.mk ⟨hRB, by omega⟩
  have Ra : Bx (RingAt w2 R tk (.map (some M)) lb ∧ MapL w2 M [] ∧ IsKey w2 v bs ∧ w.heap.size ≤ w2.heap.size ∧ KP R R B w w2) := Bx.mk ⟨hr2, hm2, hRk _ kp2, kp2.size, kp2⟩
  have R0 : Bx (RingAt w2.drew R tk (.map (some M)) lb ∧ MapL w2.drew M [] ∧ IsKey w2.drew v bs ∧ w.heap.size ≤ w2.drew.heap.size ∧ KP R R B w w2.drew) := Bx.mk ⟨Ra.out.1.later rfl, Ra.out.2.1.later rfl, Ra.out.2.2.1.later (Below.refl _ _).drew, Ra.out.2.2.2.1, Ra.out.2.2.2.2.trans (KP.below (Below.refl _ _).drew)⟩
  clear Ra
  have HS2 : Bx (∀ W : World, W.heap[R]? = w2.drew.heap[R]? → W.heap[E]? = w2.drew.heap[E]? → W.cell? ⟨R, 36, none⟩ = some (.map (some M)) ∧ W.rangeAt E 0 (clC c).toList) := Bx.mk fun W h1 h2 => ⟨(R0.out.1.later h1).map, row_rng (l := (clC c).toList) (by rw [h2]; exact hE2)⟩
  have HEM : Bx (E ≠ M ∧ E < w2.drew.heap.size) := Bx.mk ⟨by omega, (Array.getElem?_eq_some_iff.1 hE2).1⟩
  have HSS : Bx (∀ W, Below w2.drew.heap.size w2.drew W → W.cell? ⟨R, 36, none⟩ = some (.map (some M)) ∧ W.rangeAt E 0 (clC c).toList) := Bx.mk fun W hb => HS2.out W (hb.block R R0.out.1.lt) (hb.block E HEM.out.2)
  obtain ⟨pk, sk, rfl, -, -⟩ := hk
  clear hr hRB hM hc hbl hb0 hb1 hm1 hr1 hr0 hg2 hm2 hr2 kp2 hRk hB
  obtain ⟨i, r, x, q⟩ := c
  have HCV : Bx (clV ⟨i, r, x, q⟩ = .agg #[.int .i64 i, .int .i64 r, .int .i64 x, .int .i64 q]) := Bx.mk rfl
  unfold clC at hw0 hE0 HSS HS2
  rw [HCV.out]
  simp only at hw0 hE0 HSS HS2
  have hbo : ∀ W, (binOp .eql 70 (.map none) (.map none)).run Tryz.prog W = .ok (.bool true) W := fun W => by kernel_rfl
  go_enter Tryz.func31, Tryz.ntmps31
  go_upto_region 3 with fail
  obtain ⟨W0, hW0⟩ : ∃ W, w2.drew = W := ⟨_, rfl⟩
  rw [hW0] at R0 HSS HS2 HEM
  refine wp_region_noPanic ?_
  refine wp_region_held_drew (S := fun W => W.cell? ⟨R, 36, none⟩ = some (.map (some M)) ∧ W.rangeAt E 0 [.int .i64 i, .int .i64 r, .int .i64 x, .int .i64 q]) (by kernel_rfl) (by rw [hW0]; exact HSS.out _ (Below.refl _ _)) (fun hHeld => ?_)
  rw [hW0] at hHeld ⊢
  clear hW0 hw2 fz1 hc1 hw1 hc0 hs0 hw0 hE0 hmk
  refine takeL 0 (v := ?_) rfl (by kernel_rfl) (by kernel_rfl) (by kernel_rfl) (fun _ _ _ h => h) (Or.inl ⟨by rfl, ?_⟩) hHeld ?_
  rotate_left 1
  · (intro w hSw; go_simp; try with_reducible rfl)
  try simp only [Act.put, List.setIfInBounds_toArray, List.set_cons_zero, List.set_cons_succ]
  refine takeL 1 (v := ?_) rfl (by kernel_rfl) (by kernel_rfl) (by kernel_rfl) (fun _ _ _ h => h) (Or.inl ⟨by rfl, ?_⟩) hHeld ?_
  rotate_left 1
  · (intro w hSw; go_simp; try with_reducible rfl)
  try simp only [Act.put, List.setIfInBounds_toArray, List.set_cons_zero, List.set_cons_succ]
  refine takeL 2 (v := ?_) rfl (by kernel_rfl) (by kernel_rfl) (by kernel_rfl) (fun _ _ _ h => h) (Or.inl ⟨by rfl, ?_⟩) hHeld ?_
  rotate_left 1
  · (intro w hSw; go_simp; try with_reducible rfl)
  try simp only [Act.put, List.setIfInBounds_toArray, List.set_cons_zero, List.set_cons_succ]
  refine takeL 3 (v := ?_) rfl (by kernel_rfl) (by kernel_rfl) (by kernel_rfl) (fun _ _ _ h => h) (Or.inl ⟨by rfl, ?_⟩) hHeld ?_
  rotate_left 1
  · (intro w hSw; have h1 := hSw.1; go_simp; try with_reducible rfl)
  try simp only [Act.put, List.setIfInBounds_toArray, List.set_cons_zero, List.set_cons_succ]
  refine takeL 4 rfl (by kernel_rfl) (by kernel_rfl) (by kernel_rfl) (fun _ _ _ h => h) (yieldsIf_load_mid (by rfl) _ _ rfl _ _ rfl _ _ (fun w hSw => hSw.2) Tryz.underlying26 rfl (by kernel_rfl)) hHeld ?_
  try simp only [Act.put, List.setIfInBounds_toArray, List.set_cons_zero, List.set_cons_succ]
  refine takeL 5 (v := ?_) rfl (by kernel_rfl) (by kernel_rfl) (by kernel_rfl) (fun _ _ _ h => h) (Or.inl ⟨by rfl, ?_⟩) hHeld ?_
  rotate_left 1
  · (intro w hSw; go_simp; try with_reducible rfl)
  try simp only [Act.put, List.setIfInBounds_toArray, List.set_cons_zero, List.set_cons_succ]
  refine stepL 6 (by kernel_rfl) rfl (fun K hK => ?_)
  go_simp
  refine (HCp.out W0 R0.out.2.2.1).mono ?_
  rintro e W1 ⟨v', rfl, hk', hb'⟩
  obtain ⟨p, hp⟩ : ∃ p, v' = ptr p := by obtain ⟨p, _, h, _⟩ := hk'; exact ⟨p, h⟩
  subst hp
  show K _ _
  have R1 := Bx.mk (And.intro hk' hb')
  clear hk' hb'
  refine hK.out _ _ (HSS.out _ R1.out.2) (fun hHeld => ?_)
  clear hK K
  try simp only [Act.put, List.setIfInBounds_toArray, List.set_cons_zero, List.set_cons_succ]
  refine stepL 7 (by kernel_rfl) rfl (fun K hK => ?_)
  obtain ⟨W2, hrun, hm2, hg2⟩ := (R0.out.2.1.later (R1.out.2.block M R0.out.2.1.lt)).put ⟨i, r, x, q⟩ p HC.out.1 HC.out.2
  rw [HCV.out] at hrun
  refine step_mapU rfl 70 _ _ _ rfl hrun ?_
  have R2 := Bx.mk (Kept.of (R0.out.1.later (R1.out.2.block R R0.out.1.lt)) HB.out.1 HB.out.2 (R0.out.2.1.later (R1.out.2.block M R0.out.2.1.lt)) hm2 hg2 R1.out.1 R1.out.2 R0.out.2.1.lt R0.out.2.2.2.1 R0.out.2.2.2.2)
  have hs2 := HS2.out W2 (by rw [hg2.block R (by have h := R0.out.1.lt; have k := R1.out.2.size; omega) (fun e => by injection e with e; have h1 := HB.out.1; have h2 := HB.out.2; omega), R1.out.2.block R R0.out.1.lt]) (by rw [hg2.block E (by have h := HEM.out.2; have k := R1.out.2.size; omega) (fun e => by injection e with e; exact HEM.out.1 e), R1.out.2.block E HEM.out.2])
  clear hrun hm2 hg2
  refine hK.out _ _ hs2 (fun hHeld => ?_)
  clear hK K
  try simp only [Act.put, List.setIfInBounds_toArray, List.set_cons_zero, List.set_cons_succ]
  refine wpAnyH_done (by kernel_rfl) ?_ _
  refine NoPanic.normal ?_
  clear hHeld
  try go_wp2
  go_end0
  exact ⟨rfl, R2.out⟩
end Go.Proofs.YtnefpjdjnjcmbaaGreatDoor
