/-
  A packet, there and back.
-/
import Derived.Test.YtaoekfomffebhaaP6
import Derived.Test.YtaoekfomffebhaaP5
namespace Go.Proofs.Ytaoekfomffebhaa
open Go Go.ChangeShapes Go.WideShapes Go.ChangeAt Go.RowKit
theorem list32P {α : Type} (l : List α) (h : l.length = 32) : ∃ x0 x1 x2 x3 x4 x5 x6 x7 x8 x9 x10 x11 x12 x13 x14 x15 x16 x17 x18 x19 x20 x21 x22 x23 x24 x25 x26 x27 x28 x29 x30 x31 : α, l = [x0, x1, x2, x3, x4, x5, x6, x7, x8, x9, x10, x11, x12, x13, x14, x15, x16, x17, x18, x19, x20, x21, x22, x23, x24, x25, x26, x27, x28, x29, x30, x31] := by
  match l, h with
  | x0 :: x1 :: x2 :: x3 :: x4 :: x5 :: x6 :: x7 :: x8 :: x9 :: x10 :: x11 :: x12 :: x13 :: x14 :: x15 :: x16 :: x17 :: x18 :: x19 :: x20 :: x21 :: x22 :: x23 :: x24 :: x25 :: x26 :: x27 :: x28 :: x29 :: x30 :: x31 :: [], _ => exact ⟨_, _, _, _, _, _, _, _, _, _, _, _, _, _, _, _, _, _, _, _, _, _, _, _, _, _, _, _, _, _, _, _, rfl⟩
set_option maxRecDepth 100000 in
theorem pk_rawW (k c1 c2 c3 c4 o n1 n2 : Int) (a : Option Addr) (n c : Nat) (x0 x1 x2 x3 x4 x5 x6 x7 x8 x9 x10 x11 x12 x13 x14 x15 x16 x17 x18 x19 x20 x21 x22 x23 x24 x25 x26 x27 x28 x29 x30 x31 : UInt8) : Try.prog.built 33 [(0, .int .i64 k), (1, .agg #[.int .i64 c1, .int .i64 c2, .int .i64 c3, .int .i64 c4]), (2, .int .i64 o), (3, .agg #[.int .i64 n1, .int .i64 n2]), (4, .slice a n c), (5, .agg #[.int .u8 (ub x0), .int .u8 (ub x1), .int .u8 (ub x2), .int .u8 (ub x3), .int .u8 (ub x4), .int .u8 (ub x5), .int .u8 (ub x6), .int .u8 (ub x7), .int .u8 (ub x8), .int .u8 (ub x9), .int .u8 (ub x10), .int .u8 (ub x11), .int .u8 (ub x12), .int .u8 (ub x13), .int .u8 (ub x14), .int .u8 (ub x15), .int .u8 (ub x16), .int .u8 (ub x17), .int .u8 (ub x18), .int .u8 (ub x19), .int .u8 (ub x20), .int .u8 (ub x21), .int .u8 (ub x22), .int .u8 (ub x23), .int .u8 (ub x24), .int .u8 (ub x25), .int .u8 (ub x26), .int .u8 (ub x27), .int .u8 (ub x28), .int .u8 (ub x29), .int .u8 (ub x30), .int .u8 (ub x31)])] = some #[.int .i64 k, .int .i64 c1, .int .i64 c2, .int .i64 c3, .int .i64 c4, .int .i64 o, .int .i64 n1, .int .i64 n2, .slice a n c, .int .u8 (ub x0), .int .u8 (ub x1), .int .u8 (ub x2), .int .u8 (ub x3), .int .u8 (ub x4), .int .u8 (ub x5), .int .u8 (ub x6), .int .u8 (ub x7), .int .u8 (ub x8), .int .u8 (ub x9), .int .u8 (ub x10), .int .u8 (ub x11), .int .u8 (ub x12), .int .u8 (ub x13), .int .u8 (ub x14), .int .u8 (ub x15), .int .u8 (ub x16), .int .u8 (ub x17), .int .u8 (ub x18), .int .u8 (ub x19), .int .u8 (ub x20), .int .u8 (ub x21), .int .u8 (ub x22), .int .u8 (ub x23), .int .u8 (ub x24), .int .u8 (ub x25), .int .u8 (ub x26), .int .u8 (ub x27), .int .u8 (ub x28), .int .u8 (ub x29), .int .u8 (ub x30), .int .u8 (ub x31)] := by kernel_rfl
theorem pk_builtW (x : Pk) (a : Option Addr) (n c : Nat) (h : x.t.length = 32) : Try.prog.built 33 [(0, .int .i64 x.k), (1, clV x.c), (2, .int .i64 x.to), (3, nv x.n), (4, .slice a n c), (5, .agg (u8s x.t))] = some (pkC x (.slice a n c)) := by
  obtain ⟨k, ⟨c1, c2, c3, c4⟩, o, ⟨n1, n2⟩, b, l⟩ := x
  obtain ⟨x0, x1, x2, x3, x4, x5, x6, x7, x8, x9, x10, x11, x12, x13, x14, x15, x16, x17, x18, x19, x20, x21, x22, x23, x24, x25, x26, x27, x28, x29, x30, x31, hl⟩ := list32P l h
  subst hl
  exact pk_rawW k c1 c2 c3 c4 o n1 n2 a n c x0 x1 x2 x3 x4 x5 x6 x7 x8 x9 x10 x11 x12 x13 x14 x15 x16 x17 x18 x19 x20 x21 x22 x23 x24 x25 x26 x27 x28 x29 x30 x31
theorem pk_zeroW (W : World) : (zeroValue 33).run Try.prog W = .ok (.agg (pkC Pk.zero (.slice none 0 0))) W := by kernel_rfl
theorem pk_noneW : Try.prog.built 33 [] = some (pkC Pk.zero (.slice none 0 0)) := by kernel_rfl
set_option maxRecDepth 100000 in
theorem pk_rawR (k c1 c2 c3 c4 o n1 n2 : Int) (a : Option Addr) (n c : Nat) (x0 x1 x2 x3 x4 x5 x6 x7 x8 x9 x10 x11 x12 x13 x14 x15 x16 x17 x18 x19 x20 x21 x22 x23 x24 x25 x26 x27 x28 x29 x30 x31 : UInt8) : Try.prog.built 29 [(0, .int .i64 k), (1, .agg #[.int .i64 c1, .int .i64 c2, .int .i64 c3, .int .i64 c4]), (2, .int .i64 o), (3, .agg #[.int .i64 n1, .int .i64 n2]), (4, .slice a n c), (5, .agg #[.int .u8 (ub x0), .int .u8 (ub x1), .int .u8 (ub x2), .int .u8 (ub x3), .int .u8 (ub x4), .int .u8 (ub x5), .int .u8 (ub x6), .int .u8 (ub x7), .int .u8 (ub x8), .int .u8 (ub x9), .int .u8 (ub x10), .int .u8 (ub x11), .int .u8 (ub x12), .int .u8 (ub x13), .int .u8 (ub x14), .int .u8 (ub x15), .int .u8 (ub x16), .int .u8 (ub x17), .int .u8 (ub x18), .int .u8 (ub x19), .int .u8 (ub x20), .int .u8 (ub x21), .int .u8 (ub x22), .int .u8 (ub x23), .int .u8 (ub x24), .int .u8 (ub x25), .int .u8 (ub x26), .int .u8 (ub x27), .int .u8 (ub x28), .int .u8 (ub x29), .int .u8 (ub x30), .int .u8 (ub x31)])] = some #[.int .i64 k, .int .i64 c1, .int .i64 c2, .int .i64 c3, .int .i64 c4, .int .i64 o, .int .i64 n1, .int .i64 n2, .slice a n c, .int .u8 (ub x0), .int .u8 (ub x1), .int .u8 (ub x2), .int .u8 (ub x3), .int .u8 (ub x4), .int .u8 (ub x5), .int .u8 (ub x6), .int .u8 (ub x7), .int .u8 (ub x8), .int .u8 (ub x9), .int .u8 (ub x10), .int .u8 (ub x11), .int .u8 (ub x12), .int .u8 (ub x13), .int .u8 (ub x14), .int .u8 (ub x15), .int .u8 (ub x16), .int .u8 (ub x17), .int .u8 (ub x18), .int .u8 (ub x19), .int .u8 (ub x20), .int .u8 (ub x21), .int .u8 (ub x22), .int .u8 (ub x23), .int .u8 (ub x24), .int .u8 (ub x25), .int .u8 (ub x26), .int .u8 (ub x27), .int .u8 (ub x28), .int .u8 (ub x29), .int .u8 (ub x30), .int .u8 (ub x31)] := by kernel_rfl
theorem pk_builtR (x : Pk) (a : Option Addr) (n c : Nat) (h : x.t.length = 32) : Try.prog.built 29 [(0, .int .i64 x.k), (1, clV x.c), (2, .int .i64 x.to), (3, nv x.n), (4, .slice a n c), (5, .agg (u8s x.t))] = some (pkC x (.slice a n c)) := by
  obtain ⟨k, ⟨c1, c2, c3, c4⟩, o, ⟨n1, n2⟩, b, l⟩ := x
  obtain ⟨x0, x1, x2, x3, x4, x5, x6, x7, x8, x9, x10, x11, x12, x13, x14, x15, x16, x17, x18, x19, x20, x21, x22, x23, x24, x25, x26, x27, x28, x29, x30, x31, hl⟩ := list32P l h
  subst hl
  exact pk_rawR k c1 c2 c3 c4 o n1 n2 a n c x0 x1 x2 x3 x4 x5 x6 x7 x8 x9 x10 x11 x12 x13 x14 x15 x16 x17 x18 x19 x20 x21 x22 x23 x24 x25 x26 x27 x28 x29 x30 x31
theorem pk_zeroR (W : World) : (zeroValue 29).run Try.prog W = .ok (.agg (pkC Pk.zero (.slice none 0 0))) W := by kernel_rfl
set_option maxRecDepth 100000 in
set_option maxHeartbeats 4000000 in
theorem of14 (x : Pk) (v : Value) (w : World) (ht : x.t.length = 32) (hb : Bytes w v x.b) : Calls Try.prog 5 #[pkV x v] w fun e w' => e = .returned (pkV x v) ∧ Below w.heap.size w w' := by
  obtain ⟨a0, c0, rfl, -, -⟩ := bytes_form hb
  clear hb
  obtain ⟨zc, hzc⟩ : ∃ zc, pkC Pk.zero (.slice none 0 0) = zc := ⟨_, rfl⟩
  have hzv : ∀ W : World, (zeroValue 29).run Try.prog W = .ok (.agg zc) W := fun W => by rw [← hzc]; exact pk_zeroR W
  obtain ⟨B, hB⟩ : ∃ B, w.heap.size = B := ⟨_, rfl⟩
  have H0 := Bx.mk (((KP.start w B hB).new (.cells (pkC x (.slice a0 x.b.length c0)) 33)).new (.cells zc 29))
  rw [alloc_sizeP, hB] at H0
  have HI := Bx.mk (And.intro (pk_infoR x (.slice a0 x.b.length c0) ht) (And.intro (pkC_one x a0 x.b.length c0) (show (pkC x (.slice a0 x.b.length c0)).size = zc.size by rw [← hzc, pkC_size _ _ ht, pkC_size _ _ rfl])))
  have HBd := Bx.mk (pk_builtR x a0 x.b.length c0 ht)
  have HU := Bx.mk (u8_info x.t ht)
  obtain ⟨tk, htk⟩ : ∃ tk, pkC x (.slice a0 x.b.length c0) = tk := ⟨_, rfl⟩
  have HA : Bx (∀ W, KP w B [(B + 1, .cells zc 29), (B, .cells tk 33)] W → PkAt W B x (.slice a0 x.b.length c0)) := Bx.mk fun W h => by
    have := h.rows _ (.tail _ (.head _))
    rw [← htk] at this
    exact pk_at this
  have HA9 : Bx (∀ W, KP w B [(B + 1, .cells tk 29), (B, .cells tk 33)] W → PkAt W B x (.slice a0 x.b.length c0)) := Bx.mk fun W h => by
    have := h.rows _ (.tail _ (.head _))
    rw [← htk] at this
    exact pk_at this
  unfold pkV
  rw [htk] at H0 HI HBd ⊢
  rw [hB]
  clear hzc htk ht
  go_enter Try.func5, Try.ntmps5
  go_upto_region 1 with fail
  generalize (w.alloc (.cells tk 33)).alloc (.cells zc 29) = w0 at *
  have R0 := Bx.mk (H0.out.later (Below.refl _ _).drew)
  clear H0 hzv
  refine wp_region_noPanic ?_
  refine wp_region_held_drew (S := fun W => PkAt W B x (.slice a0 x.b.length c0)) (by kernel_rfl) (HA.out _ R0.out) (fun hHeld => ?_)
  generalize w0.drew = W0 at *
  refine takeL 0 (v := ?_) rfl (by kernel_rfl) (by kernel_rfl) (by kernel_rfl) (fun _ _ _ h => h) (Or.inl ⟨by rfl, ?_⟩) hHeld ?_
  rotate_left 1
  · (intro w hSw; go_simp; try with_reducible rfl)
  try simp only [Act.put, List.setIfInBounds_toArray, List.set_cons_zero, List.set_cons_succ]
  refine takeL 1 (v := ?_) rfl (by kernel_rfl) (by kernel_rfl) (by kernel_rfl) (fun _ _ _ h => h) (Or.inl ⟨by rfl, ?_⟩) hHeld ?_
  rotate_left 1
  · (intro w hSw; have q := hSw.k; clear hSw; go_simp; try with_reducible rfl)
  try simp only [Act.put, List.setIfInBounds_toArray, List.set_cons_zero, List.set_cons_succ]
  refine takeL 2 (v := ?_) rfl (by kernel_rfl) (by kernel_rfl) (by kernel_rfl) (fun _ _ _ h => h) (Or.inl ⟨by rfl, ?_⟩) hHeld ?_
  rotate_left 1
  · (intro w hSw; go_simp; try with_reducible rfl)
  try simp only [Act.put, List.setIfInBounds_toArray, List.set_cons_zero, List.set_cons_succ]
  refine takeL 3 rfl (by kernel_rfl) (by kernel_rfl) (by kernel_rfl) (fun _ _ _ h => h) (yieldsIf_load_mid (by rfl) _ _ rfl _ _ rfl _ _ (fun w hSw => hSw.c) Try.underlying30 rfl (by kernel_rfl)) hHeld ?_
  try simp only [Act.put, List.setIfInBounds_toArray, List.set_cons_zero, List.set_cons_succ]
  refine takeL 5 (v := ?_) rfl (by kernel_rfl) (by kernel_rfl) (by kernel_rfl) (fun _ _ _ h => h) (Or.inl ⟨by rfl, ?_⟩) hHeld ?_
  rotate_left 1
  · (intro w hSw; go_simp; try with_reducible rfl)
  try simp only [Act.put, List.setIfInBounds_toArray, List.set_cons_zero, List.set_cons_succ]
  refine takeL 6 (v := ?_) rfl (by kernel_rfl) (by kernel_rfl) (by kernel_rfl) (fun _ _ _ h => h) (Or.inl ⟨by rfl, ?_⟩) hHeld ?_
  rotate_left 1
  · (intro w hSw; have q := hSw.to; clear hSw; go_simp; try with_reducible rfl)
  try simp only [Act.put, List.setIfInBounds_toArray, List.set_cons_zero, List.set_cons_succ]
  refine takeL 7 (v := ?_) rfl (by kernel_rfl) (by kernel_rfl) (by kernel_rfl) (fun _ _ _ h => h) (Or.inl ⟨by rfl, ?_⟩) hHeld ?_
  rotate_left 1
  · (intro w hSw; go_simp; try with_reducible rfl)
  try simp only [Act.put, List.setIfInBounds_toArray, List.set_cons_zero, List.set_cons_succ]
  refine takeL 8 rfl (by kernel_rfl) (by kernel_rfl) (by kernel_rfl) (fun _ _ _ h => h) (yieldsIf_load_mid (by rfl) _ _ rfl _ _ rfl _ _ (fun w hSw => hSw.n) Try.underlying31 rfl (by kernel_rfl)) hHeld ?_
  try simp only [Act.put, List.setIfInBounds_toArray, List.set_cons_zero, List.set_cons_succ]
  refine takeL 10 (v := ?_) rfl (by kernel_rfl) (by kernel_rfl) (by kernel_rfl) (fun _ _ _ h => h) (Or.inl ⟨by rfl, ?_⟩) hHeld ?_
  rotate_left 1
  · (intro w hSw; go_simp; try with_reducible rfl)
  try simp only [Act.put, List.setIfInBounds_toArray, List.set_cons_zero, List.set_cons_succ]
  refine takeL 11 (v := ?_) rfl (by kernel_rfl) (by kernel_rfl) (by kernel_rfl) (fun _ _ _ h => h) (Or.inl ⟨by rfl, ?_⟩) hHeld ?_
  rotate_left 1
  · (intro w hSw; have q := hSw.b; clear hSw; go_simp; try with_reducible rfl)
  try simp only [Act.put, List.setIfInBounds_toArray, List.set_cons_zero, List.set_cons_succ]
  refine takeL 12 (v := ?_) rfl (by kernel_rfl) (by kernel_rfl) (by kernel_rfl) (fun _ _ _ h => h) (Or.inl ⟨by rfl, ?_⟩) hHeld ?_
  rotate_left 1
  · (intro w hSw; go_simp; try with_reducible rfl)
  try simp only [Act.put, List.setIfInBounds_toArray, List.set_cons_zero, List.set_cons_succ]
  refine takeL 13 rfl (by kernel_rfl) (by kernel_rfl) (by kernel_rfl) (fun _ _ _ h => h) (yieldsIf_load_mid (by rfl) _ _ rfl _ _ rfl _ _ (fun w hSw => hSw.t) Try.underlying27 rfl HU.out) hHeld ?_
  try simp only [Act.put, List.setIfInBounds_toArray, List.set_cons_zero, List.set_cons_succ]
  refine stepL 4 (by kernel_rfl) rfl (fun K hK => ?_)
  go_simp
  refine (cof_any x.c W0).mono ?_
  rintro e W1 ⟨rfl, hb⟩
  show K _ _
  have R1 := Bx.mk (R0.out.later hb)
  clear hb R0
  refine hK.out _ _ (HA.out _ R1.out) (fun hHeld => ?_)
  clear hK K
  try simp only [Act.put, List.setIfInBounds_toArray, List.set_cons_zero, List.set_cons_succ]
  refine stepL 9 (by kernel_rfl) rfl (fun K hK => ?_)
  go_simp
  refine (of12_any x.n W1).mono ?_
  rintro e W2 ⟨rfl, hb⟩
  show K _ _
  have R2 := Bx.mk (R1.out.later hb)
  clear hb R1
  refine hK.out _ _ (HA.out _ R2.out) (fun hHeld => ?_)
  clear hK K
  try simp only [Act.put, List.setIfInBounds_toArray, List.set_cons_zero, List.set_cons_succ]
  refine takeL 14 rfl (by kernel_rfl) (by kernel_rfl) (by kernel_rfl) (fun _ _ _ h => h) (yieldsIf_buildP (by rfl) 29 _ rfl tk (by simp only [List.map_toArray, List.map_cons, List.map_nil]; exact HBd.out)) hHeld ?_
  try simp only [Act.put, List.setIfInBounds_toArray, List.set_cons_zero, List.set_cons_succ]
  refine stepL 15 (by kernel_rfl) rfl (fun K hK => ?_)
  refine step_st rfl 29 _ _ rfl (B + 1) tk (by rfl) (by rfl) (there_row (R2.out.rows _ (.head _)) 0 _ (by rw [HI.out.2.2]; omega)) HI.out.1 HI.out.2.1 ?_
  have hr2 := heap_setCells_all (ds := tk) (R2.out.rows _ (.head _)) HI.out.2.2
  have R9 := Bx.mk (R2.out.set (kb_setCells tk.toList 0 W2) hr2 (by omega) (by intro y hy; simp at hy; subst hy; simp only; omega))
  have HQ : Bx (PkAt (W2.setCells (B + 1) 0 tk.toList) B x (.slice a0 x.b.length c0)) := Bx.mk (HA9.out _ R9.out)
  clear hr2 R2
  refine hK.out _ _ HQ.out (fun hHeld => ?_)
  clear hK K
  try simp only [Act.put, List.setIfInBounds_toArray, List.set_cons_zero, List.set_cons_succ]
  refine wpAnyH_done (by kernel_rfl) ?_ _
  refine NoPanic.normal ?_
  clear hHeld
  try go_wp2
  refine bodyPost_ret (results_cell_row rfl _ _ (B + 1) _ tk _ _ rfl (R9.out.rows _ (.head _)) Try.underlying29 rfl HI.out.1) rfl ?_
  exact ⟨rfl, R9.out.below⟩
/-- Blocks stay where a row of bytes is appended to that is none of them. -/
theorem KP.later9 {w : World} {B base : Nat} {rs : List (Nat × Obj)} {W W1 : World} {v : Value} {l : List UInt8} (h : KP w B rs W) (ho : OwnB W base v l) (hg : W.grownBy W1 v.ownBlock) (hn : ∀ x ∈ rs, x.1 < base) (hb : B ≤ base := by omega) : KP w B rs W1 := by
  have hz : ∀ i, i < base → i < W.heap.size → W1.heap[i]? = W.heap[i]? := fun i hi hs => hg.block i hs (fun e => by have := (ho.lt i e.symm).2; omega)
  refine ⟨fun x hx => by rw [hz _ (hn x hx) (h.lt hx)]; exact h.rows x hx, h.below.trans ⟨hg.os, hg.tape, hg.output, hg.size, fun i hi => ?_⟩, Nat.le_trans h.le hg.size⟩
  exact hz i (by omega) (by have := h.le; omega)
/-- A packet whose body is cut. -/
def cutP (x : Pk) : Pk := { x with b := x.b.take 520 }
set_option maxRecDepth 100000 in
set_option maxHeartbeats 4000000 in
theorem to14 (x : Pk) (v : Value) (w : World) (ht : x.t.length = 32) (hb : Bytes w v x.b) (hl : x.b.length ≤ 9223372036854775807) : Calls Try.prog 4 #[pkV x v] w fun e w' => ∃ u, e = .returned (pkV (cutP x) u) ∧ Bytes w' u (cutP x).b ∧ Below w.heap.size w w' := by
  obtain ⟨a0, c0, rfl, hcap, hnone⟩ := bytes_form hb
  obtain ⟨zc, hzc⟩ : ∃ zc, pkC Pk.zero (.slice none 0 0) = zc := ⟨_, rfl⟩
  have hzv : ∀ W : World, (zeroValue 33).run Try.prog W = .ok (.agg zc) W := fun W => by rw [← hzc]; exact pk_zeroW W
  obtain ⟨B, hB⟩ : ∃ B, w.heap.size = B := ⟨_, rfl⟩
  obtain ⟨l0, hl0⟩ : ∃ l, x.b.length = l := ⟨_, rfl⟩
  obtain ⟨m, hm⟩ : ∃ m, m = min l0 520 := ⟨_, rfl⟩
  have H0 := Bx.mk (((KP.start w B hB).new (.cells (pkC x (.slice a0 x.b.length c0)) 29)).new (.cells zc 33))
  rw [alloc_sizeP, hB] at H0
  have HTk : Bx (∀ W, Below B w W → Bytes W (.slice a0 m c0) (x.b.take m)) := Bx.mk fun W h => (hb.old hB h).take m (by omega)
  have HM : Bx ((cutP x).b = x.b.take m ∧ (x.b.take m).length = m ∧ m ≤ 520) := Bx.mk ⟨by show x.b.take 520 = _; rw [hm, ← hl0, List.take_eq_take_iff]; omega, by rw [List.length_take]; omega, by omega⟩
  have HZ := Bx.mk (show zc.size = 41 by rw [← hzc, pkC_size _ _ rfl])
  have HU := Bx.mk (u8_info x.t ht)
  have HT := Bx.mk ht
  have HBd : Bx (∀ a n c, Try.prog.built 33 [(0, .int .i64 x.k), (1, clV x.c), (2, .int .i64 x.to), (3, nv x.n), (4, .slice a n c), (5, .agg (u8s x.t))] = some (pkC (cutP x) (.slice a n c))) := Bx.mk fun a n c => pk_builtW x a n c ht
  rw [hl0] at H0 hcap hl ⊢
  have s1 := fun W => cut_bytes a0 l0 c0 m (by omega) hcap hnone W
  have hmin : min (l0 : Int) 520 = (m : Int) := by omega
  have hmin2 : (if (520 : Int) < (l0 : Int) then (520 : Int) else (l0 : Int)) = (m : Int) := by split <;> omega
  obtain ⟨tk, htk⟩ : ∃ tk, pkC x (.slice a0 l0 c0) = tk := ⟨_, rfl⟩
  have HA : Bx (∀ W Z, KP w B [(B + 1, Z), (B, .cells tk 29)] W → PkAt W B x (.slice a0 l0 c0)) := Bx.mk fun W Z h => by
    have := h.rows _ (.tail _ (.head _))
    rw [← htk] at this
    exact pk_at this
  unfold pkV
  rw [htk] at H0 ⊢
  rw [hB]
  have hn1 : (l0 : Int) ≤ 9223372036854775807 := by omega
  clear hzc htk ht hb hl0 hm hcap hnone hl
  go_enter Try.func4, Try.ntmps4
  go_upto_region 1 with fail
  generalize (w.alloc (.cells tk 29)).alloc (.cells zc 33) = w0 at *
  have R0 := Bx.mk (And.intro (H0.out.later (Below.refl _ _).drew) True.intro)
  clear H0 hzv
  refine wp_region_noPanic ?_
  refine wp_region_held_drew (S := fun W => PkAt W B x (.slice a0 l0 c0)) (by kernel_rfl) (HA.out _ _ R0.out.1) (fun hHeld => ?_)
  generalize w0.drew = W0 at *
  refine takeL 0 (v := ?_) rfl (by kernel_rfl) (by kernel_rfl) (by kernel_rfl) (fun _ _ _ h => h) (Or.inl ⟨by rfl, ?_⟩) hHeld ?_
  rotate_left 1
  · (intro w hSw; go_simp; try with_reducible rfl)
  try simp only [Act.put, List.setIfInBounds_toArray, List.set_cons_zero, List.set_cons_succ]
  refine takeL 1 (v := ?_) rfl (by kernel_rfl) (by kernel_rfl) (by kernel_rfl) (fun _ _ _ h => h) (Or.inl ⟨by rfl, ?_⟩) hHeld ?_
  rotate_left 1
  · (intro w hSw; have q := hSw.k; clear hSw; go_simp; try with_reducible rfl)
  try simp only [Act.put, List.setIfInBounds_toArray, List.set_cons_zero, List.set_cons_succ]
  refine takeL 2 (v := ?_) rfl (by kernel_rfl) (by kernel_rfl) (by kernel_rfl) (fun _ _ _ h => h) (Or.inl ⟨by rfl, ?_⟩) hHeld ?_
  rotate_left 1
  · (intro w hSw; go_simp; try with_reducible rfl)
  try simp only [Act.put, List.setIfInBounds_toArray, List.set_cons_zero, List.set_cons_succ]
  refine takeL 3 rfl (by kernel_rfl) (by kernel_rfl) (by kernel_rfl) (fun _ _ _ h => h) (yieldsIf_load_mid (by rfl) _ _ rfl _ _ rfl _ _ (fun w hSw => hSw.c) Try.underlying23 rfl (by kernel_rfl)) hHeld ?_
  try simp only [Act.put, List.setIfInBounds_toArray, List.set_cons_zero, List.set_cons_succ]
  refine takeL 5 (v := ?_) rfl (by kernel_rfl) (by kernel_rfl) (by kernel_rfl) (fun _ _ _ h => h) (Or.inl ⟨by rfl, ?_⟩) hHeld ?_
  rotate_left 1
  · (intro w hSw; go_simp; try with_reducible rfl)
  try simp only [Act.put, List.setIfInBounds_toArray, List.set_cons_zero, List.set_cons_succ]
  refine takeL 6 (v := ?_) rfl (by kernel_rfl) (by kernel_rfl) (by kernel_rfl) (fun _ _ _ h => h) (Or.inl ⟨by rfl, ?_⟩) hHeld ?_
  rotate_left 1
  · (intro w hSw; have q := hSw.to; clear hSw; go_simp; try with_reducible rfl)
  try simp only [Act.put, List.setIfInBounds_toArray, List.set_cons_zero, List.set_cons_succ]
  refine takeL 7 (v := ?_) rfl (by kernel_rfl) (by kernel_rfl) (by kernel_rfl) (fun _ _ _ h => h) (Or.inl ⟨by rfl, ?_⟩) hHeld ?_
  rotate_left 1
  · (intro w hSw; go_simp; try with_reducible rfl)
  try simp only [Act.put, List.setIfInBounds_toArray, List.set_cons_zero, List.set_cons_succ]
  refine takeL 8 rfl (by kernel_rfl) (by kernel_rfl) (by kernel_rfl) (fun _ _ _ h => h) (yieldsIf_load_mid (by rfl) _ _ rfl _ _ rfl _ _ (fun w hSw => hSw.n) Try.underlying25 rfl (by kernel_rfl)) hHeld ?_
  try simp only [Act.put, List.setIfInBounds_toArray, List.set_cons_zero, List.set_cons_succ]
  refine takeL 11 (v := ?_) rfl (by kernel_rfl) (by kernel_rfl) (by kernel_rfl) (fun _ _ _ h => h) (Or.inl ⟨by rfl, ?_⟩) hHeld ?_
  rotate_left 1
  · (intro w hSw; go_simp; try with_reducible rfl)
  try simp only [Act.put, List.setIfInBounds_toArray, List.set_cons_zero, List.set_cons_succ]
  refine takeL 12 (v := ?_) rfl (by kernel_rfl) (by kernel_rfl) (by kernel_rfl) (fun _ _ _ h => h) (Or.inl ⟨by rfl, ?_⟩) hHeld ?_
  rotate_left 1
  · (intro w hSw; have q := hSw.b; clear hSw; go_simp; try with_reducible rfl)
  try simp only [Act.put, List.setIfInBounds_toArray, List.set_cons_zero, List.set_cons_succ]
  refine takeL 13 (v := ?_) rfl (by kernel_rfl) (by kernel_rfl) (by kernel_rfl) (fun _ _ _ h => h) (Or.inl ⟨by rfl, ?_⟩) hHeld ?_
  rotate_left 1
  · (intro w hSw; go_simp; try with_reducible rfl)
  try simp only [Act.put, List.setIfInBounds_toArray, List.set_cons_zero, List.set_cons_succ]
  refine takeL 14 (v := ?_) rfl (by kernel_rfl) (by kernel_rfl) (by kernel_rfl) (fun _ _ _ h => h) (Or.inl ⟨by rfl, ?_⟩) hHeld ?_
  rotate_left 1
  · (intro w hSw; have q := hSw.b; clear hSw; go_simp; try with_reducible rfl)
  try simp only [Act.put, List.setIfInBounds_toArray, List.set_cons_zero, List.set_cons_succ]
  refine takeL 15 (v := ?_) rfl (by kernel_rfl) (by kernel_rfl) (by kernel_rfl) (fun _ _ _ h => h) (Or.inl ⟨by rfl, ?_⟩) hHeld ?_
  rotate_left 1
  · (intro w hSw; go_simp; try with_reducible rfl)
  try simp only [Act.put, List.setIfInBounds_toArray, List.set_cons_zero, List.set_cons_succ]
  refine takeL 16 (v := ?_) rfl (by kernel_rfl) (by kernel_rfl) (by kernel_rfl) (fun _ _ _ h => h) (Or.inl ⟨by rfl, ?_⟩) hHeld ?_
  rotate_left 1
  · (intro w hSw; go_simp; try with_reducible rfl)
  try simp only [Act.put, List.setIfInBounds_toArray, List.set_cons_zero, List.set_cons_succ]
  refine takeL 17 (v := ?_) rfl (by kernel_rfl) (by kernel_rfl) (by kernel_rfl) (fun _ _ _ h => h) (Or.inl ⟨by rfl, ?_⟩) hHeld ?_
  rotate_left 1
  · (intro w hSw; go_simp; try with_reducible rfl)
  try simp only [Act.put, List.setIfInBounds_toArray, List.set_cons_zero, List.set_cons_succ]
  refine takeL 19 (v := ?_) rfl (by kernel_rfl) (by kernel_rfl) (by kernel_rfl) (fun _ _ _ h => h) (Or.inl ⟨by rfl, ?_⟩) hHeld ?_
  rotate_left 1
  · (intro w hSw; go_simp; try with_reducible rfl)
  try simp only [Act.put, List.setIfInBounds_toArray, List.set_cons_zero, List.set_cons_succ]
  refine takeL 20 rfl (by kernel_rfl) (by kernel_rfl) (by kernel_rfl) (fun _ _ _ h => h) (yieldsIf_load_mid (by rfl) _ _ rfl _ _ rfl _ _ (fun w hSw => hSw.t) Try.underlying27 rfl HU.out) hHeld ?_
  try simp only [Act.put, List.setIfInBounds_toArray, List.set_cons_zero, List.set_cons_succ]
  refine wpAnyH_ready (rs := [4, 10]) (by kernel_rfl) (by simp) ?_
  refine consM 4 rfl (fun K hK => ?_) (consM 10 rfl (fun K hK => ?_) AllReadyH.nil)
  · go_simp
    refine (cto_any x.c W0).mono ?_
    rintro e W1 ⟨rfl, hb⟩
    show K _ _
    have R1 := Bx.mk (And.intro (R0.out.1.later hb) True.intro)
    clear hb R0
    refine hK.out _ _ (HA.out _ _ R1.out.1) (fun hHeld => ?_)
    clear hK K
    try simp only [Act.put, List.setIfInBounds_toArray, List.set_cons_zero, List.set_cons_succ]
    refine wpAnyH_ready (rs := [9, 10]) (by kernel_rfl) (by simp) ?_
    refine consM 9 rfl (fun K hK => ?_) (consM 10 rfl (fun K hK => ?_) AllReadyH.nil)
    · go_simp
      refine (to12_any x.n W1).mono ?_
      rintro e W2 ⟨rfl, hb⟩
      show K _ _
      have R2 := Bx.mk (And.intro (R1.out.1.later hb) True.intro)
      clear hb R1
      refine hK.out _ _ (HA.out _ _ R2.out.1) (fun hHeld => ?_)
      clear hK K
      try simp only [Act.put, List.setIfInBounds_toArray, List.set_cons_zero, List.set_cons_succ]
      refine stepL 10 (by kernel_rfl) rfl (fun K hK => ?_)
      go_simp
      show K _ _
      have R3 := Bx.mk (And.intro (R2.out.1.alloc (.cells #[] 5)) (own_empty W2 (B + 2) (by have := R2.out.1.lt (.head _); simp only at this; omega)))
      clear R2
      refine hK.out _ _ (HA.out _ _ R3.out.1) (fun hHeld => ?_)
      clear hK K
      try simp only [Act.put, List.setIfInBounds_toArray, List.set_cons_zero, List.set_cons_succ]
      generalize W2.alloc (.cells #[] 5) = W3 at *
      generalize W2.heap.size = G at *
      refine stepL 18 (by kernel_rfl) rfl (fun K hK => ?_)
      refine step_ap rfl _ _ rfl (B + 2) _ _ (by rfl) R3.out.2 _ _ (by rfl) (HTk.out W3 R3.out.1.below) (by rw [HM.out.2.1]; simp; have := HM.out.2.2; omega) (by have := R3.out.1.lt (.head _); simp only at this; omega) ?_
      intro u9 W4 ho hg _
      have R4 := Bx.mk (And.intro (R3.out.1.later9 R3.out.2 hg (by intro y hy; simp at hy; rcases hy with rfl | rfl <;> (simp only; omega))) ho)
      obtain ⟨a9, k9, hv9⟩ := own_form ho
      rw [List.nil_append, HM.out.2.1] at hv9
      rw [List.nil_append] at R4
      subst hv9
      clear ho hg R3
      have HI := Bx.mk (And.intro (pk_infoW (cutP x) (.slice a9 m k9) HT.out) (And.intro (pkC_one (cutP x) a9 m k9) (show (pkC (cutP x) (.slice a9 m k9)).size = zc.size by rw [HZ.out, pkC_size (cutP x) _ HT.out])))
      have HB9 := Bx.mk (HBd.out a9 m k9)
      obtain ⟨tm, htm⟩ : ∃ tm, pkC (cutP x) (.slice a9 m k9) = tm := ⟨_, rfl⟩
      rw [htm] at HI HB9
      have HTM := Bx.mk htm
      clear htm
      refine hK.out _ _ (HA.out _ _ R4.out.1) (fun hHeld => ?_)
      clear hK K
      try simp only [Act.put, List.setIfInBounds_toArray, List.set_cons_zero, List.set_cons_succ]
      refine takeL 21 rfl (by kernel_rfl) (by kernel_rfl) (by kernel_rfl) (fun _ _ _ h => h) (yieldsIf_buildP (by rfl) 33 _ rfl tm (by simp only [List.map_toArray, List.map_cons, List.map_nil]; exact HB9.out)) hHeld ?_
      try simp only [Act.put, List.setIfInBounds_toArray, List.set_cons_zero, List.set_cons_succ]
      refine stepL 22 (by kernel_rfl) rfl (fun K hK => ?_)
      refine step_st rfl 33 _ _ rfl (B + 1) tm (by rfl) (by rfl) (there_row (R4.out.1.rows _ (.head _)) 0 _ (by rw [HI.out.2.2]; omega)) HI.out.1 HI.out.2.1 ?_
      have hr2 := heap_setCells_all (ds := tm) (R4.out.1.rows _ (.head _)) HI.out.2.2
      have R9 := Bx.mk (And.intro (R4.out.1.set (kb_setCells (b := B + 1) tm.toList 0 W4) hr2 (by omega) (by intro y hy; simp at hy; subst hy; simp only; omega)) (R4.out.2.kept (kb_setCells (b := B + 1) tm.toList 0 W4) (fun e => by have := (R4.out.2.lt _ e).2; omega)))
      clear hr2 R4
      refine hK.out _ _ (HA.out _ _ R9.out.1) (fun hHeld => ?_)
      clear hK K
      try simp only [Act.put, List.setIfInBounds_toArray, List.set_cons_zero, List.set_cons_succ]
      refine wpAnyH_done (by kernel_rfl) ?_ _
      refine NoPanic.normal ?_
      clear hHeld
      try go_wp2
      refine bodyPost_ret (results_cell_row rfl _ _ (B + 1) _ tm _ _ rfl (R9.out.1.rows _ (.head _)) Try.underlying33 rfl HI.out.1) rfl ?_
      exact ⟨_, by rw [← HTM.out], by rw [HM.out.1]; exact R9.out.2.bytes, R9.out.1.below⟩
    · go_simp
      show K _ _
      have R2 := Bx.mk (And.intro (R1.out.1.alloc (.cells #[] 5)) (own_empty W1 (B + 2) (by have := R1.out.1.lt (.head _); simp only at this; omega)))
      clear R1
      refine hK.out _ _ (HA.out _ _ R2.out.1) (fun hHeld => ?_)
      clear hK K
      try simp only [Act.put, List.setIfInBounds_toArray, List.set_cons_zero, List.set_cons_succ]
      generalize W1.alloc (.cells #[] 5) = W2 at *
      generalize W1.heap.size = G at *
      refine stepL 9 (by kernel_rfl) rfl (fun K hK => ?_)
      go_simp
      refine (to12_any x.n W2).mono ?_
      rintro e W3 ⟨rfl, hb⟩
      show K _ _
      have R3 := Bx.mk (And.intro (R2.out.1.later hb) (R2.out.2.later hb (fun g hg => (R2.out.2.lt g hg).1)))
      clear hb R2
      refine hK.out _ _ (HA.out _ _ R3.out.1) (fun hHeld => ?_)
      clear hK K
      try simp only [Act.put, List.setIfInBounds_toArray, List.set_cons_zero, List.set_cons_succ]
      refine stepL 18 (by kernel_rfl) rfl (fun K hK => ?_)
      refine step_ap rfl _ _ rfl (B + 2) _ _ (by rfl) R3.out.2 _ _ (by rfl) (HTk.out W3 R3.out.1.below) (by rw [HM.out.2.1]; simp; have := HM.out.2.2; omega) (by have := R3.out.1.lt (.head _); simp only at this; omega) ?_
      intro u9 W4 ho hg _
      have R4 := Bx.mk (And.intro (R3.out.1.later9 R3.out.2 hg (by intro y hy; simp at hy; rcases hy with rfl | rfl <;> (simp only; omega))) ho)
      obtain ⟨a9, k9, hv9⟩ := own_form ho
      rw [List.nil_append, HM.out.2.1] at hv9
      rw [List.nil_append] at R4
      subst hv9
      clear ho hg R3
      have HI := Bx.mk (And.intro (pk_infoW (cutP x) (.slice a9 m k9) HT.out) (And.intro (pkC_one (cutP x) a9 m k9) (show (pkC (cutP x) (.slice a9 m k9)).size = zc.size by rw [HZ.out, pkC_size (cutP x) _ HT.out])))
      have HB9 := Bx.mk (HBd.out a9 m k9)
      obtain ⟨tm, htm⟩ : ∃ tm, pkC (cutP x) (.slice a9 m k9) = tm := ⟨_, rfl⟩
      rw [htm] at HI HB9
      have HTM := Bx.mk htm
      clear htm
      refine hK.out _ _ (HA.out _ _ R4.out.1) (fun hHeld => ?_)
      clear hK K
      try simp only [Act.put, List.setIfInBounds_toArray, List.set_cons_zero, List.set_cons_succ]
      refine takeL 21 rfl (by kernel_rfl) (by kernel_rfl) (by kernel_rfl) (fun _ _ _ h => h) (yieldsIf_buildP (by rfl) 33 _ rfl tm (by simp only [List.map_toArray, List.map_cons, List.map_nil]; exact HB9.out)) hHeld ?_
      try simp only [Act.put, List.setIfInBounds_toArray, List.set_cons_zero, List.set_cons_succ]
      refine stepL 22 (by kernel_rfl) rfl (fun K hK => ?_)
      refine step_st rfl 33 _ _ rfl (B + 1) tm (by rfl) (by rfl) (there_row (R4.out.1.rows _ (.head _)) 0 _ (by rw [HI.out.2.2]; omega)) HI.out.1 HI.out.2.1 ?_
      have hr2 := heap_setCells_all (ds := tm) (R4.out.1.rows _ (.head _)) HI.out.2.2
      have R9 := Bx.mk (And.intro (R4.out.1.set (kb_setCells (b := B + 1) tm.toList 0 W4) hr2 (by omega) (by intro y hy; simp at hy; subst hy; simp only; omega)) (R4.out.2.kept (kb_setCells (b := B + 1) tm.toList 0 W4) (fun e => by have := (R4.out.2.lt _ e).2; omega)))
      clear hr2 R4
      refine hK.out _ _ (HA.out _ _ R9.out.1) (fun hHeld => ?_)
      clear hK K
      try simp only [Act.put, List.setIfInBounds_toArray, List.set_cons_zero, List.set_cons_succ]
      refine wpAnyH_done (by kernel_rfl) ?_ _
      refine NoPanic.normal ?_
      clear hHeld
      try go_wp2
      refine bodyPost_ret (results_cell_row rfl _ _ (B + 1) _ tm _ _ rfl (R9.out.1.rows _ (.head _)) Try.underlying33 rfl HI.out.1) rfl ?_
      exact ⟨_, by rw [← HTM.out], by rw [HM.out.1]; exact R9.out.2.bytes, R9.out.1.below⟩
  · go_simp
    show K _ _
    have R1 := Bx.mk (And.intro (R0.out.1.alloc (.cells #[] 5)) (own_empty W0 (B + 2) (by have := R0.out.1.lt (.head _); simp only at this; omega)))
    clear R0
    refine hK.out _ _ (HA.out _ _ R1.out.1) (fun hHeld => ?_)
    clear hK K
    try simp only [Act.put, List.setIfInBounds_toArray, List.set_cons_zero, List.set_cons_succ]
    generalize W0.alloc (.cells #[] 5) = W1 at *
    generalize W0.heap.size = G at *
    refine stepL 4 (by kernel_rfl) rfl (fun K hK => ?_)
    go_simp
    refine (cto_any x.c W1).mono ?_
    rintro e W2 ⟨rfl, hb⟩
    show K _ _
    have R2 := Bx.mk (And.intro (R1.out.1.later hb) (R1.out.2.later hb (fun g hg => (R1.out.2.lt g hg).1)))
    clear hb R1
    refine hK.out _ _ (HA.out _ _ R2.out.1) (fun hHeld => ?_)
    clear hK K
    try simp only [Act.put, List.setIfInBounds_toArray, List.set_cons_zero, List.set_cons_succ]
    refine stepL 9 (by kernel_rfl) rfl (fun K hK => ?_)
    go_simp
    refine (to12_any x.n W2).mono ?_
    rintro e W3 ⟨rfl, hb⟩
    show K _ _
    have R3 := Bx.mk (And.intro (R2.out.1.later hb) (R2.out.2.later hb (fun g hg => (R2.out.2.lt g hg).1)))
    clear hb R2
    refine hK.out _ _ (HA.out _ _ R3.out.1) (fun hHeld => ?_)
    clear hK K
    try simp only [Act.put, List.setIfInBounds_toArray, List.set_cons_zero, List.set_cons_succ]
    refine stepL 18 (by kernel_rfl) rfl (fun K hK => ?_)
    refine step_ap rfl _ _ rfl (B + 2) _ _ (by rfl) R3.out.2 _ _ (by rfl) (HTk.out W3 R3.out.1.below) (by rw [HM.out.2.1]; simp; have := HM.out.2.2; omega) (by have := R3.out.1.lt (.head _); simp only at this; omega) ?_
    intro u9 W4 ho hg _
    have R4 := Bx.mk (And.intro (R3.out.1.later9 R3.out.2 hg (by intro y hy; simp at hy; rcases hy with rfl | rfl <;> (simp only; omega))) ho)
    obtain ⟨a9, k9, hv9⟩ := own_form ho
    rw [List.nil_append, HM.out.2.1] at hv9
    rw [List.nil_append] at R4
    subst hv9
    clear ho hg R3
    have HI := Bx.mk (And.intro (pk_infoW (cutP x) (.slice a9 m k9) HT.out) (And.intro (pkC_one (cutP x) a9 m k9) (show (pkC (cutP x) (.slice a9 m k9)).size = zc.size by rw [HZ.out, pkC_size (cutP x) _ HT.out])))
    have HB9 := Bx.mk (HBd.out a9 m k9)
    obtain ⟨tm, htm⟩ : ∃ tm, pkC (cutP x) (.slice a9 m k9) = tm := ⟨_, rfl⟩
    rw [htm] at HI HB9
    have HTM := Bx.mk htm
    clear htm
    refine hK.out _ _ (HA.out _ _ R4.out.1) (fun hHeld => ?_)
    clear hK K
    try simp only [Act.put, List.setIfInBounds_toArray, List.set_cons_zero, List.set_cons_succ]
    refine takeL 21 rfl (by kernel_rfl) (by kernel_rfl) (by kernel_rfl) (fun _ _ _ h => h) (yieldsIf_buildP (by rfl) 33 _ rfl tm (by simp only [List.map_toArray, List.map_cons, List.map_nil]; exact HB9.out)) hHeld ?_
    try simp only [Act.put, List.setIfInBounds_toArray, List.set_cons_zero, List.set_cons_succ]
    refine stepL 22 (by kernel_rfl) rfl (fun K hK => ?_)
    refine step_st rfl 33 _ _ rfl (B + 1) tm (by rfl) (by rfl) (there_row (R4.out.1.rows _ (.head _)) 0 _ (by rw [HI.out.2.2]; omega)) HI.out.1 HI.out.2.1 ?_
    have hr2 := heap_setCells_all (ds := tm) (R4.out.1.rows _ (.head _)) HI.out.2.2
    have R9 := Bx.mk (And.intro (R4.out.1.set (kb_setCells (b := B + 1) tm.toList 0 W4) hr2 (by omega) (by intro y hy; simp at hy; subst hy; simp only; omega)) (R4.out.2.kept (kb_setCells (b := B + 1) tm.toList 0 W4) (fun e => by have := (R4.out.2.lt _ e).2; omega)))
    clear hr2 R4
    refine hK.out _ _ (HA.out _ _ R9.out.1) (fun hHeld => ?_)
    clear hK K
    try simp only [Act.put, List.setIfInBounds_toArray, List.set_cons_zero, List.set_cons_succ]
    refine wpAnyH_done (by kernel_rfl) ?_ _
    refine NoPanic.normal ?_
    clear hHeld
    try go_wp2
    refine bodyPost_ret (results_cell_row rfl _ _ (B + 1) _ tm _ _ rfl (R9.out.1.rows _ (.head _)) Try.underlying33 rfl HI.out.1) rfl ?_
    exact ⟨_, by rw [← HTM.out], by rw [HM.out.1]; exact R9.out.2.bytes, R9.out.1.below⟩
end Go.Proofs.Ytaoekfomffebhaa
namespace Go.Proofs.Ytaoekfomffebhaa
open Go Go.ChangeShapes Go.WideShapes Go.ChangeAt Go.RowKit
theorem alloc_sizeQ (w : World) (o : Obj) : (w.alloc o).heap.size = w.heap.size + 1 := by simp
set_option maxRecDepth 100000 in
set_option maxHeartbeats 4000000 in
theorem some_own (q : Nat) (b more : List UInt8) (er : Int) (w : World) (hb : b.length ≤ 512) (h : IsR w q (beN 2 b.length ++ (b ++ more)) er) (hl : more.length ≤ 5000) :
    Calls Try.prog 64 #[.pointer (some ⟨q, 0, none⟩)] w fun e w' => ∃ v', e = .returned (.tuple #[v', .int .i64 0]) ∧ OwnB w' w.heap.size v' b ∧ IsR w' q more er ∧ w.grownBy w' (some q) := by
  have HN := Bx.mk (rnumber_ok q 1 b.length (b ++ more) er w (by omega) (by omega) (by simp [wid]; omega) (by omega) h (by rw [List.length_append]; omega))
  have HL : Bx (b.length ≤ 512 ∧ more.length ≤ 5000) := Bx.mk ⟨hb, hl⟩
  obtain ⟨L, hL⟩ : ∃ n, b.length = n := ⟨_, rfl⟩
  have HLe := Bx.mk hL
  rw [hL] at HN hb
  have hb1 : (L : Int) ≤ 512 := by omega
  clear h hl hL hb
  go_enter Try.func64, Try.ntmps64
  go_wp2_with fail
  refine HN.out.mono ?_
  rintro e w1 ⟨rfl, hr1, hg1⟩
  have H1 := Bx.mk (And.intro hr1 hg1)
  have HT := Bx.mk (take_ok q _ er L w1 hr1 (by rw [List.length_append, HLe.out]; omega) (by have := HL.out; rw [List.length_append]; omega))
  have e1 : (b ++ more).take L = b := by rw [List.take_left' HLe.out]
  have e2 : (b ++ more).drop L = more := by rw [List.drop_left' HLe.out]
  rw [e1, e2] at HT
  clear hr1 hg1 HN e1 e2
  go_wp2_with fail
  refine HT.out.mono ?_
  rintro e w2 ⟨v2, rfl, hb2, hr2, hg2⟩
  have H2 := Bx.mk (And.intro hb2 (And.intro hr2 (kb_trans H1.out.2 hg2)))
  obtain ⟨⟨a2, c2, rfl, -⟩, -⟩ := hb2
  rw [HLe.out] at H2
  rw [HLe.out]
  clear hr2 hg2 H1 HT
  go_wp2_with fail
  refine (clone_any b _ w2 H2.out.1.1 (by have := HL.out; omega)).mono ?_
  rintro e w3 ⟨v3, rfl, ho3, hb3⟩
  have H3 : Bx (OwnB w3 w.heap.size v3 b ∧ IsR w3 q more er ∧ w.grownBy w3 (some q)) := Bx.mk ⟨ho3.weak H2.out.2.2.size, H2.out.2.1.later hb3, kb_trans H2.out.2.2 (kb_below _ hb3)⟩
  clear ho3 hb3 H2
  go_wp2
  go_ret2
  exact ⟨_, rfl, H3.out⟩
set_option maxRecDepth 100000 in
set_option maxHeartbeats 4000000 in
theorem field_own (q : Nat) (b more : List UInt8) (er : Int) (w : World) (hbl : b.length ≤ 512) (h : IsR w q (beN 2 b.length ++ (b ++ more)) er) (hl : more.length ≤ 5000) :
    Calls Try.prog 60 #[.pointer (some ⟨q, 0, none⟩), .int .i64 4] w fun e w' => ∃ vb, e = .returned (.tuple #[.agg #[.int .i64 4, .int .i64 0, vb], .int .i64 0]) ∧ OwnB w' w.heap.size vb b ∧ IsR w' q more er ∧ w.grownBy w' (some q) := by
  have hq := h.lt
  have HA : Bx (Below w.heap.size w (w.alloc (.cells #[.int .i64 0, .int .i64 0, .slice none 0 0] 58))) := Bx.mk (below_a _)
  have HS := Bx.mk (some_own q b more er _ hbl (h.later HA.out) hl)
  have hkk : (decide ((0 : Int) ≤ 4) && decide ((4 : Int) ≤ 4)) = true := by simp
  clear h hl hbl
  go_enter Try.func60, Try.ntmps60
  go_wp2_with fail
  refine (known_any 4 _).mono ?_
  rintro e w1 ⟨rfl, rfl⟩
  rw [hkk]
  go_wp2_with fail
  refine HS.out.mono ?_
  rintro e w2 ⟨v2, rfl, hb2, hr2, hg2⟩
  have HR2 : Bx (w2.heap[w.heap.size]? = some (.cells #[.int .i64 0, .int .i64 0, .slice none 0 0] 58 (0, 0))) := Bx.mk (by rw [hg2.block _ (by simp) (fun e => by injection e with e; omega), hnew _ _ _ rfl])
  have H2 := Bx.mk (And.intro hb2 (And.intro hr2 (kb_trans (kb_below (some q) HA.out) hg2)))
  obtain ⟨a2, c2, hv2⟩ := own_form hb2
  subst hv2
  clear hr2 hg2 HS HA hb2
  generalize b.length = L at *
  obtain ⟨D, hD⟩ : ∃ D, w.heap.size = D := ⟨_, rfl⟩
  have HD : Bx (w.heap.size = D ∧ q ≠ D) := Bx.mk ⟨hD, by omega⟩
  rw [alloc_sizeQ] at H2
  rw [hD] at HR2 H2 ⊢
  clear hD hq
  go_wp2_with (refine wpList_store_new rfl 58 _ _ rfl D #[.int .i64 4, .int .i64 0, .slice a2 L c2] _ _ (by rfl) (by rfl) HR2.out rfl (by kernel_rfl) (by simp [Value.oneCell']) ?_; intro w3 hw3 hr3; have hg3 : Bx (w2.grownBy w3 (some D)) := Bx.mk (by rw [hw3]; exact kb_setCells _ _ _); have HR3 := Bx.mk hr3; clear hw3 hr3)
  have hg3 := hg3.out
  have hr3 := HR3.out
  have H3 := Bx.mk (And.intro (H2.out.1.kept hg3 (fun e => by have := (H2.out.1.lt _ e).2; omega)) (And.intro (H2.out.2.1.aside HR2.out (fun x e => by cases e) hg3 HD.out.2) (kb_new H2.out.2.2 hg3 (Nat.le_of_eq HD.out.1))))
  refine bodyPost_ret (results_pair rfl _ _ _ D _ rfl (run_loadVar_row _ D _ _ _ _ _ hr3 Try.underlying58 rfl (by kernel_rfl))) rfl ?_
  exact ⟨_, rfl, H3.out.1.weak (by have := HD.out.1; omega), H3.out.2⟩
set_option maxRecDepth 100000 in
set_option maxHeartbeats 4000000 in
theorem get_own (q : Nat) (b more : List UInt8) (w : World) (hc : b.length ≤ 512) (h : IsR w q (beN 2 b.length ++ (b ++ more)) 0) (hl : more.length ≤ 5000) :
    Calls Try.prog 56 #[.pointer (some ⟨q, 0, none⟩), .int .i64 4] w fun e w' => ∃ vb, e = .returned (.agg #[.int .i64 4, .int .i64 0, vb]) ∧ OwnB w' w.heap.size vb b ∧ IsR w' q more 0 ∧ w.grownBy w' (some q) := by
  have hq := h.lt
  have HA : Bx (Below w.heap.size w (w.alloc (.cells #[.int .i64 0, .int .i64 0, .slice none 0 0] 58))) := Bx.mk (below_a _)
  have HR := Bx.mk (h.later HA.out)
  have HF := Bx.mk (field_own q b more 0 _ hc (h.later HA.out) hl)
  clear hc h hl
  go_enter Try.func56, Try.ntmps56
  go_wp2_with fail
  refine (rerr_any q _ 0 _ HR.out).mono ?_
  rintro e w1 ⟨rfl, rfl⟩
  go_wp2_with fail
  refine HF.out.mono ?_
  rintro e w2 ⟨vb, rfl, hb2, hr2, hg2⟩
  have HR2 : Bx (w2.heap[w.heap.size]? = some (.cells #[.int .i64 0, .int .i64 0, .slice none 0 0] 58 (0, 0))) := Bx.mk (by rw [hg2.block _ (by simp) (fun e => by injection e with e; omega), hnew _ _ _ rfl])
  obtain ⟨D, hD⟩ : ∃ D, w.heap.size = D := ⟨_, rfl⟩
  have HD : Bx (w.heap.size = D ∧ q ≠ D) := Bx.mk ⟨hD, by omega⟩
  rw [hD] at HR2 ⊢
  have hD2 : D < w2.heap.size := (Array.getElem?_eq_some_iff.1 HR2.out).1
  rw [alloc_sizeQ, hD] at hb2
  obtain ⟨a2, c2, hvb⟩ := own_form hb2
  subst hvb
  have H3 : Bx (OwnB (w2.alloc (.cells #[.int .i64 4, .int .i64 0, .slice a2 b.length c2] 58)) (D + 1) (.slice a2 b.length c2) b ∧ IsR (w2.alloc (.cells #[.int .i64 4, .int .i64 0, .slice a2 b.length c2] 58)) q more 0 ∧ w.grownBy (w2.alloc (.cells #[.int .i64 4, .int .i64 0, .slice a2 b.length c2] 58)) (some q) ∧ (w2.alloc (.cells #[.int .i64 4, .int .i64 0, .slice a2 b.length c2] 58)).heap[D]? = some (.cells #[.int .i64 0, .int .i64 0, .slice none 0 0] 58 (0, 0))) :=
    Bx.mk ⟨own_a hb2 _, hr2.later (below_a _), kb_trans (kb_trans (kb_below (some q) HA.out) hg2) (kb_below _ (below_a _)), by rw [(below_a _).block D hD2]; exact HR2.out⟩
  clear hb2 hr2 hg2 HR2 HA HR HF hD hq
  generalize b.length = L at *
  have HX := Bx.mk (box_range w2 (.int .i64 4) (.int .i64 0) (.slice a2 L c2) 58)
  have hE : D ≠ w2.heap.size := by omega
  go_upto_region 4 with fail
  generalize w2.alloc (.cells #[.int .i64 4, .int .i64 0, .slice a2 L c2] 58) = wB at *
  generalize w2.heap.size = E at *
  clear hD2
  go_wp2_with (first | refine wpList_load_mid rfl 58 _ rfl E 0 (by rfl) _ _ HX.out Try.underlying58 rfl (by kernel_rfl) ?_ | (refine wpList_store_new rfl 58 _ _ rfl D #[.int .i64 4, .int .i64 0, .slice a2 L c2] _ _ (by rfl) (by rfl) H3.out.2.2.2 rfl (by kernel_rfl) (by simp [Value.oneCell']) ?_; intro w3 hw3 hr3; have hg3 : Bx (wB.grownBy w3 (some D)) := Bx.mk (by rw [hw3]; exact kb_setCells _ _ _); have HR3 := Bx.mk hr3; clear hw3 hr3))
  have hg3 := hg3.out
  have hr3 := HR3.out
  have H4 := Bx.mk (And.intro (H3.out.1.kept hg3 (fun e => by have := (H3.out.1.lt _ e).2; omega)) (And.intro (H3.out.2.1.aside H3.out.2.2.2 (fun x e => by cases e) hg3 HD.out.2) (kb_new H3.out.2.2.1 hg3 (Nat.le_of_eq HD.out.1))))
  refine bodyPost_ret (results_cell_row rfl _ _ D _ _ _ _ rfl hr3 Try.underlying58 rfl (by kernel_rfl)) rfl ?_
  exact ⟨_, rfl, H4.out.1.weak (by have := HD.out.1; omega), H4.out.2⟩
theorem get4_own (q : Nat) (l : List UInt8) (er : Int) (w : World) (h : IsR w q l er) (hl : l.length ≤ 5000) :
    Calls Try.prog 56 #[.pointer (some ⟨q, 0, none⟩), .int .i64 4] w fun e w' => ∃ vb, e = .returned (.agg #[.int .i64 (getR l er 4).1.s, .int .i64 (getR l er 4).1.n, vb]) ∧ OwnB w' w.heap.size vb (getR l er 4).1.b ∧ IsR w' q (getR l er 4).2.1 (getR l er 4).2.2 ∧ w.grownBy w' (some q) := by
  unfold getR
  by_cases he : er = 0
  · subst he
    rw [if_neg (by simp)]
    have hA := h.later (below_a (.cells #[.int .i64 0, .int .i64 0, .slice none 0 0] 58))
    have hA2 := hA.later (below_a (.cells #[.int .i64 0, .int .i64 0, .slice none 0 0] 58))
    have hq := hA.lt
    unfold getF
    rw [if_neg (by omega), if_pos rfl]
    by_cases h2 : l.length < 2
    · rw [if_pos h2]
      exact (get_fails q 4 4 l w (by omega) h (field_badS q 4 0 _ hq ((some_end q l 0 _ hA2 h2).mono fun e w' ⟨he, hw⟩ => ⟨he, ⟨l, by rw [hw]; exact hA2⟩, by rw [hw]; exact kb_refl _ _⟩))).mono fun e w' ⟨he, hr, hg⟩ => ⟨_, he, OwnB.nil _ _, hr, hg⟩
    · rw [if_neg h2]
      by_cases hc : 512 < valN (l.take 2)
      · rw [if_pos hc]
        exact (get_fails q 4 3 l w (by omega) h (field_badS q 3 0 _ hq ((some_long q l 0 _ hA2 (by omega) (by omega) hc).mono fun e w' ⟨he, hr, hg⟩ => ⟨he, ⟨_, hr⟩, hg⟩))).mono fun e w' ⟨he, hr, hg⟩ => ⟨_, he, OwnB.nil _ _, hr, hg⟩
      · rw [if_neg hc]
        by_cases hm : l.length - 2 < valN (l.take 2)
        · rw [if_pos hm]
          exact (get_fails q 4 4 l w (by omega) h (field_badS q 4 0 _ hq ((some_miss q l 0 _ hA2 (by omega) (by omega) (by omega) hm).mono fun e w' ⟨he, hr, hg⟩ => ⟨he, ⟨_, hr⟩, hg⟩))).mono fun e w' ⟨he, hr, hg⟩ => ⟨_, he, OwnB.nil _ _, hr, hg⟩
        · rw [if_neg hm]
          have hbl : ((l.drop 2).take (valN (l.take 2))).length = valN (l.take 2) := by rw [List.length_take, List.length_drop]; omega
          have he : beN 2 ((l.drop 2).take (valN (l.take 2))).length ++ ((l.drop 2).take (valN (l.take 2)) ++ (l.drop 2).drop (valN (l.take 2))) = l := by
            have h2l : (l.take 2).length = 2 := by rw [List.length_take]; omega
            have hv := beN_val (l.take 2)
            rw [h2l] at hv
            rw [hbl, hv, List.take_append_drop, List.take_append_drop]
          exact get_own q ((l.drop 2).take (valN (l.take 2))) _ w (by rw [hbl]; omega) (by rw [he]; exact h) (by rw [List.length_drop, List.length_drop]; omega)
  · rw [if_pos he]
    exact (get_bad q l er 4 w h he).mono fun e w' ⟨he, hb⟩ => ⟨_, he, OwnB.nil _ _, h.later hb, kb_below _ hb⟩
set_option maxRecDepth 100000 in
set_option maxHeartbeats 4000000 in
theorem rbyt_own (q : Nat) (z : Int) (l : List UInt8) (er : Int) (w : World) (h : IsR w q l er) (hl : l.length ≤ 5000) :
    Calls Try.prog 51 #[.pointer (some ⟨q, 0, none⟩), .int .i64 z] w fun e w' => ∃ v', e = .returned v' ∧ OwnB w' w.heap.size v' (bytR l er z).1 ∧ IsR w' q (bytR l er z).2.1 (bytR l er z).2.2 ∧ w.grownBy w' (some q) := by
  have HG := Bx.mk (get4_own q l er w h hl)
  unfold bytR
  clear h hl
  generalize getR l er 4 = g at *
  obtain ⟨⟨fs, fn, fb⟩, l', er'⟩ := g
  simp only at HG ⊢
  have hf := fld2g
  by_cases hz : z < (fb.length : Int)
  · rw [if_pos hz]
    obtain ⟨st, hst⟩ : ∃ st, (if er' = 0 then (([] : List UInt8), (3 : Int)) else (l', er')) = st := ⟨_, rfl⟩
    have HSt := Bx.mk hst
    rw [hst]
    clear hst
    obtain ⟨L, hL⟩ : ∃ n, fb.length = n := ⟨_, rfl⟩
    have HL := Bx.mk hL
    rw [hL] at hz
    clear hL
    go_enter Try.func51, Try.ntmps51
    go_wp2_with fail
    refine HG.out.mono ?_
    rintro e w1 ⟨vb, rfl, hb1, hr1, hg1⟩
    have H1 := Bx.mk (And.intro hr1 hg1)
    obtain ⟨ab, cb, hv9⟩ := own_form hb1
    subst hv9
    clear hr1 hg1 HG hb1
    rw [HL.out]
    go_wp2_with fail
    refine (fail_any q l' er' 3 w1 H1.out.1).mono ?_
    rintro e w2 ⟨⟨v2, rfl⟩, hr2, hg2⟩
    rw [HSt.out] at hr2
    have H2 := Bx.mk (And.intro hr2 (kb_trans H1.out.2 hg2))
    clear hr2 hg2 H1 HSt
    go_wp2
    go_ret
    exact ⟨_, rfl, OwnB.nil _ _, H2.out⟩
  · rw [if_neg hz]
    obtain ⟨L, hL⟩ : ∃ n, fb.length = n := ⟨_, rfl⟩
    have HL := Bx.mk hL
    rw [hL] at hz
    clear hL
    go_enter Try.func51, Try.ntmps51
    go_wp2_with fail
    refine HG.out.mono ?_
    rintro e w1 ⟨vb, rfl, hb1, hr1, hg1⟩
    have H1 := Bx.mk (And.intro hb1 (And.intro hr1 hg1))
    obtain ⟨ab, cb, hv9⟩ := own_form hb1
    subst hv9
    clear hr1 hg1 HG hb1
    rw [HL.out]
    rw [HL.out] at H1
    go_wp2
    go_ret
    exact ⟨_, rfl, H1.out.1, H1.out.2⟩
end Go.Proofs.Ytaoekfomffebhaa
namespace Go.Proofs.Ytaoekfomffebhaa
open Go Go.ChangeShapes Go.WideShapes Go.ChangeAt Go.RowKit
theorem zero32Q : ∀ W : World, (zeroValue 27).run Try.prog W = .ok (.agg (u8s z32P)) W := fun W => by rw [z32_is]; kernel_rfl
/-- A reader's bytes and error behind k bytes that are read one by one; what they are. -/
def stT (p : List UInt8 × Int) : Nat → List UInt8 × Int
  | 0 => p
  | k + 1 => stepR (stT p k) 0
def tgB (p : List UInt8 × Int) (k : Nat) : UInt8 := UInt8.ofNat ((numR (stT p k) 0).toNat % 256)
def tgT (p : List UInt8 × Int) (k : Nat) : List UInt8 := (List.range 32).map fun j => if j < k then tgB p j else 0
theorem tgT_length (p : List UInt8 × Int) (k : Nat) : (tgT p k).length = 32 := by simp [tgT]
theorem tgT_zero (p : List UInt8 × Int) : tgT p 0 = z32P := by simp [tgT, z32P]; decide
theorem tgT_succ (p : List UInt8 × Int) (k : Nat) (h : k < 32) : (tgT p k).set k (tgB p k) = tgT p (k + 1) := by
  apply List.ext_getElem
  · simp [tgT]
  · intro i h1 h2
    rw [List.getElem_set]
    simp only [tgT, List.getElem_map, List.getElem_range]
    by_cases hi : k = i
    · subst hi
      rw [if_pos rfl, if_pos (by omega)]
    · rw [if_neg hi]
      by_cases h3 : i < k
      · rw [if_pos h3, if_pos (by omega)]
      · rw [if_neg h3, if_neg (by omega)]
theorem stT_len (p : List UInt8 × Int) (k : Nat) : (stT p k).1.length ≤ p.1.length := by
  induction k with
  | zero => exact Nat.le_refl _
  | succ k ih => exact Nat.le_trans (stepR_len _ _) ih
theorem num_byte (p : List UInt8 × Int) : 0 ≤ numR p 0 ∧ numR p 0 ≤ 255 := by
  unfold numR getR
  by_cases he : p.2 = 0
  · rw [if_neg (by simp [he])]
    unfold getF
    rw [if_neg (by omega), if_neg (by omega)]
    have hv := valN_lt (p.1.take (wid 0))
    have hl : (p.1.take (wid 0)).length ≤ 1 := by rw [List.length_take]; exact Nat.min_le_left _ _
    have h4 : 256 ^ (p.1.take (wid 0)).length ≤ 256 ^ 1 := Nat.pow_le_pow_right (by decide) hl
    by_cases h1 : p.1.length < wid 0
    · rw [if_pos h1]; exact ⟨by simp [Fd.zero], by simp [Fd.zero]⟩
    · rw [if_neg h1, if_neg (by omega)]
      simp only
      omega
  · rw [if_pos he]; exact ⟨by simp [Fd.zero], by simp [Fd.zero]⟩
theorem wrap_byte (p : List UInt8 × Int) (k : Nat) : IntKind.u8.wrap (numR (stT p k) 0) = ub (tgB p k) := by
  have h := num_byte (stT p k)
  unfold tgB
  rw [ub_nat, IntWalk.u8_in _ (by omega)]
  omega
/-- What holds while a tag is read: the reader's box, the result's cell, the tag so far, the reader itself. -/
structure TG (w : World) (B q : Nat) (z1 : Array Value) (p : List UInt8 × Int) (k : Nat) (W : World) : Prop where
  box : W.heap[B]? = some (.cells #[.pointer (some ⟨q, 0, none⟩)] 67 (0, 0))
  res : W.heap[B + 1]? = some (.cells z1 27 (0, 0))
  tag : W.heap[B + 1 + 1]? = some (.cells (u8s (tgT p k)) 27 (0, 0))
  rd : IsR W q (stT p k).1 (stT p k).2
  gr : w.grownBy W (some q)
  sz : B + 2 < W.heap.size
theorem TG.read {w : World} {B q : Nat} {z1 : Array Value} {p : List UInt8 × Int} {k : Nat} {W W1 : World} {l : List UInt8} {e : Int} (h : TG w B q z1 p k W) (h1 : IsR W1 q l e) (hg : W.grownBy W1 (some q)) (hq : q < B) :
    W1.heap[B]? = some (.cells #[.pointer (some ⟨q, 0, none⟩)] 67 (0, 0)) ∧ W1.heap[B + 1]? = some (.cells z1 27 (0, 0)) ∧ W1.heap[B + 1 + 1]? = some (.cells (u8s (tgT p k)) 27 (0, 0)) ∧ w.grownBy W1 (some q) ∧ B + 2 < W1.heap.size :=
  ⟨(hg.block B (by have := h.sz; omega) (fun e => by injection e with e; omega)).trans h.box, (hg.block (B + 1) (by have := h.sz; omega) (fun e => by injection e with e; omega)).trans h.res, (hg.block (B + 1 + 1) (by have := h.sz; omega) (fun e => by injection e with e; omega)).trans h.tag, kb_trans h.gr hg, Nat.lt_of_lt_of_le h.sz hg.size⟩
theorem TG.put {w : World} {B q : Nat} {z1 : Array Value} {p : List UInt8 × Int} {k : Nat} {W : World} (h : W.heap[B]? = some (.cells #[.pointer (some ⟨q, 0, none⟩)] 67 (0, 0)) ∧ W.heap[B + 1]? = some (.cells z1 27 (0, 0)) ∧ W.heap[B + 1 + 1]? = some (.cells (u8s (tgT p k)) 27 (0, 0)) ∧ w.grownBy W (some q) ∧ B + 2 < W.heap.size) (hr : IsR W q (stT p (k + 1)).1 (stT p (k + 1)).2) (hk : k < 32) (hq : q < B) (hB : w.heap.size = B) :
    TG w B q z1 p (k + 1) (W.setCell ⟨B + 1 + 1, k, none⟩ (.int .u8 (ub (tgB p k)))) := by
  obtain ⟨h1, h2, h3, h4, h5⟩ := h
  have hg := kb_setCell (b := B + 1 + 1) W k (.int .u8 (ub (tgB p k)))
  refine ⟨(hg.block B (by omega) (fun e => by injection e with e; omega)).trans h1, (hg.block (B + 1) (by omega) (fun e => by injection e with e; omega)).trans h2, ?_, hr.asideT h3 (by decide) hg (by omega), kb_new h4 hg (by omega), Nat.lt_of_lt_of_le h5 hg.size⟩
  rw [heap_setCell_same W (B + 1 + 1) k _ 27 _ h3, u8s_set, tgT_succ p k hk]
theorem TG.fin {w : World} {B q : Nat} {z1 : Array Value} {p : List UInt8 × Int} {k : Nat} {W W1 : World} (h : TG w B q z1 p k W) (hg : W.grownBy W1 (some (B + 1))) (hq : q < B) (hB : w.heap.size = B) : IsR W1 q (stT p k).1 (stT p k).2 ∧ w.grownBy W1 (some q) :=
  ⟨h.rd.asideT h.res (by decide) hg (by omega), kb_new h.gr hg (by omega)⟩
set_option maxRecDepth 100000 in
set_option maxHeartbeats 4000000 in
theorem rtagB14 (q : Nat) (p : List UInt8 × Int) (w : World) (h : IsR w q p.1 p.2) (hl : p.1.length ≤ 5000) :
    Calls Try.prog 52 #[.agg #[.pointer (some ⟨q, 0, none⟩)]] w fun e w' => e = .returned (.agg (u8s (tgT p 32))) ∧ IsR w' q (stT p 32).1 (stT p 32).2 ∧ w.grownBy w' (some q) := by
  obtain ⟨z1, hz1⟩ : ∃ z, u8s z32P = z := ⟨_, rfl⟩
  have hz1v : ∀ W : World, (zeroValue 27).run Try.prog W = .ok (.agg z1) W := fun W => by rw [← hz1]; exact zero32Q W
  have HZ1 := Bx.mk hz1
  obtain ⟨B, hB⟩ : ∃ B, w.heap.size = B := ⟨_, rfl⟩
  have K0 := Bx.mk ((((KP.start w B hB).new (.cells #[.pointer (some ⟨q, 0, none⟩)] 67)).new (.cells z1 27)).new (.cells z1 27))
  rw [alloc_sizeP, alloc_sizeP, hB] at K0
  have HqB : Bx (q < B) := Bx.mk (by rw [← hB]; exact h.lt)
  have HR0 : Bx (IsR (((w.alloc (.cells #[.pointer (some ⟨q, 0, none⟩)] 67)).alloc (.cells z1 27)).alloc (.cells z1 27)) q p.1 p.2) := Bx.mk (h.later (by rw [hB]; exact K0.out.below))
  have HL := Bx.mk hl
  have HB := Bx.mk hB
  obtain ⟨tt, htt⟩ : ∃ tt, u8s (tgT p 32) = tt := ⟨_, rfl⟩
  rw [htt]
  have HTT := Bx.mk htt
  clear hz1 hl h htt
  go_enter Try.func52, Try.ntmps52
  go_upto_region 3 with fail
  generalize ((w.alloc (.cells #[.pointer (some ⟨q, 0, none⟩)] 67)).alloc (.cells z1 27)).alloc (.cells z1 27) = w0 at *
  have H0 : Bx (TG w B q z1 p 0 w0) := Bx.mk ⟨K0.out.rows _ (.tail _ (.tail _ (.head _))), K0.out.rows _ (.tail _ (.head _)), by rw [tgT_zero, HZ1.out]; exact K0.out.rows _ (.head _), HR0.out, kb_below _ (by rw [HB.out]; exact K0.out.below), by have := K0.out.lt (x := (B + 1 + 1, _)) (.head _); simp only at this; omega⟩
  clear K0 HR0 hz1v
  go_loopw [5] (fun i wr => ∃ k : Nat, k ≤ 32 ∧ i = .int .i64 (k : Int) ∧ Bx (TG w B q z1 p k wr)) (fun i _ => 32 - (intOf i).toNat)
  case atStart => exact ⟨0, Nat.zero_le _, rfl, H0⟩
  case round =>
    clear H0
    obtain ⟨k, hk, rfl, HI⟩ := hrel
    by_cases hlt : k < 32
    · have hk1 : (k : Int) < 32 := by omega
      have hk0 : (0 : Int) ≤ (k : Int) := by omega
      have hc0 : wr.cell? ⟨B, 0, none⟩ = some (.pointer (some ⟨q, 0, none⟩)) := by rw [cell_of_row _ _ _ _ _ _ HI.out.box]; rfl
      have HN := Bx.mk (rnum_any q 0 (stT p k).1 (stT p k).2 wr HI.out.rd (Nat.le_trans (stT_len p k) HL.out) (by omega))
      go_wp2_with fail
      refine HN.out.mono ?_
      rintro e w3 ⟨rfl, hr3, hg3⟩
      have H3 := Bx.mk (And.intro (HI.out.read hr3 hg3 HqB.out) (show IsR w3 q (stT p (k + 1)).1 (stT p (k + 1)).2 from hr3))
      have hwr : IntKind.u8.wrap (getR (stT p k).1 (stT p k).2 0).1.n = ub (tgB p k) := wrap_byte p k
      generalize (getR (stT p k).1 (stT p k).2 0).1.n = nn at *
      clear hr3 hg3 HN HI hc0
      have hfz : w3.frozen? ⟨B + 1 + 1, k, none⟩ = false := frozen_of_row _ _ _ _ _ H3.out.1.2.2.1
      have hck : w3.cell? ⟨B + 1 + 1, k, none⟩ = some (.int .u8 (ub ((tgT p k).getD k 0))) := by rw [cell_of_row _ _ _ _ _ _ H3.out.1.2.2.1]; exact u8s_get _ _ (by rw [tgT_length]; exact hlt)
      have H4 : Bx (TG w B q z1 p (k + 1) (w3.setCell ⟨B + 1 + 1, k, none⟩ (.int .u8 (ub (tgB p k))))) := Bx.mk (TG.put H3.out.1 H3.out.2 hlt HqB.out HB.out)
      clear H3
      generalize ub (tgB p k) = tb at *
      generalize ub ((tgT p k).getD k 0) = ob at *
      go_wp2
      go_roundw
      case rel => exact ⟨k + 1, by omega, by go_num, H4⟩
      case measure => simp [intOf]; omega
    · obtain rfl : k = 32 := by omega
      have HSz : Bx ((Try.prog.info? 27).map (·.size) = some (u8s (tgT p 32)).size ∧ (u8s (tgT p 32)).size = z1.size) := Bx.mk ⟨by rw [u8s_size, tgT_length]; kernel_rfl, by rw [← HZ1.out, u8s_size, u8s_size, tgT_length]; rfl⟩
      have HTG := HI.out.tag
      have HTGx := Bx.mk HTG
      have HO : Bx (tt.all (·.oneCell') = true) := Bx.mk (by rw [← HTT.out]; exact one_u8s _)
      rw [HTT.out] at HTGx HSz
      clear HTG hlt
      go_wp2_with (first | (refine wpList_load_row rfl 27 _ rfl (B + 1 + 1) (by rfl) _ _ _ _ HTGx.out Try.underlying27 rfl HSz.out.1 ?_) | (refine wpList_store_new rfl 27 _ _ rfl (B + 1) tt z1 _ (by rfl) (by rfl) HI.out.res HSz.out.2 HSz.out.1 HO.out ?_; intro w8 hw8 hr8; have hg8 := Bx.mk (kb_ofP hw8); have HR8 := Bx.mk hr8; clear hw8 hr8))
      have H9 := Bx.mk (HI.out.fin hg8.out HqB.out HB.out)
      refine bodyPost_ret (results_cell_row rfl _ _ (B + 1) _ tt _ _ rfl HR8.out Try.underlying27 rfl HSz.out.1) rfl ?_
      exact ⟨rfl, H9.out⟩
end Go.Proofs.Ytaoekfomffebhaa
