/-
  A packet, there and back.
-/
import Derived.Test.YtaoekfomffebhaaDoorP6
namespace Go.Proofs.YtaoekfomffebhaaDoor
open Go Go.ChangeShapes Go.WideShapes Go.ChangeAt Go.RowKit
theorem list32P {α : Type} (l : List α) (h : l.length = 32) : ∃ x0 x1 x2 x3 x4 x5 x6 x7 x8 x9 x10 x11 x12 x13 x14 x15 x16 x17 x18 x19 x20 x21 x22 x23 x24 x25 x26 x27 x28 x29 x30 x31 : α, l = [x0, x1, x2, x3, x4, x5, x6, x7, x8, x9, x10, x11, x12, x13, x14, x15, x16, x17, x18, x19, x20, x21, x22, x23, x24, x25, x26, x27, x28, x29, x30, x31] := by
  match l, h with
  | x0 :: x1 :: x2 :: x3 :: x4 :: x5 :: x6 :: x7 :: x8 :: x9 :: x10 :: x11 :: x12 :: x13 :: x14 :: x15 :: x16 :: x17 :: x18 :: x19 :: x20 :: x21 :: x22 :: x23 :: x24 :: x25 :: x26 :: x27 :: x28 :: x29 :: x30 :: x31 :: [], _ => exact ⟨_, _, _, _, _, _, _, _, _, _, _, _, _, _, _, _, _, _, _, _, _, _, _, _, _, _, _, _, _, _, _, _, rfl⟩
set_option maxRecDepth 100000 in
theorem pk_rawW (k c1 c2 c3 c4 o n1 n2 : Int) (a : Option Addr) (n c : Nat) (x0 x1 x2 x3 x4 x5 x6 x7 x8 x9 x10 x11 x12 x13 x14 x15 x16 x17 x18 x19 x20 x21 x22 x23 x24 x25 x26 x27 x28 x29 x30 x31 : UInt8) : Tryd.prog.built 33 [(0, .int .i64 k), (1, .agg #[.int .i64 c1, .int .i64 c2, .int .i64 c3, .int .i64 c4]), (2, .int .i64 o), (3, .agg #[.int .i64 n1, .int .i64 n2]), (4, .slice a n c), (5, .agg #[.int .u8 (ub x0), .int .u8 (ub x1), .int .u8 (ub x2), .int .u8 (ub x3), .int .u8 (ub x4), .int .u8 (ub x5), .int .u8 (ub x6), .int .u8 (ub x7), .int .u8 (ub x8), .int .u8 (ub x9), .int .u8 (ub x10), .int .u8 (ub x11), .int .u8 (ub x12), .int .u8 (ub x13), .int .u8 (ub x14), .int .u8 (ub x15), .int .u8 (ub x16), .int .u8 (ub x17), .int .u8 (ub x18), .int .u8 (ub x19), .int .u8 (ub x20), .int .u8 (ub x21), .int .u8 (ub x22), .int .u8 (ub x23), .int .u8 (ub x24), .int .u8 (ub x25), .int .u8 (ub x26), .int .u8 (ub x27), .int .u8 (ub x28), .int .u8 (ub x29), .int .u8 (ub x30), .int .u8 (ub x31)])] = some #[.int .i64 k, .int .i64 c1, .int .i64 c2, .int .i64 c3, .int .i64 c4, .int .i64 o, .int .i64 n1, .int .i64 n2, .slice a n c, .int .u8 (ub x0), .int .u8 (ub x1), .int .u8 (ub x2), .int .u8 (ub x3), .int .u8 (ub x4), .int .u8 (ub x5), .int .u8 (ub x6), .int .u8 (ub x7), .int .u8 (ub x8), .int .u8 (ub x9), .int .u8 (ub x10), .int .u8 (ub x11), .int .u8 (ub x12), .int .u8 (ub x13), .int .u8 (ub x14), .int .u8 (ub x15), .int .u8 (ub x16), .int .u8 (ub x17), .int .u8 (ub x18), .int .u8 (ub x19), .int .u8 (ub x20), .int .u8 (ub x21), .int .u8 (ub x22), .int .u8 (ub x23), .int .u8 (ub x24), .int .u8 (ub x25), .int .u8 (ub x26), .int .u8 (ub x27), .int .u8 (ub x28), .int .u8 (ub x29), .int .u8 (ub x30), .int .u8 (ub x31)] := by kernel_rfl
theorem pk_builtW (x : Pk) (a : Option Addr) (n c : Nat) (h : x.t.length = 32) : Tryd.prog.built 33 [(0, .int .i64 x.k), (1, clV x.c), (2, .int .i64 x.to), (3, nv x.n), (4, .slice a n c), (5, .agg (u8s x.t))] = some (pkC x (.slice a n c)) := by
  obtain ⟨k, ⟨c1, c2, c3, c4⟩, o, ⟨n1, n2⟩, b, l⟩ := x
  obtain ⟨x0, x1, x2, x3, x4, x5, x6, x7, x8, x9, x10, x11, x12, x13, x14, x15, x16, x17, x18, x19, x20, x21, x22, x23, x24, x25, x26, x27, x28, x29, x30, x31, hl⟩ := list32P l h
  subst hl
  exact pk_rawW k c1 c2 c3 c4 o n1 n2 a n c x0 x1 x2 x3 x4 x5 x6 x7 x8 x9 x10 x11 x12 x13 x14 x15 x16 x17 x18 x19 x20 x21 x22 x23 x24 x25 x26 x27 x28 x29 x30 x31
theorem pk_zeroW (W : World) : (zeroValue 33).run Tryd.prog W = .ok (.agg (pkC Pk.zero (.slice none 0 0))) W := by kernel_rfl
theorem pk_noneW : Tryd.prog.built 33 [] = some (pkC Pk.zero (.slice none 0 0)) := by kernel_rfl
set_option maxRecDepth 100000 in
theorem pk_rawR (k c1 c2 c3 c4 o n1 n2 : Int) (a : Option Addr) (n c : Nat) (x0 x1 x2 x3 x4 x5 x6 x7 x8 x9 x10 x11 x12 x13 x14 x15 x16 x17 x18 x19 x20 x21 x22 x23 x24 x25 x26 x27 x28 x29 x30 x31 : UInt8) : Tryd.prog.built 29 [(0, .int .i64 k), (1, .agg #[.int .i64 c1, .int .i64 c2, .int .i64 c3, .int .i64 c4]), (2, .int .i64 o), (3, .agg #[.int .i64 n1, .int .i64 n2]), (4, .slice a n c), (5, .agg #[.int .u8 (ub x0), .int .u8 (ub x1), .int .u8 (ub x2), .int .u8 (ub x3), .int .u8 (ub x4), .int .u8 (ub x5), .int .u8 (ub x6), .int .u8 (ub x7), .int .u8 (ub x8), .int .u8 (ub x9), .int .u8 (ub x10), .int .u8 (ub x11), .int .u8 (ub x12), .int .u8 (ub x13), .int .u8 (ub x14), .int .u8 (ub x15), .int .u8 (ub x16), .int .u8 (ub x17), .int .u8 (ub x18), .int .u8 (ub x19), .int .u8 (ub x20), .int .u8 (ub x21), .int .u8 (ub x22), .int .u8 (ub x23), .int .u8 (ub x24), .int .u8 (ub x25), .int .u8 (ub x26), .int .u8 (ub x27), .int .u8 (ub x28), .int .u8 (ub x29), .int .u8 (ub x30), .int .u8 (ub x31)])] = some #[.int .i64 k, .int .i64 c1, .int .i64 c2, .int .i64 c3, .int .i64 c4, .int .i64 o, .int .i64 n1, .int .i64 n2, .slice a n c, .int .u8 (ub x0), .int .u8 (ub x1), .int .u8 (ub x2), .int .u8 (ub x3), .int .u8 (ub x4), .int .u8 (ub x5), .int .u8 (ub x6), .int .u8 (ub x7), .int .u8 (ub x8), .int .u8 (ub x9), .int .u8 (ub x10), .int .u8 (ub x11), .int .u8 (ub x12), .int .u8 (ub x13), .int .u8 (ub x14), .int .u8 (ub x15), .int .u8 (ub x16), .int .u8 (ub x17), .int .u8 (ub x18), .int .u8 (ub x19), .int .u8 (ub x20), .int .u8 (ub x21), .int .u8 (ub x22), .int .u8 (ub x23), .int .u8 (ub x24), .int .u8 (ub x25), .int .u8 (ub x26), .int .u8 (ub x27), .int .u8 (ub x28), .int .u8 (ub x29), .int .u8 (ub x30), .int .u8 (ub x31)] := by kernel_rfl
theorem pk_builtR (x : Pk) (a : Option Addr) (n c : Nat) (h : x.t.length = 32) : Tryd.prog.built 29 [(0, .int .i64 x.k), (1, clV x.c), (2, .int .i64 x.to), (3, nv x.n), (4, .slice a n c), (5, .agg (u8s x.t))] = some (pkC x (.slice a n c)) := by
  obtain ⟨k, ⟨c1, c2, c3, c4⟩, o, ⟨n1, n2⟩, b, l⟩ := x
  obtain ⟨x0, x1, x2, x3, x4, x5, x6, x7, x8, x9, x10, x11, x12, x13, x14, x15, x16, x17, x18, x19, x20, x21, x22, x23, x24, x25, x26, x27, x28, x29, x30, x31, hl⟩ := list32P l h
  subst hl
  exact pk_rawR k c1 c2 c3 c4 o n1 n2 a n c x0 x1 x2 x3 x4 x5 x6 x7 x8 x9 x10 x11 x12 x13 x14 x15 x16 x17 x18 x19 x20 x21 x22 x23 x24 x25 x26 x27 x28 x29 x30 x31
theorem pk_zeroR (W : World) : (zeroValue 29).run Tryd.prog W = .ok (.agg (pkC Pk.zero (.slice none 0 0))) W := by kernel_rfl
set_option maxRecDepth 100000 in
set_option maxHeartbeats 4000000 in
theorem of14 (x : Pk) (v : Value) (w : World) (ht : x.t.length = 32) (hb : Bytes w v x.b) : Calls Tryd.prog 7 #[pkV x v] w fun e w' => e = .returned (pkV x v) ∧ Below w.heap.size w w' := by
  obtain ⟨a0, c0, rfl, -, -⟩ := bytes_form hb
  clear hb
  obtain ⟨zc, hzc⟩ : ∃ zc, pkC Pk.zero (.slice none 0 0) = zc := ⟨_, rfl⟩
  have hzv : ∀ W : World, (zeroValue 29).run Tryd.prog W = .ok (.agg zc) W := fun W => by rw [← hzc]; exact pk_zeroR W
  obtain ⟨B, hB⟩ : ∃ B, w.heap.size = B := ⟨_, rfl⟩
  have H0 := Bx.mk (((KP.start w B hB).new (.cells (pkC x (.slice a0 x.b.length c0)) 33)).new (.cells zc 29))
  rw [alloc_sizeP, hB] at H0
  have HI := Bx.mk (And.intro (pk_infoR x (.slice a0 x.b.length c0) ht) (And.intro (pkC_one x a0 x.b.length c0) (show (pkC x (.slice a0 x.b.length c0)).size = zc.size by rw [← hzc, pkC_size _ _ ht, pkC_size _ _ rfl])))
  have HBd := Bx.mk (pk_builtR x a0 x.b.length c0 ht)
  have HU := Bx.mk (u8_info x.t ht)
  obtain ⟨tk, htk⟩ : ∃ tk, pkC x (.slice a0 x.b.length c0) = tk := ⟨_, rfl⟩
  have HA : Bx (∀ W, KP w B [(B + 1, .cells zc 29), (B, .cells tk 33)] W → PkAt W B x (.slice a0 x.b.length c0)) := Bx.mk fun W h => by
    have := h.rows _ (.tail _ (.head _))
    rw [← htk] at this
    exact pk_at this
  have HA9 : Bx (∀ W, KP w B [(B + 1, .cells tk 29), (B, .cells tk 33)] W → PkAt W B x (.slice a0 x.b.length c0)) := Bx.mk fun W h => by
    have := h.rows _ (.tail _ (.head _))
    rw [← htk] at this
    exact pk_at this
  unfold pkV
  rw [htk] at H0 HI HBd ⊢
  rw [hB]
  clear hzc htk ht
  go_enter Tryd.func7, Tryd.ntmps7
  go_upto_region 1 with fail
  generalize (w.alloc (.cells tk 33)).alloc (.cells zc 29) = w0 at *
  have R0 := Bx.mk (H0.out.later (Below.refl _ _).drew)
  clear H0 hzv
  refine wp_region_noPanic ?_
  refine wp_region_held_drew (S := fun W => PkAt W B x (.slice a0 x.b.length c0)) (by kernel_rfl) (HA.out _ R0.out) (fun hHeld => ?_)
  generalize w0.drew = W0 at *
  refine takeL 0 (v := ?_) rfl (by kernel_rfl) (by kernel_rfl) (by kernel_rfl) (fun _ _ _ h => h) (Or.inl ⟨by rfl, ?_⟩) hHeld ?_
  rotate_left 1
  · (intro w hSw; go_simp; try with_reducible rfl)
  try simp only [Act.put, List.setIfInBounds_toArray, List.set_cons_zero, List.set_cons_succ]
  refine takeL 1 (v := ?_) rfl (by kernel_rfl) (by kernel_rfl) (by kernel_rfl) (fun _ _ _ h => h) (Or.inl ⟨by rfl, ?_⟩) hHeld ?_
  rotate_left 1
  · (intro w hSw; have q := hSw.k; clear hSw; go_simp; try with_reducible rfl)
  try simp only [Act.put, List.setIfInBounds_toArray, List.set_cons_zero, List.set_cons_succ]
  refine takeL 2 (v := ?_) rfl (by kernel_rfl) (by kernel_rfl) (by kernel_rfl) (fun _ _ _ h => h) (Or.inl ⟨by rfl, ?_⟩) hHeld ?_
  rotate_left 1
  · (intro w hSw; go_simp; try with_reducible rfl)
  try simp only [Act.put, List.setIfInBounds_toArray, List.set_cons_zero, List.set_cons_succ]
  refine takeL 3 rfl (by kernel_rfl) (by kernel_rfl) (by kernel_rfl) (fun _ _ _ h => h) (yieldsIf_load_mid (by rfl) _ _ rfl _ _ rfl _ _ (fun w hSw => hSw.c) Tryd.underlying30 rfl (by kernel_rfl)) hHeld ?_
  try simp only [Act.put, List.setIfInBounds_toArray, List.set_cons_zero, List.set_cons_succ]
  refine takeL 5 (v := ?_) rfl (by kernel_rfl) (by kernel_rfl) (by kernel_rfl) (fun _ _ _ h => h) (Or.inl ⟨by rfl, ?_⟩) hHeld ?_
  rotate_left 1
  · (intro w hSw; go_simp; try with_reducible rfl)
  try simp only [Act.put, List.setIfInBounds_toArray, List.set_cons_zero, List.set_cons_succ]
  refine takeL 6 (v := ?_) rfl (by kernel_rfl) (by kernel_rfl) (by kernel_rfl) (fun _ _ _ h => h) (Or.inl ⟨by rfl, ?_⟩) hHeld ?_
  rotate_left 1
  · (intro w hSw; have q := hSw.to; clear hSw; go_simp; try with_reducible rfl)
  try simp only [Act.put, List.setIfInBounds_toArray, List.set_cons_zero, List.set_cons_succ]
  refine takeL 7 (v := ?_) rfl (by kernel_rfl) (by kernel_rfl) (by kernel_rfl) (fun _ _ _ h => h) (Or.inl ⟨by rfl, ?_⟩) hHeld ?_
  rotate_left 1
  · (intro w hSw; go_simp; try with_reducible rfl)
  try simp only [Act.put, List.setIfInBounds_toArray, List.set_cons_zero, List.set_cons_succ]
  refine takeL 8 rfl (by kernel_rfl) (by kernel_rfl) (by kernel_rfl) (fun _ _ _ h => h) (yieldsIf_load_mid (by rfl) _ _ rfl _ _ rfl _ _ (fun w hSw => hSw.n) Tryd.underlying31 rfl (by kernel_rfl)) hHeld ?_
  try simp only [Act.put, List.setIfInBounds_toArray, List.set_cons_zero, List.set_cons_succ]
  refine takeL 10 (v := ?_) rfl (by kernel_rfl) (by kernel_rfl) (by kernel_rfl) (fun _ _ _ h => h) (Or.inl ⟨by rfl, ?_⟩) hHeld ?_
  rotate_left 1
  · (intro w hSw; go_simp; try with_reducible rfl)
  try simp only [Act.put, List.setIfInBounds_toArray, List.set_cons_zero, List.set_cons_succ]
  refine takeL 11 (v := ?_) rfl (by kernel_rfl) (by kernel_rfl) (by kernel_rfl) (fun _ _ _ h => h) (Or.inl ⟨by rfl, ?_⟩) hHeld ?_
  rotate_left 1
  · (intro w hSw; have q := hSw.b; clear hSw; go_simp; try with_reducible rfl)
  try simp only [Act.put, List.setIfInBounds_toArray, List.set_cons_zero, List.set_cons_succ]
  refine takeL 12 (v := ?_) rfl (by kernel_rfl) (by kernel_rfl) (by kernel_rfl) (fun _ _ _ h => h) (Or.inl ⟨by rfl, ?_⟩) hHeld ?_
  rotate_left 1
  · (intro w hSw; go_simp; try with_reducible rfl)
  try simp only [Act.put, List.setIfInBounds_toArray, List.set_cons_zero, List.set_cons_succ]
  refine takeL 13 rfl (by kernel_rfl) (by kernel_rfl) (by kernel_rfl) (fun _ _ _ h => h) (yieldsIf_load_mid (by rfl) _ _ rfl _ _ rfl _ _ (fun w hSw => hSw.t) Tryd.underlying27 rfl HU.out) hHeld ?_
  try simp only [Act.put, List.setIfInBounds_toArray, List.set_cons_zero, List.set_cons_succ]
  refine stepL 4 (by kernel_rfl) rfl (fun K hK => ?_)
  go_simp
  refine (cof_any x.c W0).mono ?_
  rintro e W1 ⟨rfl, hb⟩
  show K _ _
  have R1 := Bx.mk (R0.out.later hb)
  clear hb R0
  refine hK.out _ _ (HA.out _ R1.out) (fun hHeld => ?_)
  clear hK K
  try simp only [Act.put, List.setIfInBounds_toArray, List.set_cons_zero, List.set_cons_succ]
  refine stepL 9 (by kernel_rfl) rfl (fun K hK => ?_)
  go_simp
  refine (of12_any x.n W1).mono ?_
  rintro e W2 ⟨rfl, hb⟩
  show K _ _
  have R2 := Bx.mk (R1.out.later hb)
  clear hb R1
  refine hK.out _ _ (HA.out _ R2.out) (fun hHeld => ?_)
  clear hK K
  try simp only [Act.put, List.setIfInBounds_toArray, List.set_cons_zero, List.set_cons_succ]
  refine takeL 14 rfl (by kernel_rfl) (by kernel_rfl) (by kernel_rfl) (fun _ _ _ h => h) (yieldsIf_buildP (by rfl) 29 _ rfl tk (by simp only [List.map_toArray, List.map_cons, List.map_nil]; exact HBd.out)) hHeld ?_
  try simp only [Act.put, List.setIfInBounds_toArray, List.set_cons_zero, List.set_cons_succ]
  refine stepL 15 (by kernel_rfl) rfl (fun K hK => ?_)
  refine step_st rfl 29 _ _ rfl (B + 1) tk (by rfl) (by rfl) (there_row (R2.out.rows _ (.head _)) 0 _ (by rw [HI.out.2.2]; omega)) HI.out.1 HI.out.2.1 ?_
  have hr2 := heap_setCells_all (ds := tk) (R2.out.rows _ (.head _)) HI.out.2.2
  have R9 := Bx.mk (R2.out.set (kb_setCells tk.toList 0 W2) hr2 (by omega) (by intro y hy; simp at hy; subst hy; simp only; omega))
  have HQ : Bx (PkAt (W2.setCells (B + 1) 0 tk.toList) B x (.slice a0 x.b.length c0)) := Bx.mk (HA9.out _ R9.out)
  clear hr2 R2
  refine hK.out _ _ HQ.out (fun hHeld => ?_)
  clear hK K
  try simp only [Act.put, List.setIfInBounds_toArray, List.set_cons_zero, List.set_cons_succ]
  refine wpAnyH_done (by kernel_rfl) ?_ _
  refine NoPanic.normal ?_
  clear hHeld
  try go_wp2
  refine bodyPost_ret (results_cell_row rfl _ _ (B + 1) _ tk _ _ rfl (R9.out.rows _ (.head _)) Tryd.underlying29 rfl HI.out.1) rfl ?_
  exact ⟨rfl, R9.out.below⟩
/-- Blocks stay where a row of bytes is appended to that is none of them. -/
theorem KP.later9 {w : World} {B base : Nat} {rs : List (Nat × Obj)} {W W1 : World} {v : Value} {l : List UInt8} (h : KP w B rs W) (ho : OwnB W base v l) (hg : W.grownBy W1 v.ownBlock) (hn : ∀ x ∈ rs, x.1 < base) (hb : B ≤ base := by omega) : KP w B rs W1 := by
  have hz : ∀ i, i < base → i < W.heap.size → W1.heap[i]? = W.heap[i]? := fun i hi hs => hg.block i hs (fun e => by have := (ho.lt i e.symm).2; omega)
  refine ⟨fun x hx => by rw [hz _ (hn x hx) (h.lt hx)]; exact h.rows x hx, h.below.trans ⟨hg.os, hg.tape, hg.output, hg.size, fun i hi => ?_⟩, Nat.le_trans h.le hg.size⟩
  exact hz i (by omega) (by have := h.le; omega)
/-- A packet whose body is cut. -/
def cutP (x : Pk) : Pk := { x with b := x.b.take 520 }
set_option maxRecDepth 100000 in
set_option maxHeartbeats 4000000 in
theorem to14 (x : Pk) (v : Value) (w : World) (ht : x.t.length = 32) (hb : Bytes w v x.b) (hl : x.b.length ≤ 9223372036854775807) : Calls Tryd.prog 6 #[pkV x v] w fun e w' => ∃ u, e = .returned (pkV (cutP x) u) ∧ Bytes w' u (cutP x).b ∧ Below w.heap.size w w' := by
  obtain ⟨a0, c0, rfl, hcap, hnone⟩ := bytes_form hb
  obtain ⟨zc, hzc⟩ : ∃ zc, pkC Pk.zero (.slice none 0 0) = zc := ⟨_, rfl⟩
  have hzv : ∀ W : World, (zeroValue 33).run Tryd.prog W = .ok (.agg zc) W := fun W => by rw [← hzc]; exact pk_zeroW W
  obtain ⟨B, hB⟩ : ∃ B, w.heap.size = B := ⟨_, rfl⟩
  obtain ⟨l0, hl0⟩ : ∃ l, x.b.length = l := ⟨_, rfl⟩
  obtain ⟨m, hm⟩ : ∃ m, m = min l0 520 := ⟨_, rfl⟩
  have H0 := Bx.mk (((KP.start w B hB).new (.cells (pkC x (.slice a0 x.b.length c0)) 29)).new (.cells zc 33))
  rw [alloc_sizeP, hB] at H0
  have HTk : Bx (∀ W, Below B w W → Bytes W (.slice a0 m c0) (x.b.take m)) := Bx.mk fun W h => (hb.old hB h).take m (by omega)
  have HM : Bx ((cutP x).b = x.b.take m ∧ (x.b.take m).length = m ∧ m ≤ 520) := Bx.mk ⟨by show x.b.take 520 = _; rw [hm, ← hl0, List.take_eq_take_iff]; omega, by rw [List.length_take]; omega, by omega⟩
  have HZ := Bx.mk (show zc.size = 41 by rw [← hzc, pkC_size _ _ rfl])
  have HU := Bx.mk (u8_info x.t ht)
  have HT := Bx.mk ht
  have HBd : Bx (∀ a n c, Tryd.prog.built 33 [(0, .int .i64 x.k), (1, clV x.c), (2, .int .i64 x.to), (3, nv x.n), (4, .slice a n c), (5, .agg (u8s x.t))] = some (pkC (cutP x) (.slice a n c))) := Bx.mk fun a n c => pk_builtW x a n c ht
  rw [hl0] at H0 hcap hl ⊢
  have s1 := fun W => cut_bytes a0 l0 c0 m (by omega) hcap hnone W
  have hmin : min (l0 : Int) 520 = (m : Int) := by omega
  have hmin2 : (if (520 : Int) < (l0 : Int) then (520 : Int) else (l0 : Int)) = (m : Int) := by split <;> omega
  obtain ⟨tk, htk⟩ : ∃ tk, pkC x (.slice a0 l0 c0) = tk := ⟨_, rfl⟩
  have HA : Bx (∀ W Z, KP w B [(B + 1, Z), (B, .cells tk 29)] W → PkAt W B x (.slice a0 l0 c0)) := Bx.mk fun W Z h => by
    have := h.rows _ (.tail _ (.head _))
    rw [← htk] at this
    exact pk_at this
  unfold pkV
  rw [htk] at H0 ⊢
  rw [hB]
  have hn1 : (l0 : Int) ≤ 9223372036854775807 := by omega
  clear hzc htk ht hb hl0 hm hcap hnone hl
  go_enter Tryd.func6, Tryd.ntmps6
  go_upto_region 1 with fail
  generalize (w.alloc (.cells tk 29)).alloc (.cells zc 33) = w0 at *
  have R0 := Bx.mk (And.intro (H0.out.later (Below.refl _ _).drew) True.intro)
  clear H0 hzv
  refine wp_region_noPanic ?_
  refine wp_region_held_drew (S := fun W => PkAt W B x (.slice a0 l0 c0)) (by kernel_rfl) (HA.out _ _ R0.out.1) (fun hHeld => ?_)
  generalize w0.drew = W0 at *
  refine takeL 0 (v := ?_) rfl (by kernel_rfl) (by kernel_rfl) (by kernel_rfl) (fun _ _ _ h => h) (Or.inl ⟨by rfl, ?_⟩) hHeld ?_
  rotate_left 1
  · (intro w hSw; go_simp; try with_reducible rfl)
  try simp only [Act.put, List.setIfInBounds_toArray, List.set_cons_zero, List.set_cons_succ]
  refine takeL 1 (v := ?_) rfl (by kernel_rfl) (by kernel_rfl) (by kernel_rfl) (fun _ _ _ h => h) (Or.inl ⟨by rfl, ?_⟩) hHeld ?_
  rotate_left 1
  · (intro w hSw; have q := hSw.k; clear hSw; go_simp; try with_reducible rfl)
  try simp only [Act.put, List.setIfInBounds_toArray, List.set_cons_zero, List.set_cons_succ]
  refine takeL 2 (v := ?_) rfl (by kernel_rfl) (by kernel_rfl) (by kernel_rfl) (fun _ _ _ h => h) (Or.inl ⟨by rfl, ?_⟩) hHeld ?_
  rotate_left 1
  · (intro w hSw; go_simp; try with_reducible rfl)
  try simp only [Act.put, List.setIfInBounds_toArray, List.set_cons_zero, List.set_cons_succ]
  refine takeL 3 rfl (by kernel_rfl) (by kernel_rfl) (by kernel_rfl) (fun _ _ _ h => h) (yieldsIf_load_mid (by rfl) _ _ rfl _ _ rfl _ _ (fun w hSw => hSw.c) Tryd.underlying23 rfl (by kernel_rfl)) hHeld ?_
  try simp only [Act.put, List.setIfInBounds_toArray, List.set_cons_zero, List.set_cons_succ]
  refine takeL 5 (v := ?_) rfl (by kernel_rfl) (by kernel_rfl) (by kernel_rfl) (fun _ _ _ h => h) (Or.inl ⟨by rfl, ?_⟩) hHeld ?_
  rotate_left 1
  · (intro w hSw; go_simp; try with_reducible rfl)
  try simp only [Act.put, List.setIfInBounds_toArray, List.set_cons_zero, List.set_cons_succ]
  refine takeL 6 (v := ?_) rfl (by kernel_rfl) (by kernel_rfl) (by kernel_rfl) (fun _ _ _ h => h) (Or.inl ⟨by rfl, ?_⟩) hHeld ?_
  rotate_left 1
  · (intro w hSw; have q := hSw.to; clear hSw; go_simp; try with_reducible rfl)
  try simp only [Act.put, List.setIfInBounds_toArray, List.set_cons_zero, List.set_cons_succ]
  refine takeL 7 (v := ?_) rfl (by kernel_rfl) (by kernel_rfl) (by kernel_rfl) (fun _ _ _ h => h) (Or.inl ⟨by rfl, ?_⟩) hHeld ?_
  rotate_left 1
  · (intro w hSw; go_simp; try with_reducible rfl)
  try simp only [Act.put, List.setIfInBounds_toArray, List.set_cons_zero, List.set_cons_succ]
  refine takeL 8 rfl (by kernel_rfl) (by kernel_rfl) (by kernel_rfl) (fun _ _ _ h => h) (yieldsIf_load_mid (by rfl) _ _ rfl _ _ rfl _ _ (fun w hSw => hSw.n) Tryd.underlying25 rfl (by kernel_rfl)) hHeld ?_
  try simp only [Act.put, List.setIfInBounds_toArray, List.set_cons_zero, List.set_cons_succ]
  refine takeL 11 (v := ?_) rfl (by kernel_rfl) (by kernel_rfl) (by kernel_rfl) (fun _ _ _ h => h) (Or.inl ⟨by rfl, ?_⟩) hHeld ?_
  rotate_left 1
  · (intro w hSw; go_simp; try with_reducible rfl)
  try simp only [Act.put, List.setIfInBounds_toArray, List.set_cons_zero, List.set_cons_succ]
  refine takeL 12 (v := ?_) rfl (by kernel_rfl) (by kernel_rfl) (by kernel_rfl) (fun _ _ _ h => h) (Or.inl ⟨by rfl, ?_⟩) hHeld ?_
  rotate_left 1
  · (intro w hSw; have q := hSw.b; clear hSw; go_simp; try with_reducible rfl)
  try simp only [Act.put, List.setIfInBounds_toArray, List.set_cons_zero, List.set_cons_succ]
  refine takeL 13 (v := ?_) rfl (by kernel_rfl) (by kernel_rfl) (by kernel_rfl) (fun _ _ _ h => h) (Or.inl ⟨by rfl, ?_⟩) hHeld ?_
  rotate_left 1
  · (intro w hSw; go_simp; try with_reducible rfl)
  try simp only [Act.put, List.setIfInBounds_toArray, List.set_cons_zero, List.set_cons_succ]
  refine takeL 14 (v := ?_) rfl (by kernel_rfl) (by kernel_rfl) (by kernel_rfl) (fun _ _ _ h => h) (Or.inl ⟨by rfl, ?_⟩) hHeld ?_
  rotate_left 1
  · (intro w hSw; have q := hSw.b; clear hSw; go_simp; try with_reducible rfl)
  try simp only [Act.put, List.setIfInBounds_toArray, List.set_cons_zero, List.set_cons_succ]
  refine takeL 15 (v := ?_) rfl (by kernel_rfl) (by kernel_rfl) (by kernel_rfl) (fun _ _ _ h => h) (Or.inl ⟨by rfl, ?_⟩) hHeld ?_
  rotate_left 1
  · (intro w hSw; go_simp; try with_reducible rfl)
  try simp only [Act.put, List.setIfInBounds_toArray, List.set_cons_zero, List.set_cons_succ]
  refine takeL 16 (v := ?_) rfl (by kernel_rfl) (by kernel_rfl) (by kernel_rfl) (fun _ _ _ h => h) (Or.inl ⟨by rfl, ?_⟩) hHeld ?_
  rotate_left 1
  · (intro w hSw; go_simp; try with_reducible rfl)
  try simp only [Act.put, List.setIfInBounds_toArray, List.set_cons_zero, List.set_cons_succ]
  refine takeL 17 (v := ?_) rfl (by kernel_rfl) (by kernel_rfl) (by kernel_rfl) (fun _ _ _ h => h) (Or.inl ⟨by rfl, ?_⟩) hHeld ?_
  rotate_left 1
  · (intro w hSw; go_simp; try with_reducible rfl)
  try simp only [Act.put, List.setIfInBounds_toArray, List.set_cons_zero, List.set_cons_succ]
  refine takeL 19 (v := ?_) rfl (by kernel_rfl) (by kernel_rfl) (by kernel_rfl) (fun _ _ _ h => h) (Or.inl ⟨by rfl, ?_⟩) hHeld ?_
  rotate_left 1
  · (intro w hSw; go_simp; try with_reducible rfl)
  try simp only [Act.put, List.setIfInBounds_toArray, List.set_cons_zero, List.set_cons_succ]
  refine takeL 20 rfl (by kernel_rfl) (by kernel_rfl) (by kernel_rfl) (fun _ _ _ h => h) (yieldsIf_load_mid (by rfl) _ _ rfl _ _ rfl _ _ (fun w hSw => hSw.t) Tryd.underlying27 rfl HU.out) hHeld ?_
  try simp only [Act.put, List.setIfInBounds_toArray, List.set_cons_zero, List.set_cons_succ]
  refine wpAnyH_ready (rs := [4, 10]) (by kernel_rfl) (by simp) ?_
  refine consM 4 rfl (fun K hK => ?_) (consM 10 rfl (fun K hK => ?_) AllReadyH.nil)
  · go_simp
    refine (cto_any x.c W0).mono ?_
    rintro e W1 ⟨rfl, hb⟩
    show K _ _
    have R1 := Bx.mk (And.intro (R0.out.1.later hb) True.intro)
    clear hb R0
    refine hK.out _ _ (HA.out _ _ R1.out.1) (fun hHeld => ?_)
    clear hK K
    try simp only [Act.put, List.setIfInBounds_toArray, List.set_cons_zero, List.set_cons_succ]
    refine wpAnyH_ready (rs := [9, 10]) (by kernel_rfl) (by simp) ?_
    refine consM 9 rfl (fun K hK => ?_) (consM 10 rfl (fun K hK => ?_) AllReadyH.nil)
    · go_simp
      refine (to12_any x.n W1).mono ?_
      rintro e W2 ⟨rfl, hb⟩
      show K _ _
      have R2 := Bx.mk (And.intro (R1.out.1.later hb) True.intro)
      clear hb R1
      refine hK.out _ _ (HA.out _ _ R2.out.1) (fun hHeld => ?_)
      clear hK K
      try simp only [Act.put, List.setIfInBounds_toArray, List.set_cons_zero, List.set_cons_succ]
      refine stepL 10 (by kernel_rfl) rfl (fun K hK => ?_)
      go_simp
      show K _ _
      have R3 := Bx.mk (And.intro (R2.out.1.alloc (.cells #[] 5)) (own_empty W2 (B + 2) (by have := R2.out.1.lt (.head _); simp only at this; omega)))
      clear R2
      refine hK.out _ _ (HA.out _ _ R3.out.1) (fun hHeld => ?_)
      clear hK K
      try simp only [Act.put, List.setIfInBounds_toArray, List.set_cons_zero, List.set_cons_succ]
      generalize W2.alloc (.cells #[] 5) = W3 at *
      generalize W2.heap.size = G at *
      refine stepL 18 (by kernel_rfl) rfl (fun K hK => ?_)
      refine step_ap rfl _ _ rfl (B + 2) _ _ (by rfl) R3.out.2 _ _ (by rfl) (HTk.out W3 R3.out.1.below) (by rw [HM.out.2.1]; simp; have := HM.out.2.2; omega) (by have := R3.out.1.lt (.head _); simp only at this; omega) ?_
      intro u9 W4 ho hg _
      have R4 := Bx.mk (And.intro (R3.out.1.later9 R3.out.2 hg (by intro y hy; simp at hy; rcases hy with rfl | rfl <;> (simp only; omega))) ho)
      obtain ⟨a9, k9, hv9⟩ := own_form ho
      rw [List.nil_append, HM.out.2.1] at hv9
      rw [List.nil_append] at R4
      subst hv9
      clear ho hg R3
      have HI := Bx.mk (And.intro (pk_infoW (cutP x) (.slice a9 m k9) HT.out) (And.intro (pkC_one (cutP x) a9 m k9) (show (pkC (cutP x) (.slice a9 m k9)).size = zc.size by rw [HZ.out, pkC_size (cutP x) _ HT.out])))
      have HB9 := Bx.mk (HBd.out a9 m k9)
      obtain ⟨tm, htm⟩ : ∃ tm, pkC (cutP x) (.slice a9 m k9) = tm := ⟨_, rfl⟩
      rw [htm] at HI HB9
      have HTM := Bx.mk htm
      clear htm
      refine hK.out _ _ (HA.out _ _ R4.out.1) (fun hHeld => ?_)
      clear hK K
      try simp only [Act.put, List.setIfInBounds_toArray, List.set_cons_zero, List.set_cons_succ]
      refine takeL 21 rfl (by kernel_rfl) (by kernel_rfl) (by kernel_rfl) (fun _ _ _ h => h) (yieldsIf_buildP (by rfl) 33 _ rfl tm (by simp only [List.map_toArray, List.map_cons, List.map_nil]; exact HB9.out)) hHeld ?_
      try simp only [Act.put, List.setIfInBounds_toArray, List.set_cons_zero, List.set_cons_succ]
      refine stepL 22 (by kernel_rfl) rfl (fun K hK => ?_)
      refine step_st rfl 33 _ _ rfl (B + 1) tm (by rfl) (by rfl) (there_row (R4.out.1.rows _ (.head _)) 0 _ (by rw [HI.out.2.2]; omega)) HI.out.1 HI.out.2.1 ?_
      have hr2 := heap_setCells_all (ds := tm) (R4.out.1.rows _ (.head _)) HI.out.2.2
      have R9 := Bx.mk (And.intro (R4.out.1.set (kb_setCells (b := B + 1) tm.toList 0 W4) hr2 (by omega) (by intro y hy; simp at hy; subst hy; simp only; omega)) (R4.out.2.kept (kb_setCells (b := B + 1) tm.toList 0 W4) (fun e => by have := (R4.out.2.lt _ e).2; omega)))
      clear hr2 R4
      refine hK.out _ _ (HA.out _ _ R9.out.1) (fun hHeld => ?_)
      clear hK K
      try simp only [Act.put, List.setIfInBounds_toArray, List.set_cons_zero, List.set_cons_succ]
      refine wpAnyH_done (by kernel_rfl) ?_ _
      refine NoPanic.normal ?_
      clear hHeld
      try go_wp2
      refine bodyPost_ret (results_cell_row rfl _ _ (B + 1) _ tm _ _ rfl (R9.out.1.rows _ (.head _)) Tryd.underlying33 rfl HI.out.1) rfl ?_
      exact ⟨_, by rw [← HTM.out], by rw [HM.out.1]; exact R9.out.2.bytes, R9.out.1.below⟩
    · go_simp
      show K _ _
      have R2 := Bx.mk (And.intro (R1.out.1.alloc (.cells #[] 5)) (own_empty W1 (B + 2) (by have := R1.out.1.lt (.head _); simp only at this; omega)))
      clear R1
      refine hK.out _ _ (HA.out _ _ R2.out.1) (fun hHeld => ?_)
      clear hK K
      try simp only [Act.put, List.setIfInBounds_toArray, List.set_cons_zero, List.set_cons_succ]
      generalize W1.alloc (.cells #[] 5) = W2 at *
      generalize W1.heap.size = G at *
      refine stepL 9 (by kernel_rfl) rfl (fun K hK => ?_)
      go_simp
      refine (to12_any x.n W2).mono ?_
      rintro e W3 ⟨rfl, hb⟩
      show K _ _
      have R3 := Bx.mk (And.intro (R2.out.1.later hb) (R2.out.2.later hb (fun g hg => (R2.out.2.lt g hg).1)))
      clear hb R2
      refine hK.out _ _ (HA.out _ _ R3.out.1) (fun hHeld => ?_)
      clear hK K
      try simp only [Act.put, List.setIfInBounds_toArray, List.set_cons_zero, List.set_cons_succ]
      refine stepL 18 (by kernel_rfl) rfl (fun K hK => ?_)
      refine step_ap rfl _ _ rfl (B + 2) _ _ (by rfl) R3.out.2 _ _ (by rfl) (HTk.out W3 R3.out.1.below) (by rw [HM.out.2.1]; simp; have := HM.out.2.2; omega) (by have := R3.out.1.lt (.head _); simp only at this; omega) ?_
      intro u9 W4 ho hg _
      have R4 := Bx.mk (And.intro (R3.out.1.later9 R3.out.2 hg (by intro y hy; simp at hy; rcases hy with rfl | rfl <;> (simp only; omega))) ho)
      obtain ⟨a9, k9, hv9⟩ := own_form ho
      rw [List.nil_append, HM.out.2.1] at hv9
      rw [List.nil_append] at R4
      subst hv9
      clear ho hg R3
      have HI := Bx.mk (And.intro (pk_infoW (cutP x) (.slice a9 m k9) HT.out) (And.intro (pkC_one (cutP x) a9 m k9) (show (pkC (cutP x) (.slice a9 m k9)).size = zc.size by rw [HZ.out, pkC_size (cutP x) _ HT.out])))
      have HB9 := Bx.mk (HBd.out a9 m k9)
      obtain ⟨tm, htm⟩ : ∃ tm, pkC (cutP x) (.slice a9 m k9) = tm := ⟨_, rfl⟩
      rw [htm] at HI HB9
      have HTM := Bx.mk htm
      clear htm
      refine hK.out _ _ (HA.out _ _ R4.out.1) (fun hHeld => ?_)
      clear hK K
      try simp only [Act.put, List.setIfInBounds_toArray, List.set_cons_zero, List.set_cons_succ]
      refine takeL 21 rfl (by kernel_rfl) (by kernel_rfl) (by kernel_rfl) (fun _ _ _ h => h) (yieldsIf_buildP (by rfl) 33 _ rfl tm (by simp only [List.map_toArray, List.map_cons, List.map_nil]; exact HB9.out)) hHeld ?_
      try simp only [Act.put, List.setIfInBounds_toArray, List.set_cons_zero, List.set_cons_succ]
      refine stepL 22 (by kernel_rfl) rfl (fun K hK => ?_)
      refine step_st rfl 33 _ _ rfl (B + 1) tm (by rfl) (by rfl) (there_row (R4.out.1.rows _ (.head _)) 0 _ (by rw [HI.out.2.2]; omega)) HI.out.1 HI.out.2.1 ?_
      have hr2 := heap_setCells_all (ds := tm) (R4.out.1.rows _ (.head _)) HI.out.2.2
      have R9 := Bx.mk (And.intro (R4.out.1.set (kb_setCells (b := B + 1) tm.toList 0 W4) hr2 (by omega) (by intro y hy; simp at hy; subst hy; simp only; omega)) (R4.out.2.kept (kb_setCells (b := B + 1) tm.toList 0 W4) (fun e => by have := (R4.out.2.lt _ e).2; omega)))
      clear hr2 R4
      refine hK.out _ _ (HA.out _ _ R9.out.1) (fun hHeld => ?_)
      clear hK K
      try simp only [Act.put, List.setIfInBounds_toArray, List.set_cons_zero, List.set_cons_succ]
      refine wpAnyH_done (by kernel_rfl) ?_ _
      refine NoPanic.normal ?_
      clear hHeld
      try go_wp2
      refine bodyPost_ret (results_cell_row rfl _ _ (B + 1) _ tm _ _ rfl (R9.out.1.rows _ (.head _)) Tryd.underlying33 rfl HI.out.1) rfl ?_
      exact ⟨_, by rw [← HTM.out], by rw [HM.out.1]; exact R9.out.2.bytes, R9.out.1.below⟩
  · go_simp
    show K _ _
    have R1 := Bx.mk (And.intro (R0.out.1.alloc (.cells #[] 5)) (own_empty W0 (B + 2) (by have := R0.out.1.lt (.head _); simp only at this; omega)))
    clear R0
    refine hK.out _ _ (HA.out _ _ R1.out.1) (fun hHeld => ?_)
    clear hK K
    try simp only [Act.put, List.setIfInBounds_toArray, List.set_cons_zero, List.set_cons_succ]
    generalize W0.alloc (.cells #[] 5) = W1 at *
    generalize W0.heap.size = G at *
    refine stepL 4 (by kernel_rfl) rfl (fun K hK => ?_)
    go_simp
    refine (cto_any x.c W1).mono ?_
    rintro e W2 ⟨rfl, hb⟩
    show K _ _
    have R2 := Bx.mk (And.intro (R1.out.1.later hb) (R1.out.2.later hb (fun g hg => (R1.out.2.lt g hg).1)))
    clear hb R1
    refine hK.out _ _ (HA.out _ _ R2.out.1) (fun hHeld => ?_)
    clear hK K
    try simp only [Act.put, List.setIfInBounds_toArray, List.set_cons_zero, List.set_cons_succ]
    refine stepL 9 (by kernel_rfl) rfl (fun K hK => ?_)
    go_simp
    refine (to12_any x.n W2).mono ?_
    rintro e W3 ⟨rfl, hb⟩
    show K _ _
    have R3 := Bx.mk (And.intro (R2.out.1.later hb) (R2.out.2.later hb (fun g hg => (R2.out.2.lt g hg).1)))
    clear hb R2
    refine hK.out _ _ (HA.out _ _ R3.out.1) (fun hHeld => ?_)
    clear hK K
    try simp only [Act.put, List.setIfInBounds_toArray, List.set_cons_zero, List.set_cons_succ]
    refine stepL 18 (by kernel_rfl) rfl (fun K hK => ?_)
    refine step_ap rfl _ _ rfl (B + 2) _ _ (by rfl) R3.out.2 _ _ (by rfl) (HTk.out W3 R3.out.1.below) (by rw [HM.out.2.1]; simp; have := HM.out.2.2; omega) (by have := R3.out.1.lt (.head _); simp only at this; omega) ?_
    intro u9 W4 ho hg _
    have R4 := Bx.mk (And.intro (R3.out.1.later9 R3.out.2 hg (by intro y hy; simp at hy; rcases hy with rfl | rfl <;> (simp only; omega))) ho)
    obtain ⟨a9, k9, hv9⟩ := own_form ho
    rw [List.nil_append, HM.out.2.1] at hv9
    rw [List.nil_append] at R4
    subst hv9
    clear ho hg R3
    have HI := Bx.mk (And.intro (pk_infoW (cutP x) (.slice a9 m k9) HT.out) (And.intro (pkC_one (cutP x) a9 m k9) (show (pkC (cutP x) (.slice a9 m k9)).size = zc.size by rw [HZ.out, pkC_size (cutP x) _ HT.out])))
    have HB9 := Bx.mk (HBd.out a9 m k9)
    obtain ⟨tm, htm⟩ : ∃ tm, pkC (cutP x) (.slice a9 m k9) = tm := ⟨_, rfl⟩
    rw [htm] at HI HB9
    have HTM := Bx.mk htm
    clear htm
    refine hK.out _ _ (HA.out _ _ R4.out.1) (fun hHeld => ?_)
    clear hK K
    try simp only [Act.put, List.setIfInBounds_toArray, List.set_cons_zero, List.set_cons_succ]
    refine takeL 21 rfl (by kernel_rfl) (by kernel_rfl) (by kernel_rfl) (fun _ _ _ h => h) (yieldsIf_buildP (by rfl) 33 _ rfl tm (by simp only [List.map_toArray, List.map_cons, List.map_nil]; exact HB9.out)) hHeld ?_
    try simp only [Act.put, List.setIfInBounds_toArray, List.set_cons_zero, List.set_cons_succ]
    refine stepL 22 (by kernel_rfl) rfl (fun K hK => ?_)
    refine step_st rfl 33 _ _ rfl (B + 1) tm (by rfl) (by rfl) (there_row (R4.out.1.rows _ (.head _)) 0 _ (by rw [HI.out.2.2]; omega)) HI.out.1 HI.out.2.1 ?_
    have hr2 := heap_setCells_all (ds := tm) (R4.out.1.rows _ (.head _)) HI.out.2.2
    have R9 := Bx.mk (And.intro (R4.out.1.set (kb_setCells (b := B + 1) tm.toList 0 W4) hr2 (by omega) (by intro y hy; simp at hy; subst hy; simp only; omega)) (R4.out.2.kept (kb_setCells (b := B + 1) tm.toList 0 W4) (fun e => by have := (R4.out.2.lt _ e).2; omega)))
    clear hr2 R4
    refine hK.out _ _ (HA.out _ _ R9.out.1) (fun hHeld => ?_)
    clear hK K
    try simp only [Act.put, List.setIfInBounds_toArray, List.set_cons_zero, List.set_cons_succ]
    refine wpAnyH_done (by kernel_rfl) ?_ _
    refine NoPanic.normal ?_
    clear hHeld
    try go_wp2
    refine bodyPost_ret (results_cell_row rfl _ _ (B + 1) _ tm _ _ rfl (R9.out.1.rows _ (.head _)) Tryd.underlying33 rfl HI.out.1) rfl ?_
    exact ⟨_, by rw [← HTM.out], by rw [HM.out.1]; exact R9.out.2.bytes, R9.out.1.below⟩
end Go.Proofs.YtaoekfomffebhaaDoor
