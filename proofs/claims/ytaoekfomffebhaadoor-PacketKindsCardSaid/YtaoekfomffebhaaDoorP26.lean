/-
  A packet, there and back.
-/
import Derived.Test.YtaoekfomffebhaaDoorP6
import Derived.Test.YtaoekfomffebhaaDoorP1
import Derived.LoopN
import Derived.Lib.LaidTab
import Derived.ChangeArms
import Derived.OpenShut
namespace Go.Proofs.YtaoekfomffebhaaDoor
open Go Go.ChangeShapes Go.WideShapes Go.ChangeAt Go.RowKit
theorem list32P {α : Type} (l : List α) (h : l.length = 32) : ∃ x0 x1 x2 x3 x4 x5 x6 x7 x8 x9 x10 x11 x12 x13 x14 x15 x16 x17 x18 x19 x20 x21 x22 x23 x24 x25 x26 x27 x28 x29 x30 x31 : α, l = [x0, x1, x2, x3, x4, x5, x6, x7, x8, x9, x10, x11, x12, x13, x14, x15, x16, x17, x18, x19, x20, x21, x22, x23, x24, x25, x26, x27, x28, x29, x30, x31] := by
  match l, h with
  | x0 :: x1 :: x2 :: x3 :: x4 :: x5 :: x6 :: x7 :: x8 :: x9 :: x10 :: x11 :: x12 :: x13 :: x14 :: x15 :: x16 :: x17 :: x18 :: x19 :: x20 :: x21 :: x22 :: x23 :: x24 :: x25 :: x26 :: x27 :: x28 :: x29 :: x30 :: x31 :: [], _ => exact ⟨_, _, _, _, _, _, _, _, _, _, _, _, _, _, _, _, _, _, _, _, _, _, _, _, _, _, _, _, _, _, _, _, rfl⟩
set_option maxRecDepth 100000 in
theorem pk_rawW (k c1 c2 c3 c4 o n1 n2 : Int) (a : Option Addr) (n c : Nat) (x0 x1 x2 x3 x4 x5 x6 x7 x8 x9 x10 x11 x12 x13 x14 x15 x16 x17 x18 x19 x20 x21 x22 x23 x24 x25 x26 x27 x28 x29 x30 x31 : UInt8) : Tryd.prog.built 33 [(0, .int .i64 k), (1, .agg #[.int .i64 c1, .int .i64 c2, .int .i64 c3, .int .i64 c4]), (2, .int .i64 o), (3, .agg #[.int .i64 n1, .int .i64 n2]), (4, .slice a n c), (5, .agg #[.int .u8 (ub x0), .int .u8 (ub x1), .int .u8 (ub x2), .int .u8 (ub x3), .int .u8 (ub x4), .int .u8 (ub x5), .int .u8 (ub x6), .int .u8 (ub x7), .int .u8 (ub x8), .int .u8 (ub x9), .int .u8 (ub x10), .int .u8 (ub x11), .int .u8 (ub x12), .int .u8 (ub x13), .int .u8 (ub x14), .int .u8 (ub x15), .int .u8 (ub x16), .int .u8 (ub x17), .int .u8 (ub x18), .int .u8 (ub x19), .int .u8 (ub x20), .int .u8 (ub x21), .int .u8 (ub x22), .int .u8 (ub x23), .int .u8 (ub x24), .int .u8 (ub x25), .int .u8 (ub x26), .int .u8 (ub x27), .int .u8 (ub x28), .int .u8 (ub x29), .int .u8 (ub x30), .int .u8 (ub x31)])] = some #[.int .i64 k, .int .i64 c1, .int .i64 c2, .int .i64 c3, .int .i64 c4, .int .i64 o, .int .i64 n1, .int .i64 n2, .slice a n c, .int .u8 (ub x0), .int .u8 (ub x1), .int .u8 (ub x2), .int .u8 (ub x3), .int .u8 (ub x4), .int .u8 (ub x5), .int .u8 (ub x6), .int .u8 (ub x7), .int .u8 (ub x8), .int .u8 (ub x9), .int .u8 (ub x10), .int .u8 (ub x11), .int .u8 (ub x12), .int .u8 (ub x13), .int .u8 (ub x14), .int .u8 (ub x15), .int .u8 (ub x16), .int .u8 (ub x17), .int .u8 (ub x18), .int .u8 (ub x19), .int .u8 (ub x20), .int .u8 (ub x21), .int .u8 (ub x22), .int .u8 (ub x23), .int .u8 (ub x24), .int .u8 (ub x25), .int .u8 (ub x26), .int .u8 (ub x27), .int .u8 (ub x28), .int .u8 (ub x29), .int .u8 (ub x30), .int .u8 (ub x31)] := by kernel_rfl
theorem pk_builtW (x : Pk) (a : Option Addr) (n c : Nat) (h : x.t.length = 32) : Tryd.prog.built 33 [(0, .int .i64 x.k), (1, clV x.c), (2, .int .i64 x.to), (3, nv x.n), (4, .slice a n c), (5, .agg (u8s x.t))] = some (pkC x (.slice a n c)) := by
  obtain ⟨k, ⟨c1, c2, c3, c4⟩, o, ⟨n1, n2⟩, b, l⟩ := x
  obtain ⟨x0, x1, x2, x3, x4, x5, x6, x7, x8, x9, x10, x11, x12, x13, x14, x15, x16, x17, x18, x19, x20, x21, x22, x23, x24, x25, x26, x27, x28, x29, x30, x31, hl⟩ := list32P l h
  subst hl
  exact pk_rawW k c1 c2 c3 c4 o n1 n2 a n c x0 x1 x2 x3 x4 x5 x6 x7 x8 x9 x10 x11 x12 x13 x14 x15 x16 x17 x18 x19 x20 x21 x22 x23 x24 x25 x26 x27 x28 x29 x30 x31
theorem pk_zeroW (W : World) : (zeroValue 33).run Tryd.prog W = .ok (.agg (pkC Pk.zero (.slice none 0 0))) W := by kernel_rfl
/-- Blocks stay where a row of bytes is appended to that is none of them. -/
theorem KP.later9 {w : World} {B base : Nat} {rs : List (Nat × Obj)} {W W1 : World} {v : Value} {l : List UInt8} (h : KP w B rs W) (ho : OwnB W base v l) (hg : W.grownBy W1 v.ownBlock) (hn : ∀ x ∈ rs, x.1 < base) (hb : B ≤ base := by omega) : KP w B rs W1 := by
  have hz : ∀ i, i < base → i < W.heap.size → W1.heap[i]? = W.heap[i]? := fun i hi hs => hg.block i hs (fun e => by have := (ho.lt i e.symm).2; omega)
  refine ⟨fun x hx => by rw [hz _ (hn x hx) (h.lt hx)]; exact h.rows x hx, h.below.trans ⟨hg.os, hg.tape, hg.output, hg.size, fun i hi => ?_⟩, Nat.le_trans h.le hg.size⟩
  exact hz i (by omega) (by have := h.le; omega)
/-- A packet whose body is cut. -/
def cutP (x : Pk) : Pk := { x with b := x.b.take 520 }
set_option maxRecDepth 100000 in
set_option maxHeartbeats 4000000 in
theorem to14 (x : Pk) (v : Value) (w : World) (ht : x.t.length = 32) (hb : Bytes w v x.b) (hl : x.b.length ≤ 9223372036854775807) : Calls Tryd.prog 6 #[pkV x v] w fun e w' => ∃ u, e = .returned (pkV (cutP x) u) ∧ Bytes w' u (cutP x).b ∧ Below w.heap.size w w' := by
  obtain ⟨a0, c0, rfl, hcap, hnone⟩ := bytes_form hb
  obtain ⟨zc, hzc⟩ : ∃ zc, pkC Pk.zero (.slice none 0 0) = zc := ⟨_, rfl⟩
  have hzv : ∀ W : World, (zeroValue 33).run Tryd.prog W = .ok (.agg zc) W := fun W => by rw [← hzc]; exact pk_zeroW W
  obtain ⟨B, hB⟩ : ∃ B, w.heap.size = B := ⟨_, rfl⟩
  obtain ⟨l0, hl0⟩ : ∃ l, x.b.length = l := ⟨_, rfl⟩
  obtain ⟨m, hm⟩ : ∃ m, m = min l0 520 := ⟨_, rfl⟩
  have H0 := Bx.mk (((KP.start w B hB).new (.cells (pkC x (.slice a0 x.b.length c0)) 29)).new (.cells zc 33))
  rw [alloc_sizeP, hB] at H0
  have HTk : Bx (∀ W, Below B w W → Bytes W (.slice a0 m c0) (x.b.take m)) := Bx.mk fun W h => (hb.old hB h).take m (by omega)
  have HM : Bx ((cutP x).b = x.b.take m ∧ (x.b.take m).length = m ∧ m ≤ 520) := Bx.mk ⟨by show x.b.take 520 = _; rw [hm, ← hl0, List.take_eq_take_iff]; omega, by rw [List.length_take]; omega, by omega⟩
  have HZ := Bx.mk (show zc.size = 41 by rw [← hzc, pkC_size _ _ rfl])
  have HU := Bx.mk (u8_info x.t ht)
  have HT := Bx.mk ht
  have HBd : Bx (∀ a n c, Tryd.prog.built 33 [(0, .int .i64 x.k), (1, clV x.c), (2, .int .i64 x.to), (3, nv x.n), (4, .slice a n c), (5, .agg (u8s x.t))] = some (pkC (cutP x) (.slice a n c))) := Bx.mk fun a n c => pk_builtW x a n c ht
  rw [hl0] at H0 hcap hl ⊢
  have s1 := fun W => cut_bytes a0 l0 c0 m (by omega) hcap hnone W
  have hmin : min (l0 : Int) 520 = (m : Int) := by omega
  have hmin2 : (if (520 : Int) < (l0 : Int) then (520 : Int) else (l0 : Int)) = (m : Int) := by split <;> omega
  obtain ⟨tk, htk⟩ : ∃ tk, pkC x (.slice a0 l0 c0) = tk := ⟨_, rfl⟩
  have HA : Bx (∀ W Z, KP w B [(B + 1, Z), (B, .cells tk 29)] W → PkAt W B x (.slice a0 l0 c0)) := Bx.mk fun W Z h => by
    have := h.rows _ (.tail _ (.head _))
    rw [← htk] at this
    exact pk_at this
  unfold pkV
  rw [htk] at H0 ⊢
  rw [hB]
  have hn1 : (l0 : Int) ≤ 9223372036854775807 := by omega
  clear hzc htk ht hb hl0 hm hcap hnone hl
  go_enter Tryd.func6, Tryd.ntmps6
  go_upto_region 1 with fail
  generalize (w.alloc (.cells tk 29)).alloc (.cells zc 33) = w0 at *
  have R0 := Bx.mk (And.intro (H0.out.later (Below.refl _ _).drew) True.intro)
  clear H0 hzv
  refine wp_region_noPanic ?_
  refine wp_region_held_drew (S := fun W => PkAt W B x (.slice a0 l0 c0)) (by kernel_rfl) (HA.out _ _ R0.out.1) (fun hHeld => ?_)
  generalize w0.drew = W0 at *
  refine takeL 0 (v := ?_) rfl (by kernel_rfl) (by kernel_rfl) (by kernel_rfl) (fun _ _ _ h => h) (Or.inl ⟨by rfl, ?_⟩) hHeld ?_
  rotate_left 1
  · (intro w hSw; go_simp; try with_reducible rfl)
  try simp only [Act.put, List.setIfInBounds_toArray, List.set_cons_zero, List.set_cons_succ]
  refine takeL 1 (v := ?_) rfl (by kernel_rfl) (by kernel_rfl) (by kernel_rfl) (fun _ _ _ h => h) (Or.inl ⟨by rfl, ?_⟩) hHeld ?_
  rotate_left 1
  · (intro w hSw; have q := hSw.k; clear hSw; go_simp; try with_reducible rfl)
  try simp only [Act.put, List.setIfInBounds_toArray, List.set_cons_zero, List.set_cons_succ]
  refine takeL 2 (v := ?_) rfl (by kernel_rfl) (by kernel_rfl) (by kernel_rfl) (fun _ _ _ h => h) (Or.inl ⟨by rfl, ?_⟩) hHeld ?_
  rotate_left 1
  · (intro w hSw; go_simp; try with_reducible rfl)
  try simp only [Act.put, List.setIfInBounds_toArray, List.set_cons_zero, List.set_cons_succ]
  refine takeL 3 rfl (by kernel_rfl) (by kernel_rfl) (by kernel_rfl) (fun _ _ _ h => h) (yieldsIf_load_mid (by rfl) _ _ rfl _ _ rfl _ _ (fun w hSw => hSw.c) Tryd.underlying23 rfl (by kernel_rfl)) hHeld ?_
  try simp only [Act.put, List.setIfInBounds_toArray, List.set_cons_zero, List.set_cons_succ]
  refine takeL 5 (v := ?_) rfl (by kernel_rfl) (by kernel_rfl) (by kernel_rfl) (fun _ _ _ h => h) (Or.inl ⟨by rfl, ?_⟩) hHeld ?_
  rotate_left 1
  · (intro w hSw; go_simp; try with_reducible rfl)
  try simp only [Act.put, List.setIfInBounds_toArray, List.set_cons_zero, List.set_cons_succ]
  refine takeL 6 (v := ?_) rfl (by kernel_rfl) (by kernel_rfl) (by kernel_rfl) (fun _ _ _ h => h) (Or.inl ⟨by rfl, ?_⟩) hHeld ?_
  rotate_left 1
  · (intro w hSw; have q := hSw.to; clear hSw; go_simp; try with_reducible rfl)
  try simp only [Act.put, List.setIfInBounds_toArray, List.set_cons_zero, List.set_cons_succ]
  refine takeL 7 (v := ?_) rfl (by kernel_rfl) (by kernel_rfl) (by kernel_rfl) (fun _ _ _ h => h) (Or.inl ⟨by rfl, ?_⟩) hHeld ?_
  rotate_left 1
  · (intro w hSw; go_simp; try with_reducible rfl)
  try simp only [Act.put, List.setIfInBounds_toArray, List.set_cons_zero, List.set_cons_succ]
  refine takeL 8 rfl (by kernel_rfl) (by kernel_rfl) (by kernel_rfl) (fun _ _ _ h => h) (yieldsIf_load_mid (by rfl) _ _ rfl _ _ rfl _ _ (fun w hSw => hSw.n) Tryd.underlying25 rfl (by kernel_rfl)) hHeld ?_
  try simp only [Act.put, List.setIfInBounds_toArray, List.set_cons_zero, List.set_cons_succ]
  refine takeL 11 (v := ?_) rfl (by kernel_rfl) (by kernel_rfl) (by kernel_rfl) (fun _ _ _ h => h) (Or.inl ⟨by rfl, ?_⟩) hHeld ?_
  rotate_left 1
  · (intro w hSw; go_simp; try with_reducible rfl)
  try simp only [Act.put, List.setIfInBounds_toArray, List.set_cons_zero, List.set_cons_succ]
  refine takeL 12 (v := ?_) rfl (by kernel_rfl) (by kernel_rfl) (by kernel_rfl) (fun _ _ _ h => h) (Or.inl ⟨by rfl, ?_⟩) hHeld ?_
  rotate_left 1
  · (intro w hSw; have q := hSw.b; clear hSw; go_simp; try with_reducible rfl)
  try simp only [Act.put, List.setIfInBounds_toArray, List.set_cons_zero, List.set_cons_succ]
  refine takeL 13 (v := ?_) rfl (by kernel_rfl) (by kernel_rfl) (by kernel_rfl) (fun _ _ _ h => h) (Or.inl ⟨by rfl, ?_⟩) hHeld ?_
  rotate_left 1
  · (intro w hSw; go_simp; try with_reducible rfl)
  try simp only [Act.put, List.setIfInBounds_toArray, List.set_cons_zero, List.set_cons_succ]
  refine takeL 14 (v := ?_) rfl (by kernel_rfl) (by kernel_rfl) (by kernel_rfl) (fun _ _ _ h => h) (Or.inl ⟨by rfl, ?_⟩) hHeld ?_
  rotate_left 1
  · (intro w hSw; have q := hSw.b; clear hSw; go_simp; try with_reducible rfl)
  try simp only [Act.put, List.setIfInBounds_toArray, List.set_cons_zero, List.set_cons_succ]
  refine takeL 15 (v := ?_) rfl (by kernel_rfl) (by kernel_rfl) (by kernel_rfl) (fun _ _ _ h => h) (Or.inl ⟨by rfl, ?_⟩) hHeld ?_
  rotate_left 1
  · (intro w hSw; go_simp; try with_reducible rfl)
  try simp only [Act.put, List.setIfInBounds_toArray, List.set_cons_zero, List.set_cons_succ]
  refine takeL 16 (v := ?_) rfl (by kernel_rfl) (by kernel_rfl) (by kernel_rfl) (fun _ _ _ h => h) (Or.inl ⟨by rfl, ?_⟩) hHeld ?_
  rotate_left 1
  · (intro w hSw; go_simp; try with_reducible rfl)
  try simp only [Act.put, List.setIfInBounds_toArray, List.set_cons_zero, List.set_cons_succ]
  refine takeL 17 (v := ?_) rfl (by kernel_rfl) (by kernel_rfl) (by kernel_rfl) (fun _ _ _ h => h) (Or.inl ⟨by rfl, ?_⟩) hHeld ?_
  rotate_left 1
  · (intro w hSw; go_simp; try with_reducible rfl)
  try simp only [Act.put, List.setIfInBounds_toArray, List.set_cons_zero, List.set_cons_succ]
  refine takeL 19 (v := ?_) rfl (by kernel_rfl) (by kernel_rfl) (by kernel_rfl) (fun _ _ _ h => h) (Or.inl ⟨by rfl, ?_⟩) hHeld ?_
  rotate_left 1
  · (intro w hSw; go_simp; try with_reducible rfl)
  try simp only [Act.put, List.setIfInBounds_toArray, List.set_cons_zero, List.set_cons_succ]
  refine takeL 20 rfl (by kernel_rfl) (by kernel_rfl) (by kernel_rfl) (fun _ _ _ h => h) (yieldsIf_load_mid (by rfl) _ _ rfl _ _ rfl _ _ (fun w hSw => hSw.t) Tryd.underlying27 rfl HU.out) hHeld ?_
  try simp only [Act.put, List.setIfInBounds_toArray, List.set_cons_zero, List.set_cons_succ]
  refine wpAnyH_ready (rs := [4, 10]) (by kernel_rfl) (by simp) ?_
  refine consM 4 rfl (fun K hK => ?_) (consM 10 rfl (fun K hK => ?_) AllReadyH.nil)
  · go_simp
    refine (cto_any x.c W0).mono ?_
    rintro e W1 ⟨rfl, hb⟩
    show K _ _
    have R1 := Bx.mk (And.intro (R0.out.1.later hb) True.intro)
    clear hb R0
    refine hK.out _ _ (HA.out _ _ R1.out.1) (fun hHeld => ?_)
    clear hK K
    try simp only [Act.put, List.setIfInBounds_toArray, List.set_cons_zero, List.set_cons_succ]
    refine wpAnyH_ready (rs := [9, 10]) (by kernel_rfl) (by simp) ?_
    refine consM 9 rfl (fun K hK => ?_) (consM 10 rfl (fun K hK => ?_) AllReadyH.nil)
    · go_simp
      refine (to12_any x.n W1).mono ?_
      rintro e W2 ⟨rfl, hb⟩
      show K _ _
      have R2 := Bx.mk (And.intro (R1.out.1.later hb) True.intro)
      clear hb R1
      refine hK.out _ _ (HA.out _ _ R2.out.1) (fun hHeld => ?_)
      clear hK K
      try simp only [Act.put, List.setIfInBounds_toArray, List.set_cons_zero, List.set_cons_succ]
      refine stepL 10 (by kernel_rfl) rfl (fun K hK => ?_)
      go_simp
      show K _ _
      have R3 := Bx.mk (And.intro (R2.out.1.alloc (.cells #[] 5)) (own_empty W2 (B + 2) (by have := R2.out.1.lt (.head _); simp only at this; omega)))
      clear R2
      refine hK.out _ _ (HA.out _ _ R3.out.1) (fun hHeld => ?_)
      clear hK K
      try simp only [Act.put, List.setIfInBounds_toArray, List.set_cons_zero, List.set_cons_succ]
      generalize W2.alloc (.cells #[] 5) = W3 at *
      generalize W2.heap.size = G at *
      refine stepL 18 (by kernel_rfl) rfl (fun K hK => ?_)
      refine step_ap rfl _ _ rfl (B + 2) _ _ (by rfl) R3.out.2 _ _ (by rfl) (HTk.out W3 R3.out.1.below) (by rw [HM.out.2.1]; simp; have := HM.out.2.2; omega) (by have := R3.out.1.lt (.head _); simp only at this; omega) ?_
      intro u9 W4 ho hg _
      have R4 := Bx.mk (And.intro (R3.out.1.later9 R3.out.2 hg (by intro y hy; simp at hy; rcases hy with rfl | rfl <;> (simp only; omega))) ho)
      obtain ⟨a9, k9, hv9⟩ := own_form ho
      rw [List.nil_append, HM.out.2.1] at hv9
      rw [List.nil_append] at R4
      subst hv9
      clear ho hg R3
      have HI := Bx.mk (And.intro (pk_infoW (cutP x) (.slice a9 m k9) HT.out) (And.intro (pkC_one (cutP x) a9 m k9) (show (pkC (cutP x) (.slice a9 m k9)).size = zc.size by rw [HZ.out, pkC_size (cutP x) _ HT.out])))
      have HB9 := Bx.mk (HBd.out a9 m k9)
      obtain ⟨tm, htm⟩ : ∃ tm, pkC (cutP x) (.slice a9 m k9) = tm := ⟨_, rfl⟩
      rw [htm] at HI HB9
      have HTM := Bx.mk htm
      clear htm
      refine hK.out _ _ (HA.out _ _ R4.out.1) (fun hHeld => ?_)
      clear hK K
      try simp only [Act.put, List.setIfInBounds_toArray, List.set_cons_zero, List.set_cons_succ]
      refine takeL 21 rfl (by kernel_rfl) (by kernel_rfl) (by kernel_rfl) (fun _ _ _ h => h) (yieldsIf_buildP (by rfl) 33 _ rfl tm (by simp only [List.map_toArray, List.map_cons, List.map_nil]; exact HB9.out)) hHeld ?_
      try simp only [Act.put, List.setIfInBounds_toArray, List.set_cons_zero, List.set_cons_succ]
      refine stepL 22 (by kernel_rfl) rfl (fun K hK => ?_)
      refine step_st rfl 33 _ _ rfl (B + 1) tm (by rfl) (by rfl) (there_row (R4.out.1.rows _ (.head _)) 0 _ (by rw [HI.out.2.2]; omega)) HI.out.1 HI.out.2.1 ?_
      have hr2 := heap_setCells_all (ds := tm) (R4.out.1.rows _ (.head _)) HI.out.2.2
      have R9 := Bx.mk (And.intro (R4.out.1.set (kb_setCells (b := B + 1) tm.toList 0 W4) hr2 (by omega) (by intro y hy; simp at hy; subst hy; simp only; omega)) (R4.out.2.kept (kb_setCells (b := B + 1) tm.toList 0 W4) (fun e => by have := (R4.out.2.lt _ e).2; omega)))
      clear hr2 R4
      refine hK.out _ _ (HA.out _ _ R9.out.1) (fun hHeld => ?_)
      clear hK K
      try simp only [Act.put, List.setIfInBounds_toArray, List.set_cons_zero, List.set_cons_succ]
      refine wpAnyH_done (by kernel_rfl) ?_ _
      refine NoPanic.normal ?_
      clear hHeld
      try go_wp2
      refine bodyPost_ret (results_cell_row rfl _ _ (B + 1) _ tm _ _ rfl (R9.out.1.rows _ (.head _)) Tryd.underlying33 rfl HI.out.1) rfl ?_
      exact ⟨_, by rw [← HTM.out], by rw [HM.out.1]; exact R9.out.2.bytes, R9.out.1.below⟩
    · go_simp
      show K _ _
      have R2 := Bx.mk (And.intro (R1.out.1.alloc (.cells #[] 5)) (own_empty W1 (B + 2) (by have := R1.out.1.lt (.head _); simp only at this; omega)))
      clear R1
      refine hK.out _ _ (HA.out _ _ R2.out.1) (fun hHeld => ?_)
      clear hK K
      try simp only [Act.put, List.setIfInBounds_toArray, List.set_cons_zero, List.set_cons_succ]
      generalize W1.alloc (.cells #[] 5) = W2 at *
      generalize W1.heap.size = G at *
      refine stepL 9 (by kernel_rfl) rfl (fun K hK => ?_)
      go_simp
      refine (to12_any x.n W2).mono ?_
      rintro e W3 ⟨rfl, hb⟩
      show K _ _
      have R3 := Bx.mk (And.intro (R2.out.1.later hb) (R2.out.2.later hb (fun g hg => (R2.out.2.lt g hg).1)))
      clear hb R2
      refine hK.out _ _ (HA.out _ _ R3.out.1) (fun hHeld => ?_)
      clear hK K
      try simp only [Act.put, List.setIfInBounds_toArray, List.set_cons_zero, List.set_cons_succ]
      refine stepL 18 (by kernel_rfl) rfl (fun K hK => ?_)
      refine step_ap rfl _ _ rfl (B + 2) _ _ (by rfl) R3.out.2 _ _ (by rfl) (HTk.out W3 R3.out.1.below) (by rw [HM.out.2.1]; simp; have := HM.out.2.2; omega) (by have := R3.out.1.lt (.head _); simp only at this; omega) ?_
      intro u9 W4 ho hg _
      have R4 := Bx.mk (And.intro (R3.out.1.later9 R3.out.2 hg (by intro y hy; simp at hy; rcases hy with rfl | rfl <;> (simp only; omega))) ho)
      obtain ⟨a9, k9, hv9⟩ := own_form ho
      rw [List.nil_append, HM.out.2.1] at hv9
      rw [List.nil_append] at R4
      subst hv9
      clear ho hg R3
      have HI := Bx.mk (And.intro (pk_infoW (cutP x) (.slice a9 m k9) HT.out) (And.intro (pkC_one (cutP x) a9 m k9) (show (pkC (cutP x) (.slice a9 m k9)).size = zc.size by rw [HZ.out, pkC_size (cutP x) _ HT.out])))
      have HB9 := Bx.mk (HBd.out a9 m k9)
      obtain ⟨tm, htm⟩ : ∃ tm, pkC (cutP x) (.slice a9 m k9) = tm := ⟨_, rfl⟩
      rw [htm] at HI HB9
      have HTM := Bx.mk htm
      clear htm
      refine hK.out _ _ (HA.out _ _ R4.out.1) (fun hHeld => ?_)
      clear hK K
      try simp only [Act.put, List.setIfInBounds_toArray, List.set_cons_zero, List.set_cons_succ]
      refine takeL 21 rfl (by kernel_rfl) (by kernel_rfl) (by kernel_rfl) (fun _ _ _ h => h) (yieldsIf_buildP (by rfl) 33 _ rfl tm (by simp only [List.map_toArray, List.map_cons, List.map_nil]; exact HB9.out)) hHeld ?_
      try simp only [Act.put, List.setIfInBounds_toArray, List.set_cons_zero, List.set_cons_succ]
      refine stepL 22 (by kernel_rfl) rfl (fun K hK => ?_)
      refine step_st rfl 33 _ _ rfl (B + 1) tm (by rfl) (by rfl) (there_row (R4.out.1.rows _ (.head _)) 0 _ (by rw [HI.out.2.2]; omega)) HI.out.1 HI.out.2.1 ?_
      have hr2 := heap_setCells_all (ds := tm) (R4.out.1.rows _ (.head _)) HI.out.2.2
      have R9 := Bx.mk (And.intro (R4.out.1.set (kb_setCells (b := B + 1) tm.toList 0 W4) hr2 (by omega) (by intro y hy; simp at hy; subst hy; simp only; omega)) (R4.out.2.kept (kb_setCells (b := B + 1) tm.toList 0 W4) (fun e => by have := (R4.out.2.lt _ e).2; omega)))
      clear hr2 R4
      refine hK.out _ _ (HA.out _ _ R9.out.1) (fun hHeld => ?_)
      clear hK K
      try simp only [Act.put, List.setIfInBounds_toArray, List.set_cons_zero, List.set_cons_succ]
      refine wpAnyH_done (by kernel_rfl) ?_ _
      refine NoPanic.normal ?_
      clear hHeld
      try go_wp2
      refine bodyPost_ret (results_cell_row rfl _ _ (B + 1) _ tm _ _ rfl (R9.out.1.rows _ (.head _)) Tryd.underlying33 rfl HI.out.1) rfl ?_
      exact ⟨_, by rw [← HTM.out], by rw [HM.out.1]; exact R9.out.2.bytes, R9.out.1.below⟩
  · go_simp
    show K _ _
    have R1 := Bx.mk (And.intro (R0.out.1.alloc (.cells #[] 5)) (own_empty W0 (B + 2) (by have := R0.out.1.lt (.head _); simp only at this; omega)))
    clear R0
    refine hK.out _ _ (HA.out _ _ R1.out.1) (fun hHeld => ?_)
    clear hK K
    try simp only [Act.put, List.setIfInBounds_toArray, List.set_cons_zero, List.set_cons_succ]
    generalize W0.alloc (.cells #[] 5) = W1 at *
    generalize W0.heap.size = G at *
    refine stepL 4 (by kernel_rfl) rfl (fun K hK => ?_)
    go_simp
    refine (cto_any x.c W1).mono ?_
    rintro e W2 ⟨rfl, hb⟩
    show K _ _
    have R2 := Bx.mk (And.intro (R1.out.1.later hb) (R1.out.2.later hb (fun g hg => (R1.out.2.lt g hg).1)))
    clear hb R1
    refine hK.out _ _ (HA.out _ _ R2.out.1) (fun hHeld => ?_)
    clear hK K
    try simp only [Act.put, List.setIfInBounds_toArray, List.set_cons_zero, List.set_cons_succ]
    refine stepL 9 (by kernel_rfl) rfl (fun K hK => ?_)
    go_simp
    refine (to12_any x.n W2).mono ?_
    rintro e W3 ⟨rfl, hb⟩
    show K _ _
    have R3 := Bx.mk (And.intro (R2.out.1.later hb) (R2.out.2.later hb (fun g hg => (R2.out.2.lt g hg).1)))
    clear hb R2
    refine hK.out _ _ (HA.out _ _ R3.out.1) (fun hHeld => ?_)
    clear hK K
    try simp only [Act.put, List.setIfInBounds_toArray, List.set_cons_zero, List.set_cons_succ]
    refine stepL 18 (by kernel_rfl) rfl (fun K hK => ?_)
    refine step_ap rfl _ _ rfl (B + 2) _ _ (by rfl) R3.out.2 _ _ (by rfl) (HTk.out W3 R3.out.1.below) (by rw [HM.out.2.1]; simp; have := HM.out.2.2; omega) (by have := R3.out.1.lt (.head _); simp only at this; omega) ?_
    intro u9 W4 ho hg _
    have R4 := Bx.mk (And.intro (R3.out.1.later9 R3.out.2 hg (by intro y hy; simp at hy; rcases hy with rfl | rfl <;> (simp only; omega))) ho)
    obtain ⟨a9, k9, hv9⟩ := own_form ho
    rw [List.nil_append, HM.out.2.1] at hv9
    rw [List.nil_append] at R4
    subst hv9
    clear ho hg R3
    have HI := Bx.mk (And.intro (pk_infoW (cutP x) (.slice a9 m k9) HT.out) (And.intro (pkC_one (cutP x) a9 m k9) (show (pkC (cutP x) (.slice a9 m k9)).size = zc.size by rw [HZ.out, pkC_size (cutP x) _ HT.out])))
    have HB9 := Bx.mk (HBd.out a9 m k9)
    obtain ⟨tm, htm⟩ : ∃ tm, pkC (cutP x) (.slice a9 m k9) = tm := ⟨_, rfl⟩
    rw [htm] at HI HB9
    have HTM := Bx.mk htm
    clear htm
    refine hK.out _ _ (HA.out _ _ R4.out.1) (fun hHeld => ?_)
    clear hK K
    try simp only [Act.put, List.setIfInBounds_toArray, List.set_cons_zero, List.set_cons_succ]
    refine takeL 21 rfl (by kernel_rfl) (by kernel_rfl) (by kernel_rfl) (fun _ _ _ h => h) (yieldsIf_buildP (by rfl) 33 _ rfl tm (by simp only [List.map_toArray, List.map_cons, List.map_nil]; exact HB9.out)) hHeld ?_
    try simp only [Act.put, List.setIfInBounds_toArray, List.set_cons_zero, List.set_cons_succ]
    refine stepL 22 (by kernel_rfl) rfl (fun K hK => ?_)
    refine step_st rfl 33 _ _ rfl (B + 1) tm (by rfl) (by rfl) (there_row (R4.out.1.rows _ (.head _)) 0 _ (by rw [HI.out.2.2]; omega)) HI.out.1 HI.out.2.1 ?_
    have hr2 := heap_setCells_all (ds := tm) (R4.out.1.rows _ (.head _)) HI.out.2.2
    have R9 := Bx.mk (And.intro (R4.out.1.set (kb_setCells (b := B + 1) tm.toList 0 W4) hr2 (by omega) (by intro y hy; simp at hy; subst hy; simp only; omega)) (R4.out.2.kept (kb_setCells (b := B + 1) tm.toList 0 W4) (fun e => by have := (R4.out.2.lt _ e).2; omega)))
    clear hr2 R4
    refine hK.out _ _ (HA.out _ _ R9.out.1) (fun hHeld => ?_)
    clear hK K
    try simp only [Act.put, List.setIfInBounds_toArray, List.set_cons_zero, List.set_cons_succ]
    refine wpAnyH_done (by kernel_rfl) ?_ _
    refine NoPanic.normal ?_
    clear hHeld
    try go_wp2
    refine bodyPost_ret (results_cell_row rfl _ _ (B + 1) _ tm _ _ rfl (R9.out.1.rows _ (.head _)) Tryd.underlying33 rfl HI.out.1) rfl ?_
    exact ⟨_, by rw [← HTM.out], by rw [HM.out.1]; exact R9.out.2.bytes, R9.out.1.below⟩
end Go.Proofs.YtaoekfomffebhaaDoor
namespace Go.Proofs.YtaoekfomffebhaaDoor
open Go Go.RowKit
/-- Cells of numbers, compared. -/
def i64c14 (n : Int) : Value := .int .i64 n
theorem all_range_eqI14 : ∀ (xs ys : List Int), xs.length = ys.length → ((List.range xs.length).all fun i => xs.getD i 0 == ys.getD i 0) = (xs == ys)
  | [], [], _ => rfl
  | x :: xs, y :: ys, h => by
    have ih := all_range_eqI14 xs ys (by simpa using h)
    rw [List.length_cons, List.range_succ_eq_map, List.all_cons, List.all_map]
    simp only [List.getD_cons_zero, Function.comp_def, List.getD_cons_succ, ih]
    simp [List.cons_beq_cons]
  | [], _ :: _, h => by simp at h
  | _ :: _, [], h => by simp at h
theorem equalIn_ints14 {P : Program} (w : World) (d : Nat) (t e : TypeId) (n : Nat) (ht : P.underlying t = some (.array n e)) (he : P.underlying e = some (.int .i64)) (hsz : ∀ w, (sizeOf e).run P w = .ok 1 w)
    (xs ys : List Int) (hx : xs.length = n) (hy : ys.length = n) :
    (Op.equalIn (d + 2) t (.agg (xs.map i64c14).toArray) (.agg (ys.map i64c14).toArray)).run P w = .ok (xs == ys) w := by
  rw [← all_range_eqI14 xs ys (hx.trans hy.symm), hx, List.range_eq_range', Op.equalIn]
  simp only [Sem.run_bind, run_underlying ht, Result.andThen_ok, hsz, Std.Legacy.Range.forIn_eq_forIn_range', Std.Legacy.Range.size, Nat.sub_zero, Nat.add_sub_cancel, Nat.div_one]
  have hl : ∀ i ∈ List.range' 0 n 1, i < n := fun i hi => by simpa using (List.mem_range'_1.1 hi).2
  generalize List.range' 0 n 1 = l at hl ⊢
  induction l with
  | nil => simp
  | cons i l ih =>
    have hi : i < n := hl i (by simp)
    have px : (part e (xs.map i64c14).toArray (i * 1)).run P w = .ok (i64c14 (xs.getD i 0)) w := by
      simp [part, isAgg, run_underlying he, List.getD, List.getElem?_eq_getElem (show i < xs.length by omega)]
    have py : (part e (ys.map i64c14).toArray (i * 1)).run P w = .ok (i64c14 (ys.getD i 0)) w := by
      simp [part, isAgg, run_underlying he, List.getD, List.getElem?_eq_getElem (show i < ys.length by omega)]
    have pe : (Op.equalIn (d + 1) e (i64c14 (xs.getD i 0)) (i64c14 (ys.getD i 0))).run P w = .ok (xs.getD i 0 == ys.getD i 0) w := by
      rw [i64c14, i64c14, run_equalIn_int w d e .i64 .i64 _ _ he]
      try congr 1
    simp only [List.forIn_cons, Sem.run_bind, px, py, pe, Result.andThen_ok, List.all_cons]
    cases hb : (xs.getD i 0 == ys.getD i 0)
    · simp
    · simp only [Bool.not_true, Bool.false_eq_true, if_false, Sem.run_pure, Result.andThen_ok, Bool.true_and]
      exact ih fun j hj => hl j (by simp [hj])
theorem i64s_14 (l : List Int) : i64s l = l.map i64c14 := rfl
/-- Counts by kind; at 0 of none. -/
def z15 : List Int := List.replicate 15 0
def bumpK (c : List Int) (k : Int) : List Int := if kindB k = true then c.set k.toNat (c.getD k.toNat 0 + 1) else c.set 0 (c.getD 0 0 + 1)
def cntK (l : List Int) : List Int := l.foldl bumpK z15
theorem cntK_snoc (l : List Int) (k : Int) : cntK (l ++ [k]) = bumpK (cntK l) k := by simp [cntK]
theorem bumpK_len (c : List Int) (k : Int) : (bumpK c k).length = c.length := by
  unfold bumpK
  split <;> simp
theorem cntK_len (l : List Int) : (cntK l).length = 15 := by
  unfold cntK
  suffices h : ∀ c : List Int, (l.foldl bumpK c).length = c.length by rw [h]; rfl
  induction l with
  | nil => intro c; rfl
  | cons x r ih => intro c; rw [List.foldl_cons, ih, bumpK_len]
theorem set_bound (c : List Int) (j : Nat) (B : Int) (h : ∀ i, 0 ≤ c.getD i 0 ∧ c.getD i 0 ≤ B) (i : Nat) : 0 ≤ (c.set j (c.getD j 0 + 1)).getD i 0 ∧ (c.set j (c.getD j 0 + 1)).getD i 0 ≤ B + 1 := by
  have hi := h i
  have hj := h j
  rw [List.getD_eq_getElem?_getD, List.getElem?_set]
  by_cases e : j = i
  · rw [if_pos e]
    by_cases hl : j < c.length
    · rw [if_pos hl]
      simp only [Option.getD_some]
      omega
    · rw [if_neg hl]
      simp only [Option.getD_none]
      omega
  · rw [if_neg e, ← List.getD_eq_getElem?_getD]
    omega
theorem cntK_bound (l : List Int) : ∀ i, 0 ≤ (cntK l).getD i 0 ∧ (cntK l).getD i 0 ≤ (l.length : Int) := by
  suffices h : ∀ (c : List Int) (B : Int), (∀ i, 0 ≤ c.getD i 0 ∧ c.getD i 0 ≤ B) → ∀ i, 0 ≤ (l.foldl bumpK c).getD i 0 ∧ (l.foldl bumpK c).getD i 0 ≤ B + l.length by
    intro i
    have := h z15 0 (fun i => by
      unfold z15
      rw [List.getD_eq_getElem?_getD, List.getElem?_replicate]
      split <;> simp) i
    unfold cntK
    omega
  induction l with
  | nil => intro c B h i; have := h i; simp only [List.foldl_nil, List.length_nil]; omega
  | cons x r ih =>
    intro c B h i
    have h1 : ∀ i, 0 ≤ (bumpK c x).getD i 0 ∧ (bumpK c x).getD i 0 ≤ B + 1 := fun i => by
      unfold bumpK
      split
      · exact set_bound c _ B h i
      · exact set_bound c _ B h i
    have := ih (bumpK c x) (B + 1) h1 i
    rw [List.foldl_cons, List.length_cons]
    omega
theorem cntK_take (l : List Int) (k : Nat) (hk : k < l.length) : cntK (l.take (k + 1)) = bumpK (cntK (l.take k)) (l.getD k 0) := by
  rw [List.take_add_one, List.getElem?_eq_getElem hk, Option.toList_some, cntK_snoc, List.getD_eq_getElem?_getD, List.getElem?_eq_getElem hk]
  rfl
theorem i64s_setK (l : List Int) (i : Nat) (x : Int) : (i64s l).toArray.setIfInBounds i (.int .i64 x) = (i64s (l.set i x)).toArray := by
  unfold i64s
  rw [List.setIfInBounds_toArray, List.map_set]
/-- Packets one behind the other, as cells. -/
def cellsK : List (Pk × Value) → List Value
  | [] => []
  | e :: r => pkL e.1 e.2 ++ cellsK r
theorem cellsK_snoc (l : List (Pk × Value)) (e : Pk × Value) : cellsK (l ++ [e]) = cellsK l ++ pkL e.1 e.2 := by
  induction l with
  | nil => simp [cellsK]
  | cons y r ih => simp only [List.cons_append, cellsK, ih, List.append_assoc]
def FitK (e : Pk × Value) : Prop := e.1.t.length = 32 ∧ ∃ a n c, e.2 = .slice a n c
abbrev e0K : Pk × Value := (Pk.zero, .slice none 0 0)
theorem cellsK_get (l : List (Pk × Value)) (h : ∀ e ∈ l, FitK e) : ∀ (k : Nat), k < l.length → ∀ j v, (pkL (l.getD k e0K).1 (l.getD k e0K).2)[j]? = some v → (cellsK l)[k * 41 + j]? = some v := by
  induction l with
  | nil => intro k hk; exact absurd hk (Nat.not_lt_zero _)
  | cons c r ih =>
    intro k hk j v hj
    have hc := pkL_len c.1 c.2 (h c (.head _)).1
    match k with
    | 0 =>
      have hj4 : j < 41 := by have := (List.getElem?_eq_some_iff.1 hj).1; simp only [List.getD_cons_zero] at this; omega
      simp only [cellsK]
      rw [List.getElem?_append_left (by omega), Nat.zero_mul, Nat.zero_add]
      exact hj
    | k + 1 =>
      have h2 := ih (fun e he => h e (.tail _ he)) k (by simpa using hk) j v (by simpa using hj)
      simp only [cellsK]
      rw [List.getElem?_append_right (by omega), show (k + 1) * 41 + j - (pkL c.1 c.2).length = k * 41 + j by omega]
      exact h2
/-- Packets in a row that the call owns. -/
structure OwnK (w : World) (base : Nat) (v : Value) (l : List (Pk × Value)) : Prop where
  row : w.ownsRow base 33 41 v l.length (cellsK l)
  fit : ∀ e ∈ l, FitK e
theorem OwnK.nil (w : World) (base : Nat) : OwnK w base (.slice none 0 0) [] := ⟨⟨rfl, .inl ⟨rfl, rfl⟩⟩, fun e h => by cases h⟩
theorem OwnK.lt {w : World} {base : Nat} {v : Value} {l : List (Pk × Value)} (h : OwnK w base v l) : ∀ g, v.ownBlock = some g → g < w.heap.size ∧ base ≤ g := fun g hg => by
  have := World.ownsRow.lt h.row g hg
  exact ⟨this.2, this.1⟩
theorem OwnK.later {w w1 : World} {base : Nat} {v : Value} {l : List (Pk × Value)} (h : OwnK w base v l) (hb : Below w.heap.size w w1) : OwnK w1 base v l := by
  refine ⟨⟨h.row.1, ?_⟩, h.fit⟩
  rcases h.row.2 with h0 | ⟨g, cap, cur, hv, hb', hh, hr⟩
  · exact .inl h0
  · exact .inr ⟨g, cap, cur, hv, hb', by rw [hb.block g (Array.getElem?_eq_some_iff.1 hh).1]; exact hh, hr⟩
/-- A row stays where a block of another type changes. -/
theorem OwnK.aside {w w1 : World} {base M : Nat} {cs : Array Value} {T : TypeId} {fr : Nat × Nat} {v : Value} {l : List (Pk × Value)} (h : OwnK w base v l) (hm : w.heap[M]? = some (.cells cs T fr)) (hT : T ≠ 33) (hg : w.grownBy w1 (some M)) : OwnK w1 base v l := by
  refine ⟨⟨h.row.1, ?_⟩, h.fit⟩
  rcases h.row.2 with h0 | ⟨g, cap, cur, hv, hb', hh, hr⟩
  · exact .inl h0
  · refine .inr ⟨g, cap, cur, hv, hb', ?_, hr⟩
    rw [hg.block g (Array.getElem?_eq_some_iff.1 hh).1 (fun e => by
      injection e with e
      subst e
      rw [hm] at hh
      injection hh with hh
      injection hh with _ hh
      exact hT hh)]
    exact hh
theorem OwnK.form {w : World} {base : Nat} {v : Value} {l : List (Pk × Value)} (h : OwnK w base v l) : ∃ a cap, v = .slice a l.length cap := by
  rcases h.row.2 with ⟨hv, h0⟩ | ⟨g, cap, cur, hv, _⟩
  · exact ⟨none, 0, by rw [h0]; exact hv⟩
  · exact ⟨_, cap, hv⟩
theorem ownK_below {w w1 : World} {base : Nat} {v : Value} {l : List (Pk × Value)} (h : OwnK w base v l) (hg : w.grownBy w1 v.ownBlock) (hb : base ≤ w.heap.size) : Below base w w1 :=
  ⟨hg.os, hg.tape, hg.output, hg.size, fun i hi => hg.block i (by omega) (fun e => by have := (h.lt i e.symm).2; omega)⟩
/-- The k-th packet of a row. -/
theorem OwnK.at {w : World} {base : Nat} {v : Value} {l : List (Pk × Value)} (h : OwnK w base v l) (k : Nat) (hk : k < l.length) : ∃ g cap, v = .slice (some ⟨g, 0, none⟩) l.length cap ∧ w.rangeAt g (k * 41) (pkL (l.getD k e0K).1 (l.getD k e0K).2) := by
  rcases h.row.2 with ⟨hv, h0⟩ | ⟨g, cap, cur, hv, _, hg, hc1, hc2, hc3, hc4⟩
  · omega
  · refine ⟨g, cap, hv, fun j u hj => ?_⟩
    have hfk : FitK (l.getD k e0K) := by
      rw [List.getD_eq_getElem?_getD, List.getElem?_eq_getElem hk]
      exact h.fit _ (List.getElem_mem _)
    have hj4 : j < 41 := by have := (List.getElem?_eq_some_iff.1 hj).1; rw [pkL_len _ _ hfk.1] at this; exact this
    rw [cell_of_row _ _ _ _ _ _ hg, ← Array.getElem?_toList]
    have h1 : (cur.toList.take (l.length * 41))[k * 41 + j]? = (cellsK l)[k * 41 + j]? := by rw [hc4]
    rw [List.getElem?_take_of_lt (by omega)] at h1
    rw [h1]
    exact cellsK_get l h.fit k hk j u hj
theorem run_apK (w : World) (base : Nat) (v : Value) (l : List (Pk × Value)) (hown : OwnK w base v l) (g o : Nat) (e : Pk × Value) (he : FitK e) (hr : w.rangeAt g o (pkL e.1 e.2)) (hn : l.length ≤ 1000) (hbase : base ≤ w.heap.size) (ty : TypeId) (cp : Nat) :
    ∃ v' w', (Builtin.append_ #[61, 61] ty #[v, .slice (some ⟨g, o, none⟩) 1 cp]).run Tryd.prog w = .ok v' w' ∧ OwnK w' base v' (l ++ [e]) ∧ w.grownBy w' v.ownBlock := by
  have hi : Tryd.prog.info? 33 = some ((Tryd.prog.info? 33).getD default) := by kernel_rfl
  obtain ⟨v', w', hrun, h2, h3, _, _⟩ := run_append_own_at (P := Tryd.prog) w base 61 ty 33 _ (.agg (pkC Pk.zero (.slice none 0 0))) 41 120 Tryd.underlying61 hi (by kernel_rfl) (by kernel_rfl) (by kernel_rfl) rfl (by omega) v l.length (cellsK l) hown.row ⟨g, o, none⟩ 1 cp (pkL e.1 e.2) (by rw [pkL_len _ _ he.1])
    (fun j u hu => by rw [show (⟨g, o, none⟩ : Addr).add j = ⟨g, o + j, none⟩ by unfold Addr.add; split <;> simp_all]; exact hr j u hu)
    (fun u hu => by
      obtain ⟨a, n, c, h4⟩ := he.2
      rw [h4] at hu
      have h5 := pkC_one e.1 a n c
      unfold pkC at h5
      rw [List.all_toArray, List.all_eq_true] at h5
      exact h5 u hu) (by simp only [maxLen]; omega) (by omega) hbase
  refine ⟨v', w', hrun, ⟨?_, fun y hy => ?_⟩, h3⟩
  · rw [List.length_append, cellsK_snoc]
    exact h2
  · rcases List.mem_append.1 hy with hy | hy
    · exact hown.fit y hy
    · rw [List.mem_singleton.1 hy]
      exact he
theorem wpList_apK {w : World} {ops : Array Oper} {rest : List Oper} {o : Oper} {a : Act} {Q : Exit → Act → World → Prop} (hgd : o.guard = none) (sl x : Operand)
    (ho : o.op = .call { callee := .builtin .append, args := #[sl, x], argTypes := #[61, 61] }) (base : Nat) (v : Value) (l : List (Pk × Value)) (hs : a.eval sl = v) (hown : OwnK w base v l) (g of : Nat) (e : Pk × Value) (he : FitK e) (cp : Nat) (hx : a.eval x = .slice (some ⟨g, of, none⟩) 1 cp) (hr : w.rangeAt g of (pkL e.1 e.2))
    (hn : l.length ≤ 1000) (hbase : base ≤ w.heap.size)
    (h : ∀ v' w', OwnK w' base v' (l ++ [e]) → w.grownBy w' v.ownBlock → wpList Tryd.prog ops Q rest (a.put o.dst v') w') : wpList Tryd.prog ops Q (o :: rest) a w := by
  refine wpList_plain hgd fun K hK => ?_
  obtain ⟨v', w', hrun, h1, h2⟩ := run_apK w base v l hown g of e he hr hn hbase o.type cp
  unfold Oper.wp
  simp [execOp, ho, resolve, invoke, builtin, hs, hx, hrun, Result.andThen]
  exact hK _ _ (h v' w' h1 h2)
end Go.Proofs.YtaoekfomffebhaaDoor
namespace Go.Proofs.YtaoekfomffebhaaDoor
open Go Go.ChangeShapes Go.WideShapes Go.ChangeAt Go.RowKit
def ksK (l : List (Pk × Value)) : List Int := l.map fun e => e.1.k
theorem zero15 (W : World) : (zeroValue 62).run Tryd.prog W = .ok (.agg (i64s z15).toArray) W := by kernel_rfl
theorem info15 (n : Nat) (h : n = 15) : (Tryd.prog.info? 62).map (·.size) = some n := by subst h; kernel_rfl
theorem i64s_one14 (cs : List Int) : (i64s cs).toArray.all (·.oneCell') = true := Go.all_oneCell_toArray fun v hv => by
  obtain ⟨q, -, rfl⟩ := List.mem_map.1 hv
  rfl
theorem i64s_size14 (cs : List Int) : (i64s cs).toArray.size = cs.length := by simp [i64s]
/-- What holds while packets are counted. -/
structure CK (w : World) (B base : Nat) (v : Value) (l : List (Pk × Value)) (k : Nat) (W : World) : Prop where
  res : W.heap[B]? = some (.cells (i64s z15).toArray 62 (0, 0))
  cnt : W.heap[B + 1]? = some (.cells (i64s (cntK ((ksK l).take k))).toArray 62 (0, 0))
  own : OwnK W base v l
  below : Below B w W
theorem CK.lt {w : World} {B base : Nat} {v : Value} {l : List (Pk × Value)} {k : Nat} {W : World} (h : CK w B base v l k W) : B + 1 < W.heap.size := (Array.getElem?_eq_some_iff.1 h.cnt).1
theorem CK.later {w : World} {B base : Nat} {v : Value} {l : List (Pk × Value)} {k : Nat} {W W1 : World} (h : CK w B base v l k W) (hb : Below W.heap.size W W1) : CK w B base v l k W1 :=
  ⟨(hb.block B (by have := h.lt; omega)).trans h.res, (hb.block (B + 1) h.lt).trans h.cnt, h.own.later hb, h.below.trans (hb.mono (by have := h.lt; omega))⟩
theorem CK.cell {w : World} {B base : Nat} {v : Value} {l : List (Pk × Value)} {k : Nat} {W : World} (h : CK w B base v l k W) (j : Nat) (hj : j < 15) : W.cell? ⟨B + 1, j, none⟩ = some (.int .i64 ((cntK ((ksK l).take k)).getD j 0)) := by
  rw [cell_of_row _ _ _ _ _ _ h.cnt, List.getElem?_toArray]
  exact i64s_get _ _ (by rw [cntK_len]; exact hj)
theorem CK.bump {w : World} {B base : Nat} {v : Value} {l : List (Pk × Value)} {k : Nat} {W : World} (h : CK w B base v l k W) (hk : k < l.length) (j : Nat) (hj : bumpK (cntK ((ksK l).take k)) (l.getD k e0K).1.k = (cntK ((ksK l).take k)).set j ((cntK ((ksK l).take k)).getD j 0 + 1)) : CK w B base v l (k + 1) (W.setCell ⟨B + 1, j, none⟩ (.int .i64 ((cntK ((ksK l).take k)).getD j 0 + 1))) := by
  have hg := kb_setCell (b := B + 1) W j (.int .i64 ((cntK ((ksK l).take k)).getD j 0 + 1))
  have hlt := h.lt
  refine ⟨(hg.block B (by omega) (fun e => by injection e with e; omega)).trans h.res, ?_, h.own.aside h.cnt (by decide) hg, h.below.trans (grown_below hg (by omega) (by omega))⟩
  rw [heap_setCell_same W (B + 1) j _ 62 _ h.cnt, i64s_setK]
  have e : (ksK l).getD k 0 = (l.getD k e0K).1.k := by
    unfold ksK
    rw [List.getD_eq_getElem?_getD, List.getElem?_map, List.getD_eq_getElem?_getD, List.getElem?_eq_getElem hk]
    rfl
  rw [cntK_take _ _ (by unfold ksK; rw [List.length_map]; exact hk), e, hj]
set_option maxRecDepth 100000 in
set_option maxHeartbeats 4000000 in
theorem kinds14 (base : Nat) (v : Value) (l : List (Pk × Value)) (w : World) (h : OwnK w base v l) (hl : l.length ≤ 1000) :
    Calls Tryd.prog 22 #[v] w fun e w' => e = .returned (.agg (i64s (cntK (ksK l))).toArray) ∧ Below w.heap.size w w' := by
  obtain ⟨a, cap, hva⟩ := h.form
  obtain ⟨n, hn⟩ : ∃ n, l.length = n := ⟨_, rfl⟩
  obtain ⟨B, hB⟩ : ∃ B, w.heap.size = B := ⟨_, rfl⟩
  obtain ⟨zr, hzr⟩ : ∃ z, (i64s z15).toArray = z := ⟨_, rfl⟩
  have hzv : ∀ W : World, (zeroValue 62).run Tryd.prog W = .ok (.agg zr) W := fun W => by rw [← hzr]; exact zero15 W
  obtain ⟨zc, hzc⟩ : ∃ zc, pkC Pk.zero (.slice none 0 0) = zc := ⟨_, rfl⟩
  have hzp : ∀ W : World, (zeroValue 33).run Tryd.prog W = .ok (.agg zc) W := fun W => by rw [← hzc]; exact pk_zeroW W
  have HZ := Bx.mk (show zc.size = 41 by rw [← hzc, pkC_size _ _ rfl])
  have H0 : Bx (CK w B base v l 0 ((w.alloc (.cells zr 62)).alloc (.cells zr 62))) := Bx.mk (by
    have k := ((KP.start w B hB).new (.cells zr 62)).new (.cells zr 62)
    rw [alloc_sizeP, hB] at k
    refine ⟨by rw [hzr]; exact k.rows _ (.tail _ (.head _)), by rw [show cntK ((ksK l).take 0) = z15 from rfl, hzr]; exact k.rows _ (.head _), h.later ((below_a _).trans ((below_a _).mono (by rw [alloc_sizeP]; omega))), k.below⟩)
  have HFit := Bx.mk h.fit
  obtain ⟨vr, hvr⟩ : ∃ vr, (i64s (cntK (ksK l))).toArray = vr := ⟨_, rfl⟩
  have HVR := Bx.mk hvr
  have HKl : Bx ((ksK l).take n = ksK l) := Bx.mk (List.take_of_length_le (by unfold ksK; rw [List.length_map]; omega))
  have HN := Bx.mk hn
  have HZR := Bx.mk hzr
  have HVA := Bx.mk hva
  rw [hva, hn, hB, hvr]
  have hn1 : (n : Int) ≤ 1000 := by omega
  have hn0 : (0 : Int) ≤ (n : Int) := by omega
  clear h hva hn hvr hzr hzc hl
  go_enter Tryd.func22, Tryd.ntmps22
  go_upto_region 3 with fail
  generalize (w.alloc (.cells zr 62)).alloc (.cells zr 62) = w0 at *
  clear hzv
  go_loopw [8] (fun i wr => ∃ k : Nat, k ≤ n ∧ i = .int .i64 (k : Int) ∧ Bx (CK w B base v l k wr)) (fun i _ => n - (intOf i).toNat)
  case atStart => exact ⟨0, Nat.zero_le _, rfl, H0⟩
  case round =>
    clear H0
    obtain ⟨k, hk, rfl, HI⟩ := hrel
    by_cases hlt : k < n
    · have hk1 : (k : Int) < (n : Int) := by omega
      have hk0 : (0 : Int) ≤ (k : Int) := by omega
      have hkl : k < l.length := by rw [HN.out]; exact hlt
      obtain ⟨g, cap', hv2, hrng⟩ := HI.out.own.at k hkl
      have hv3 := HVA.out.symm.trans hv2
      injection hv3 with e1 e2 e3
      subst e1
      have hfk : FitK (l.getD k e0K) := by
        rw [List.getD_eq_getElem?_getD, List.getElem?_eq_getElem hkl]
        exact HFit.out _ (List.getElem_mem _)
      have HBu := Bx.mk fun (W : World) (hI : CK w B base v l k W) (j : Nat) (hj) => hI.bump hkl j hj
      obtain ⟨x, u, hxu⟩ : ∃ x u, l.getD k e0K = (x, u) := ⟨_, _, rfl⟩
      rw [hxu] at hrng hfk HBu
      obtain ⟨hxt, ua, un, uc, hu⟩ := hfk
      simp only at hxt hu hrng HBu
      subst hu
      have HI2 : Bx ((Tryd.prog.info? 33).map (·.size) = some (pkL x (.slice ua un uc)).toArray.size ∧ (pkL x (.slice ua un uc)).toArray.size = zc.size ∧ (pkL x (.slice ua un uc)).toArray.all (·.oneCell') = true ∧ (Tryd.prog.info? 33).map (·.size) = some (pkL x (.slice ua un uc)).length) := Bx.mk ⟨pk_infoW x _ hxt, by rw [HZ.out]; exact pkC_size x _ hxt, pkC_one x _ _ _, pk_infoW x _ hxt⟩
      have HAt : Bx (∀ W D, W.heap[D]? = some (.cells (pkL x (.slice ua un uc)).toArray 33 (0, 0)) → PkAt W D x (.slice ua un uc)) := Bx.mk fun W D h => pk_at (x := x) (v := .slice ua un uc) h
      obtain ⟨tkl, htk⟩ : ∃ t, pkL x (.slice ua un uc) = t := ⟨_, rfl⟩
      rw [htk] at hrng HI2 HAt
      have HRg := Bx.mk hrng
      obtain ⟨D, hD⟩ : ∃ D, wr.heap.size = D := ⟨_, rfl⟩
      have HnD : Bx ((wr.alloc (.cells zc 33)).heap[D]? = some (.cells zc 33 (0, 0))) := Bx.mk (hnew _ _ _ hD.symm)
      have HBd := Bx.mk (cntK_bound ((ksK l).take k))
      have HTk : Bx (((ksK l).take k).length ≤ 1000) := Bx.mk (by rw [List.length_take]; omega)
      clear hv2 e2 e3 hkl hxu hxt htk hrng
      go_wp2_with (first | (refine wpList_load_midP (by rfl) 33 _ rfl g (k * 41) (by rfl) tkl _ HRg.out Tryd.underlying33 rfl HI2.out.2.2.2 ?_) | (refine wpList_store_new rfl 33 _ _ rfl D tkl.toArray zc _ (by rfl) (by rfl) HnD.out HI2.out.2.1 HI2.out.1 HI2.out.2.2.1 ?_; intro w2 hw8 hr8; have K2 := Bx.mk (HI.out.later ((below_a (W := wr) (.cells zc 33)).trans (grown_below (kb_ofP hw8) (by omega) (by have := (below_a (W := wr) (.cells zc 33)).size; omega)))); have k0 := (HAt.out w2 D hr8).k; clear hw8 hr8))
      clear HI HnD HRg hD
      cases hkb : kindB x.k with
      | true =>
        refine (iskind14 _ _ hkb w2).mono ?_
        rintro e w3 ⟨rfl, rfl⟩
        obtain ⟨q1, q2⟩ := (kindB_iff _).1 hkb
        obtain ⟨j, hj⟩ : ∃ j : Nat, x.k = (j : Int) := ⟨x.k.toNat, by omega⟩
        have hbm : bumpK (cntK ((ksK l).take k)) x.k = (cntK ((ksK l).take k)).set j ((cntK ((ksK l).take k)).getD j 0 + 1) := by unfold bumpK; rw [if_pos hkb, hj, Int.toNat_natCast]
        have HS := Bx.mk (HBu.out w2 K2.out j hbm)
        have hcell := K2.out.cell j (by omega)
        have hfz : w2.frozen? ⟨B + 1, j, none⟩ = false := frozen_of_row _ _ _ _ _ K2.out.cnt
        have hb1 := HBd.out j
        have hb2 := HTk.out
        rw [hj] at k0
        generalize (cntK ((ksK l).take k)).getD j 0 = c at *
        have hw : IntKind.i64.wrap (c + 1) = c + 1 := by simp [IntKind.wrap_i64]; omega
        have hj1 : (j : Int) < 15 := by omega
        have hj0 : (0 : Int) ≤ (j : Int) := by omega
        clear hbm HBu K2
        go_wp2
        go_roundw
        case rel => exact ⟨k + 1, by omega, by go_num, HS⟩
        case measure => simp [intOf]; omega
      | false =>
        refine (iskind14 _ _ hkb w2).mono ?_
        rintro e w3 ⟨rfl, rfl⟩
        have hbm : bumpK (cntK ((ksK l).take k)) x.k = (cntK ((ksK l).take k)).set 0 ((cntK ((ksK l).take k)).getD 0 0 + 1) := by unfold bumpK; rw [if_neg (by simp [hkb])]
        have HS := Bx.mk (HBu.out w2 K2.out 0 hbm)
        have hcell := K2.out.cell 0 (by omega)
        have hfz : w2.frozen? ⟨B + 1, 0, none⟩ = false := frozen_of_row _ _ _ _ _ K2.out.cnt
        have hb1 := HBd.out 0
        have hb2 := HTk.out
        generalize (cntK ((ksK l).take k)).getD 0 0 = c at *
        have hw : IntKind.i64.wrap (c + 1) = c + 1 := by simp [IntKind.wrap_i64]; omega
        clear hbm HBu K2
        go_wp2
        go_roundw
        case rel => exact ⟨k + 1, by omega, by go_num, HS⟩
        case measure => simp [intOf]; omega
    · obtain rfl : k = n := by omega
      have HCt : Bx (wr.heap[B + 1]? = some (.cells vr 62 (0, 0)) ∧ wr.heap[B]? = some (.cells zr 62 (0, 0))) := Bx.mk ⟨by rw [← HVR.out]; have := HI.out.cnt; rw [HKl.out] at this; exact this, by rw [← HZR.out]; exact HI.out.res⟩
      have HSz : Bx ((Tryd.prog.info? 62).map (·.size) = some vr.size ∧ vr.size = zr.size ∧ vr.all (·.oneCell') = true) := Bx.mk ⟨info15 _ (by rw [← HVR.out, i64s_size14, cntK_len]), by rw [← HVR.out, ← HZR.out, i64s_size14, i64s_size14, cntK_len]; rfl, by rw [← HVR.out]; exact i64s_one14 _⟩
      clear hlt
      go_wp2_with (first | (refine wpList_load_row rfl 62 _ rfl (B + 1) (by rfl) _ _ _ _ HCt.out.1 Tryd.underlying62 rfl HSz.out.1 ?_) | (refine wpList_store_new rfl 62 _ _ rfl B vr zr _ (by rfl) (by rfl) HCt.out.2 HSz.out.2.1 HSz.out.1 HSz.out.2.2 ?_; intro w8 hw8 hr8; have hg8 := Bx.mk (kb_ofP hw8); have HR8 := Bx.mk hr8; clear hw8 hr8))
      refine bodyPost_ret (results_cell_row rfl _ _ B _ vr _ _ rfl HR8.out Tryd.underlying62 rfl HSz.out.1) rfl ?_
      exact ⟨rfl, HI.out.below.trans (grown_below hg8.out (Nat.le_refl _) (by have := HI.out.lt; omega))⟩
end Go.Proofs.YtaoekfomffebhaaDoor
namespace Go.Proofs.YtaoekfomffebhaaDoor
open Go Go.RowKit
/-- The words, as bytes, by their numbers. -/
def wordsPk : List (List UInt8) := [[], [104, 101, 108, 108, 111], [99, 111, 111, 107, 105, 101], [106, 111, 105, 110], [97, 100, 109, 105, 116], [119, 97, 110, 116], [103, 114, 97, 110, 116], [112, 105, 110, 103], [97, 99, 107], [114, 101, 113, 117, 101, 115, 116], [115, 121, 110, 99], [100, 101, 108, 116, 97], [97, 116, 116, 101, 115, 116], [109, 101, 116, 97], [108, 101, 97, 118, 101]]
def wordVP (s : List UInt8) : Value := .string ⟨s.toArray⟩
/-- The listed variable's cells hold the words. -/
def WordsAtP (W : World) : Prop := ∀ k : Nat, k < 15 → W.cell? ⟨0, k, none⟩ = some (wordVP (wordsPk.getD k []))
theorem WordsAtP.later {W W1 : World} (h : WordsAtP W) (hb : Below W.heap.size W W1) : WordsAtP W1 := fun k hk => (hb.cell (p := ⟨0, k, none⟩) (World.block_lt_of_cell? _ _ (h k hk))).trans (h k hk)
theorem gWordsP : Tryd.prog.globalNamed "vigil/packet.words" = some 0 := by kernel_rfl
theorem gWordsTypeP : (Tryd.prog.globals[0]?).map (·.type) = some 60 := by kernel_rfl
theorem cellsStrP : Tryd.prog.cellsOf 9 = 1 := by kernel_rfl
theorem laidWordsP_is : (Rows.laid_vigil_packet_words : DataW Unit) = .agg (wordsPk.map fun s => .lit (.string s)) := by kernel_rfl
open Go.ChangeShapes Go.WideShapes Go.ChangeAt in
theorem wordsP_of {W : World} (h : laidMet Tryd.prog [("vigil/packet.words", Rows.laid_vigil_packet_words)] W) : WordsAtP W := by
  rw [laidWordsP_is] at h
  obtain ⟨ps, ⟨g', t', cs, fuel, p, q, hg', ht', hvar, hd, _, _⟩, _⟩ := h
  obtain rfl := Option.some.inj (gWordsP.symm.trans hg')
  obtain rfl := Option.some.inj (gWordsTypeP.symm.trans ht')
  obtain ⟨xs, m, -, hx, hlen, hxl, hf⟩ := DataW.trod_array Tryd.underlying60 hd
  intro k hk
  have hxs : wordsPk.map (fun s => (DataW.lit (.string s) : DataW Unit)) = xs.map (·.1) := by
    have := congrArg Prod.fst hx
    simpa using this
  have hkx : k < xs.length := by omega
  have hkw : k < wordsPk.length := hk
  have h1 := hf k hk
  rw [cellsStrP, Nat.mul_one, List.getElem?_eq_getElem hkx] at h1
  obtain ⟨s, hc, hy, -⟩ := DataW.trod_string Tryd.underlying9 h1
  have h2 : (xs.map (·.1))[k]? = some (xs[k]).1 := by rw [List.getElem?_map, List.getElem?_eq_getElem hkx]; rfl
  rw [← hxs, List.getElem?_map, List.getElem?_eq_getElem hkw, hy] at h2
  have h3 : s.data.toList = wordsPk[k] := by
    simp at h2
    exact h2.symm
  have h4 : cs[k]? = some (.string s) := by
    have := congrArg (·[0]?) hc
    simpa [List.getElem?_take, List.getElem?_drop] using this
  have h5 := World.var?_cell gWordsP hvar k
  rw [h5]
  have h6 : s = ⟨(wordsPk[k]).toArray⟩ := by rw [← h3]
  rw [List.getD_eq_getElem?_getD, List.getElem?_eq_getElem hkw]
  simp [h4, h6, wordVP]
/-- A world for the witness: the variable holds what its initialiser lays. -/
noncomputable def laidWorld14 (os : Os) : World :=
  { World.holding Tryd.prog os ⟨#[], #[], []⟩ with heap := (World.holding Tryd.prog os ⟨#[], #[], []⟩).heap.modify 0 fun
      | .cells _ t frozen => .cells (wordsPk.map wordVP).toArray t frozen
      | o => o }
set_option maxRecDepth 100000 in
set_option maxHeartbeats 4000000 in
theorem word14 (k : Int) (w : World) (h : WordsAtP w) : Calls Tryd.prog 19 #[.int .i64 k] w fun e w' => e = .returned (wordVP (if kindB k = true then wordsPk.getD k.toNat [] else [])) ∧ w = w' := by
  cases hr : kindB k with
  | true =>
    rw [if_pos rfl]
    obtain ⟨h1, h2⟩ := (kindB_iff k).1 hr
    obtain ⟨n, rfl⟩ : ∃ n : Nat, k = (n : Int) := ⟨k.toNat, by omega⟩
    have ck := h n (by omega)
    rw [Int.toNat_natCast]
    unfold wordVP at *
    generalize wordsPk.getD n [] = s at *
    have hk3 : (n : Int) < 15 := by omega
    have hk4 : (0 : Int) ≤ (n : Int) := by omega
    clear h h1 h2
    go_enter Tryd.func19, Tryd.ntmps19
    go_wp2_with fail
    refine (iskind14 _ _ hr w).mono ?_
    rintro e w1 ⟨rfl, rfl⟩
    go_wp2
    go_ret
    exact ⟨rfl, rfl⟩
  | false =>
    rw [if_neg (by simp)]
    go_enter Tryd.func19, Tryd.ntmps19
    go_wp2_with fail
    refine (iskind14 _ _ hr w).mono ?_
    rintro e w1 ⟨rfl, rfl⟩
    go_wp2
    go_ret
    exact ⟨rfl, rfl⟩
/-- Which kinds are from seeds or for them. -/
def seedB (k : Int) : Bool := decide (1 ≤ k ∧ k ≤ 6 ∨ k = 11 ∨ k = 12 ∨ k = 14)
set_option maxRecDepth 100000 in
set_option maxHeartbeats 4000000 in
theorem seeds14 (k : Int) (w : World) : Calls Tryd.prog 21 #[.int .i64 k] w fun e w' => e = .returned (.bool (seedB k)) ∧ w = w' := by
  by_cases h1 : k = 11
  · subst h1
    go_enter Tryd.func21, Tryd.ntmps21
    go_wp2
    go_ret
    exact ⟨rfl, rfl⟩
  · have d1 : (k == 11) = false := by simp [h1]
    by_cases h2 : k = 12
    · subst h2
      go_enter Tryd.func21, Tryd.ntmps21
      go_wp2
      go_ret
      exact ⟨rfl, rfl⟩
    · have d2 : (k == 12) = false := by simp [h2]
      by_cases h3 : k = 14
      · subst h3
        go_enter Tryd.func21, Tryd.ntmps21
        go_wp2
        go_ret
        exact ⟨rfl, rfl⟩
      · have d3 : (k == 14) = false := by simp [h3]
        by_cases h4 : 1 ≤ k
        · by_cases h5 : k ≤ 6
          · obtain ⟨r, hr⟩ : ∃ r, seedB k = r := ⟨_, rfl⟩
            obtain rfl : r = true := by rw [← hr]; unfold seedB; exact decide_eq_true (.inl ⟨h4, h5⟩)
            rw [hr]
            clear hr h1 h2 h3
            go_enter Tryd.func21, Tryd.ntmps21
            go_wp2
            go_ret
            exact ⟨by simp, rfl⟩
          · obtain ⟨r, hr⟩ : ∃ r, seedB k = r := ⟨_, rfl⟩
            obtain rfl : r = false := by rw [← hr]; unfold seedB; exact decide_eq_false (by omega)
            rw [hr]
            clear hr h1 h2 h3
            go_enter Tryd.func21, Tryd.ntmps21
            go_wp2
            go_ret
            exact ⟨by simp, rfl⟩
        · obtain ⟨r, hr⟩ : ∃ r, seedB k = r := ⟨_, rfl⟩
          obtain rfl : r = false := by rw [← hr]; unfold seedB; exact decide_eq_false (by omega)
          rw [hr]
          clear hr h1 h2 h3
          go_enter Tryd.func21, Tryd.ntmps21
          go_wp2
          go_ret
          exact ⟨by simp, rfl⟩
end Go.Proofs.YtaoekfomffebhaaDoor
