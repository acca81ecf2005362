/-
  The statement on what is put: the second loop.
-/
import Derived.Test.YtgbhckoaabnblaaUa
namespace Go.Proofs.Ytgbhckoaabnblaa
open Go Go.RowKit
/-- The frame in and behind the second loop. -/
structure G0 (ax ay : Option Addr) (m cx cy p5 p6 : Nat) (v7 : Value) (bad : Int) (v10 : Value) (a : Act) : Prop where
  fr : Fr 204 a
  s3 : a.eval (.tmp 3) = (.slice ax m cx)
  s4 : a.eval (.tmp 4) = (.slice ay m cy)
  s5 : a.eval (.tmp 5) = (.pointer (some ⟨p5, 0, none⟩))
  s6 : a.eval (.tmp 6) = (.pointer (some ⟨p6, 0, none⟩))
  s7 : a.eval (.tmp 7) = v7
  s8 : a.eval (.tmp 8) = .int .i64 bad
  s10 : a.eval (.tmp 10) = v10
  s11 : a.eval (.tmp 11) = .int .i64 bad
/-- The second loop's state. -/
structure I2 (w : World) (B : Nat) (ax ay : Option Addr) (m cx cy p5 p6 : Nat) (gs : List Fd) (v7 : Value) (bad : Int) (v10 : Value) (l7 l10 : List UInt8) (st5 : List UInt8 × Int) (k : Nat) (a : Act) (W : World) : Prop where
  kf : G0 ax ay m cx cy p5 p6 v7 bad v10 a
  s12 : a.eval (.tmp 12) = .int .i64 (k : Int)
  o7 : OwnB W (p6 + 1) v7 l7
  o10 : OwnB W (p6 + 1) v10 l10
  mp : MP w B (.slice ax m cx) (.slice ay m cy) gs p5 p6 st5 ((gs.take k).foldl putS ([], 0)) W
set_option maxRecDepth 100000 in
set_option maxHeartbeats 8000000 in
theorem round2 (w : World) (B : Nat) (ax ay : Option Addr) (m cx cy p5 p6 : Nat) (gs : List Fd) (v7 : Value) (bad : Int) (v10 : Value) (l7 l10 : List UInt8) (st5 : List UInt8 × Int) (hm : m ≤ 12) (hgn : ∀ f ∈ gs, -9223372036854775808 ≤ f.n ∧ f.n ≤ 9223372036854775807)
    (Q : Exit → Act → World → Prop) (k : Nat) (a : Act) (wr : World) (hk : k < m) (h : I2 w B ax ay m cx cy p5 p6 gs v7 bad v10 l7 l10 st5 k a wr) :
    Code.wp Try.prog (loopAt Try.f3.body 1) (Exit.then (fun a' w' => I2 w B ax ay m cx cy p5 p6 gs v7 bad v10 l7 l10 st5 (k + 1) a' w') Q) a wr := by
  have hml : (m : Int) ≤ 12 := by omega
  obtain ⟨gx, ox, vb, rfl, hgB, hrg, hbn, hbB⟩ := h.mp.fx.at_ k hk
  obtain ⟨gy, oy, vb2, rfl, hgB2, hrg2, hbn2, hbB2⟩ := h.mp.fy.at_ k hk
  have HSt := Bx.mk (fold_take gs ([], 0) k (by rw [h.mp.fx.len]; exact hk))
  have HGn := Bx.mk (hgn (gs.getD k Fd.zero) (by rw [List.getD_eq_getElem?_getD, List.getElem?_eq_getElem (by rw [h.mp.fx.len]; exact hk)]; exact List.getElem_mem _))
  generalize gs.getD k Fd.zero = f at *
  obtain ⟨s, n, b⟩ := f
  simp only at hrg hbn hbB hrg2 hbn2 hbB2 HGn
  obtain ⟨ab, cb, hvb, -⟩ := id hbn
  subst hvb
  obtain ⟨ab2, cb2, hvb2, -⟩ := id hbn2
  subst hvb2
  have H : Bx (OwnB wr (p6 + 1) v7 l7 ∧ OwnB wr (p6 + 1) v10 l10 ∧ MP w B (.slice (some ⟨gx, ox, none⟩) m cx) (.slice (some ⟨gy, oy, none⟩) m cy) gs p5 p6 st5 ((gs.take k).foldl putS ([], 0)) wr ∧ Below B wr wr) := Bx.mk ⟨h.o7, h.o10, h.mp, Below.refl _ _⟩
  have HBx0 : Bx (∀ W, Below B wr W → Bytes W (.slice ab b.length cb) b) := Bx.mk (fun W hb => bytes_below hbn hbB hb)
  have HBy0 : Bx (∀ W, Below B wr W → Bytes W (.slice ab2 b.length cb2) b) := Bx.mk (fun W hb => bytes_below hbn2 hbB2 hb)
  have hpB : B ≤ p6 := by have h1 := h.mp.b5; have h2 := h.mp.b6; omega
  have HNx0 : Bx (0 < b.length → (Value.slice ab b.length cb).ownBlock ≠ some p6) := Bx.mk (fun h0 e => by obtain ⟨c, e1, e2⟩ := hbB h0; rw [e] at e1; injection e1 with e1; omega)
  have HSS0 : Bx (∀ W, Below B wr W → W.rangeAt gx (ox + k * 3) [.int .i64 s, .int .i64 n, .slice ab b.length cb] ∧ W.rangeAt gy (oy + k * 3) [.int .i64 s, .int .i64 n, .slice ab2 b.length cb2]) := Bx.mk (fun W hb => ⟨range_later hrg hb hgB, range_later hrg2 hb hgB2⟩)
  obtain ⟨L, hL⟩ : ∃ n, b.length = n := ⟨_, rfl⟩
  have HL := Bx.mk hL
  rw [hL] at HBx0 HBy0 HSS0
  have HBx := HBx0
  have HBy := HBy0
  have HSS : Bx (∀ W, Below B wr W → (fun W => W.rangeAt gx (ox + k * 3) [.int .i64 s, .int .i64 n, .slice ab L cb] ∧ W.rangeAt gy (oy + k * 3) [.int .i64 s, .int .i64 n, .slice ab2 L cb2]) W) := HSS0
  have HNx : Bx (0 < b.length → (Value.slice ab L cb).ownBlock ≠ some p6) := Bx.mk (by rw [hL] at HNx0; rw [hL]; exact HNx0.out)
  clear HBx0 HBy0 HSS0 HNx0
  obtain ⟨x, rfl, hx⟩ := open204 h.kf.fr
  have e3 := (hx 3).symm.trans h.kf.s3
  have e4 := (hx 4).symm.trans h.kf.s4
  have e5 := (hx 5).symm.trans h.kf.s5
  have e6 := (hx 6).symm.trans h.kf.s6
  have e7 := (hx 7).symm.trans h.kf.s7
  have e8 := (hx 8).symm.trans h.kf.s8
  have e10 := (hx 10).symm.trans h.kf.s10
  have e11 := (hx 11).symm.trans h.kf.s11
  have e12 := (hx 12).symm.trans h.s12
  clear h hx hrg hrg2 hbn hbn2 hbB hbB2 hgn hL hpB
  generalize (gs.take k).foldl putS ([], 0) = sk at *
  rw [e3, e4, e5, e6, e7, e8, e10, e11, e12]
  clear e3 e4 e5 e6 e7 e8 e10 e11 e12
  obtain ⟨a7, c7, hv7, -⟩ := H.out.1.bytes
  subst hv7
  obtain ⟨a10, c10, hv10, -⟩ := H.out.2.1.bytes
  subst hv10
  obtain ⟨u7, hu7⟩ : ∃ n, l7.length = n := ⟨_, rfl⟩
  obtain ⟨u10, hu10⟩ : ∃ n, l10.length = n := ⟨_, rfl⟩
  rw [hu7, hu10] at H ⊢
  clear hu7 hu10
  have hk1 : (k : Int) < (m : Int) := by omega
  conv => arg 2; whnf
  go_upto_region 20 with fail
  refine wp_region_noPanic ?_
  refine wp_region_held_drew (S := fun W => W.rangeAt gx (ox + k * 3) [.int .i64 s, .int .i64 n, .slice ab L cb] ∧ W.rangeAt gy (oy + k * 3) [.int .i64 s, .int .i64 n, .slice ab2 L cb2]) (by kernel_rfl) (HSS.out _ H.out.2.2.2.drew) (fun hHeld => ?_)
  have H : Bx (OwnB wr.drew (p6 + 1) (.slice a7 u7 c7) l7 ∧ OwnB wr.drew (p6 + 1) (.slice a10 u10 c10) l10 ∧ MP w B (.slice (some ⟨gx, ox, none⟩) m cx) (.slice (some ⟨gy, oy, none⟩) m cy) gs p5 p6 st5 sk wr.drew ∧ Below B wr wr.drew) := Bx.mk ⟨H.out.1, H.out.2.1, H.out.2.2.1.later (Below.refl _ _).drew, H.out.2.2.2.drew⟩
  obtain ⟨W0, hW0⟩ : ∃ W, wr.drew = W := ⟨_, rfl⟩
  rw [hW0] at H hHeld ⊢
  clear hW0
  refine takeL 0 (v := ?_) rfl (by kernel_rfl) (by kernel_rfl) (by kernel_rfl) (fun _ _ _ h => h) (Or.inl ⟨by rfl, ?_⟩) hHeld ?_
  rotate_left 1
  · (intro w hSw; go_simp; try with_reducible rfl)
  try simp only [Act.put, List.setIfInBounds_toArray, List.set_cons_zero, List.set_cons_succ]
  refine takeL 1 (v := ?_) rfl (by kernel_rfl) (by kernel_rfl) (by kernel_rfl) (fun _ _ _ h => h) (Or.inl ⟨by rfl, ?_⟩) hHeld ?_
  rotate_left 1
  · (intro w hSw; go_simp; try with_reducible rfl)
  try simp only [Act.put, List.setIfInBounds_toArray, List.set_cons_zero, List.set_cons_succ]
  refine takeL 2 (v := ?_) rfl (by kernel_rfl) (by kernel_rfl) (by kernel_rfl) (fun _ _ _ h => h) (Or.inl ⟨by rfl, ?_⟩) hHeld ?_
  rotate_left 1
  · (intro w hSw; go_simp; try with_reducible rfl)
  try simp only [Act.put, List.setIfInBounds_toArray, List.set_cons_zero, List.set_cons_succ]
  refine takeL 3 rfl (by kernel_rfl) (by kernel_rfl) (by kernel_rfl) (fun _ _ _ h => h) (yieldsIf_load_mid (by rfl) _ _ rfl _ _ rfl _ _ (fun w hSw => hSw.1) Try.underlying40 rfl (by kernel_rfl)) hHeld ?_
  try simp only [Act.put, List.setIfInBounds_toArray, List.set_cons_zero, List.set_cons_succ]
  refine takeL 5 (v := ?_) rfl (by kernel_rfl) (by kernel_rfl) (by kernel_rfl) (fun _ _ _ h => h) (Or.inl ⟨by rfl, ?_⟩) hHeld ?_
  rotate_left 1
  · (intro w hSw; go_simp; try with_reducible rfl)
  try simp only [Act.put, List.setIfInBounds_toArray, List.set_cons_zero, List.set_cons_succ]
  refine takeL 6 (v := ?_) rfl (by kernel_rfl) (by kernel_rfl) (by kernel_rfl) (fun _ _ _ h => h) (Or.inl ⟨by rfl, ?_⟩) hHeld ?_
  rotate_left 1
  · (intro w hSw; go_simp; try with_reducible rfl)
  try simp only [Act.put, List.setIfInBounds_toArray, List.set_cons_zero, List.set_cons_succ]
  refine takeL 7 (v := ?_) rfl (by kernel_rfl) (by kernel_rfl) (by kernel_rfl) (fun _ _ _ h => h) (Or.inl ⟨by rfl, ?_⟩) hHeld ?_
  rotate_left 1
  · (intro w hSw; go_simp; try with_reducible rfl)
  try simp only [Act.put, List.setIfInBounds_toArray, List.set_cons_zero, List.set_cons_succ]
  refine takeL 8 rfl (by kernel_rfl) (by kernel_rfl) (by kernel_rfl) (fun _ _ _ h => h) (yieldsIf_load_mid (by rfl) _ _ rfl _ _ rfl _ _ (fun w hSw => hSw.2) Try.underlying33 rfl (by kernel_rfl)) hHeld ?_
  try simp only [Act.put, List.setIfInBounds_toArray, List.set_cons_zero, List.set_cons_succ]
  refine stepL 4 (by kernel_rfl) rfl (fun K hK => ?_)
  go_simp
  refine (wcheck_any ⟨s, n, b⟩ _ W0 ⟨_, rfl, HBx.out _ H.out.2.2.2⟩ HGn.out.1 HGn.out.2).mono ?_
  rintro e W1 ⟨rfl, hb⟩
  show K _ _
  have H : Bx (OwnB W1 (p6 + 1) (.slice a7 u7 c7) l7 ∧ OwnB W1 (p6 + 1) (.slice a10 u10 c10) l10 ∧ MP w B (.slice (some ⟨gx, ox, none⟩) m cx) (.slice (some ⟨gy, oy, none⟩) m cy) gs p5 p6 st5 sk W1 ∧ Below B wr W1) := Bx.mk ⟨H.out.1.later hb (fun g hg => (H.out.1.lt g hg).1), H.out.2.1.later hb (fun g hg => (H.out.2.1.lt g hg).1), H.out.2.2.1.later hb, H.out.2.2.2.trans (hb.mono H.out.2.2.1.ltB)⟩
  clear hb
  refine hK.out _ _ (HSS.out _ H.out.2.2.2) (fun hHeld => ?_)
  clear hK K
  try simp only [Act.put, List.setIfInBounds_toArray, List.set_cons_zero, List.set_cons_succ]
  refine stepL 9 (by kernel_rfl) rfl (fun K hK => ?_)
  go_simp
  refine (rcheck_any ⟨s, n, b⟩ _ W1 ⟨_, rfl, HBy.out _ H.out.2.2.2⟩ HGn.out.1 HGn.out.2).mono ?_
  rintro e W2 ⟨rfl, hb⟩
  show K _ _
  have H : Bx (OwnB W2 (p6 + 1) (.slice a7 u7 c7) l7 ∧ OwnB W2 (p6 + 1) (.slice a10 u10 c10) l10 ∧ MP w B (.slice (some ⟨gx, ox, none⟩) m cx) (.slice (some ⟨gy, oy, none⟩) m cy) gs p5 p6 st5 sk W2 ∧ Below B wr W2) := Bx.mk ⟨H.out.1.later hb (fun g hg => (H.out.1.lt g hg).1), H.out.2.1.later hb (fun g hg => (H.out.2.1.lt g hg).1), H.out.2.2.1.later hb, H.out.2.2.2.trans (hb.mono H.out.2.2.1.ltB)⟩
  clear hb
  refine hK.out _ _ (HSS.out _ H.out.2.2.2) (fun hHeld => ?_)
  clear hK K
  try simp only [Act.put, List.setIfInBounds_toArray, List.set_cons_zero, List.set_cons_succ]
  refine takeL 10 (v := ?_) rfl (by kernel_rfl) (by kernel_rfl) (by kernel_rfl) (fun _ _ _ h => h) (Or.inl ⟨by rfl, ?_⟩) hHeld ?_
  rotate_left 1
  · (intro w hSw; go_simp; try with_reducible rfl)
  try simp only [Act.put, List.setIfInBounds_toArray, List.set_cons_zero, List.set_cons_succ]
  refine takeL 11 (v := ?_) rfl (by kernel_rfl) (by kernel_rfl) (by kernel_rfl) (fun _ _ _ h => h) (Or.inl ⟨by rfl, ?_⟩) hHeld ?_
  rotate_left 1
  · (intro w hSw; go_simp; try with_reducible rfl)
  try simp only [Act.put, List.setIfInBounds_toArray, List.set_cons_zero, List.set_cons_succ]
  refine takeL 12 (v := ?_) rfl (by kernel_rfl) (by kernel_rfl) (by kernel_rfl) (fun _ _ _ h => h) (Or.inl ⟨by rfl, ?_⟩) hHeld ?_
  rotate_left 1
  · (intro w hSw; go_simp; try with_reducible rfl)
  try simp only [Act.put, List.setIfInBounds_toArray, List.set_cons_zero, List.set_cons_succ]
  refine takeL 13 (v := ?_) rfl (by kernel_rfl) (by kernel_rfl) (by kernel_rfl) (fun _ _ _ h => h) (Or.inl ⟨by rfl, ?_⟩) hHeld ?_
  rotate_left 1
  · (intro w hSw; go_simp; try with_reducible rfl)
  try simp only [Act.put, List.setIfInBounds_toArray, List.set_cons_zero, List.set_cons_succ]
  refine takeL 14 (v := ?_) rfl (by kernel_rfl) (by kernel_rfl) (by kernel_rfl) (fun _ _ _ h => h) (Or.inl ⟨by rfl, ?_⟩) hHeld ?_
  rotate_left 1
  · (intro w hSw; go_simp; try with_reducible rfl)
  try simp only [Act.put, List.setIfInBounds_toArray, List.set_cons_zero, List.set_cons_succ]
  refine takeL 15 rfl (by kernel_rfl) (by kernel_rfl) (by kernel_rfl) (fun _ _ _ h => h) (yieldsIf_load_mid (by rfl) _ _ rfl _ _ rfl _ _ (fun w hSw => hSw.1) Try.underlying40 rfl (by kernel_rfl)) hHeld ?_
  try simp only [Act.put, List.setIfInBounds_toArray, List.set_cons_zero, List.set_cons_succ]
  refine takeL 16 (v := ?_) rfl (by kernel_rfl) (by kernel_rfl) (by kernel_rfl) (fun _ _ _ h => h) (Or.inl ⟨by rfl, ?_⟩) hHeld ?_
  rotate_left 1
  · (intro w hSw; go_simp; try with_reducible rfl)
  try simp only [Act.put, List.setIfInBounds_toArray, List.set_cons_zero, List.set_cons_succ]
  refine takeL 17 (v := ?_) rfl (by kernel_rfl) (by kernel_rfl) (by kernel_rfl) (fun _ _ _ h => h) (Or.inl ⟨by rfl, ?_⟩) hHeld ?_
  rotate_left 1
  · (intro w hSw; go_simp; try with_reducible rfl)
  try simp only [Act.put, List.setIfInBounds_toArray, List.set_cons_zero, List.set_cons_succ]
  refine takeL 18 (v := ?_) rfl (by kernel_rfl) (by kernel_rfl) (by kernel_rfl) (fun _ _ _ h => h) (Or.inl ⟨by rfl, ?_⟩) hHeld ?_
  rotate_left 1
  · (intro w hSw; go_simp; try with_reducible rfl)
  try simp only [Act.put, List.setIfInBounds_toArray, List.set_cons_zero, List.set_cons_succ]
  refine takeL 19 rfl (by kernel_rfl) (by kernel_rfl) (by kernel_rfl) (fun _ _ _ h => h) (yieldsIf_load_mid (by rfl) _ _ rfl _ _ rfl _ _ (fun w hSw => hSw.1) Try.underlying40 rfl (by kernel_rfl)) hHeld ?_
  try simp only [Act.put, List.setIfInBounds_toArray, List.set_cons_zero, List.set_cons_succ]
  refine stepL 20 (by kernel_rfl) rfl (fun K hK => ?_)
  go_simp
  refine (wsame_eq ⟨s, n, b⟩ _ _ W2 ⟨_, rfl, HBx.out _ H.out.2.2.2⟩ ⟨_, rfl, HBx.out _ H.out.2.2.2⟩).mono ?_
  rintro e W3 ⟨rfl, hb⟩
  show K _ _
  have H : Bx (OwnB W3 (p6 + 1) (.slice a7 u7 c7) l7 ∧ OwnB W3 (p6 + 1) (.slice a10 u10 c10) l10 ∧ MP w B (.slice (some ⟨gx, ox, none⟩) m cx) (.slice (some ⟨gy, oy, none⟩) m cy) gs p5 p6 st5 sk W3 ∧ Below B wr W3) := Bx.mk ⟨H.out.1.later hb (fun g hg => (H.out.1.lt g hg).1), H.out.2.1.later hb (fun g hg => (H.out.2.1.lt g hg).1), H.out.2.2.1.later hb, H.out.2.2.2.trans (hb.mono H.out.2.2.1.ltB)⟩
  clear hb
  refine hK.out _ _ (HSS.out _ H.out.2.2.2) (fun hHeld => ?_)
  clear hK K
  try simp only [Act.put, List.setIfInBounds_toArray, List.set_cons_zero, List.set_cons_succ]
  refine takeL 21 (v := ?_) rfl (by kernel_rfl) (by kernel_rfl) (by kernel_rfl) (fun _ _ _ h => h) (Or.inl ⟨by rfl, ?_⟩) hHeld ?_
  rotate_left 1
  · (intro w hSw; go_simp; try with_reducible rfl)
  try simp only [Act.put, List.setIfInBounds_toArray, List.set_cons_zero, List.set_cons_succ]
  refine takeL 22 (v := ?_) rfl (by kernel_rfl) (by kernel_rfl) (by kernel_rfl) (fun _ _ _ h => h) (Or.inl ⟨by rfl, ?_⟩) hHeld ?_
  rotate_left 1
  · (intro w hSw; go_simp; try with_reducible rfl)
  try simp only [Act.put, List.setIfInBounds_toArray, List.set_cons_zero, List.set_cons_succ]
  refine wpAnyH_done (by kernel_rfl) ?_ _
  refine NoPanic.normal ?_
  clear hHeld
  obtain ⟨hc0, hc1, hc2⟩ := cells_of (HSS.out _ H.out.2.2.2).1
  by_cases hA : s = 4 ∧ n = 0
  · obtain ⟨rfl, rfl⟩ := hA
    have H8 : Bx (OwnB (W3.alloc (.cells #[.slice ab L cb] 30)) (p6 + 1) (.slice a7 u7 c7) l7 ∧ OwnB (W3.alloc (.cells #[.slice ab L cb] 30)) (p6 + 1) (.slice a10 u10 c10) l10 ∧ MP w B (.slice (some ⟨gx, ox, none⟩) m cx) (.slice (some ⟨gy, oy, none⟩) m cy) gs p5 p6 st5 sk (W3.alloc (.cells #[.slice ab L cb] 30)) ∧ Below B wr (W3.alloc (.cells #[.slice ab L cb] 30))) := Bx.mk ⟨ownB_a H.out.1 _, ownB_a H.out.2.1 _, H.out.2.2.1.later (below_a _), H.out.2.2.2.alloc H.out.2.2.1.ltB _⟩
    have HPn : Bx (PartsN (W3.alloc (.cells #[.slice ab L cb] 30)) p6 (.slice (some ⟨W3.heap.size, 0, none⟩) 1 1) [b]) := Bx.mk (parts_one W3 p6 _ b _ ⟨HBx.out _ H.out.2.2.2, HNx.out⟩ H.out.2.2.1.w6.lt)
    go_wp2_with fail
    generalize W3.alloc (.cells #[.slice ab L cb] 30) = W8 at *
    generalize W3.heap.size = E8 at *
    refine (wbyt_any [b] _ p6 sk W8 H8.out.2.2.1.w6 HPn.out (by simp)).mono ?_
    rintro e W9 ⟨rfl, HW9, hg9⟩
    have H9 : Bx (OwnB W9 (p6 + 1) (.slice a7 u7 c7) l7 ∧ OwnB W9 (p6 + 1) (.slice a10 u10 c10) l10 ∧ MP w B (.slice (some ⟨gx, ox, none⟩) m cx) (.slice (some ⟨gy, oy, none⟩) m cy) gs p5 p6 st5 (putS sk ⟨4, 0, b⟩) W9) := Bx.mk ⟨(H8.out.1).off hg9 (Nat.lt_succ_self _), (H8.out.2.1).off hg9 (Nat.lt_succ_self _), H8.out.2.2.1.put6 hg9 HW9⟩
    clear HW9 hg9 H8 HPn H hc0 hc1 hc2
    go_wp2
    exact ⟨⟨⟨rfl, rfl⟩, rfl, rfl, rfl, rfl, rfl, rfl, rfl, rfl⟩, by first | rfl | go_num, H9.out.1, H9.out.2.1, by rw [HSt.out]; exact H9.out.2.2⟩
  · by_cases hLz : L = 0
    · subst hLz
      have hb0 : b = [] := List.eq_nil_of_length_eq_zero HL.out
      subst hb0
      by_cases hs4 : s = 4
      · subst hs4
        have hn0 : (n == 0) = false := by simp; exact fun e => hA ⟨rfl, e⟩
        have HS5 : Bx (∀ W, Below B wr W → (fun W => W.cell? ⟨gx, ox + k * 3, none⟩ = some (.int .i64 4) ∧ W.cell? ⟨gx, ox + k * 3 + 1, none⟩ = some (.int .i64 n)) W) := Bx.mk (fun W hb => ⟨(cells_of (HSS.out W hb).1).1, (cells_of (HSS.out W hb).1).2.1⟩)
        go_upto_region 25 with fail
        clear hc0 hc1 hc2
        refine wp_region_noPanic ?_
        refine wp_region_held_drew (S := fun W => W.cell? ⟨gx, ox + k * 3, none⟩ = some (.int .i64 4) ∧ W.cell? ⟨gx, ox + k * 3 + 1, none⟩ = some (.int .i64 n)) (by kernel_rfl) (HS5.out _ H.out.2.2.2.drew) (fun hHeld => ?_)
        have H : Bx (OwnB W3.drew (p6 + 1) (.slice a7 u7 c7) l7 ∧ OwnB W3.drew (p6 + 1) (.slice a10 u10 c10) l10 ∧ MP w B (.slice (some ⟨gx, ox, none⟩) m cx) (.slice (some ⟨gy, oy, none⟩) m cy) gs p5 p6 st5 sk W3.drew ∧ Below B wr W3.drew) := Bx.mk ⟨H.out.1, H.out.2.1, H.out.2.2.1.later (Below.refl _ _).drew, H.out.2.2.2.drew⟩
        generalize W3.drew = W4 at *
        refine takeL 0 (v := ?_) rfl (by kernel_rfl) (by kernel_rfl) (by kernel_rfl) (fun _ _ _ h => h) (Or.inl ⟨by rfl, ?_⟩) hHeld ?_
        rotate_left 1
        · (intro w hSw; go_simp; try with_reducible rfl)
        try simp only [Act.put, List.setIfInBounds_toArray, List.set_cons_zero, List.set_cons_succ]
        refine takeL 1 (v := ?_) rfl (by kernel_rfl) (by kernel_rfl) (by kernel_rfl) (fun _ _ _ h => h) (Or.inl ⟨by rfl, ?_⟩) hHeld ?_
        rotate_left 1
        · (intro w hSw; go_simp; try with_reducible rfl)
        try simp only [Act.put, List.setIfInBounds_toArray, List.set_cons_zero, List.set_cons_succ]
        refine takeL 2 (v := ?_) rfl (by kernel_rfl) (by kernel_rfl) (by kernel_rfl) (fun _ _ _ h => h) (Or.inl ⟨by rfl, ?_⟩) hHeld ?_
        rotate_left 1
        · (intro w hSw; go_simp; try with_reducible rfl)
        try simp only [Act.put, List.setIfInBounds_toArray, List.set_cons_zero, List.set_cons_succ]
        refine takeL 3 (v := ?_) rfl (by kernel_rfl) (by kernel_rfl) (by kernel_rfl) (fun _ _ _ h => h) (Or.inl ⟨by rfl, ?_⟩) hHeld ?_
        rotate_left 1
        · (intro w hSw; go_simp; try with_reducible rfl)
        try simp only [Act.put, List.setIfInBounds_toArray, List.set_cons_zero, List.set_cons_succ]
        refine takeL 4 (v := ?_) rfl (by kernel_rfl) (by kernel_rfl) (by kernel_rfl) (fun _ _ _ h => h) (Or.inl ⟨by rfl, ?_⟩) hHeld ?_
        rotate_left 1
        · (intro w hSw; go_simp; try with_reducible rfl)
        try simp only [Act.put, List.setIfInBounds_toArray, List.set_cons_zero, List.set_cons_succ]
        refine takeL 5 (v := ?_) rfl (by kernel_rfl) (by kernel_rfl) (by kernel_rfl) (fun _ _ _ h => h) (Or.inl ⟨by rfl, ?_⟩) hHeld ?_
        rotate_left 1
        · (intro w hSw; go_simp; try with_reducible rfl)
        try simp only [Act.put, List.setIfInBounds_toArray, List.set_cons_zero, List.set_cons_succ]
        refine takeL 6 (v := ?_) rfl (by kernel_rfl) (by kernel_rfl) (by kernel_rfl) (fun _ _ _ h => h) (Or.inl ⟨by rfl, ?_⟩) hHeld ?_
        rotate_left 1
        · (intro w hSw; go_simp; try with_reducible rfl)
        try simp only [Act.put, List.setIfInBounds_toArray, List.set_cons_zero, List.set_cons_succ]
        refine takeL 7 (v := ?_) rfl (by kernel_rfl) (by kernel_rfl) (by kernel_rfl) (fun _ _ _ h => h) (Or.inl ⟨by rfl, ?_⟩) hHeld ?_
        rotate_left 1
        · (intro w hSw; go_simp; try with_reducible rfl)
        try simp only [Act.put, List.setIfInBounds_toArray, List.set_cons_zero, List.set_cons_succ]
        refine takeL 8 (v := ?_) rfl (by kernel_rfl) (by kernel_rfl) (by kernel_rfl) (fun _ _ _ h => h) (Or.inl ⟨by rfl, ?_⟩) hHeld ?_
        rotate_left 1
        · (intro w hSw; go_simp; try with_reducible rfl)
        try simp only [Act.put, List.setIfInBounds_toArray, List.set_cons_zero, List.set_cons_succ]
        refine takeL 9 (v := ?_) rfl (by kernel_rfl) (by kernel_rfl) (by kernel_rfl) (fun _ _ _ h => h) (Or.inl ⟨by rfl, ?_⟩) hHeld ?_
        rotate_left 1
        · (intro w hSw; go_simp; try with_reducible rfl)
        try simp only [Act.put, List.setIfInBounds_toArray, List.set_cons_zero, List.set_cons_succ]
        refine stepL 10 (by kernel_rfl) rfl (fun K hK => ?_)
        go_simp
        have H8 : Bx (OwnB (W4.alloc (.cells #[.int .i64 n] 3)) (p6 + 1) (.slice a7 u7 c7) l7 ∧ OwnB (W4.alloc (.cells #[.int .i64 n] 3)) (p6 + 1) (.slice a10 u10 c10) l10 ∧ MP w B (.slice (some ⟨gx, ox, none⟩) m cx) (.slice (some ⟨gy, oy, none⟩) m cy) gs p5 p6 st5 sk (W4.alloc (.cells #[.int .i64 n] 3)) ∧ Below B wr (W4.alloc (.cells #[.int .i64 n] 3))) := Bx.mk ⟨ownB_a H.out.1 _, ownB_a H.out.2.1 _, H.out.2.2.1.later (below_a _), H.out.2.2.2.alloc H.out.2.2.1.ltB _⟩
        have HIn : Bx (IntsN (W4.alloc (.cells #[.int .i64 n] 3)) p6 (.slice (some ⟨W4.heap.size, 0, none⟩) 1 1) [n]) := Bx.mk (ints_one W4 p6 n _ H.out.2.2.1.w6.lt)
        refine hK.out _ _ (HS5.out _ H8.out.2.2.2) (fun hHeld => ?_)
        clear hK K
        try simp only [Act.put, List.setIfInBounds_toArray, List.set_cons_zero, List.set_cons_succ]
        generalize W4.alloc (.cells #[.int .i64 n] 3) = W8 at *
        generalize W4.heap.size = E8 at *
        refine stepL 11 (by kernel_rfl) rfl (fun K hK => ?_)
        go_simp
        refine (wnum_any 4 [n] _ p6 sk W8 H8.out.2.2.1.w6 HIn.out (fun z hz => by simp at hz; subst hz; exact HGn.out) (by simp)).mono ?_
        rintro e W9 ⟨rfl, HW9, hg9⟩
        show K _ _
        have H9 : Bx (OwnB W9 (p6 + 1) (.slice a7 u7 c7) l7 ∧ OwnB W9 (p6 + 1) (.slice a10 u10 c10) l10 ∧ MP w B (.slice (some ⟨gx, ox, none⟩) m cx) (.slice (some ⟨gy, oy, none⟩) m cy) gs p5 p6 st5 (putS sk ⟨4, n, []⟩) W9) := Bx.mk ⟨(H8.out.1).off hg9 (Nat.lt_succ_self _), (H8.out.2.1).off hg9 (Nat.lt_succ_self _), H8.out.2.2.1.put6 hg9 HW9⟩
        have hS9 : Below B wr W9 := H8.out.2.2.2.trans (grown_below hg9 (by have h1 := H8.out.2.2.1.b5; have h2 := H8.out.2.2.1.b6; omega) H8.out.2.2.1.ltB)
        clear HW9 hg9 H8 HIn H
        refine hK.out _ _ (HS5.out _ hS9) (fun hHeld => ?_)
        clear hK K hS9
        try simp only [Act.put, List.setIfInBounds_toArray, List.set_cons_zero, List.set_cons_succ]
        refine wpAnyH_done (by kernel_rfl) ?_ _
        refine NoPanic.normal ?_
        clear hHeld
        go_wp2
        exact ⟨⟨⟨rfl, rfl⟩, rfl, rfl, rfl, rfl, rfl, rfl, rfl, rfl⟩, by first | rfl | go_num, H9.out.1, H9.out.2.1, by rw [HSt.out]; exact H9.out.2.2⟩
      · have hs5 : (s == 4) = false := by simp; exact hs4
        have HS5 : Bx (∀ W, Below B wr W → (fun W => W.cell? ⟨gx, ox + k * 3, none⟩ = some (.int .i64 s) ∧ W.cell? ⟨gx, ox + k * 3 + 1, none⟩ = some (.int .i64 n)) W) := Bx.mk (fun W hb => ⟨(cells_of (HSS.out W hb).1).1, (cells_of (HSS.out W hb).1).2.1⟩)
        go_upto_region 25 with fail
        clear hc0 hc1 hc2
        refine wp_region_noPanic ?_
        refine wp_region_held_drew (S := fun W => W.cell? ⟨gx, ox + k * 3, none⟩ = some (.int .i64 s) ∧ W.cell? ⟨gx, ox + k * 3 + 1, none⟩ = some (.int .i64 n)) (by kernel_rfl) (HS5.out _ H.out.2.2.2.drew) (fun hHeld => ?_)
        have H : Bx (OwnB W3.drew (p6 + 1) (.slice a7 u7 c7) l7 ∧ OwnB W3.drew (p6 + 1) (.slice a10 u10 c10) l10 ∧ MP w B (.slice (some ⟨gx, ox, none⟩) m cx) (.slice (some ⟨gy, oy, none⟩) m cy) gs p5 p6 st5 sk W3.drew ∧ Below B wr W3.drew) := Bx.mk ⟨H.out.1, H.out.2.1, H.out.2.2.1.later (Below.refl _ _).drew, H.out.2.2.2.drew⟩
        generalize W3.drew = W4 at *
        refine takeL 0 (v := ?_) rfl (by kernel_rfl) (by kernel_rfl) (by kernel_rfl) (fun _ _ _ h => h) (Or.inl ⟨by rfl, ?_⟩) hHeld ?_
        rotate_left 1
        · (intro w hSw; go_simp; try with_reducible rfl)
        try simp only [Act.put, List.setIfInBounds_toArray, List.set_cons_zero, List.set_cons_succ]
        refine takeL 1 (v := ?_) rfl (by kernel_rfl) (by kernel_rfl) (by kernel_rfl) (fun _ _ _ h => h) (Or.inl ⟨by rfl, ?_⟩) hHeld ?_
        rotate_left 1
        · (intro w hSw; go_simp; try with_reducible rfl)
        try simp only [Act.put, List.setIfInBounds_toArray, List.set_cons_zero, List.set_cons_succ]
        refine takeL 2 (v := ?_) rfl (by kernel_rfl) (by kernel_rfl) (by kernel_rfl) (fun _ _ _ h => h) (Or.inl ⟨by rfl, ?_⟩) hHeld ?_
        rotate_left 1
        · (intro w hSw; go_simp; try with_reducible rfl)
        try simp only [Act.put, List.setIfInBounds_toArray, List.set_cons_zero, List.set_cons_succ]
        refine takeL 3 (v := ?_) rfl (by kernel_rfl) (by kernel_rfl) (by kernel_rfl) (fun _ _ _ h => h) (Or.inl ⟨by rfl, ?_⟩) hHeld ?_
        rotate_left 1
        · (intro w hSw; go_simp; try with_reducible rfl)
        try simp only [Act.put, List.setIfInBounds_toArray, List.set_cons_zero, List.set_cons_succ]
        refine takeL 4 (v := ?_) rfl (by kernel_rfl) (by kernel_rfl) (by kernel_rfl) (fun _ _ _ h => h) (Or.inl ⟨by rfl, ?_⟩) hHeld ?_
        rotate_left 1
        · (intro w hSw; go_simp; try with_reducible rfl)
        try simp only [Act.put, List.setIfInBounds_toArray, List.set_cons_zero, List.set_cons_succ]
        refine takeL 5 (v := ?_) rfl (by kernel_rfl) (by kernel_rfl) (by kernel_rfl) (fun _ _ _ h => h) (Or.inl ⟨by rfl, ?_⟩) hHeld ?_
        rotate_left 1
        · (intro w hSw; go_simp; try with_reducible rfl)
        try simp only [Act.put, List.setIfInBounds_toArray, List.set_cons_zero, List.set_cons_succ]
        refine takeL 6 (v := ?_) rfl (by kernel_rfl) (by kernel_rfl) (by kernel_rfl) (fun _ _ _ h => h) (Or.inl ⟨by rfl, ?_⟩) hHeld ?_
        rotate_left 1
        · (intro w hSw; go_simp; try with_reducible rfl)
        try simp only [Act.put, List.setIfInBounds_toArray, List.set_cons_zero, List.set_cons_succ]
        refine takeL 7 (v := ?_) rfl (by kernel_rfl) (by kernel_rfl) (by kernel_rfl) (fun _ _ _ h => h) (Or.inl ⟨by rfl, ?_⟩) hHeld ?_
        rotate_left 1
        · (intro w hSw; go_simp; try with_reducible rfl)
        try simp only [Act.put, List.setIfInBounds_toArray, List.set_cons_zero, List.set_cons_succ]
        refine takeL 8 (v := ?_) rfl (by kernel_rfl) (by kernel_rfl) (by kernel_rfl) (fun _ _ _ h => h) (Or.inl ⟨by rfl, ?_⟩) hHeld ?_
        rotate_left 1
        · (intro w hSw; go_simp; try with_reducible rfl)
        try simp only [Act.put, List.setIfInBounds_toArray, List.set_cons_zero, List.set_cons_succ]
        refine takeL 9 (v := ?_) rfl (by kernel_rfl) (by kernel_rfl) (by kernel_rfl) (fun _ _ _ h => h) (Or.inl ⟨by rfl, ?_⟩) hHeld ?_
        rotate_left 1
        · (intro w hSw; go_simp; try with_reducible rfl)
        try simp only [Act.put, List.setIfInBounds_toArray, List.set_cons_zero, List.set_cons_succ]
        refine stepL 10 (by kernel_rfl) rfl (fun K hK => ?_)
        go_simp
        have H8 : Bx (OwnB (W4.alloc (.cells #[.int .i64 n] 3)) (p6 + 1) (.slice a7 u7 c7) l7 ∧ OwnB (W4.alloc (.cells #[.int .i64 n] 3)) (p6 + 1) (.slice a10 u10 c10) l10 ∧ MP w B (.slice (some ⟨gx, ox, none⟩) m cx) (.slice (some ⟨gy, oy, none⟩) m cy) gs p5 p6 st5 sk (W4.alloc (.cells #[.int .i64 n] 3)) ∧ Below B wr (W4.alloc (.cells #[.int .i64 n] 3))) := Bx.mk ⟨ownB_a H.out.1 _, ownB_a H.out.2.1 _, H.out.2.2.1.later (below_a _), H.out.2.2.2.alloc H.out.2.2.1.ltB _⟩
        have HIn : Bx (IntsN (W4.alloc (.cells #[.int .i64 n] 3)) p6 (.slice (some ⟨W4.heap.size, 0, none⟩) 1 1) [n]) := Bx.mk (ints_one W4 p6 n _ H.out.2.2.1.w6.lt)
        refine hK.out _ _ (HS5.out _ H8.out.2.2.2) (fun hHeld => ?_)
        clear hK K
        try simp only [Act.put, List.setIfInBounds_toArray, List.set_cons_zero, List.set_cons_succ]
        generalize W4.alloc (.cells #[.int .i64 n] 3) = W8 at *
        generalize W4.heap.size = E8 at *
        refine stepL 11 (by kernel_rfl) rfl (fun K hK => ?_)
        go_simp
        refine (wnum_any s [n] _ p6 sk W8 H8.out.2.2.1.w6 HIn.out (fun z hz => by simp at hz; subst hz; exact HGn.out) (by simp)).mono ?_
        rintro e W9 ⟨rfl, HW9, hg9⟩
        show K _ _
        have H9 : Bx (OwnB W9 (p6 + 1) (.slice a7 u7 c7) l7 ∧ OwnB W9 (p6 + 1) (.slice a10 u10 c10) l10 ∧ MP w B (.slice (some ⟨gx, ox, none⟩) m cx) (.slice (some ⟨gy, oy, none⟩) m cy) gs p5 p6 st5 (putS sk ⟨s, n, []⟩) W9) := Bx.mk ⟨(H8.out.1).off hg9 (Nat.lt_succ_self _), (H8.out.2.1).off hg9 (Nat.lt_succ_self _), H8.out.2.2.1.put6 hg9 HW9⟩
        have hS9 : Below B wr W9 := H8.out.2.2.2.trans (grown_below hg9 (by have h1 := H8.out.2.2.1.b5; have h2 := H8.out.2.2.1.b6; omega) H8.out.2.2.1.ltB)
        clear HW9 hg9 H8 HIn H
        refine hK.out _ _ (HS5.out _ hS9) (fun hHeld => ?_)
        clear hK K hS9
        try simp only [Act.put, List.setIfInBounds_toArray, List.set_cons_zero, List.set_cons_succ]
        refine wpAnyH_done (by kernel_rfl) ?_ _
        refine NoPanic.normal ?_
        clear hHeld
        go_wp2
        exact ⟨⟨⟨rfl, rfl⟩, rfl, rfl, rfl, rfl, rfl, rfl, rfl, rfl⟩, by first | rfl | go_num, H9.out.1, H9.out.2.1, by rw [HSt.out]; exact H9.out.2.2⟩
    · have hL1 : ((L : Int) == 0) = false := by simp; exact hLz
      by_cases hs4 : s = 4
      · subst hs4
        have hn0 : (n == 0) = false := by simp; exact fun e => hA ⟨rfl, e⟩
        have H8 : Bx (OwnB (W3.alloc (.cells #[.int .i64 4, .int .i64 n, .slice ab L cb] 40)) (p6 + 1) (.slice a7 u7 c7) l7 ∧ OwnB (W3.alloc (.cells #[.int .i64 4, .int .i64 n, .slice ab L cb] 40)) (p6 + 1) (.slice a10 u10 c10) l10 ∧ MP w B (.slice (some ⟨gx, ox, none⟩) m cx) (.slice (some ⟨gy, oy, none⟩) m cy) gs p5 p6 st5 sk (W3.alloc (.cells #[.int .i64 4, .int .i64 n, .slice ab L cb] 40)) ∧ Below B wr (W3.alloc (.cells #[.int .i64 4, .int .i64 n, .slice ab L cb] 40))) := Bx.mk ⟨ownB_a H.out.1 _, ownB_a H.out.2.1 _, H.out.2.2.1.later (below_a _), H.out.2.2.2.alloc H.out.2.2.1.ltB _⟩
        have HFl : Bx (FldsN (W3.alloc (.cells #[.int .i64 4, .int .i64 n, .slice ab L cb] 40)) p6 (.slice (some ⟨W3.heap.size, 0, none⟩) 1 1) [⟨4, n, b⟩]) := Bx.mk (one_fld W3 p6 ⟨4, n, b⟩ _ ⟨HBx.out _ H.out.2.2.2, HNx.out⟩ H.out.2.2.1.w6.lt)
        go_wp2_with fail
        generalize W3.alloc (.cells #[.int .i64 4, .int .i64 n, .slice ab L cb] 40) = W8 at *
        generalize W3.heap.size = E8 at *
        refine (put_any [⟨4, n, b⟩] _ p6 sk W8 H8.out.2.2.1.w6 HFl.out (fun f hf => by simp at hf; subst hf; exact HGn.out) (by simp)).mono ?_
        rintro e W9 ⟨rfl, HW9, hg9⟩
        have H9 : Bx (OwnB W9 (p6 + 1) (.slice a7 u7 c7) l7 ∧ OwnB W9 (p6 + 1) (.slice a10 u10 c10) l10 ∧ MP w B (.slice (some ⟨gx, ox, none⟩) m cx) (.slice (some ⟨gy, oy, none⟩) m cy) gs p5 p6 st5 (putS sk ⟨4, n, b⟩) W9) := Bx.mk ⟨(H8.out.1).off hg9 (Nat.lt_succ_self _), (H8.out.2.1).off hg9 (Nat.lt_succ_self _), H8.out.2.2.1.put6 hg9 HW9⟩
        clear HW9 hg9 H8 HFl H hc0 hc1 hc2
        go_wp2
        exact ⟨⟨⟨rfl, rfl⟩, rfl, rfl, rfl, rfl, rfl, rfl, rfl, rfl⟩, by first | rfl | go_num, H9.out.1, H9.out.2.1, by rw [HSt.out]; exact H9.out.2.2⟩
      · have hs5 : (s == 4) = false := by simp; exact hs4
        have H8 : Bx (OwnB (W3.alloc (.cells #[.int .i64 s, .int .i64 n, .slice ab L cb] 40)) (p6 + 1) (.slice a7 u7 c7) l7 ∧ OwnB (W3.alloc (.cells #[.int .i64 s, .int .i64 n, .slice ab L cb] 40)) (p6 + 1) (.slice a10 u10 c10) l10 ∧ MP w B (.slice (some ⟨gx, ox, none⟩) m cx) (.slice (some ⟨gy, oy, none⟩) m cy) gs p5 p6 st5 sk (W3.alloc (.cells #[.int .i64 s, .int .i64 n, .slice ab L cb] 40)) ∧ Below B wr (W3.alloc (.cells #[.int .i64 s, .int .i64 n, .slice ab L cb] 40))) := Bx.mk ⟨ownB_a H.out.1 _, ownB_a H.out.2.1 _, H.out.2.2.1.later (below_a _), H.out.2.2.2.alloc H.out.2.2.1.ltB _⟩
        have HFl : Bx (FldsN (W3.alloc (.cells #[.int .i64 s, .int .i64 n, .slice ab L cb] 40)) p6 (.slice (some ⟨W3.heap.size, 0, none⟩) 1 1) [⟨s, n, b⟩]) := Bx.mk (one_fld W3 p6 ⟨s, n, b⟩ _ ⟨HBx.out _ H.out.2.2.2, HNx.out⟩ H.out.2.2.1.w6.lt)
        go_wp2_with fail
        generalize W3.alloc (.cells #[.int .i64 s, .int .i64 n, .slice ab L cb] 40) = W8 at *
        generalize W3.heap.size = E8 at *
        refine (put_any [⟨s, n, b⟩] _ p6 sk W8 H8.out.2.2.1.w6 HFl.out (fun f hf => by simp at hf; subst hf; exact HGn.out) (by simp)).mono ?_
        rintro e W9 ⟨rfl, HW9, hg9⟩
        have H9 : Bx (OwnB W9 (p6 + 1) (.slice a7 u7 c7) l7 ∧ OwnB W9 (p6 + 1) (.slice a10 u10 c10) l10 ∧ MP w B (.slice (some ⟨gx, ox, none⟩) m cx) (.slice (some ⟨gy, oy, none⟩) m cy) gs p5 p6 st5 (putS sk ⟨s, n, b⟩) W9) := Bx.mk ⟨(H8.out.1).off hg9 (Nat.lt_succ_self _), (H8.out.2.1).off hg9 (Nat.lt_succ_self _), H8.out.2.2.1.put6 hg9 HW9⟩
        clear HW9 hg9 H8 HFl H hc0 hc1 hc2
        go_wp2
        exact ⟨⟨⟨rfl, rfl⟩, rfl, rfl, rfl, rfl, rfl, rfl, rfl, rfl⟩, by first | rfl | go_num, H9.out.1, H9.out.2.1, by rw [HSt.out]; exact H9.out.2.2⟩
set_option maxRecDepth 100000 in
set_option maxHeartbeats 1000000 in
theorem last2 (w : World) (B : Nat) (ax ay : Option Addr) (m cx cy p5 p6 : Nat) (gs : List Fd) (v7 : Value) (bad : Int) (v10 : Value) (l7 l10 : List UInt8) (st5 : List UInt8 × Int) (hm : m ≤ 12)
    (Q : Exit → Act → World → Prop) (N : Act → World → Prop) (hq : ∀ a' w', G0 ax ay m cx cy p5 p6 v7 bad v10 a' → OwnB w' (p6 + 1) v7 l7 → OwnB w' (p6 + 1) v10 l10 → MP w B (.slice ax m cx) (.slice ay m cy) gs p5 p6 st5 (gs.foldl putS ([], 0)) w' → Q (.exit 2) a' w')
    (a : Act) (wr : World) (h : I2 w B ax ay m cx cy p5 p6 gs v7 bad v10 l7 l10 st5 m a wr) :
    Code.wp Try.prog (loopAt Try.f3.body 1) (Exit.then N Q) a wr := by
  have hml : (m : Int) ≤ 12 := by omega
  have HQ := Bx.mk hq
  have HM := Bx.mk h.mp
  rw [List.take_of_length_le (by rw [h.mp.fx.len]; exact Nat.le_refl _)] at HM
  have HO := Bx.mk (And.intro h.o7 h.o10)
  obtain ⟨x, rfl, hx⟩ := open204 h.kf.fr
  have e3 := (hx 3).symm.trans h.kf.s3
  have e4 := (hx 4).symm.trans h.kf.s4
  have e5 := (hx 5).symm.trans h.kf.s5
  have e6 := (hx 6).symm.trans h.kf.s6
  have e7 := (hx 7).symm.trans h.kf.s7
  have e8 := (hx 8).symm.trans h.kf.s8
  have e10 := (hx 10).symm.trans h.kf.s10
  have e11 := (hx 11).symm.trans h.kf.s11
  have e12 := (hx 12).symm.trans h.s12
  clear h hx hq
  rw [e3, e4, e5, e6, e7, e8, e10, e11, e12]
  clear e3 e4 e5 e6 e7 e8 e10 e11 e12
  obtain ⟨a7, c7, hv7, -⟩ := HO.out.1.bytes
  subst hv7
  obtain ⟨a10, c10, hv10, -⟩ := HO.out.2.bytes
  subst hv10
  generalize l7.length = u7 at *
  generalize l10.length = u10 at *
  conv => arg 2; whnf
  go_wp2
  exact HQ.out _ _ ⟨⟨rfl, rfl⟩, rfl, rfl, rfl, rfl, rfl, rfl, rfl, rfl⟩ HO.out.1 HO.out.2 HM.out
theorem loop2 (w : World) (B : Nat) (ax ay : Option Addr) (m cx cy p5 p6 : Nat) (gs : List Fd) (v7 : Value) (bad : Int) (v10 : Value) (l7 l10 : List UInt8) (st5 : List UInt8 × Int) (hm : m ≤ 12) (hgn : ∀ f ∈ gs, -9223372036854775808 ≤ f.n ∧ f.n ≤ 9223372036854775807)
    (Q : Exit → Act → World → Prop) (a : Act) (wr : World) (h : I2 w B ax ay m cx cy p5 p6 gs v7 bad v10 l7 l10 st5 0 a wr) (hq : ∀ a' w', G0 ax ay m cx cy p5 p6 v7 bad v10 a' → OwnB w' (p6 + 1) v7 l7 → OwnB w' (p6 + 1) v10 l10 → MP w B (.slice ax m cx) (.slice ay m cy) gs p5 p6 st5 (gs.foldl putS ([], 0)) w' → Q (.exit 2) a' w') :
    Code.wp Try.prog (.loop (loopAt Try.f3.body 1)) Q a wr :=
  wp_count m (fun k a w' => I2 w B ax ay m cx cy p5 p6 gs v7 bad v10 l7 l10 st5 k a w') 0 (Nat.zero_le _) h (fun k a w' hk hI => round2 w B ax ay m cx cy p5 p6 gs v7 bad v10 l7 l10 st5 hm hgn Q k a w' hk hI) (fun a w' hI => last2 w B ax ay m cx cy p5 p6 gs v7 bad v10 l7 l10 st5 hm Q _ hq a w' hI)
end Go.Proofs.Ytgbhckoaabnblaa
