/-
  What is called in a round of KeysRing: Drop of claims whose key is known.
-/
import Derived.Test.YtnefpjdjnjcmbaaGreatDoorR7
namespace Go.Proofs.YtnefpjdjnjcmbaaGreatDoor
open Go Go.RowKit
set_option maxRecDepth 100000 in
set_option maxHeartbeats 4000000 in
/-- Drop of claims whose key is known. -/
theorem mid_drop_some (R L B : Nat) (tk : List Value) (ws : World) (v2 v3 v4 v11 : Value) (i : Nat) (va : Option Addr) (n c : Nat) (mv : Value) (lb : List Value) (l : List (Cl × Nat)) (m : List (Cl × Value)) (ls : List Value) (X : Nat) (at' : Int) (ab a1 : Option Addr) (nb cb c1 kn : Nat) (kd ro ci cr cx cq : Int) (ks : List UInt8) (a : Act) (w : World)
    (hG : RG v2 v3 v4 v11 (.pointer (some ⟨R, 0, none⟩)) (.slice va n c) (.pointer (some ⟨L, 0, none⟩)) (.int .i64 (i : Int)) (.pointer (some ⟨X, 0, none⟩)) (.slice a1 kn c1) (.int .i64 at') (.bool (decide (0 ≤ ro ∧ ro < 8))) a) (hf : FindQ m ⟨ci, cr, cx, cq⟩ (.returned (.int .i64 at'))) (hrow : w.heap[X]? = some (.cells #[.int .i64 kd, .int .i64 ro, .int .i64 ci, .int .i64 cr, .int .i64 cx, .int .i64 cq, .slice ab nb cb] 40 (0, 0))) (hXR : X ≠ R) (hXL : X ≠ L) (hfit : (⟨kd, ro, ⟨ci, cr, cx, cq⟩, ks⟩ : Ac).fit) (hfb : FB R L w (.slice a1 kn c1) (ks.take 40)) (hS : RSt R L B tk mv lb l (.slice va n c) m ls w) (hkp : KP R L B ws w)
    (hkd : (IntKind.u64.wrap kd).tmod 5 = 1) (p : Nat) (ha : atC l ⟨ci, cr, cx, cq⟩ = some p) :
    Code.wp Tryz.prog (partIn Tryz.f3.body 1 14) (fun x a w => x = .normal ∧ MO R L B tk ws v2 v3 v4 v11 i a w) a w := by
  have S0 := Bx.mk (MS.mk (ab := ab) (nb := nb) (cb := cb) hS hkp hrow hfb)
  have HX := Bx.mk (And.intro hXR hXL)
  have HFt := Bx.mk hfit
  obtain ⟨k, hk, rfl, hkc⟩ := find_yes hS.srt hf ha
  have HKc := Bx.mk hkc
  have HPa := Bx.mk ha
  have HOn : Bx (∀ y ∈ m, y.2.oneCell' = true) := ⟨fun y hy => by
    obtain ⟨p, bs, -, -, h, -⟩ := hS.keys y hy
    obtain ⟨a, c, h1, -⟩ := h.1
    rw [h1]
    rfl⟩
  obtain ⟨g, cap, hv, hcap, -⟩ := hS.own.at_ k hk
  injection hv with p1 p2 p3
  subst p1 p2 p3
  obtain ⟨o, hcl, hoo⟩ := cutE_l g m.length c k hk hcap
  have hch := cutE_h g m.length c k (by omega)
  have HOo : Bx (o = (k + 1) * 5 ∨ m.length = k + 1) := ⟨hoo⟩
  obtain ⟨nd, hnd⟩ : ∃ nd, m.length - (k + 1) = nd := ⟨_, rfl⟩
  obtain ⟨cd, hcd⟩ : ∃ cd, c - (k + 1) = cd := ⟨_, rfl⟩
  rw [hnd, hcd] at hcl
  have HNd := Bx.mk hnd
  have hk1 : (k : Int) < (m.length : Int) := by omega
  have hk0 : (0 : Int) ≤ (k : Int) := by omega
  have hml : (m.length : Int) ≤ 16 := by have := hS.few; omega
  have hwk : IntKind.i64.wrap ((k : Int) + 1) = (k : Int) + 1 := by rw [IntKind.wrap_i64]; omega
  clear hf ha hkc hoo hnd hcd hcap
  clear hS hkp hrow hfb hXR hXL hfit
  obtain ⟨x, rfl, hx⟩ := open351 hG.fr
  have e2 := (hx 2).symm.trans hG.s2
  have e3 := (hx 3).symm.trans hG.s3
  have e4 := (hx 4).symm.trans hG.s4
  have e11 := (hx 11).symm.trans hG.s11
  have e12 := (hx 12).symm.trans hG.s12
  have e14 := (hx 14).symm.trans hG.s14
  have e15 := (hx 15).symm.trans hG.s15
  have e16 := (hx 16).symm.trans hG.s16
  have e17 := (hx 17).symm.trans hG.s17
  have e18 := (hx 18).symm.trans hG.s18
  have e19 := (hx 19).symm.trans hG.s19
  have e20 := (hx 20).symm.trans hG.s20
  clear hG hx
  rw [e2, e3, e4, e11, e12, e14, e15, e16, e17, e18, e19, e20]
  clear e2 e3 e4 e11 e12 e14 e15 e16 e17 e18 e19 e20
  have k0 : w.cell? ⟨X, 0, none⟩ = some (.int .i64 kd) := by rw [cell_of_row _ _ _ _ _ _ (S0.out.row)]; rfl
  have k1 : w.cell? ⟨X, 1, none⟩ = some (.int .i64 ro) := by rw [cell_of_row _ _ _ _ _ _ (S0.out.row)]; rfl
  have k2 : w.cell? ⟨X, 2, none⟩ = some (.int .i64 ci) := by rw [cell_of_row _ _ _ _ _ _ (S0.out.row)]; rfl
  have k3 : w.cell? ⟨X, 3, none⟩ = some (.int .i64 cr) := by rw [cell_of_row _ _ _ _ _ _ (S0.out.row)]; rfl
  have k4 : w.cell? ⟨X, 4, none⟩ = some (.int .i64 cx) := by rw [cell_of_row _ _ _ _ _ _ (S0.out.row)]; rfl
  have k5 : w.cell? ⟨X, 5, none⟩ = some (.int .i64 cq) := by rw [cell_of_row _ _ _ _ _ _ (S0.out.row)]; rfl
  have k6 : w.cell? ⟨X, 6, none⟩ = some (.slice ab nb cb) := by rw [cell_of_row _ _ _ _ _ _ (S0.out.row)]; rfl
  conv => arg 2; whnf
  have HR0 : Bx (w.drew.rangeAt X 2 [.int .i64 ci, .int .i64 cr, .int .i64 cx, .int .i64 cq]) := ⟨range_later7 (W := w) (fun j u hj => by
    rw [cell_of_row _ _ _ _ _ _ S0.out.row]
    match j, hj with
    | 0, hj => exact hj
    | 1, hj => exact hj
    | 2, hj => exact hj
    | 3, hj => exact hj) (Below.refl _ _).drew⟩
  have D0 : Bx (Below w.heap.size w w.drew) := ⟨(Below.refl _ _).drew⟩
  have HTo := Bx.mk fun (W : World) => cto_any ⟨ci, cr, cx, cq⟩ W
  unfold clV at HTo
  simp only at HTo
  go_upto_region 38 with fail
  clear k0 k1 k2 k3 k4 k5 k6
  refine wp_region_noPanic ?_
  refine wp_region_held_drew (S := fun W => W.rangeAt X 2 [.int .i64 ci, .int .i64 cr, .int .i64 cx, .int .i64 cq]) (by kernel_rfl) (HR0.out) (fun hHeld => ?_)
  generalize w.drew = V0 at *
  clear HR0
  refine takeL 0 (v := ?_) rfl (by kernel_rfl) (by kernel_rfl) (by kernel_rfl) (fun _ _ _ h => h) (Or.inl ⟨by rfl, ?_⟩) hHeld ?_
  rotate_left 1
  · (intro w hSw; go_simp; try with_reducible rfl)
  try simp only [Act.put, List.setIfInBounds_toArray, List.set_cons_zero, List.set_cons_succ]
  refine takeL 1 (v := ?_) rfl (by kernel_rfl) (by kernel_rfl) (by kernel_rfl) (fun _ _ _ h => h) (Or.inl ⟨by rfl, ?_⟩) hHeld ?_
  rotate_left 1
  · (intro w hSw; go_simp; try with_reducible rfl)
  try simp only [Act.put, List.setIfInBounds_toArray, List.set_cons_zero, List.set_cons_succ]
  refine takeL 2 rfl (by kernel_rfl) (by kernel_rfl) (by kernel_rfl) (fun _ _ _ h => h) (yieldsIf_load_mid (by rfl) _ _ rfl _ _ rfl _ _ (fun w hSw => hSw) Tryz.underlying24 rfl (by kernel_rfl)) hHeld ?_
  try simp only [Act.put, List.setIfInBounds_toArray, List.set_cons_zero, List.set_cons_succ]
  refine takeL 4 (v := ?_) rfl (by kernel_rfl) (by kernel_rfl) (by kernel_rfl) (fun _ _ _ h => h) (Or.inl ⟨by rfl, ?_⟩) hHeld ?_
  rotate_left 1
  · (intro w hSw; go_simp; try with_reducible rfl)
  try simp only [Act.put, List.setIfInBounds_toArray, List.set_cons_zero, List.set_cons_succ]
  refine takeL 5 rfl (by kernel_rfl) (by kernel_rfl) (by kernel_rfl) (fun _ _ _ h => h) (yieldsIf_load_mid (by rfl) _ _ rfl _ _ rfl _ _ (fun w hSw => hSw) Tryz.underlying24 rfl (by kernel_rfl)) hHeld ?_
  try simp only [Act.put, List.setIfInBounds_toArray, List.set_cons_zero, List.set_cons_succ]
  refine stepL 3 (by kernel_rfl) rfl (fun K hK => ?_)
  go_simp
  refine (HTo.out _).mono ?_
  rintro e V1 ⟨rfl, hb⟩
  show K _ _
  have Dx := Bx.mk (D0.out.trans (hb.mono D0.out.size))
  clear D0
  have D0 := Dx
  clear Dx
  refine hK.out _ _ (range_later7 hHeld hb) (fun hHeld => ?_)
  clear hK K hb
  try simp only [Act.put, List.setIfInBounds_toArray, List.set_cons_zero, List.set_cons_succ]
  refine stepL 6 (by kernel_rfl) rfl (fun K hK => ?_)
  go_simp
  refine (HTo.out _).mono ?_
  rintro e V2 ⟨rfl, hb⟩
  show K _ _
  have Dx := Bx.mk (D0.out.trans (hb.mono D0.out.size))
  clear D0
  have D0 := Dx
  clear Dx
  refine hK.out _ _ (range_later7 hHeld hb) (fun hHeld => ?_)
  clear hK K hb
  try simp only [Act.put, List.setIfInBounds_toArray, List.set_cons_zero, List.set_cons_succ]
  refine stepL 7 (by kernel_rfl) rfl (fun K hK => ?_)
  go_simp
  show K _ _
  have D1 := Bx.mk ((D0.out.trans ((below_a (.cells #[.int .i64 ci, .int .i64 cr, .int .i64 cx, .int .i64 cq, .int .i64 ci, .int .i64 cr, .int .i64 cx, .int .i64 cq] 26)).mono D0.out.size)))
  have hG : (V2.alloc (.cells #[.int .i64 ci, .int .i64 cr, .int .i64 cx, .int .i64 cq, .int .i64 ci, .int .i64 cr, .int .i64 cx, .int .i64 cq] 26)).heap[V2.heap.size]? = some (.cells #[.int .i64 ci, .int .i64 cr, .int .i64 cx, .int .i64 cq, .int .i64 ci, .int .i64 cr, .int .i64 cx, .int .i64 cq] 26 (0, 0)) := hnew _ _ _ rfl
  have HGr := Bx.mk hG
  have HGs := Bx.mk D0.out.size
  clear hG D0
  refine hK.out _ _ (range_later7 (hHeld) (below_a _)) (fun hHeld => ?_)
  clear hK K
  try simp only [Act.put, List.setIfInBounds_toArray, List.set_cons_zero, List.set_cons_succ]
  generalize V2.alloc (.cells #[.int .i64 ci, .int .i64 cr, .int .i64 cx, .int .i64 cq, .int .i64 ci, .int .i64 cr, .int .i64 cx, .int .i64 cq] 26) = V3 at *
  generalize V2.heap.size = G at *
  refine stepL 8 (by kernel_rfl) rfl (fun K hK => ?_)
  go_simp
  refine (drop_some R B G tk mv lb l ci cr cx cq _ (S0.out.st.later D1.out).ring (S0.out.st.later D1.out).map S0.out.st.low.1 HFt.out.2.2.1 HGr.out (by have := S0.out.st.ring.lt; have := HGs.out; omega) p HPa.out).mono ?_
  rintro e V4 ⟨rfl, h3⟩
  show K _ _
  have H3 := Bx.mk h3
  refine hK.out _ _ (range_ring hHeld h3 (by have := HX.out; omega)) (fun hHeld => ?_)
  clear hK K
  try simp only [Act.put, List.setIfInBounds_toArray, List.set_cons_zero, List.set_cons_succ]
  refine takeL 9 (v := ?_) rfl (by kernel_rfl) (by kernel_rfl) (by kernel_rfl) (fun _ _ _ h => h) (Or.inl ⟨by rfl, ?_⟩) hHeld ?_
  rotate_left 1
  · (intro w hSw; go_simp; try with_reducible rfl)
  try simp only [Act.put, List.setIfInBounds_toArray, List.set_cons_zero, List.set_cons_succ]
  refine wpAnyH_done (by kernel_rfl) ?_ _
  refine NoPanic.normal ?_
  clear hHeld
  have T1 := Bx.mk (S0.out.st.later D1.out)
  have T2 := Bx.mk (S0.out.kp.trans ((KP.below D1.out).trans H3.out.2.2.weaken))
  have hall : V4.rangeAt g 0 (cells5s m) := (T1.out.own.keep (H3.out.2.2.weaken (L := L)) T1.out.low.1 T1.out.low.2.1).all_
  have HRs : Bx (∀ W, Below V4.heap.size V4 W → W.rangeAt g 0 (cells5s m)) := ⟨fun W hb j u hj => cell_later (hall j u hj) hb⟩
  clear hall D1 HGr HGs S0 HPa
  go_upto_region 42 with fail
  have BU : Bx (Below V4.heap.size V4 V4.drew) := ⟨(Below.refl _ _).drew⟩
  refine wp_region_noPanic ?_
  refine wp_region_held_drew (S := fun W => W.rangeAt g 0 (cells5s m)) (by kernel_rfl) (HRs.out _ BU.out) (fun hHeld => ?_)
  generalize V4.drew = U0 at *
  refine takeL 1 (v := ?_) rfl (by kernel_rfl) (by kernel_rfl) (by kernel_rfl) (fun _ _ _ h => h) (Or.inl ⟨by rfl, ?_⟩) hHeld ?_
  rotate_left 1
  · (intro w hSw; go_simp; try with_reducible rfl)
  try simp only [Act.put, List.setIfInBounds_toArray, List.set_cons_zero, List.set_cons_succ]
  refine takeL 2 (v := ?_) rfl (by kernel_rfl) (by kernel_rfl) (by kernel_rfl) (fun _ _ _ h => h) (Or.inl ⟨by rfl, ?_⟩) hHeld ?_
  rotate_left 1
  · (intro w hSw; go_simp; try with_reducible rfl)
  try simp only [Act.put, List.setIfInBounds_toArray, List.set_cons_zero, List.set_cons_succ]
  refine takeL 3 (v := ?_) rfl (by kernel_rfl) (by kernel_rfl) (by kernel_rfl) (fun _ _ _ h => h) (Or.inl ⟨by rfl, ?_⟩) hHeld ?_
  rotate_left 1
  · (intro w hSw; go_simp; try with_reducible rfl)
  try simp only [Act.put, List.setIfInBounds_toArray, List.set_cons_zero, List.set_cons_succ]
  refine takeL 5 (v := ?_) rfl (by kernel_rfl) (by kernel_rfl) (by kernel_rfl) (fun _ _ _ h => h) (Or.inl ⟨by rfl, ?_⟩) hHeld ?_
  rotate_left 1
  · (intro w hSw; go_simp; try with_reducible rfl)
  try simp only [Act.put, List.setIfInBounds_toArray, List.set_cons_zero, List.set_cons_succ]
  refine takeL 6 (v := ?_) rfl (by kernel_rfl) (by kernel_rfl) (by kernel_rfl) (fun _ _ _ h => h) (Or.inl ⟨by rfl, ?_⟩) hHeld ?_
  rotate_left 1
  · (intro w hSw; go_simp; try with_reducible rfl)
  try simp only [Act.put, List.setIfInBounds_toArray, List.set_cons_zero, List.set_cons_succ]
  refine takeL 7 (v := ?_) rfl (by kernel_rfl) (by kernel_rfl) (by kernel_rfl) (fun _ _ _ h => h) (Or.inl ⟨by rfl, ?_⟩) hHeld ?_
  rotate_left 1
  · (intro w hSw; go_simp; try with_reducible rfl)
  try simp only [Act.put, List.setIfInBounds_toArray, List.set_cons_zero, List.set_cons_succ]
  refine takeL 8 (v := ?_) rfl (by kernel_rfl) (by kernel_rfl) (by kernel_rfl) (fun _ _ _ h => h) (Or.inl ⟨by rfl, ?_⟩) hHeld ?_
  rotate_left 1
  · (intro w hSw; go_simp; try with_reducible rfl)
  try simp only [Act.put, List.setIfInBounds_toArray, List.set_cons_zero, List.set_cons_succ]
  refine stepL 0 (by kernel_rfl) rfl (fun K hK => ?_)
  go_simp
  have B1 : Bx (OwnE (U0.alloc (.cells #[] 50)) V4.heap.size (.slice (some ⟨U0.heap.size, 0, none⟩) 0 0) [] ∧ Below V4.heap.size V4 (U0.alloc (.cells #[] 50))) := ⟨⟨ownE_empty U0 V4.heap.size BU.out.size, BU.out.trans ((below_a _).mono BU.out.size)⟩⟩
  refine hK.out _ _ (HRs.out _ B1.out.2) (fun hHeld => ?_)
  clear hK K
  try simp only [Act.put, List.setIfInBounds_toArray, List.set_cons_zero, List.set_cons_succ]
  generalize U0.alloc (.cells #[] 50) = U1 at *
  obtain ⟨D0, hD0⟩ : ∃ d, d = U0.heap.size := ⟨_, rfl⟩
  have B1 : Bx (OwnE U1 V4.heap.size (.slice (some ⟨D0, 0, none⟩) 0 0) [] ∧ Below V4.heap.size V4 U1) := Bx.mk (by rw [hD0]; exact B1.out)
  rw [← hD0]
  clear hD0
  refine stepL 4 (by kernel_rfl) rfl (fun K hK => ?_)
  refine step_apEs rfl _ _ rfl V4.heap.size _ [] (by rfl) B1.out.1 g 0 (m.take k) (fun y hy => HOn.out y (List.mem_of_mem_take hy)) k c (by rw [List.length_take]; omega) (by rfl) (rows_take hHeld k) (by rw [List.length_take]; simp only [List.length_nil]; omega) B1.out.2.size ?_
  intro v2 U2 ho2 hg2
  rw [List.nil_append] at ho2
  have B2 : Bx (OwnE U2 V4.heap.size v2 (m.take k) ∧ Below V4.heap.size V4 U2) := ⟨⟨ho2, B1.out.2.trans (own_belowE B1.out.1 hg2 B1.out.2.size)⟩⟩
  obtain ⟨a2, c2, hv2⟩ := ho2.form
  rw [show (m.take k).length = k by rw [List.length_take]; omega] at hv2
  subst hv2
  clear ho2 hg2 B1
  refine hK.out _ _ (HRs.out _ B2.out.2) (fun hHeld => ?_)
  clear hK K
  try simp only [Act.put, List.setIfInBounds_toArray, List.set_cons_zero, List.set_cons_succ]
  refine stepL 9 (by kernel_rfl) rfl (fun K hK => ?_)
  refine step_apEs rfl _ _ rfl V4.heap.size _ (m.take k) (by rfl) B2.out.1 g o (m.drop (k + 1)) (fun y hy => HOn.out y (List.mem_of_mem_drop hy)) nd cd (by rw [List.length_drop]; exact HNd.out) (by rfl) (rows_drop hHeld (k + 1) hk HOo.out) (by rw [List.length_take, List.length_drop]; omega) B2.out.2.size ?_
  intro v3 U3 ho3 hg3
  have B3 : Bx (OwnE U3 V4.heap.size v3 (m.eraseIdx k) ∧ Below V4.heap.size V4 U3) := ⟨⟨by rw [List.eraseIdx_eq_take_drop_succ]; exact ho3, B2.out.2.trans (own_belowE B2.out.1 hg3 B2.out.2.size)⟩⟩
  clear ho3 hg3 B2
  refine hK.out _ _ (HRs.out _ B3.out.2) (fun hHeld => ?_)
  clear hK K
  try simp only [Act.put, List.setIfInBounds_toArray, List.set_cons_zero, List.set_cons_succ]
  refine takeL 10 (v := ?_) rfl (by kernel_rfl) (by kernel_rfl) (by kernel_rfl) (fun _ _ _ h => h) (Or.inl ⟨by rfl, ?_⟩) hHeld ?_
  rotate_left 1
  · (intro w hSw; go_simp; try with_reducible rfl)
  try simp only [Act.put, List.setIfInBounds_toArray, List.set_cons_zero, List.set_cons_succ]
  refine wpAnyH_done (by kernel_rfl) ?_ _
  refine NoPanic.normal ?_
  clear hHeld
  have Z1 := Bx.mk (T1.out.drop hk (by rw [HKc.out]; exact H3.out) B3.out.2 B3.out.1)
  have Z2 := Bx.mk (T2.out.trans (KP.below B3.out.2))
  obtain ⟨a3, c3, hv3⟩ := B3.out.1.form
  subst hv3
  clear T1 T2 B3 H3 HRs BU
  go_wp2
  refine ⟨_, _, _, mv, lb, _, m.eraseIdx k, ls, ?_, Z1.out, Z2.out⟩
  exact ⟨⟨rfl, rfl⟩, rfl, rfl, rfl, rfl, rfl, rfl, rfl, rfl⟩
end Go.Proofs.YtnefpjdjnjcmbaaGreatDoor
namespace Go.Proofs.YtnefpjdjnjcmbaaGreatDoor
open Go Go.RowKit
set_option maxRecDepth 100000 in
set_option maxHeartbeats 4000000 in
/-- Learn of what is no role. -/
theorem mid_learn_out (R L B : Nat) (tk : List Value) (ws : World) (v2 v3 v4 v11 : Value) (i : Nat) (va : Option Addr) (n c : Nat) (mv : Value) (lb : List Value) (l : List (Cl × Nat)) (m : List (Cl × Value)) (ls : List Value) (X : Nat) (at' : Int) (ab a1 : Option Addr) (nb cb c1 kn : Nat) (kd ro ci cr cx cq : Int) (ks : List UInt8) (a : Act) (w : World)
    (hG : RG v2 v3 v4 v11 (.pointer (some ⟨R, 0, none⟩)) (.slice va n c) (.pointer (some ⟨L, 0, none⟩)) (.int .i64 (i : Int)) (.pointer (some ⟨X, 0, none⟩)) (.slice a1 kn c1) (.int .i64 at') (.bool (decide (0 ≤ ro ∧ ro < 8))) a) (hf : FindQ m ⟨ci, cr, cx, cq⟩ (.returned (.int .i64 at'))) (hrow : w.heap[X]? = some (.cells #[.int .i64 kd, .int .i64 ro, .int .i64 ci, .int .i64 cr, .int .i64 cx, .int .i64 cq, .slice ab nb cb] 40 (0, 0))) (hXR : X ≠ R) (hXL : X ≠ L) (hfit : (⟨kd, ro, ⟨ci, cr, cx, cq⟩, ks⟩ : Ac).fit) (hfb : FB R L w (.slice a1 kn c1) (ks.take 40)) (hS : RSt R L B tk mv lb l (.slice va n c) m ls w) (hkp : KP R L B ws w)
    (hkd : (IntKind.u64.wrap kd).tmod 5 = 3) (hro : ro < 0 ∨ 8 ≤ ro) :
    Code.wp Tryz.prog (partIn Tryz.f3.body 1 14) (fun x a w => x = .normal ∧ MO R L B tk ws v2 v3 v4 v11 i a w) a w := by
  have S0 := Bx.mk (MS.mk (ab := ab) (nb := nb) (cb := cb) hS hkp hrow hfb)
  have HX := Bx.mk (And.intro hXR hXL)
  have HFt := Bx.mk hfit
  have q : decide (0 ≤ ro ∧ ro < 8) = false := decide_eq_false (by omega)
  rw [q] at hG
  clear q hf
  clear hS hkp hrow hfb hXR hXL hfit
  obtain ⟨x, rfl, hx⟩ := open351 hG.fr
  have e2 := (hx 2).symm.trans hG.s2
  have e3 := (hx 3).symm.trans hG.s3
  have e4 := (hx 4).symm.trans hG.s4
  have e11 := (hx 11).symm.trans hG.s11
  have e12 := (hx 12).symm.trans hG.s12
  have e14 := (hx 14).symm.trans hG.s14
  have e15 := (hx 15).symm.trans hG.s15
  have e16 := (hx 16).symm.trans hG.s16
  have e17 := (hx 17).symm.trans hG.s17
  have e18 := (hx 18).symm.trans hG.s18
  have e19 := (hx 19).symm.trans hG.s19
  have e20 := (hx 20).symm.trans hG.s20
  clear hG hx
  rw [e2, e3, e4, e11, e12, e14, e15, e16, e17, e18, e19, e20]
  clear e2 e3 e4 e11 e12 e14 e15 e16 e17 e18 e19 e20
  have k0 : w.cell? ⟨X, 0, none⟩ = some (.int .i64 kd) := by rw [cell_of_row _ _ _ _ _ _ (S0.out.row)]; rfl
  have k1 : w.cell? ⟨X, 1, none⟩ = some (.int .i64 ro) := by rw [cell_of_row _ _ _ _ _ _ (S0.out.row)]; rfl
  have k2 : w.cell? ⟨X, 2, none⟩ = some (.int .i64 ci) := by rw [cell_of_row _ _ _ _ _ _ (S0.out.row)]; rfl
  have k3 : w.cell? ⟨X, 3, none⟩ = some (.int .i64 cr) := by rw [cell_of_row _ _ _ _ _ _ (S0.out.row)]; rfl
  have k4 : w.cell? ⟨X, 4, none⟩ = some (.int .i64 cx) := by rw [cell_of_row _ _ _ _ _ _ (S0.out.row)]; rfl
  have k5 : w.cell? ⟨X, 5, none⟩ = some (.int .i64 cq) := by rw [cell_of_row _ _ _ _ _ _ (S0.out.row)]; rfl
  have k6 : w.cell? ⟨X, 6, none⟩ = some (.slice ab nb cb) := by rw [cell_of_row _ _ _ _ _ _ (S0.out.row)]; rfl
  conv => arg 2; whnf
  have HLo := Bx.mk fun (W : World) => learn_out R ro (.pointer none) W hro
  have HLn := Bx.mk fun (v : Value) (W : World) => learn_out R ro v W hro
  clear hro
  go_upto_region 48 with fail
  have S1 := Bx.mk (S0.out.later (Below.refl _ _).drew)
  have H1 := Bx.mk (cell_later k1 (Below.refl _ _).drew)
  clear S0 k0 k1 k2 k3 k4 k5 k6
  refine wp_region_noPanic ?_
  refine wp_region_held_drew (S := fun W => W.cell? ⟨X, 1, none⟩ = some (.int .i64 ro)) (by kernel_rfl) (H1.out) (fun hHeld => ?_)
  generalize w.drew = V0 at *
  clear H1
  refine takeL 0 (v := ?_) rfl (by kernel_rfl) (by kernel_rfl) (by kernel_rfl) (fun _ _ _ h => h) (Or.inl ⟨by rfl, ?_⟩) hHeld ?_
  rotate_left 1
  · (intro w hSw; go_simp; try with_reducible rfl)
  try simp only [Act.put, List.setIfInBounds_toArray, List.set_cons_zero, List.set_cons_succ]
  refine takeL 1 (v := ?_) rfl (by kernel_rfl) (by kernel_rfl) (by kernel_rfl) (fun _ _ _ h => h) (Or.inl ⟨by rfl, ?_⟩) hHeld ?_
  rotate_left 1
  · (intro w hSw; go_simp; try with_reducible rfl)
  try simp only [Act.put, List.setIfInBounds_toArray, List.set_cons_zero, List.set_cons_succ]
  refine takeL 2 (v := ?_) rfl (by kernel_rfl) (by kernel_rfl) (by kernel_rfl) (fun _ _ _ h => h) (Or.inl ⟨by rfl, ?_⟩) hHeld ?_
  rotate_left 1
  · (intro w hSw; have q1 := hSw; go_simp; try with_reducible rfl)
  try simp only [Act.put, List.setIfInBounds_toArray, List.set_cons_zero, List.set_cons_succ]
  refine takeL 3 (v := ?_) rfl (by kernel_rfl) (by kernel_rfl) (by kernel_rfl) (fun _ _ _ h => h) (Or.inl ⟨by rfl, ?_⟩) hHeld ?_
  rotate_left 1
  · (intro w hSw; go_simp; try with_reducible rfl)
  try simp only [Act.put, List.setIfInBounds_toArray, List.set_cons_zero, List.set_cons_succ]
  refine stepL 4 (by kernel_rfl) rfl (fun K hK => ?_)
  go_simp
  refine (new_any (ks.take 40) _ V0 S1.out.key.1 (by rw [List.length_take]; omega)).mono ?_
  rintro e V1 ⟨v', rfl, hk', hb⟩
  show K _ _
  obtain ⟨pk, sk, hpk, -⟩ := id hk'
  subst hpk
  have S2 := Bx.mk (And.intro (S1.out.later hb) (And.intro hk' S1.out.st.low.2.2.2))
  clear hk' S1
  refine hK.out _ _ (cell_later hHeld hb) (fun hHeld => ?_)
  clear hK K hb
  try simp only [Act.put, List.setIfInBounds_toArray, List.set_cons_zero, List.set_cons_succ]
  refine stepL 5 (by kernel_rfl) rfl (fun K hK => ?_)
  go_simp
  refine (HLn.out _ _).mono ?_
  rintro e V2 ⟨rfl, hb⟩
  show K _ _
  have S3 := Bx.mk (S2.out.1.later hb)
  clear S2
  refine hK.out _ _ (cell_later hHeld hb) (fun hHeld => ?_)
  clear hK K
  try simp only [Act.put, List.setIfInBounds_toArray, List.set_cons_zero, List.set_cons_succ]
  refine takeL 6 (v := ?_) rfl (by kernel_rfl) (by kernel_rfl) (by kernel_rfl) (fun _ _ _ h => h) (Or.inl ⟨by rfl, ?_⟩) hHeld ?_
  rotate_left 1
  · (intro w hSw; go_simp; try with_reducible rfl)
  try simp only [Act.put, List.setIfInBounds_toArray, List.set_cons_zero, List.set_cons_succ]
  refine wpAnyH_done (by kernel_rfl) ?_ _
  refine NoPanic.normal ?_
  have k1 := hHeld
  clear hHeld
  go_wp2_with fail
  refine (HLo.out V2).mono ?_
  rintro e V3 ⟨rfl, hb⟩
  have S4 := Bx.mk (S3.out.later hb)
  clear hb S3 HLo HLn k1
  go_wp2
  have h1 := S4.out.st
  have h2 := S4.out.kp
  clear S4
  refine ⟨va, n, c, mv, lb, l, m, ls, ?_, h1, h2⟩
  exact ⟨⟨rfl, rfl⟩, rfl, rfl, rfl, rfl, rfl, rfl, rfl, rfl⟩
set_option maxRecDepth 100000 in
set_option maxHeartbeats 4000000 in
/-- Learn of a role that the token has not. -/
theorem mid_learn_role (R L B : Nat) (tk : List Value) (ws : World) (v2 v3 v4 v11 : Value) (i : Nat) (va : Option Addr) (n c : Nat) (mv : Value) (lb : List Value) (l : List (Cl × Nat)) (m : List (Cl × Value)) (ls : List Value) (X : Nat) (at' : Int) (ab a1 : Option Addr) (nb cb c1 kn : Nat) (kd ro ci cr cx cq : Int) (ks : List UInt8) (a : Act) (w : World)
    (hG : RG v2 v3 v4 v11 (.pointer (some ⟨R, 0, none⟩)) (.slice va n c) (.pointer (some ⟨L, 0, none⟩)) (.int .i64 (i : Int)) (.pointer (some ⟨X, 0, none⟩)) (.slice a1 kn c1) (.int .i64 at') (.bool (decide (0 ≤ ro ∧ ro < 8))) a) (hf : FindQ m ⟨ci, cr, cx, cq⟩ (.returned (.int .i64 at'))) (hrow : w.heap[X]? = some (.cells #[.int .i64 kd, .int .i64 ro, .int .i64 ci, .int .i64 cr, .int .i64 cx, .int .i64 cq, .slice ab nb cb] 40 (0, 0))) (hXR : X ≠ R) (hXL : X ≠ L) (hfit : (⟨kd, ro, ⟨ci, cr, cx, cq⟩, ks⟩ : Ac).fit) (hfb : FB R L w (.slice a1 kn c1) (ks.take 40)) (hS : RSt R L B tk mv lb l (.slice va n c) m ls w) (hkp : KP R L B ws w)
    (hkd : (IntKind.u64.wrap kd).tmod 5 = 3) (r : Nat) (hr8 : r < 8) (hro : ro = (r : Int)) (G0 xt : Nat) (i0 ex0 s0 : Int) (sec : List Value) (htk : tk = .int .i64 i0 :: .int .i64 (xt : Int) :: .int .i64 ex0 :: .int .i64 s0 :: sec) (hv11 : v11 = .pointer (some ⟨G0, 0, none⟩)) (hG0 : ws.cell? ⟨G0, 1, none⟩ = some (.int .i64 (xt : Int))) (hGR : G0 ≠ R) (hGL : G0 ≠ L) (hx8 : xt < 256) (hbit : bitN xt r = false) :
    Code.wp Tryz.prog (partIn Tryz.f3.body 1 14) (fun x a w => x = .normal ∧ MO R L B tk ws v2 v3 v4 v11 i a w) a w := by
  have S0 := Bx.mk (MS.mk (ab := ab) (nb := nb) (cb := cb) hS hkp hrow hfb)
  have HX := Bx.mk (And.intro hXR hXL)
  have HFt := Bx.mk hfit
  subst hro
  have q : decide (0 ≤ (r : Int) ∧ (r : Int) < 8) = true := decide_eq_true ⟨by omega, by omega⟩
  rw [q] at hG
  have q0 : (0 : Int) ≤ (r : Int) := by omega
  have q8 : (r : Int) < 8 := by omega
  clear q hf
  subst htk
  subst hv11
  have HG0 := Bx.mk (And.intro hG0 (And.intro hGR hGL))
  clear hG0 hGR hGL
  have HBit := Bx.mk hbit
  clear hbit
  clear hS hkp hrow hfb hXR hXL hfit
  obtain ⟨x, rfl, hx⟩ := open351 hG.fr
  have e2 := (hx 2).symm.trans hG.s2
  have e3 := (hx 3).symm.trans hG.s3
  have e4 := (hx 4).symm.trans hG.s4
  have e11 := (hx 11).symm.trans hG.s11
  have e12 := (hx 12).symm.trans hG.s12
  have e14 := (hx 14).symm.trans hG.s14
  have e15 := (hx 15).symm.trans hG.s15
  have e16 := (hx 16).symm.trans hG.s16
  have e17 := (hx 17).symm.trans hG.s17
  have e18 := (hx 18).symm.trans hG.s18
  have e19 := (hx 19).symm.trans hG.s19
  have e20 := (hx 20).symm.trans hG.s20
  clear hG hx
  rw [e2, e3, e4, e11, e12, e14, e15, e16, e17, e18, e19, e20]
  clear e2 e3 e4 e11 e12 e14 e15 e16 e17 e18 e19 e20
  have k0 : w.cell? ⟨X, 0, none⟩ = some (.int .i64 kd) := by rw [cell_of_row _ _ _ _ _ _ (S0.out.row)]; rfl
  have k1 : w.cell? ⟨X, 1, none⟩ = some (.int .i64 (r : Int)) := by rw [cell_of_row _ _ _ _ _ _ (S0.out.row)]; rfl
  have k2 : w.cell? ⟨X, 2, none⟩ = some (.int .i64 ci) := by rw [cell_of_row _ _ _ _ _ _ (S0.out.row)]; rfl
  have k3 : w.cell? ⟨X, 3, none⟩ = some (.int .i64 cr) := by rw [cell_of_row _ _ _ _ _ _ (S0.out.row)]; rfl
  have k4 : w.cell? ⟨X, 4, none⟩ = some (.int .i64 cx) := by rw [cell_of_row _ _ _ _ _ _ (S0.out.row)]; rfl
  have k5 : w.cell? ⟨X, 5, none⟩ = some (.int .i64 cq) := by rw [cell_of_row _ _ _ _ _ _ (S0.out.row)]; rfl
  have k6 : w.cell? ⟨X, 6, none⟩ = some (.slice ab nb cb) := by rw [cell_of_row _ _ _ _ _ _ (S0.out.row)]; rfl
  conv => arg 2; whnf
  have HLn := Bx.mk fun (v : Value) (W : World) (h : RingAt W R (.int .i64 i0 :: .int .i64 (xt : Int) :: .int .i64 ex0 :: .int .i64 s0 :: sec) mv lb) (hk : IsKey W v (ks.take 40)) => learn_role R r i0 ex0 s0 xt sec mv lb (ks.take 40) v W h hr8 hx8 hk HBit.out
  go_upto_region 48 with fail
  have S1 := Bx.mk (S0.out.later (Below.refl _ _).drew)
  have H1 := Bx.mk (cell_later k1 (Below.refl _ _).drew)
  clear S0 k0 k1 k2 k3 k4 k5 k6
  refine wp_region_noPanic ?_
  refine wp_region_held_drew (S := fun W => W.cell? ⟨X, 1, none⟩ = some (.int .i64 (r : Int))) (by kernel_rfl) (H1.out) (fun hHeld => ?_)
  generalize w.drew = V0 at *
  clear H1
  refine takeL 0 (v := ?_) rfl (by kernel_rfl) (by kernel_rfl) (by kernel_rfl) (fun _ _ _ h => h) (Or.inl ⟨by rfl, ?_⟩) hHeld ?_
  rotate_left 1
  · (intro w hSw; go_simp; try with_reducible rfl)
  try simp only [Act.put, List.setIfInBounds_toArray, List.set_cons_zero, List.set_cons_succ]
  refine takeL 1 (v := ?_) rfl (by kernel_rfl) (by kernel_rfl) (by kernel_rfl) (fun _ _ _ h => h) (Or.inl ⟨by rfl, ?_⟩) hHeld ?_
  rotate_left 1
  · (intro w hSw; go_simp; try with_reducible rfl)
  try simp only [Act.put, List.setIfInBounds_toArray, List.set_cons_zero, List.set_cons_succ]
  refine takeL 2 (v := ?_) rfl (by kernel_rfl) (by kernel_rfl) (by kernel_rfl) (fun _ _ _ h => h) (Or.inl ⟨by rfl, ?_⟩) hHeld ?_
  rotate_left 1
  · (intro w hSw; have q1 := hSw; go_simp; try with_reducible rfl)
  try simp only [Act.put, List.setIfInBounds_toArray, List.set_cons_zero, List.set_cons_succ]
  refine takeL 3 (v := ?_) rfl (by kernel_rfl) (by kernel_rfl) (by kernel_rfl) (fun _ _ _ h => h) (Or.inl ⟨by rfl, ?_⟩) hHeld ?_
  rotate_left 1
  · (intro w hSw; go_simp; try with_reducible rfl)
  try simp only [Act.put, List.setIfInBounds_toArray, List.set_cons_zero, List.set_cons_succ]
  refine stepL 4 (by kernel_rfl) rfl (fun K hK => ?_)
  go_simp
  refine (new_any (ks.take 40) _ V0 S1.out.key.1 (by rw [List.length_take]; omega)).mono ?_
  rintro e V1 ⟨v', rfl, hk', hb⟩
  show K _ _
  obtain ⟨pk, sk, hpk, -⟩ := id hk'
  subst hpk
  have S2 := Bx.mk (And.intro (S1.out.later hb) (And.intro hk' S1.out.st.low.2.2.2))
  clear hk' S1
  refine hK.out _ _ (cell_later hHeld hb) (fun hHeld => ?_)
  clear hK K hb
  try simp only [Act.put, List.setIfInBounds_toArray, List.set_cons_zero, List.set_cons_succ]
  refine stepL 5 (by kernel_rfl) rfl (fun K hK => ?_)
  go_simp
  refine (HLn.out _ _ S2.out.1.st.ring S2.out.2.1.key).mono ?_
  rintro e V2 ⟨rfl, hb⟩
  show K _ _
  have S3 := Bx.mk (S2.out.1.later hb)
  clear S2
  refine hK.out _ _ (cell_later hHeld hb) (fun hHeld => ?_)
  clear hK K
  try simp only [Act.put, List.setIfInBounds_toArray, List.set_cons_zero, List.set_cons_succ]
  refine takeL 6 (v := ?_) rfl (by kernel_rfl) (by kernel_rfl) (by kernel_rfl) (fun _ _ _ h => h) (Or.inl ⟨by rfl, ?_⟩) hHeld ?_
  rotate_left 1
  · (intro w hSw; go_simp; try with_reducible rfl)
  try simp only [Act.put, List.setIfInBounds_toArray, List.set_cons_zero, List.set_cons_succ]
  refine wpAnyH_done (by kernel_rfl) ?_ _
  refine NoPanic.normal ?_
  have k1 := hHeld
  clear hHeld
  go_wp2_with fail
  refine (learn_nokey R r V2 hr8).mono ?_
  rintro e V3 ⟨rfl, hb⟩
  have S4 := Bx.mk (S3.out.later hb)
  have k1' := cell_later k1 hb
  have c1' := S4.out.kp.cell HG0.out.1 HG0.out.2.1 HG0.out.2.2
  clear hb S3 HLn k1
  go_wp2_with fail
  refine (bit_any xt r V3 hx8 hr8).mono ?_
  rintro e V4 ⟨rfl, rfl⟩
  rw [HBit.out]
  clear k1' c1'
  go_wp2
  have h1 := S4.out.st
  have h2 := S4.out.kp
  clear S4
  refine ⟨va, n, c, mv, lb, l, m, ls, ?_, h1, h2⟩
  exact ⟨⟨rfl, rfl⟩, rfl, rfl, rfl, rfl, rfl, rfl, rfl, rfl⟩
end Go.Proofs.YtnefpjdjnjcmbaaGreatDoor
namespace Go.Proofs.YtnefpjdjnjcmbaaGreatDoor
open Go Go.RowKit
theorem ownB_one (W : World) (base : Nat) (hb : base ≤ W.heap.size) (x : UInt8) : OwnB (W.alloc (.cells #[.int .u8 (ub x)] 5)) base (.slice (some ⟨W.heap.size, 0, none⟩) 1 1) [x] :=
  ⟨rfl, .inr ⟨W.heap.size, 1, _, rfl, hb, hnew _ _ _ rfl, Nat.le_refl _, by simp [maxLen], rfl, rfl⟩⟩
theorem run_stB (w : World) (b off : Nat) (u : Value) (a : Option Addr) (n c : Nat) (hc : w.cell? ⟨b, off, none⟩ = some u) (hf : w.frozen? ⟨b, off, none⟩ = false) : (Instr.storeAt 22 (.pointer (some ⟨b, off, none⟩)) (.slice a n c)).run Tryz.prog w = .ok () (w.setCell ⟨b, off, none⟩ (.slice a n c)) := by
  go_simp
theorem frozen_no {w : World} {b i : Nat} {cs : Array Value} {t : TypeId} (h : w.heap[b]? = some (.cells cs t (0, 0))) : w.frozen? ⟨b, i, none⟩ = false := by
  unfold World.frozen?
  rw [h]
  simp
theorem FB.own {R L base : Nat} {W : World} {v : Value} {bs : List UInt8} (h : OwnB W base v bs) (hR : R < base) (hL : L < base) : FB R L W v bs := ⟨h.bytes, fun ad n cap hv hn => by
  have := (h.lt ad.block (by rw [hv]; rfl)).2
  omega⟩
set_option maxRecDepth 100000 in
set_option maxHeartbeats 4000000 in
/-- Learn of a role that the token has. -/
theorem mid_learn_ok (R L B : Nat) (tk : List Value) (ws : World) (v2 v3 v4 v11 : Value) (i : Nat) (va : Option Addr) (n c : Nat) (mv : Value) (lb : List Value) (l : List (Cl × Nat)) (m : List (Cl × Value)) (ls : List Value) (X : Nat) (at' : Int) (ab a1 : Option Addr) (nb cb c1 kn : Nat) (kd ro ci cr cx cq : Int) (ks : List UInt8) (a : Act) (w : World)
    (hG : RG v2 v3 v4 v11 (.pointer (some ⟨R, 0, none⟩)) (.slice va n c) (.pointer (some ⟨L, 0, none⟩)) (.int .i64 (i : Int)) (.pointer (some ⟨X, 0, none⟩)) (.slice a1 kn c1) (.int .i64 at') (.bool (decide (0 ≤ ro ∧ ro < 8))) a) (hf : FindQ m ⟨ci, cr, cx, cq⟩ (.returned (.int .i64 at'))) (hrow : w.heap[X]? = some (.cells #[.int .i64 kd, .int .i64 ro, .int .i64 ci, .int .i64 cr, .int .i64 cx, .int .i64 cq, .slice ab nb cb] 40 (0, 0))) (hXR : X ≠ R) (hXL : X ≠ L) (hfit : (⟨kd, ro, ⟨ci, cr, cx, cq⟩, ks⟩ : Ac).fit) (hfb : FB R L w (.slice a1 kn c1) (ks.take 40)) (hS : RSt R L B tk mv lb l (.slice va n c) m ls w) (hkp : KP R L B ws w)
    (hkd : (IntKind.u64.wrap kd).tmod 5 = 3) (r : Nat) (hr8 : r < 8) (hro : ro = (r : Int)) (G0 xt : Nat) (i0 ex0 s0 : Int) (sec : List Value) (htk : tk = .int .i64 i0 :: .int .i64 (xt : Int) :: .int .i64 ex0 :: .int .i64 s0 :: sec) (hv11 : v11 = .pointer (some ⟨G0, 0, none⟩)) (hG0 : ws.cell? ⟨G0, 1, none⟩ = some (.int .i64 (xt : Int))) (hGR : G0 ≠ R) (hGL : G0 ≠ L) (hx8 : xt < 256) (hbit : bitN xt r = true) :
    Code.wp Tryz.prog (partIn Tryz.f3.body 1 14) (fun x a w => x = .normal ∧ MO R L B tk ws v2 v3 v4 v11 i a w) a w := by
  have S0 := Bx.mk (MS.mk (ab := ab) (nb := nb) (cb := cb) hS hkp hrow hfb)
  have HX := Bx.mk (And.intro hXR hXL)
  have HFt := Bx.mk hfit
  subst hro
  have q : decide (0 ≤ (r : Int) ∧ (r : Int) < 8) = true := decide_eq_true ⟨by omega, by omega⟩
  rw [q] at hG
  have q0 : (0 : Int) ≤ (r : Int) := by omega
  have q8 : (r : Int) < 8 := by omega
  clear q hf
  subst htk
  subst hv11
  have HG0 := Bx.mk (And.intro hG0 (And.intro hGR hGL))
  clear hG0 hGR hGL
  have HBit := Bx.mk hbit
  clear hbit
  clear hS hkp hrow hfb hXR hXL hfit
  obtain ⟨x, rfl, hx⟩ := open351 hG.fr
  have e2 := (hx 2).symm.trans hG.s2
  have e3 := (hx 3).symm.trans hG.s3
  have e4 := (hx 4).symm.trans hG.s4
  have e11 := (hx 11).symm.trans hG.s11
  have e12 := (hx 12).symm.trans hG.s12
  have e14 := (hx 14).symm.trans hG.s14
  have e15 := (hx 15).symm.trans hG.s15
  have e16 := (hx 16).symm.trans hG.s16
  have e17 := (hx 17).symm.trans hG.s17
  have e18 := (hx 18).symm.trans hG.s18
  have e19 := (hx 19).symm.trans hG.s19
  have e20 := (hx 20).symm.trans hG.s20
  clear hG hx
  rw [e2, e3, e4, e11, e12, e14, e15, e16, e17, e18, e19, e20]
  clear e2 e3 e4 e11 e12 e14 e15 e16 e17 e18 e19 e20
  have k0 : w.cell? ⟨X, 0, none⟩ = some (.int .i64 kd) := by rw [cell_of_row _ _ _ _ _ _ (S0.out.row)]; rfl
  have k1 : w.cell? ⟨X, 1, none⟩ = some (.int .i64 (r : Int)) := by rw [cell_of_row _ _ _ _ _ _ (S0.out.row)]; rfl
  have k2 : w.cell? ⟨X, 2, none⟩ = some (.int .i64 ci) := by rw [cell_of_row _ _ _ _ _ _ (S0.out.row)]; rfl
  have k3 : w.cell? ⟨X, 3, none⟩ = some (.int .i64 cr) := by rw [cell_of_row _ _ _ _ _ _ (S0.out.row)]; rfl
  have k4 : w.cell? ⟨X, 4, none⟩ = some (.int .i64 cx) := by rw [cell_of_row _ _ _ _ _ _ (S0.out.row)]; rfl
  have k5 : w.cell? ⟨X, 5, none⟩ = some (.int .i64 cq) := by rw [cell_of_row _ _ _ _ _ _ (S0.out.row)]; rfl
  have k6 : w.cell? ⟨X, 6, none⟩ = some (.slice ab nb cb) := by rw [cell_of_row _ _ _ _ _ _ (S0.out.row)]; rfl
  conv => arg 2; whnf
  have HLn := Bx.mk fun (v : Value) (W : World) (h : RingAt W R (.int .i64 i0 :: .int .i64 (xt : Int) :: .int .i64 ex0 :: .int .i64 s0 :: sec) mv lb) (hk : IsKey W v (ks.take 40)) => learn_ok R r i0 ex0 s0 xt sec mv lb (ks.take 40) v W h hr8 hx8 hk (by rw [List.length_take]; omega) HBit.out
  go_upto_region 48 with fail
  have S1 := Bx.mk (S0.out.later (Below.refl _ _).drew)
  have H1 := Bx.mk (cell_later k1 (Below.refl _ _).drew)
  clear S0 k0 k1 k2 k3 k4 k5 k6
  refine wp_region_noPanic ?_
  refine wp_region_held_drew (S := fun W => W.cell? ⟨X, 1, none⟩ = some (.int .i64 (r : Int))) (by kernel_rfl) (H1.out) (fun hHeld => ?_)
  generalize w.drew = V0 at *
  clear H1
  refine takeL 0 (v := ?_) rfl (by kernel_rfl) (by kernel_rfl) (by kernel_rfl) (fun _ _ _ h => h) (Or.inl ⟨by rfl, ?_⟩) hHeld ?_
  rotate_left 1
  · (intro w hSw; go_simp; try with_reducible rfl)
  try simp only [Act.put, List.setIfInBounds_toArray, List.set_cons_zero, List.set_cons_succ]
  refine takeL 1 (v := ?_) rfl (by kernel_rfl) (by kernel_rfl) (by kernel_rfl) (fun _ _ _ h => h) (Or.inl ⟨by rfl, ?_⟩) hHeld ?_
  rotate_left 1
  · (intro w hSw; go_simp; try with_reducible rfl)
  try simp only [Act.put, List.setIfInBounds_toArray, List.set_cons_zero, List.set_cons_succ]
  refine takeL 2 (v := ?_) rfl (by kernel_rfl) (by kernel_rfl) (by kernel_rfl) (fun _ _ _ h => h) (Or.inl ⟨by rfl, ?_⟩) hHeld ?_
  rotate_left 1
  · (intro w hSw; have q1 := hSw; go_simp; try with_reducible rfl)
  try simp only [Act.put, List.setIfInBounds_toArray, List.set_cons_zero, List.set_cons_succ]
  refine takeL 3 (v := ?_) rfl (by kernel_rfl) (by kernel_rfl) (by kernel_rfl) (fun _ _ _ h => h) (Or.inl ⟨by rfl, ?_⟩) hHeld ?_
  rotate_left 1
  · (intro w hSw; go_simp; try with_reducible rfl)
  try simp only [Act.put, List.setIfInBounds_toArray, List.set_cons_zero, List.set_cons_succ]
  refine stepL 4 (by kernel_rfl) rfl (fun K hK => ?_)
  go_simp
  refine (new_any (ks.take 40) _ V0 S1.out.key.1 (by rw [List.length_take]; omega)).mono ?_
  rintro e V1 ⟨v', rfl, hk', hb⟩
  show K _ _
  obtain ⟨pk, sk, hpk, -⟩ := id hk'
  subst hpk
  have S2 := Bx.mk (And.intro (S1.out.later hb) (And.intro hk' S1.out.st.low.2.2.2))
  clear hk' S1
  refine hK.out _ _ (cell_later hHeld hb) (fun hHeld => ?_)
  clear hK K hb
  try simp only [Act.put, List.setIfInBounds_toArray, List.set_cons_zero, List.set_cons_succ]
  refine stepL 5 (by kernel_rfl) rfl (fun K hK => ?_)
  go_simp
  refine (HLn.out _ _ S2.out.1.st.ring S2.out.2.1.key).mono ?_
  rintro e V2 ⟨rfl, hl⟩
  show K _ _
  have HT3 : Bx (Learnt R (.int .i64 i0 :: .int .i64 (xt : Int) :: .int .i64 ex0 :: .int .i64 s0 :: sec) mv lb r (ks.take 40) V1 V2 ∧ True ∧ KP R L B V1 V2) := ⟨⟨hl, trivial, by
    obtain ⟨p9, hr9, hko9, Wx, hx9, hg9⟩ := hl
    exact (KP.below hx9).trans (KP.by_ hg9 (.inl rfl))⟩⟩
  clear hl
  refine hK.out _ _ (HT3.out.2.2.cell hHeld HX.out.1 HX.out.2) (fun hHeld => ?_)
  clear hK K
  try simp only [Act.put, List.setIfInBounds_toArray, List.set_cons_zero, List.set_cons_succ]
  refine takeL 6 (v := ?_) rfl (by kernel_rfl) (by kernel_rfl) (by kernel_rfl) (fun _ _ _ h => h) (Or.inl ⟨by rfl, ?_⟩) hHeld ?_
  rotate_left 1
  · (intro w hSw; go_simp; try with_reducible rfl)
  try simp only [Act.put, List.setIfInBounds_toArray, List.set_cons_zero, List.set_cons_succ]
  refine wpAnyH_done (by kernel_rfl) ?_ _
  refine NoPanic.normal ?_
  have k1 := hHeld
  clear hHeld
  go_wp2_with fail
  refine (learn_nokey R r V2 hr8).mono ?_
  rintro e V3 ⟨rfl, hb⟩
  have HT4 := Bx.mk (And.intro HT3.out.1 (And.intro HT3.out.2.1 hb))
  have kp4 : KP R L B V1 V3 := HT3.out.2.2.trans (KP.below hb)
  have k1' := cell_later k1 hb
  have c1' := (S2.out.1.kp.trans kp4).cell HG0.out.1 HG0.out.2.1 HG0.out.2.2
  have HF4 := Bx.mk (S2.out.1.key.keep kp4)
  have HP4 := Bx.mk kp4
  clear hb HT3 HLn k1 kp4
  go_wp2_with fail
  refine (bit_any xt r V3 hx8 hr8).mono ?_
  rintro e V4 ⟨rfl, hw⟩
  rw [HBit.out, hw]
  clear hw
  clear c1'
  have HQ0 := Bx.mk k1'
  have hrowL : V3.heap[L]? = some (.cells ls.toArray 38 (0, 0)) := by
    obtain ⟨p9, hr9, hko9, Wx, hx9, hg9⟩ := HT4.out.1
    have h1 := S2.out.1.st.row.1
    have hlt := (Array.getElem?_eq_some_iff.1 h1).1
    have h2 : V2.heap[L]? = V1.heap[L]? := by
      rw [hg9.block L (Nat.lt_of_lt_of_le hlt hx9.size) (fun e => S2.out.1.st.low.2.2.1 (by injection e with e; exact e.symm)), hx9.block L hlt]
    rw [HT4.out.2.2.block L (by rw [← h2] at h1; exact (Array.getElem?_eq_some_iff.1 h1).1), h2]
    exact h1
  have hKey : Bx ((∀ W, Below V3.heap.size V3 W → W.heap[L]? = some (.cells ls.toArray 38 (0, 0)) ∧ ls.length = 8) ∧ (∀ W, Below V3.heap.size V3 W → W.cell? ⟨X, 1, none⟩ = some (.int .i64 (r : Int)))) := ⟨⟨fun W hb => ⟨by rw [hb.block L (Array.getElem?_eq_some_iff.1 hrowL).1]; exact hrowL, S2.out.1.st.row.2⟩, fun W hb => cell_later HQ0.out hb⟩⟩
  clear hrowL HQ0
  go_upto_region 58 with fail
  have HQ := Bx.mk (cell_later k1' (Below.refl _ _).drew)
  have BU : Bx (Below V3.heap.size V3 V3.drew) := ⟨(Below.refl _ _).drew⟩
  clear k1'
  refine wp_region_noPanic ?_
  refine wp_region_held_drew (S := fun W => W.cell? ⟨X, 1, none⟩ = some (.int .i64 (r : Int))) (by kernel_rfl) (HQ.out) (fun hHeld => ?_)
  generalize V3.drew = U0 at *
  refine takeL 0 (v := ?_) rfl (by kernel_rfl) (by kernel_rfl) (by kernel_rfl) (fun _ _ _ h => h) (Or.inl ⟨by rfl, ?_⟩) hHeld ?_
  rotate_left 1
  · (intro w hSw; go_simp; try with_reducible rfl)
  try simp only [Act.put, List.setIfInBounds_toArray, List.set_cons_zero, List.set_cons_succ]
  refine takeL 1 (v := ?_) rfl (by kernel_rfl) (by kernel_rfl) (by kernel_rfl) (fun _ _ _ h => h) (Or.inl ⟨by rfl, ?_⟩) hHeld ?_
  rotate_left 1
  · (intro w hSw; have q1 := hSw; go_simp; try with_reducible rfl)
  try simp only [Act.put, List.setIfInBounds_toArray, List.set_cons_zero, List.set_cons_succ]
  refine takeL 3 (v := ?_) rfl (by kernel_rfl) (by kernel_rfl) (by kernel_rfl) (fun _ _ _ h => h) (Or.inl ⟨by rfl, ?_⟩) hHeld ?_
  rotate_left 1
  · (intro w hSw; go_simp; try with_reducible rfl)
  try simp only [Act.put, List.setIfInBounds_toArray, List.set_cons_zero, List.set_cons_succ]
  refine stepL 2 (by kernel_rfl) rfl (fun K hK => ?_)
  go_simp
  have B1 : Bx (OwnB (U0.alloc (.cells #[.int .u8 1] 5)) V3.heap.size (.slice (some ⟨U0.heap.size, 0, none⟩) 1 1) [1] ∧ Below V3.heap.size V3 (U0.alloc (.cells #[.int .u8 1] 5))) := ⟨⟨ownB_one U0 V3.heap.size BU.out.size 1, BU.out.trans ((below_a _).mono BU.out.size)⟩⟩
  refine hK.out _ _ (cell_later hHeld (below_a _)) (fun hHeld => ?_)
  clear hK K
  try simp only [Act.put, List.setIfInBounds_toArray, List.set_cons_zero, List.set_cons_succ]
  generalize U0.alloc (.cells #[.int .u8 1] 5) = U1 at *
  obtain ⟨D0, hD0⟩ : ∃ d, d = U0.heap.size := ⟨_, rfl⟩
  have B1 : Bx (OwnB U1 V3.heap.size (.slice (some ⟨D0, 0, none⟩) 1 1) [1] ∧ Below V3.heap.size V3 U1) := Bx.mk (by rw [hD0]; exact B1.out)
  rw [← hD0]
  clear hD0
  refine stepL 4 (by kernel_rfl) rfl (fun K hK => ?_)
  refine step_ap rfl _ _ rfl V3.heap.size _ [1] (by rfl) B1.out.1 _ (ks.take 40) (by rfl) (HF4.out.1.later B1.out.2) (by rw [List.length_take]; simp only [List.length_cons, List.length_nil]; omega) B1.out.2.size ?_
  intro v2 U2 ho2 hg2 _
  have B2 : Bx (OwnB U2 V3.heap.size v2 (1 :: ks.take 40) ∧ Below V3.heap.size V3 U2) := ⟨⟨ho2, B1.out.2.trans (own_below B1.out.1 hg2 B1.out.2.size)⟩⟩
  have hx2 := cell_later (hKey.out.2 U2 B2.out.2) (Below.refl _ _)
  obtain ⟨a2, c2, hv2, -⟩ := ho2.bytes
  obtain ⟨n2, hn2⟩ : ∃ n2, ([1] ++ ks.take 40).length = n2 := ⟨_, rfl⟩
  rw [hn2] at hv2
  subst hv2
  clear hn2
  clear ho2 hg2 B1
  refine hK.out _ _ hx2 (fun hHeld => ?_)
  clear hK K hx2
  try simp only [Act.put, List.setIfInBounds_toArray, List.set_cons_zero, List.set_cons_succ]
  refine takeL 5 (v := ?_) rfl (by kernel_rfl) (by kernel_rfl) (by kernel_rfl) (fun _ _ _ h => h) (Or.inl ⟨by rfl, ?_⟩) hHeld ?_
  rotate_left 1
  · (intro w hSw; go_simp; try with_reducible rfl)
  try simp only [Act.put, List.setIfInBounds_toArray, List.set_cons_zero, List.set_cons_succ]
  refine stepL 6 (by kernel_rfl) rfl (fun K hK => ?_)
  have hLr := hKey.out.1 U2 B2.out.2
  obtain ⟨u0, hu0⟩ : ∃ u0, U2.cell? ⟨L, r, none⟩ = some u0 := ⟨_, by rw [cell_of_row _ _ _ _ _ _ hLr.1, List.getElem?_toArray, List.getElem?_eq_getElem (by rw [hLr.2]; exact hr8)]⟩
  refine step_st1 rfl 22 _ _ rfl (run_stB U2 L r u0 a2 _ c2 hu0 (frozen_no hLr.1)) ?_
  have B3 : Bx (U2.grownBy (U2.setCell ⟨L, r, none⟩ (.slice a2 n2 c2)) (some L) ∧ (U2.setCell ⟨L, r, none⟩ (.slice a2 n2 c2)).heap[L]? = some (.cells (ls.set r (.slice a2 n2 c2)).toArray 38 (0, 0))) := ⟨⟨set_grown _ _ _ _, by
    show (U2.heap.modify L _)[L]? = _
    rw [Array.getElem?_modify, if_pos rfl, hLr.1]
    simp [List.setIfInBounds_toArray]⟩⟩
  generalize U2.setCell ⟨L, r, none⟩ (.slice a2 n2 c2) = U3 at *
  have hx3 : U3.cell? ⟨X, 1, none⟩ = some (.int .i64 (r : Int)) := (KP.by_ (R := R) (L := L) (B := B) B3.out.1 (.inr (.inl rfl))).cell hHeld HX.out.1 HX.out.2
  clear hLr hu0
  refine hK.out _ _ hx3 (fun hHeld => ?_)
  clear hK K hx3
  try simp only [Act.put]
  refine wpAnyH_done (by kernel_rfl) ?_ _
  refine NoPanic.normal ?_
  clear hHeld
  have hfb := (FB.own (R := R) (L := L) B2.out.1 (by have := S2.out.1.st.low; have := HP4.out.size; have := S2.out.2.2; omega) (by have := S2.out.1.st.low; have := HP4.out.size; have := S2.out.2.2; omega)).keep (B := B) (KP.by_ (R := R) (L := L) B3.out.1 (.inr (.inl rfl)))
  obtain ⟨lb9, hst9⟩ := S2.out.1.st.learn hr8 HT4.out.1 (HT4.out.2.2.trans (B2.out.2.mono HT4.out.2.2.size)) B3.out.1 B3.out.2 hfb (by rw [List.length_take]; omega)
  have Z1 := Bx.mk hst9
  have Z2 := Bx.mk (((S2.out.1.kp.trans HP4.out).trans (KP.below B2.out.2)).trans (KP.by_ (R := R) (L := L) (B := B) B3.out.1 (.inr (.inl rfl))))
  clear S2 HP4 HT4 B2 B3 hKey HF4 BU hfb hst9
  go_wp2
  refine ⟨_, _, _, mv, lb9, l, m, _, ?_, Z1.out, Z2.out⟩
  exact ⟨⟨rfl, rfl⟩, rfl, rfl, rfl, rfl, rfl, rfl, rfl, rfl⟩
end Go.Proofs.YtnefpjdjnjcmbaaGreatDoor
