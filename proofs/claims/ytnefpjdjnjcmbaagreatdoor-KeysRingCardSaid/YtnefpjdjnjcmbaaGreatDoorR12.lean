/-
  What is called in a round of KeysRing: Learn.
-/
import Derived.Test.YtnefpjdjnjcmbaaGreatDoorR9
namespace Go.Proofs.YtnefpjdjnjcmbaaGreatDoor
open Go Go.RowKit
theorem ownB_one (W : World) (base : Nat) (hb : base ≤ W.heap.size) (x : UInt8) : OwnB (W.alloc (.cells #[.int .u8 (ub x)] 5)) base (.slice (some ⟨W.heap.size, 0, none⟩) 1 1) [x] :=
  ⟨rfl, .inr ⟨W.heap.size, 1, _, rfl, hb, hnew _ _ _ rfl, Nat.le_refl _, by simp [maxLen], rfl, rfl⟩⟩
theorem run_stB (w : World) (b off : Nat) (u : Value) (a : Option Addr) (n c : Nat) (hc : w.cell? ⟨b, off, none⟩ = some u) (hf : w.frozen? ⟨b, off, none⟩ = false) : (Instr.storeAt 22 (.pointer (some ⟨b, off, none⟩)) (.slice a n c)).run Tryz.prog w = .ok () (w.setCell ⟨b, off, none⟩ (.slice a n c)) := by
  go_simp
theorem frozen_no {w : World} {b i : Nat} {cs : Array Value} {t : TypeId} (h : w.heap[b]? = some (.cells cs t (0, 0))) : w.frozen? ⟨b, i, none⟩ = false := by
  unfold World.frozen?
  rw [h]
  simp
theorem FB.own {R L base : Nat} {W : World} {v : Value} {bs : List UInt8} (h : OwnB W base v bs) (hR : R < base) (hL : L < base) : FB R L W v bs := ⟨h.bytes, fun ad n cap hv hn => by
  have := (h.lt ad.block (by rw [hv]; rfl)).2
  omega⟩
set_option maxRecDepth 100000 in
set_option maxHeartbeats 4000000 in
/-- Learn of a role that the token has. -/
theorem mid_learn_ok (R L B : Nat) (tk : List Value) (ws : World) (v2 v3 v4 v11 : Value) (i : Nat) (va : Option Addr) (n c : Nat) (mv : Value) (lb : List Value) (l : List (Cl × Nat)) (m : List (Cl × Value)) (ls : List Value) (X : Nat) (at' : Int) (ab a1 : Option Addr) (nb cb c1 kn : Nat) (kd ro ci cr cx cq : Int) (ks : List UInt8) (a : Act) (w : World)
    (hG : RG v2 v3 v4 v11 (.pointer (some ⟨R, 0, none⟩)) (.slice va n c) (.pointer (some ⟨L, 0, none⟩)) (.int .i64 (i : Int)) (.pointer (some ⟨X, 0, none⟩)) (.slice a1 kn c1) (.int .i64 at') (.bool (decide (0 ≤ ro ∧ ro < 8))) a) (hf : FindQ m ⟨ci, cr, cx, cq⟩ (.returned (.int .i64 at'))) (hrow : w.heap[X]? = some (.cells #[.int .i64 kd, .int .i64 ro, .int .i64 ci, .int .i64 cr, .int .i64 cx, .int .i64 cq, .slice ab nb cb] 40 (0, 0))) (hXR : X ≠ R) (hXL : X ≠ L) (hfit : (⟨kd, ro, ⟨ci, cr, cx, cq⟩, ks⟩ : Ac).fit) (hfb : FB R L w (.slice a1 kn c1) (ks.take 40)) (hS : RSt R L B tk mv lb l (.slice va n c) m ls w) (hkp : KP R L B ws w)
    (hkd : (IntKind.u64.wrap kd).tmod 5 = 3) (r : Nat) (hr8 : r < 8) (hro : ro = (r : Int)) (G0 xt : Nat) (i0 ex0 s0 : Int) (sec : List Value) (htk : tk = .int .i64 i0 :: .int .i64 (xt : Int) :: .int .i64 ex0 :: .int .i64 s0 :: sec) (hv11 : v11 = .pointer (some ⟨G0, 0, none⟩)) (hG0 : ws.cell? ⟨G0, 1, none⟩ = some (.int .i64 (xt : Int))) (hGR : G0 ≠ R) (hGL : G0 ≠ L) (hx8 : xt < 256) (hbit : bitN xt r = true) :
    Code.wp Tryz.prog (partIn Tryz.f3.body 1 14) (fun x a w => x = .normal ∧ MO R L B tk ws v2 v3 v4 v11 i a w) a w := by
  have S0 := Bx.mk (MS.mk (ab := ab) (nb := nb) (cb := cb) hS hkp hrow hfb)
  have HX := Bx.mk (And.intro hXR hXL)
  have HFt := Bx.mk hfit
  subst hro
  have q : decide (0 ≤ (r : Int) ∧ (r : Int) < 8) = true := decide_eq_true ⟨by omega, by omega⟩
  rw [q] at hG
  have q0 : (0 : Int) ≤ (r : Int) := by omega
  have q8 : (r : Int) < 8 := by omega
  clear q hf
  subst htk
  subst hv11
  have HG0 := Bx.mk (And.intro hG0 (And.intro hGR hGL))
  clear hG0 hGR hGL
  have HBit := Bx.mk hbit
  clear hbit
  clear hS hkp hrow hfb hXR hXL hfit
  obtain ⟨x, rfl, hx⟩ := open351 hG.fr
  have e2 := (hx 2).symm.trans hG.s2
  have e3 := (hx 3).symm.trans hG.s3
  have e4 := (hx 4).symm.trans hG.s4
  have e11 := (hx 11).symm.trans hG.s11
  have e12 := (hx 12).symm.trans hG.s12
  have e14 := (hx 14).symm.trans hG.s14
  have e15 := (hx 15).symm.trans hG.s15
  have e16 := (hx 16).symm.trans hG.s16
  have e17 := (hx 17).symm.trans hG.s17
  have e18 := (hx 18).symm.trans hG.s18
  have e19 := (hx 19).symm.trans hG.s19
  have e20 := (hx 20).symm.trans hG.s20
  clear hG hx
  rw [e2, e3, e4, e11, e12, e14, e15, e16, e17, e18, e19, e20]
  clear e2 e3 e4 e11 e12 e14 e15 e16 e17 e18 e19 e20
  have k0 : w.cell? ⟨X, 0, none⟩ = some (.int .i64 kd) := by rw [cell_of_row _ _ _ _ _ _ (S0.out.row)]; rfl
  have k1 : w.cell? ⟨X, 1, none⟩ = some (.int .i64 (r : Int)) := by rw [cell_of_row _ _ _ _ _ _ (S0.out.row)]; rfl
  have k2 : w.cell? ⟨X, 2, none⟩ = some (.int .i64 ci) := by rw [cell_of_row _ _ _ _ _ _ (S0.out.row)]; rfl
  have k3 : w.cell? ⟨X, 3, none⟩ = some (.int .i64 cr) := by rw [cell_of_row _ _ _ _ _ _ (S0.out.row)]; rfl
  have k4 : w.cell? ⟨X, 4, none⟩ = some (.int .i64 cx) := by rw [cell_of_row _ _ _ _ _ _ (S0.out.row)]; rfl
  have k5 : w.cell? ⟨X, 5, none⟩ = some (.int .i64 cq) := by rw [cell_of_row _ _ _ _ _ _ (S0.out.row)]; rfl
  have k6 : w.cell? ⟨X, 6, none⟩ = some (.slice ab nb cb) := by rw [cell_of_row _ _ _ _ _ _ (S0.out.row)]; rfl
  conv => arg 2; whnf
  have HLn := Bx.mk fun (v : Value) (W : World) (h : RingAt W R (.int .i64 i0 :: .int .i64 (xt : Int) :: .int .i64 ex0 :: .int .i64 s0 :: sec) mv lb) (hk : IsKey W v (ks.take 40)) => learn_ok R r i0 ex0 s0 xt sec mv lb (ks.take 40) v W h hr8 hx8 hk (by rw [List.length_take]; omega) HBit.out
  go_upto_region 48 with fail
  have S1 := Bx.mk (S0.out.later (Below.refl _ _).drew)
  have H1 := Bx.mk (cell_later k1 (Below.refl _ _).drew)
  clear S0 k0 k1 k2 k3 k4 k5 k6
  refine wp_region_noPanic ?_
  refine wp_region_held_drew (S := fun W => W.cell? ⟨X, 1, none⟩ = some (.int .i64 (r : Int))) (by kernel_rfl) (H1.out) (fun hHeld => ?_)
  generalize w.drew = V0 at *
  clear H1
  refine takeL 0 (v := ?_) rfl (by kernel_rfl) (by kernel_rfl) (by kernel_rfl) (fun _ _ _ h => h) (Or.inl ⟨by rfl, ?_⟩) hHeld ?_
  rotate_left 1
  · (intro w hSw; go_simp; try with_reducible rfl)
  try simp only [Act.put, List.setIfInBounds_toArray, List.set_cons_zero, List.set_cons_succ]
  refine takeL 1 (v := ?_) rfl (by kernel_rfl) (by kernel_rfl) (by kernel_rfl) (fun _ _ _ h => h) (Or.inl ⟨by rfl, ?_⟩) hHeld ?_
  rotate_left 1
  · (intro w hSw; go_simp; try with_reducible rfl)
  try simp only [Act.put, List.setIfInBounds_toArray, List.set_cons_zero, List.set_cons_succ]
  refine takeL 2 (v := ?_) rfl (by kernel_rfl) (by kernel_rfl) (by kernel_rfl) (fun _ _ _ h => h) (Or.inl ⟨by rfl, ?_⟩) hHeld ?_
  rotate_left 1
  · (intro w hSw; have q1 := hSw; go_simp; try with_reducible rfl)
  try simp only [Act.put, List.setIfInBounds_toArray, List.set_cons_zero, List.set_cons_succ]
  refine takeL 3 (v := ?_) rfl (by kernel_rfl) (by kernel_rfl) (by kernel_rfl) (fun _ _ _ h => h) (Or.inl ⟨by rfl, ?_⟩) hHeld ?_
  rotate_left 1
  · (intro w hSw; go_simp; try with_reducible rfl)
  try simp only [Act.put, List.setIfInBounds_toArray, List.set_cons_zero, List.set_cons_succ]
  refine stepL 4 (by kernel_rfl) rfl (fun K hK => ?_)
  go_simp
  refine (new_any (ks.take 40) _ V0 S1.out.key.1 (by rw [List.length_take]; omega)).mono ?_
  rintro e V1 ⟨v', rfl, hk', hb⟩
  show K _ _
  obtain ⟨pk, sk, hpk, -⟩ := id hk'
  subst hpk
  have S2 := Bx.mk (And.intro (S1.out.later hb) (And.intro hk' S1.out.st.low.2.2.2))
  clear hk' S1
  refine hK.out _ _ (cell_later hHeld hb) (fun hHeld => ?_)
  clear hK K hb
  try simp only [Act.put, List.setIfInBounds_toArray, List.set_cons_zero, List.set_cons_succ]
  refine stepL 5 (by kernel_rfl) rfl (fun K hK => ?_)
  go_simp
  refine (HLn.out _ _ S2.out.1.st.ring S2.out.2.1.key).mono ?_
  rintro e V2 ⟨rfl, hl⟩
  show K _ _
  have HT3 : Bx (Learnt R (.int .i64 i0 :: .int .i64 (xt : Int) :: .int .i64 ex0 :: .int .i64 s0 :: sec) mv lb r (ks.take 40) V1 V2 ∧ True ∧ KP R L B V1 V2) := ⟨⟨hl, trivial, by
    obtain ⟨p9, hr9, hko9, Wx, hx9, hg9⟩ := hl
    exact (KP.below hx9).trans (KP.by_ hg9 (.inl rfl))⟩⟩
  clear hl
  refine hK.out _ _ (HT3.out.2.2.cell hHeld HX.out.1 HX.out.2) (fun hHeld => ?_)
  clear hK K
  try simp only [Act.put, List.setIfInBounds_toArray, List.set_cons_zero, List.set_cons_succ]
  refine takeL 6 (v := ?_) rfl (by kernel_rfl) (by kernel_rfl) (by kernel_rfl) (fun _ _ _ h => h) (Or.inl ⟨by rfl, ?_⟩) hHeld ?_
  rotate_left 1
  · (intro w hSw; go_simp; try with_reducible rfl)
  try simp only [Act.put, List.setIfInBounds_toArray, List.set_cons_zero, List.set_cons_succ]
  refine wpAnyH_done (by kernel_rfl) ?_ _
  refine NoPanic.normal ?_
  have k1 := hHeld
  clear hHeld
  go_wp2_with fail
  refine (learn_nokey R r V2 hr8).mono ?_
  rintro e V3 ⟨rfl, hb⟩
  have HT4 := Bx.mk (And.intro HT3.out.1 (And.intro HT3.out.2.1 hb))
  have kp4 : KP R L B V1 V3 := HT3.out.2.2.trans (KP.below hb)
  have k1' := cell_later k1 hb
  have c1' := (S2.out.1.kp.trans kp4).cell HG0.out.1 HG0.out.2.1 HG0.out.2.2
  have HF4 := Bx.mk (S2.out.1.key.keep kp4)
  have HP4 := Bx.mk kp4
  clear hb HT3 HLn k1 kp4
  go_wp2_with fail
  refine (bit_any xt r V3 hx8 hr8).mono ?_
  rintro e V4 ⟨rfl, hw⟩
  rw [HBit.out, hw]
  clear hw
  clear c1'
  have HQ0 := Bx.mk k1'
  have hrowL : V3.heap[L]? = some (.cells ls.toArray 38 (0, 0)) := by
    obtain ⟨p9, hr9, hko9, Wx, hx9, hg9⟩ := HT4.out.1
    have h1 := S2.out.1.st.row.1
    have hlt := (Array.getElem?_eq_some_iff.1 h1).1
    have h2 : V2.heap[L]? = V1.heap[L]? := by
      rw [hg9.block L (Nat.lt_of_lt_of_le hlt hx9.size) (fun e => S2.out.1.st.low.2.2.1 (by injection e with e; exact e.symm)), hx9.block L hlt]
    rw [HT4.out.2.2.block L (by rw [← h2] at h1; exact (Array.getElem?_eq_some_iff.1 h1).1), h2]
    exact h1
  have hKey : Bx ((∀ W, Below V3.heap.size V3 W → W.heap[L]? = some (.cells ls.toArray 38 (0, 0)) ∧ ls.length = 8) ∧ (∀ W, Below V3.heap.size V3 W → W.cell? ⟨X, 1, none⟩ = some (.int .i64 (r : Int)))) := ⟨⟨fun W hb => ⟨by rw [hb.block L (Array.getElem?_eq_some_iff.1 hrowL).1]; exact hrowL, S2.out.1.st.row.2⟩, fun W hb => cell_later HQ0.out hb⟩⟩
  clear hrowL HQ0
  go_upto_region 58 with fail
  have HQ := Bx.mk (cell_later k1' (Below.refl _ _).drew)
  have BU : Bx (Below V3.heap.size V3 V3.drew) := ⟨(Below.refl _ _).drew⟩
  clear k1'
  refine wp_region_noPanic ?_
  refine wp_region_held_drew (S := fun W => W.cell? ⟨X, 1, none⟩ = some (.int .i64 (r : Int))) (by kernel_rfl) (HQ.out) (fun hHeld => ?_)
  generalize V3.drew = U0 at *
  refine takeL 0 (v := ?_) rfl (by kernel_rfl) (by kernel_rfl) (by kernel_rfl) (fun _ _ _ h => h) (Or.inl ⟨by rfl, ?_⟩) hHeld ?_
  rotate_left 1
  · (intro w hSw; go_simp; try with_reducible rfl)
  try simp only [Act.put, List.setIfInBounds_toArray, List.set_cons_zero, List.set_cons_succ]
  refine takeL 1 (v := ?_) rfl (by kernel_rfl) (by kernel_rfl) (by kernel_rfl) (fun _ _ _ h => h) (Or.inl ⟨by rfl, ?_⟩) hHeld ?_
  rotate_left 1
  · (intro w hSw; have q1 := hSw; go_simp; try with_reducible rfl)
  try simp only [Act.put, List.setIfInBounds_toArray, List.set_cons_zero, List.set_cons_succ]
  refine takeL 3 (v := ?_) rfl (by kernel_rfl) (by kernel_rfl) (by kernel_rfl) (fun _ _ _ h => h) (Or.inl ⟨by rfl, ?_⟩) hHeld ?_
  rotate_left 1
  · (intro w hSw; go_simp; try with_reducible rfl)
  try simp only [Act.put, List.setIfInBounds_toArray, List.set_cons_zero, List.set_cons_succ]
  refine stepL 2 (by kernel_rfl) rfl (fun K hK => ?_)
  go_simp
  have B1 : Bx (OwnB (U0.alloc (.cells #[.int .u8 1] 5)) V3.heap.size (.slice (some ⟨U0.heap.size, 0, none⟩) 1 1) [1] ∧ Below V3.heap.size V3 (U0.alloc (.cells #[.int .u8 1] 5))) := ⟨⟨ownB_one U0 V3.heap.size BU.out.size 1, BU.out.trans ((below_a _).mono BU.out.size)⟩⟩
  refine hK.out _ _ (cell_later hHeld (below_a _)) (fun hHeld => ?_)
  clear hK K
  try simp only [Act.put, List.setIfInBounds_toArray, List.set_cons_zero, List.set_cons_succ]
  generalize U0.alloc (.cells #[.int .u8 1] 5) = U1 at *
  obtain ⟨D0, hD0⟩ : ∃ d, d = U0.heap.size := ⟨_, rfl⟩
  have B1 : Bx (OwnB U1 V3.heap.size (.slice (some ⟨D0, 0, none⟩) 1 1) [1] ∧ Below V3.heap.size V3 U1) := Bx.mk (by rw [hD0]; exact B1.out)
  rw [← hD0]
  clear hD0
  refine stepL 4 (by kernel_rfl) rfl (fun K hK => ?_)
  refine step_ap rfl _ _ rfl V3.heap.size _ [1] (by rfl) B1.out.1 _ (ks.take 40) (by rfl) (HF4.out.1.later B1.out.2) (by rw [List.length_take]; simp only [List.length_cons, List.length_nil]; omega) B1.out.2.size ?_
  intro v2 U2 ho2 hg2 _
  have B2 : Bx (OwnB U2 V3.heap.size v2 (1 :: ks.take 40) ∧ Below V3.heap.size V3 U2) := ⟨⟨ho2, B1.out.2.trans (own_below B1.out.1 hg2 B1.out.2.size)⟩⟩
  have hx2 := cell_later (hKey.out.2 U2 B2.out.2) (Below.refl _ _)
  obtain ⟨a2, c2, hv2, -⟩ := ho2.bytes
  obtain ⟨n2, hn2⟩ : ∃ n2, ([1] ++ ks.take 40).length = n2 := ⟨_, rfl⟩
  rw [hn2] at hv2
  subst hv2
  clear hn2
  clear ho2 hg2 B1
  refine hK.out _ _ hx2 (fun hHeld => ?_)
  clear hK K hx2
  try simp only [Act.put, List.setIfInBounds_toArray, List.set_cons_zero, List.set_cons_succ]
  refine takeL 5 (v := ?_) rfl (by kernel_rfl) (by kernel_rfl) (by kernel_rfl) (fun _ _ _ h => h) (Or.inl ⟨by rfl, ?_⟩) hHeld ?_
  rotate_left 1
  · (intro w hSw; go_simp; try with_reducible rfl)
  try simp only [Act.put, List.setIfInBounds_toArray, List.set_cons_zero, List.set_cons_succ]
  refine stepL 6 (by kernel_rfl) rfl (fun K hK => ?_)
  have hLr := hKey.out.1 U2 B2.out.2
  obtain ⟨u0, hu0⟩ : ∃ u0, U2.cell? ⟨L, r, none⟩ = some u0 := ⟨_, by rw [cell_of_row _ _ _ _ _ _ hLr.1, List.getElem?_toArray, List.getElem?_eq_getElem (by rw [hLr.2]; exact hr8)]⟩
  refine step_st1 rfl 22 _ _ rfl (run_stB U2 L r u0 a2 _ c2 hu0 (frozen_no hLr.1)) ?_
  have B3 : Bx (U2.grownBy (U2.setCell ⟨L, r, none⟩ (.slice a2 n2 c2)) (some L) ∧ (U2.setCell ⟨L, r, none⟩ (.slice a2 n2 c2)).heap[L]? = some (.cells (ls.set r (.slice a2 n2 c2)).toArray 38 (0, 0))) := ⟨⟨set_grown _ _ _ _, by
    show (U2.heap.modify L _)[L]? = _
    rw [Array.getElem?_modify, if_pos rfl, hLr.1]
    simp [List.setIfInBounds_toArray]⟩⟩
  generalize U2.setCell ⟨L, r, none⟩ (.slice a2 n2 c2) = U3 at *
  have hx3 : U3.cell? ⟨X, 1, none⟩ = some (.int .i64 (r : Int)) := (KP.by_ (R := R) (L := L) (B := B) B3.out.1 (.inr (.inl rfl))).cell hHeld HX.out.1 HX.out.2
  clear hLr hu0
  refine hK.out _ _ hx3 (fun hHeld => ?_)
  clear hK K hx3
  try simp only [Act.put]
  refine wpAnyH_done (by kernel_rfl) ?_ _
  refine NoPanic.normal ?_
  clear hHeld
  have hfb := (FB.own (R := R) (L := L) B2.out.1 (by have := S2.out.1.st.low; have := HP4.out.size; have := S2.out.2.2; omega) (by have := S2.out.1.st.low; have := HP4.out.size; have := S2.out.2.2; omega)).keep (B := B) (KP.by_ (R := R) (L := L) B3.out.1 (.inr (.inl rfl)))
  obtain ⟨lb9, hst9⟩ := S2.out.1.st.learn hr8 HT4.out.1 (HT4.out.2.2.trans (B2.out.2.mono HT4.out.2.2.size)) B3.out.1 B3.out.2 hfb (by rw [List.length_take]; omega)
  have Z1 := Bx.mk hst9
  have Z2 := Bx.mk (((S2.out.1.kp.trans HP4.out).trans (KP.below B2.out.2)).trans (KP.by_ (R := R) (L := L) (B := B) B3.out.1 (.inr (.inl rfl))))
  clear S2 HP4 HT4 B2 B3 hKey HF4 BU hfb hst9
  go_wp2
  refine ⟨_, _, _, mv, lb9, l, m, _, ?_, Z1.out, Z2.out⟩
  exact ⟨⟨rfl, rfl⟩, rfl, rfl, rfl, rfl, rfl, rfl, rfl, rfl⟩
end Go.Proofs.YtnefpjdjnjcmbaaGreatDoor
namespace Go.Proofs.YtnefpjdjnjcmbaaGreatDoor
open Go Go.RowKit
theorem map_len {l : List (Cl × Nat)} {m : List (Cl × Value)} (h : m.map (·.1) = sortC (l.map (·.1))) : l.length = m.length := by
  have h1 := congrArg List.length h
  rw [List.length_map, sortC_length, List.length_map] at h1
  exact h1.symm
set_option maxRecDepth 100000 in
set_option maxHeartbeats 4000000 in
/-- Add of claims that are not right. -/
theorem mid_add_bad (R L B : Nat) (tk : List Value) (ws : World) (v2 v3 v4 v11 : Value) (i : Nat) (va : Option Addr) (n c : Nat) (mv : Value) (lb : List Value) (l : List (Cl × Nat)) (m : List (Cl × Value)) (ls : List Value) (X : Nat) (at' : Int) (ab a1 : Option Addr) (nb cb c1 kn : Nat) (kd ro ci cr cx cq : Int) (ks : List UInt8) (a : Act) (w : World)
    (hG : RG v2 v3 v4 v11 (.pointer (some ⟨R, 0, none⟩)) (.slice va n c) (.pointer (some ⟨L, 0, none⟩)) (.int .i64 (i : Int)) (.pointer (some ⟨X, 0, none⟩)) (.slice a1 kn c1) (.int .i64 at') (.bool (decide (0 ≤ ro ∧ ro < 8))) a) (hf : FindQ m ⟨ci, cr, cx, cq⟩ (.returned (.int .i64 at'))) (hrow : w.heap[X]? = some (.cells #[.int .i64 kd, .int .i64 ro, .int .i64 ci, .int .i64 cr, .int .i64 cx, .int .i64 cq, .slice ab nb cb] 40 (0, 0))) (hXR : X ≠ R) (hXL : X ≠ L) (hfit : (⟨kd, ro, ⟨ci, cr, cx, cq⟩, ks⟩ : Ac).fit) (hfb : FB R L w (.slice a1 kn c1) (ks.take 40)) (hS : RSt R L B tk mv lb l (.slice va n c) m ls w) (hkp : KP R L B ws w)
    (hkd : (IntKind.u64.wrap kd).tmod 5 = 0) (hok : okC ⟨ci, cr, cx, cq⟩ = false) :
    Code.wp Tryz.prog (partIn Tryz.f3.body 1 14) (fun x a w => x = .normal ∧ MO R L B tk ws v2 v3 v4 v11 i a w) a w := by
  have S0 := Bx.mk (MS.mk (ab := ab) (nb := nb) (cb := cb) hS hkp hrow hfb)
  have HX := Bx.mk (And.intro hXR hXL)
  have HFt := Bx.mk hfit
  have hn : n = m.length := by
    obtain ⟨a, c2, h⟩ := hS.own.form
    injection h
  subst hn
  have hat : at' = -1 ∨ ∃ k : Nat, at' = (k : Int) := by
    rcases hf with ⟨k, -, h, -⟩ | ⟨h, -⟩
    · injection h with h
      injection h with h h'
      exact .inr ⟨k, by assumption⟩
    · injection h with h
      injection h with h h'
      exact .inl (by assumption)
  clear hf
  have HTo := Bx.mk fun (W : World) => cto_any ⟨ci, cr, cx, cq⟩ W
  have HRi := Bx.mk fun (W : World) => cright_any ⟨ci, cr, cx, cq⟩ W
  have HAd := Bx.mk fun (v : Value) (W : World) => ring_add_bad R ⟨ci, cr, cx, cq⟩ v W hok
  clear hS hkp hrow hfb hXR hXL hfit
  obtain ⟨x, rfl, hx⟩ := open351 hG.fr
  have e2 := (hx 2).symm.trans hG.s2
  have e3 := (hx 3).symm.trans hG.s3
  have e4 := (hx 4).symm.trans hG.s4
  have e11 := (hx 11).symm.trans hG.s11
  have e12 := (hx 12).symm.trans hG.s12
  have e14 := (hx 14).symm.trans hG.s14
  have e15 := (hx 15).symm.trans hG.s15
  have e16 := (hx 16).symm.trans hG.s16
  have e17 := (hx 17).symm.trans hG.s17
  have e18 := (hx 18).symm.trans hG.s18
  have e19 := (hx 19).symm.trans hG.s19
  have e20 := (hx 20).symm.trans hG.s20
  clear hG hx
  rw [e2, e3, e4, e11, e12, e14, e15, e16, e17, e18, e19, e20]
  clear e2 e3 e4 e11 e12 e14 e15 e16 e17 e18 e19 e20
  have k0 : w.cell? ⟨X, 0, none⟩ = some (.int .i64 kd) := by rw [cell_of_row _ _ _ _ _ _ (S0.out.row)]; rfl
  have k1 : w.cell? ⟨X, 1, none⟩ = some (.int .i64 ro) := by rw [cell_of_row _ _ _ _ _ _ (S0.out.row)]; rfl
  have k2 : w.cell? ⟨X, 2, none⟩ = some (.int .i64 ci) := by rw [cell_of_row _ _ _ _ _ _ (S0.out.row)]; rfl
  have k3 : w.cell? ⟨X, 3, none⟩ = some (.int .i64 cr) := by rw [cell_of_row _ _ _ _ _ _ (S0.out.row)]; rfl
  have k4 : w.cell? ⟨X, 4, none⟩ = some (.int .i64 cx) := by rw [cell_of_row _ _ _ _ _ _ (S0.out.row)]; rfl
  have k5 : w.cell? ⟨X, 5, none⟩ = some (.int .i64 cq) := by rw [cell_of_row _ _ _ _ _ _ (S0.out.row)]; rfl
  have k6 : w.cell? ⟨X, 6, none⟩ = some (.slice ab nb cb) := by rw [cell_of_row _ _ _ _ _ _ (S0.out.row)]; rfl
  conv => arg 2; whnf
  rcases hat with rfl | ⟨k, rfl⟩
  · have hk0 : True := trivial
    by_cases h16 : m.length = 16
    · have h17 : (m.length : Int) = 16 := by omega
      clear h16
      go_wp2_with fail
      refine (HTo.out w).mono ?_
      rintro e w1 ⟨rfl, hb⟩
      have S1 := Bx.mk (S0.out.later hb)
      clear hb S0 k0 k1 k2 k3 k4 k5 k6
      go_wp2_with fail
      refine (new_any (ks.take 40) _ w1 S1.out.key.1 (by rw [List.length_take]; omega)).mono ?_
      rintro e w2 ⟨v', rfl, hk', hb⟩
      obtain ⟨pk, sk, hpk, -⟩ := id hk'
      subst hpk
      have S2 := Bx.mk (And.intro (S1.out.later hb) (And.intro hk' S1.out.st.low.2.2.2))
      clear hk' hb S1
      go_wp2_with fail
      refine (HAd.out _ w2).mono ?_
      rintro e w3 ⟨rfl, hb⟩
      have S3 := Bx.mk (S2.out.1.later hb)
      clear hb S2 HAd
      have k0 : w3.cell? ⟨X, 0, none⟩ = some (.int .i64 kd) := by rw [cell_of_row _ _ _ _ _ _ (S3.out.row)]; rfl
      have k1 : w3.cell? ⟨X, 1, none⟩ = some (.int .i64 ro) := by rw [cell_of_row _ _ _ _ _ _ (S3.out.row)]; rfl
      have k2 : w3.cell? ⟨X, 2, none⟩ = some (.int .i64 ci) := by rw [cell_of_row _ _ _ _ _ _ (S3.out.row)]; rfl
      have k3 : w3.cell? ⟨X, 3, none⟩ = some (.int .i64 cr) := by rw [cell_of_row _ _ _ _ _ _ (S3.out.row)]; rfl
      have k4 : w3.cell? ⟨X, 4, none⟩ = some (.int .i64 cx) := by rw [cell_of_row _ _ _ _ _ _ (S3.out.row)]; rfl
      have k5 : w3.cell? ⟨X, 5, none⟩ = some (.int .i64 cq) := by rw [cell_of_row _ _ _ _ _ _ (S3.out.row)]; rfl
      have k6 : w3.cell? ⟨X, 6, none⟩ = some (.slice ab nb cb) := by rw [cell_of_row _ _ _ _ _ _ (S3.out.row)]; rfl
      go_wp2_with fail
      refine (HRi.out w3).mono ?_
      rintro e w4 ⟨rfl, hb⟩
      rw [hok]
      have S4 := Bx.mk (S3.out.later hb)
      clear hb S3 k0 k1 k2 k3 k4 k5 k6
      go_wp2
      have h1 := S4.out.st
      have h2 := S4.out.kp
      clear S4
      refine ⟨va, m.length, c, mv, lb, l, m, ls, ?_, h1, h2⟩
      exact ⟨⟨rfl, rfl⟩, rfl, rfl, rfl, rfl, rfl, rfl, rfl, rfl⟩
    · have h17 : ¬ (m.length : Int) = 16 := by omega
      clear h16
      go_wp2_with fail
      refine (HTo.out w).mono ?_
      rintro e w1 ⟨rfl, hb⟩
      have S1 := Bx.mk (S0.out.later hb)
      clear hb S0 k0 k1 k2 k3 k4 k5 k6
      go_wp2_with fail
      refine (new_any (ks.take 40) _ w1 S1.out.key.1 (by rw [List.length_take]; omega)).mono ?_
      rintro e w2 ⟨v', rfl, hk', hb⟩
      obtain ⟨pk, sk, hpk, -⟩ := id hk'
      subst hpk
      have S2 := Bx.mk (And.intro (S1.out.later hb) (And.intro hk' S1.out.st.low.2.2.2))
      clear hk' hb S1
      go_wp2_with fail
      refine (HAd.out _ w2).mono ?_
      rintro e w3 ⟨rfl, hb⟩
      have S3 := Bx.mk (S2.out.1.later hb)
      clear hb S2 HAd
      have k0 : w3.cell? ⟨X, 0, none⟩ = some (.int .i64 kd) := by rw [cell_of_row _ _ _ _ _ _ (S3.out.row)]; rfl
      have k1 : w3.cell? ⟨X, 1, none⟩ = some (.int .i64 ro) := by rw [cell_of_row _ _ _ _ _ _ (S3.out.row)]; rfl
      have k2 : w3.cell? ⟨X, 2, none⟩ = some (.int .i64 ci) := by rw [cell_of_row _ _ _ _ _ _ (S3.out.row)]; rfl
      have k3 : w3.cell? ⟨X, 3, none⟩ = some (.int .i64 cr) := by rw [cell_of_row _ _ _ _ _ _ (S3.out.row)]; rfl
      have k4 : w3.cell? ⟨X, 4, none⟩ = some (.int .i64 cx) := by rw [cell_of_row _ _ _ _ _ _ (S3.out.row)]; rfl
      have k5 : w3.cell? ⟨X, 5, none⟩ = some (.int .i64 cq) := by rw [cell_of_row _ _ _ _ _ _ (S3.out.row)]; rfl
      have k6 : w3.cell? ⟨X, 6, none⟩ = some (.slice ab nb cb) := by rw [cell_of_row _ _ _ _ _ _ (S3.out.row)]; rfl
      go_wp2_with fail
      refine (HRi.out w3).mono ?_
      rintro e w4 ⟨rfl, hb⟩
      rw [hok]
      have S4 := Bx.mk (S3.out.later hb)
      clear hb S3 k0 k1 k2 k3 k4 k5 k6
      go_wp2
      have h1 := S4.out.st
      have h2 := S4.out.kp
      clear S4
      refine ⟨va, m.length, c, mv, lb, l, m, ls, ?_, h1, h2⟩
      exact ⟨⟨rfl, rfl⟩, rfl, rfl, rfl, rfl, rfl, rfl, rfl, rfl⟩
  · have hk0 : (0 : Int) ≤ (k : Int) := by omega
    by_cases h16 : m.length = 16
    · have h17 : (m.length : Int) = 16 := by omega
      clear h16
      go_wp2_with fail
      refine (HTo.out w).mono ?_
      rintro e w1 ⟨rfl, hb⟩
      have S1 := Bx.mk (S0.out.later hb)
      clear hb S0 k0 k1 k2 k3 k4 k5 k6
      go_wp2_with fail
      refine (new_any (ks.take 40) _ w1 S1.out.key.1 (by rw [List.length_take]; omega)).mono ?_
      rintro e w2 ⟨v', rfl, hk', hb⟩
      obtain ⟨pk, sk, hpk, -⟩ := id hk'
      subst hpk
      have S2 := Bx.mk (And.intro (S1.out.later hb) (And.intro hk' S1.out.st.low.2.2.2))
      clear hk' hb S1
      go_wp2_with fail
      refine (HAd.out _ w2).mono ?_
      rintro e w3 ⟨rfl, hb⟩
      have S3 := Bx.mk (S2.out.1.later hb)
      clear hb S2 HAd
      have k0 : w3.cell? ⟨X, 0, none⟩ = some (.int .i64 kd) := by rw [cell_of_row _ _ _ _ _ _ (S3.out.row)]; rfl
      have k1 : w3.cell? ⟨X, 1, none⟩ = some (.int .i64 ro) := by rw [cell_of_row _ _ _ _ _ _ (S3.out.row)]; rfl
      have k2 : w3.cell? ⟨X, 2, none⟩ = some (.int .i64 ci) := by rw [cell_of_row _ _ _ _ _ _ (S3.out.row)]; rfl
      have k3 : w3.cell? ⟨X, 3, none⟩ = some (.int .i64 cr) := by rw [cell_of_row _ _ _ _ _ _ (S3.out.row)]; rfl
      have k4 : w3.cell? ⟨X, 4, none⟩ = some (.int .i64 cx) := by rw [cell_of_row _ _ _ _ _ _ (S3.out.row)]; rfl
      have k5 : w3.cell? ⟨X, 5, none⟩ = some (.int .i64 cq) := by rw [cell_of_row _ _ _ _ _ _ (S3.out.row)]; rfl
      have k6 : w3.cell? ⟨X, 6, none⟩ = some (.slice ab nb cb) := by rw [cell_of_row _ _ _ _ _ _ (S3.out.row)]; rfl
      go_wp2_with fail
      refine (HRi.out w3).mono ?_
      rintro e w4 ⟨rfl, hb⟩
      rw [hok]
      have S4 := Bx.mk (S3.out.later hb)
      clear hb S3 k0 k1 k2 k3 k4 k5 k6
      go_wp2
      have h1 := S4.out.st
      have h2 := S4.out.kp
      clear S4
      refine ⟨va, m.length, c, mv, lb, l, m, ls, ?_, h1, h2⟩
      exact ⟨⟨rfl, rfl⟩, rfl, rfl, rfl, rfl, rfl, rfl, rfl, rfl⟩
    · have h17 : ¬ (m.length : Int) = 16 := by omega
      clear h16
      go_wp2_with fail
      refine (HTo.out w).mono ?_
      rintro e w1 ⟨rfl, hb⟩
      have S1 := Bx.mk (S0.out.later hb)
      clear hb S0 k0 k1 k2 k3 k4 k5 k6
      go_wp2_with fail
      refine (new_any (ks.take 40) _ w1 S1.out.key.1 (by rw [List.length_take]; omega)).mono ?_
      rintro e w2 ⟨v', rfl, hk', hb⟩
      obtain ⟨pk, sk, hpk, -⟩ := id hk'
      subst hpk
      have S2 := Bx.mk (And.intro (S1.out.later hb) (And.intro hk' S1.out.st.low.2.2.2))
      clear hk' hb S1
      go_wp2_with fail
      refine (HAd.out _ w2).mono ?_
      rintro e w3 ⟨rfl, hb⟩
      have S3 := Bx.mk (S2.out.1.later hb)
      clear hb S2 HAd
      have k0 : w3.cell? ⟨X, 0, none⟩ = some (.int .i64 kd) := by rw [cell_of_row _ _ _ _ _ _ (S3.out.row)]; rfl
      have k1 : w3.cell? ⟨X, 1, none⟩ = some (.int .i64 ro) := by rw [cell_of_row _ _ _ _ _ _ (S3.out.row)]; rfl
      have k2 : w3.cell? ⟨X, 2, none⟩ = some (.int .i64 ci) := by rw [cell_of_row _ _ _ _ _ _ (S3.out.row)]; rfl
      have k3 : w3.cell? ⟨X, 3, none⟩ = some (.int .i64 cr) := by rw [cell_of_row _ _ _ _ _ _ (S3.out.row)]; rfl
      have k4 : w3.cell? ⟨X, 4, none⟩ = some (.int .i64 cx) := by rw [cell_of_row _ _ _ _ _ _ (S3.out.row)]; rfl
      have k5 : w3.cell? ⟨X, 5, none⟩ = some (.int .i64 cq) := by rw [cell_of_row _ _ _ _ _ _ (S3.out.row)]; rfl
      have k6 : w3.cell? ⟨X, 6, none⟩ = some (.slice ab nb cb) := by rw [cell_of_row _ _ _ _ _ _ (S3.out.row)]; rfl
      go_wp2_with fail
      refine (HRi.out w3).mono ?_
      rintro e w4 ⟨rfl, hb⟩
      rw [hok]
      have S4 := Bx.mk (S3.out.later hb)
      clear hb S3 k0 k1 k2 k3 k4 k5 k6
      go_wp2
      have h1 := S4.out.st
      have h2 := S4.out.kp
      clear S4
      refine ⟨va, m.length, c, mv, lb, l, m, ls, ?_, h1, h2⟩
      exact ⟨⟨rfl, rfl⟩, rfl, rfl, rfl, rfl, rfl, rfl, rfl, rfl⟩
set_option maxRecDepth 100000 in
set_option maxHeartbeats 4000000 in
/-- Add of claims that have a key. -/
theorem mid_add_twice (R L B : Nat) (tk : List Value) (ws : World) (v2 v3 v4 v11 : Value) (i : Nat) (va : Option Addr) (n c : Nat) (mv : Value) (lb : List Value) (l : List (Cl × Nat)) (m : List (Cl × Value)) (ls : List Value) (X : Nat) (at' : Int) (ab a1 : Option Addr) (nb cb c1 kn : Nat) (kd ro ci cr cx cq : Int) (ks : List UInt8) (a : Act) (w : World)
    (hG : RG v2 v3 v4 v11 (.pointer (some ⟨R, 0, none⟩)) (.slice va n c) (.pointer (some ⟨L, 0, none⟩)) (.int .i64 (i : Int)) (.pointer (some ⟨X, 0, none⟩)) (.slice a1 kn c1) (.int .i64 at') (.bool (decide (0 ≤ ro ∧ ro < 8))) a) (hf : FindQ m ⟨ci, cr, cx, cq⟩ (.returned (.int .i64 at'))) (hrow : w.heap[X]? = some (.cells #[.int .i64 kd, .int .i64 ro, .int .i64 ci, .int .i64 cr, .int .i64 cx, .int .i64 cq, .slice ab nb cb] 40 (0, 0))) (hXR : X ≠ R) (hXL : X ≠ L) (hfit : (⟨kd, ro, ⟨ci, cr, cx, cq⟩, ks⟩ : Ac).fit) (hfb : FB R L w (.slice a1 kn c1) (ks.take 40)) (hS : RSt R L B tk mv lb l (.slice va n c) m ls w) (hkp : KP R L B ws w)
    (hkd : (IntKind.u64.wrap kd).tmod 5 = 0) (hok : okC ⟨ci, cr, cx, cq⟩ = true) (p : Nat) (ha : atC l ⟨ci, cr, cx, cq⟩ = some p) :
    Code.wp Tryz.prog (partIn Tryz.f3.body 1 14) (fun x a w => x = .normal ∧ MO R L B tk ws v2 v3 v4 v11 i a w) a w := by
  have S0 := Bx.mk (MS.mk (ab := ab) (nb := nb) (cb := cb) hS hkp hrow hfb)
  have HX := Bx.mk (And.intro hXR hXL)
  have HFt := Bx.mk hfit
  obtain ⟨k, hk, rfl, hkc⟩ := find_yes hS.srt hf ha
  have hn : n = m.length := by
    obtain ⟨a, c2, h⟩ := hS.own.form
    injection h
  subst hn
  have HTo := Bx.mk fun (W : World) => cto_any ⟨ci, cr, cx, cq⟩ W
  have HRi := Bx.mk fun (W : World) => cright_any ⟨ci, cr, cx, cq⟩ W
  have HAd := Bx.mk fun (pk : Nat) (W : World) (h : MS R L B X tk ws mv lb l (.slice va m.length c) m ls kd ro ci cr cx cq ab nb cb (.slice a1 kn c1) (ks.take 40) W) => ring_add_twice R B tk mv lb l ⟨ci, cr, cx, cq⟩ pk W h.st.ring h.st.map hfit.2.2.1 hok p ha
  have hk0 : (0 : Int) ≤ (k : Int) := by omega
  clear hf ha hkc hk
  clear hS hkp hrow hfb hXR hXL hfit
  obtain ⟨x, rfl, hx⟩ := open351 hG.fr
  have e2 := (hx 2).symm.trans hG.s2
  have e3 := (hx 3).symm.trans hG.s3
  have e4 := (hx 4).symm.trans hG.s4
  have e11 := (hx 11).symm.trans hG.s11
  have e12 := (hx 12).symm.trans hG.s12
  have e14 := (hx 14).symm.trans hG.s14
  have e15 := (hx 15).symm.trans hG.s15
  have e16 := (hx 16).symm.trans hG.s16
  have e17 := (hx 17).symm.trans hG.s17
  have e18 := (hx 18).symm.trans hG.s18
  have e19 := (hx 19).symm.trans hG.s19
  have e20 := (hx 20).symm.trans hG.s20
  clear hG hx
  rw [e2, e3, e4, e11, e12, e14, e15, e16, e17, e18, e19, e20]
  clear e2 e3 e4 e11 e12 e14 e15 e16 e17 e18 e19 e20
  have k0 : w.cell? ⟨X, 0, none⟩ = some (.int .i64 kd) := by rw [cell_of_row _ _ _ _ _ _ (S0.out.row)]; rfl
  have k1 : w.cell? ⟨X, 1, none⟩ = some (.int .i64 ro) := by rw [cell_of_row _ _ _ _ _ _ (S0.out.row)]; rfl
  have k2 : w.cell? ⟨X, 2, none⟩ = some (.int .i64 ci) := by rw [cell_of_row _ _ _ _ _ _ (S0.out.row)]; rfl
  have k3 : w.cell? ⟨X, 3, none⟩ = some (.int .i64 cr) := by rw [cell_of_row _ _ _ _ _ _ (S0.out.row)]; rfl
  have k4 : w.cell? ⟨X, 4, none⟩ = some (.int .i64 cx) := by rw [cell_of_row _ _ _ _ _ _ (S0.out.row)]; rfl
  have k5 : w.cell? ⟨X, 5, none⟩ = some (.int .i64 cq) := by rw [cell_of_row _ _ _ _ _ _ (S0.out.row)]; rfl
  have k6 : w.cell? ⟨X, 6, none⟩ = some (.slice ab nb cb) := by rw [cell_of_row _ _ _ _ _ _ (S0.out.row)]; rfl
  conv => arg 2; whnf
  by_cases h16 : m.length = 16
  · have h17 : (m.length : Int) = 16 := by omega
    clear h16
    go_wp2_with fail
    refine (HTo.out w).mono ?_
    rintro e w1 ⟨rfl, hb⟩
    have S1 := Bx.mk (S0.out.later hb)
    clear hb S0 k0 k1 k2 k3 k4 k5 k6
    go_wp2_with fail
    refine (new_any (ks.take 40) _ w1 S1.out.key.1 (by rw [List.length_take]; omega)).mono ?_
    rintro e w2 ⟨v', rfl, hk', hb⟩
    obtain ⟨pk, sk, hpk, -⟩ := id hk'
    subst hpk
    have S2 := Bx.mk (And.intro (S1.out.later hb) (And.intro hk' S1.out.st.low.2.2.2))
    clear hk' hb S1
    go_wp2_with fail
    refine (HAd.out pk w2 S2.out.1).mono ?_
    rintro e w3 ⟨rfl, hb⟩
    have S3 := Bx.mk (S2.out.1.later hb)
    clear hb S2 HAd
    have k0 : w3.cell? ⟨X, 0, none⟩ = some (.int .i64 kd) := by rw [cell_of_row _ _ _ _ _ _ (S3.out.row)]; rfl
    have k1 : w3.cell? ⟨X, 1, none⟩ = some (.int .i64 ro) := by rw [cell_of_row _ _ _ _ _ _ (S3.out.row)]; rfl
    have k2 : w3.cell? ⟨X, 2, none⟩ = some (.int .i64 ci) := by rw [cell_of_row _ _ _ _ _ _ (S3.out.row)]; rfl
    have k3 : w3.cell? ⟨X, 3, none⟩ = some (.int .i64 cr) := by rw [cell_of_row _ _ _ _ _ _ (S3.out.row)]; rfl
    have k4 : w3.cell? ⟨X, 4, none⟩ = some (.int .i64 cx) := by rw [cell_of_row _ _ _ _ _ _ (S3.out.row)]; rfl
    have k5 : w3.cell? ⟨X, 5, none⟩ = some (.int .i64 cq) := by rw [cell_of_row _ _ _ _ _ _ (S3.out.row)]; rfl
    have k6 : w3.cell? ⟨X, 6, none⟩ = some (.slice ab nb cb) := by rw [cell_of_row _ _ _ _ _ _ (S3.out.row)]; rfl
    go_wp2_with fail
    refine (HRi.out w3).mono ?_
    rintro e w4 ⟨rfl, hb⟩
    rw [hok]
    have S4 := Bx.mk (S3.out.later hb)
    clear hb S3 k0 k1 k2 k3 k4 k5 k6
    go_wp2
    have h1 := S4.out.st
    have h2 := S4.out.kp
    clear S4
    refine ⟨va, m.length, c, mv, lb, l, m, ls, ?_, h1, h2⟩
    exact ⟨⟨rfl, rfl⟩, rfl, rfl, rfl, rfl, rfl, rfl, rfl, rfl⟩
  · have h17 : ¬ (m.length : Int) = 16 := by omega
    clear h16
    go_wp2_with fail
    refine (HTo.out w).mono ?_
    rintro e w1 ⟨rfl, hb⟩
    have S1 := Bx.mk (S0.out.later hb)
    clear hb S0 k0 k1 k2 k3 k4 k5 k6
    go_wp2_with fail
    refine (new_any (ks.take 40) _ w1 S1.out.key.1 (by rw [List.length_take]; omega)).mono ?_
    rintro e w2 ⟨v', rfl, hk', hb⟩
    obtain ⟨pk, sk, hpk, -⟩ := id hk'
    subst hpk
    have S2 := Bx.mk (And.intro (S1.out.later hb) (And.intro hk' S1.out.st.low.2.2.2))
    clear hk' hb S1
    go_wp2_with fail
    refine (HAd.out pk w2 S2.out.1).mono ?_
    rintro e w3 ⟨rfl, hb⟩
    have S3 := Bx.mk (S2.out.1.later hb)
    clear hb S2 HAd
    have k0 : w3.cell? ⟨X, 0, none⟩ = some (.int .i64 kd) := by rw [cell_of_row _ _ _ _ _ _ (S3.out.row)]; rfl
    have k1 : w3.cell? ⟨X, 1, none⟩ = some (.int .i64 ro) := by rw [cell_of_row _ _ _ _ _ _ (S3.out.row)]; rfl
    have k2 : w3.cell? ⟨X, 2, none⟩ = some (.int .i64 ci) := by rw [cell_of_row _ _ _ _ _ _ (S3.out.row)]; rfl
    have k3 : w3.cell? ⟨X, 3, none⟩ = some (.int .i64 cr) := by rw [cell_of_row _ _ _ _ _ _ (S3.out.row)]; rfl
    have k4 : w3.cell? ⟨X, 4, none⟩ = some (.int .i64 cx) := by rw [cell_of_row _ _ _ _ _ _ (S3.out.row)]; rfl
    have k5 : w3.cell? ⟨X, 5, none⟩ = some (.int .i64 cq) := by rw [cell_of_row _ _ _ _ _ _ (S3.out.row)]; rfl
    have k6 : w3.cell? ⟨X, 6, none⟩ = some (.slice ab nb cb) := by rw [cell_of_row _ _ _ _ _ _ (S3.out.row)]; rfl
    go_wp2_with fail
    refine (HRi.out w3).mono ?_
    rintro e w4 ⟨rfl, hb⟩
    rw [hok]
    have S4 := Bx.mk (S3.out.later hb)
    clear hb S3 k0 k1 k2 k3 k4 k5 k6
    go_wp2
    have h1 := S4.out.st
    have h2 := S4.out.kp
    clear S4
    refine ⟨va, m.length, c, mv, lb, l, m, ls, ?_, h1, h2⟩
    exact ⟨⟨rfl, rfl⟩, rfl, rfl, rfl, rfl, rfl, rfl, rfl, rfl⟩
set_option maxRecDepth 100000 in
set_option maxHeartbeats 4000000 in
/-- Add to a ring that is full. -/
theorem mid_add_full (R L B : Nat) (tk : List Value) (ws : World) (v2 v3 v4 v11 : Value) (i : Nat) (va : Option Addr) (n c : Nat) (mv : Value) (lb : List Value) (l : List (Cl × Nat)) (m : List (Cl × Value)) (ls : List Value) (X : Nat) (at' : Int) (ab a1 : Option Addr) (nb cb c1 kn : Nat) (kd ro ci cr cx cq : Int) (ks : List UInt8) (a : Act) (w : World)
    (hG : RG v2 v3 v4 v11 (.pointer (some ⟨R, 0, none⟩)) (.slice va n c) (.pointer (some ⟨L, 0, none⟩)) (.int .i64 (i : Int)) (.pointer (some ⟨X, 0, none⟩)) (.slice a1 kn c1) (.int .i64 at') (.bool (decide (0 ≤ ro ∧ ro < 8))) a) (hf : FindQ m ⟨ci, cr, cx, cq⟩ (.returned (.int .i64 at'))) (hrow : w.heap[X]? = some (.cells #[.int .i64 kd, .int .i64 ro, .int .i64 ci, .int .i64 cr, .int .i64 cx, .int .i64 cq, .slice ab nb cb] 40 (0, 0))) (hXR : X ≠ R) (hXL : X ≠ L) (hfit : (⟨kd, ro, ⟨ci, cr, cx, cq⟩, ks⟩ : Ac).fit) (hfb : FB R L w (.slice a1 kn c1) (ks.take 40)) (hS : RSt R L B tk mv lb l (.slice va n c) m ls w) (hkp : KP R L B ws w)
    (hkd : (IntKind.u64.wrap kd).tmod 5 = 0) (hok : okC ⟨ci, cr, cx, cq⟩ = true) (ha : atC l ⟨ci, cr, cx, cq⟩ = none) (h16 : m.length = 16) :
    Code.wp Tryz.prog (partIn Tryz.f3.body 1 14) (fun x a w => x = .normal ∧ MO R L B tk ws v2 v3 v4 v11 i a w) a w := by
  have S0 := Bx.mk (MS.mk (ab := ab) (nb := nb) (cb := cb) hS hkp hrow hfb)
  have HX := Bx.mk (And.intro hXR hXL)
  have HFt := Bx.mk hfit
  obtain rfl : at' = -1 := find_no hS.map.nd hS.srt hf ha
  have hn : n = m.length := by
    obtain ⟨a, c2, h⟩ := hS.own.form
    injection h
  subst hn
  have HTo := Bx.mk fun (W : World) => cto_any ⟨ci, cr, cx, cq⟩ W
  have HRi := Bx.mk fun (W : World) => cright_any ⟨ci, cr, cx, cq⟩ W
  have HAd := Bx.mk fun (pk : Nat) (W : World) (h : MS R L B X tk ws mv lb l (.slice va m.length c) m ls kd ro ci cr cx cq ab nb cb (.slice a1 kn c1) (ks.take 40) W) => ring_add_full R B tk mv lb l ⟨ci, cr, cx, cq⟩ pk W h.st.ring h.st.map hfit.2.2.1 hok ha (by rw [map_len h.st.srt, h16]; exact Nat.le_refl _)
  have h17 : (m.length : Int) = 16 := by omega
  clear hf ha h16
  clear hS hkp hrow hfb hXR hXL hfit
  obtain ⟨x, rfl, hx⟩ := open351 hG.fr
  have e2 := (hx 2).symm.trans hG.s2
  have e3 := (hx 3).symm.trans hG.s3
  have e4 := (hx 4).symm.trans hG.s4
  have e11 := (hx 11).symm.trans hG.s11
  have e12 := (hx 12).symm.trans hG.s12
  have e14 := (hx 14).symm.trans hG.s14
  have e15 := (hx 15).symm.trans hG.s15
  have e16 := (hx 16).symm.trans hG.s16
  have e17 := (hx 17).symm.trans hG.s17
  have e18 := (hx 18).symm.trans hG.s18
  have e19 := (hx 19).symm.trans hG.s19
  have e20 := (hx 20).symm.trans hG.s20
  clear hG hx
  rw [e2, e3, e4, e11, e12, e14, e15, e16, e17, e18, e19, e20]
  clear e2 e3 e4 e11 e12 e14 e15 e16 e17 e18 e19 e20
  have k0 : w.cell? ⟨X, 0, none⟩ = some (.int .i64 kd) := by rw [cell_of_row _ _ _ _ _ _ (S0.out.row)]; rfl
  have k1 : w.cell? ⟨X, 1, none⟩ = some (.int .i64 ro) := by rw [cell_of_row _ _ _ _ _ _ (S0.out.row)]; rfl
  have k2 : w.cell? ⟨X, 2, none⟩ = some (.int .i64 ci) := by rw [cell_of_row _ _ _ _ _ _ (S0.out.row)]; rfl
  have k3 : w.cell? ⟨X, 3, none⟩ = some (.int .i64 cr) := by rw [cell_of_row _ _ _ _ _ _ (S0.out.row)]; rfl
  have k4 : w.cell? ⟨X, 4, none⟩ = some (.int .i64 cx) := by rw [cell_of_row _ _ _ _ _ _ (S0.out.row)]; rfl
  have k5 : w.cell? ⟨X, 5, none⟩ = some (.int .i64 cq) := by rw [cell_of_row _ _ _ _ _ _ (S0.out.row)]; rfl
  have k6 : w.cell? ⟨X, 6, none⟩ = some (.slice ab nb cb) := by rw [cell_of_row _ _ _ _ _ _ (S0.out.row)]; rfl
  conv => arg 2; whnf
  go_wp2_with fail
  refine (HTo.out w).mono ?_
  rintro e w1 ⟨rfl, hb⟩
  have S1 := Bx.mk (S0.out.later hb)
  clear hb S0 k0 k1 k2 k3 k4 k5 k6
  go_wp2_with fail
  refine (new_any (ks.take 40) _ w1 S1.out.key.1 (by rw [List.length_take]; omega)).mono ?_
  rintro e w2 ⟨v', rfl, hk', hb⟩
  obtain ⟨pk, sk, hpk, -⟩ := id hk'
  subst hpk
  have S2 := Bx.mk (And.intro (S1.out.later hb) (And.intro hk' S1.out.st.low.2.2.2))
  clear hk' hb S1
  go_wp2_with fail
  refine (HAd.out pk w2 S2.out.1).mono ?_
  rintro e w3 ⟨rfl, hb⟩
  have S3 := Bx.mk (S2.out.1.later hb)
  clear hb S2 HAd
  have k0 : w3.cell? ⟨X, 0, none⟩ = some (.int .i64 kd) := by rw [cell_of_row _ _ _ _ _ _ (S3.out.row)]; rfl
  have k1 : w3.cell? ⟨X, 1, none⟩ = some (.int .i64 ro) := by rw [cell_of_row _ _ _ _ _ _ (S3.out.row)]; rfl
  have k2 : w3.cell? ⟨X, 2, none⟩ = some (.int .i64 ci) := by rw [cell_of_row _ _ _ _ _ _ (S3.out.row)]; rfl
  have k3 : w3.cell? ⟨X, 3, none⟩ = some (.int .i64 cr) := by rw [cell_of_row _ _ _ _ _ _ (S3.out.row)]; rfl
  have k4 : w3.cell? ⟨X, 4, none⟩ = some (.int .i64 cx) := by rw [cell_of_row _ _ _ _ _ _ (S3.out.row)]; rfl
  have k5 : w3.cell? ⟨X, 5, none⟩ = some (.int .i64 cq) := by rw [cell_of_row _ _ _ _ _ _ (S3.out.row)]; rfl
  have k6 : w3.cell? ⟨X, 6, none⟩ = some (.slice ab nb cb) := by rw [cell_of_row _ _ _ _ _ _ (S3.out.row)]; rfl
  go_wp2_with fail
  refine (HRi.out w3).mono ?_
  rintro e w4 ⟨rfl, hb⟩
  rw [hok]
  have S4 := Bx.mk (S3.out.later hb)
  clear hb S3 k0 k1 k2 k3 k4 k5 k6
  go_wp2
  have h1 := S4.out.st
  have h2 := S4.out.kp
  clear S4
  refine ⟨va, m.length, c, mv, lb, l, m, ls, ?_, h1, h2⟩
  exact ⟨⟨rfl, rfl⟩, rfl, rfl, rfl, rfl, rfl, rfl, rfl, rfl⟩
end Go.Proofs.YtnefpjdjnjcmbaaGreatDoor
namespace Go.Proofs.YtnefpjdjnjcmbaaGreatDoor
open Go Go.RowKit
set_option maxRecDepth 100000 in
set_option maxHeartbeats 4000000 in
/-- Add. -/
theorem mid_add_ok (R L B : Nat) (tk : List Value) (ws : World) (v2 v3 v4 v11 : Value) (i : Nat) (va : Option Addr) (n c : Nat) (mv : Value) (lb : List Value) (l : List (Cl × Nat)) (m : List (Cl × Value)) (ls : List Value) (X : Nat) (at' : Int) (ab a1 : Option Addr) (nb cb c1 kn : Nat) (kd ro ci cr cx cq : Int) (ks : List UInt8) (a : Act) (w : World)
    (hG : RG v2 v3 v4 v11 (.pointer (some ⟨R, 0, none⟩)) (.slice va n c) (.pointer (some ⟨L, 0, none⟩)) (.int .i64 (i : Int)) (.pointer (some ⟨X, 0, none⟩)) (.slice a1 kn c1) (.int .i64 at') (.bool (decide (0 ≤ ro ∧ ro < 8))) a) (hf : FindQ m ⟨ci, cr, cx, cq⟩ (.returned (.int .i64 at'))) (hrow : w.heap[X]? = some (.cells #[.int .i64 kd, .int .i64 ro, .int .i64 ci, .int .i64 cr, .int .i64 cx, .int .i64 cq, .slice ab nb cb] 40 (0, 0))) (hXR : X ≠ R) (hXL : X ≠ L) (hfit : (⟨kd, ro, ⟨ci, cr, cx, cq⟩, ks⟩ : Ac).fit) (hfb : FB R L w (.slice a1 kn c1) (ks.take 40)) (hS : RSt R L B tk mv lb l (.slice va n c) m ls w) (hkp : KP R L B ws w)
    (hkd : (IntKind.u64.wrap kd).tmod 5 = 0) (hok : okC ⟨ci, cr, cx, cq⟩ = true) (ha : atC l ⟨ci, cr, cx, cq⟩ = none) (hl16 : m.length < 16) :
    Code.wp Tryz.prog (partIn Tryz.f3.body 1 14) (fun x a w => x = .normal ∧ MO R L B tk ws v2 v3 v4 v11 i a w) a w := by
  have S0 := Bx.mk (MS.mk (ab := ab) (nb := nb) (cb := cb) hS hkp hrow hfb)
  have HX := Bx.mk (And.intro hXR hXL)
  have HFt := Bx.mk hfit
  obtain rfl : at' = -1 := find_no hS.map.nd hS.srt hf ha
  have hn : n = m.length := by
    obtain ⟨a, c2, h⟩ := hS.own.form
    injection h
  subst hn
  have HTo := Bx.mk fun (W : World) => cto_any ⟨ci, cr, cx, cq⟩ W
  have HRi := Bx.mk fun (W : World) => cright_any ⟨ci, cr, cx, cq⟩ W
  have HAd := Bx.mk fun (v : Value) (W : World) (h : MS R L B X tk ws mv lb l (.slice va m.length c) m ls kd ro ci cr cx cq ab nb cb (.slice a1 kn c1) (ks.take 40) W) (hk : KeyO W B v (ks.take 40)) => ring_add_ok R B tk mv lb l ⟨ci, cr, cx, cq⟩ (ks.take 40) v W h.st.ring h.st.map h.st.low.1 h.st.low.2.2.2 hfit.2.2.1 hk (by rw [List.length_take]; omega) hok ha (by rw [map_len h.st.srt]; exact hl16)
  have hOne : Bx (∀ y ∈ m, y.2.oneCell' = true) := ⟨fun y hy => by
    obtain ⟨p, bs, -, -, h, -⟩ := hS.keys y hy
    obtain ⟨a, c, h1, -⟩ := h.1
    rw [h1]
    rfl⟩
  have h17 : ¬ (m.length : Int) = 16 := by omega
  clear hf ha
  clear hS hkp hrow hfb hXR hXL hfit
  obtain ⟨x, rfl, hx⟩ := open351 hG.fr
  have e2 := (hx 2).symm.trans hG.s2
  have e3 := (hx 3).symm.trans hG.s3
  have e4 := (hx 4).symm.trans hG.s4
  have e11 := (hx 11).symm.trans hG.s11
  have e12 := (hx 12).symm.trans hG.s12
  have e14 := (hx 14).symm.trans hG.s14
  have e15 := (hx 15).symm.trans hG.s15
  have e16 := (hx 16).symm.trans hG.s16
  have e17 := (hx 17).symm.trans hG.s17
  have e18 := (hx 18).symm.trans hG.s18
  have e19 := (hx 19).symm.trans hG.s19
  have e20 := (hx 20).symm.trans hG.s20
  clear hG hx
  rw [e2, e3, e4, e11, e12, e14, e15, e16, e17, e18, e19, e20]
  clear e2 e3 e4 e11 e12 e14 e15 e16 e17 e18 e19 e20
  have k0 : w.cell? ⟨X, 0, none⟩ = some (.int .i64 kd) := by rw [cell_of_row _ _ _ _ _ _ (S0.out.row)]; rfl
  have k1 : w.cell? ⟨X, 1, none⟩ = some (.int .i64 ro) := by rw [cell_of_row _ _ _ _ _ _ (S0.out.row)]; rfl
  have k2 : w.cell? ⟨X, 2, none⟩ = some (.int .i64 ci) := by rw [cell_of_row _ _ _ _ _ _ (S0.out.row)]; rfl
  have k3 : w.cell? ⟨X, 3, none⟩ = some (.int .i64 cr) := by rw [cell_of_row _ _ _ _ _ _ (S0.out.row)]; rfl
  have k4 : w.cell? ⟨X, 4, none⟩ = some (.int .i64 cx) := by rw [cell_of_row _ _ _ _ _ _ (S0.out.row)]; rfl
  have k5 : w.cell? ⟨X, 5, none⟩ = some (.int .i64 cq) := by rw [cell_of_row _ _ _ _ _ _ (S0.out.row)]; rfl
  have k6 : w.cell? ⟨X, 6, none⟩ = some (.slice ab nb cb) := by rw [cell_of_row _ _ _ _ _ _ (S0.out.row)]; rfl
  conv => arg 2; whnf
  go_wp2_with fail
  refine (HTo.out w).mono ?_
  rintro e w1 ⟨rfl, hb⟩
  have S1 := Bx.mk (S0.out.later hb)
  clear hb S0 k0 k1 k2 k3 k4 k5 k6
  go_wp2_with fail
  refine (new_any (ks.take 40) _ w1 S1.out.key.1 (by rw [List.length_take]; omega)).mono ?_
  rintro e w2 ⟨v', rfl, hk', hb⟩
  obtain ⟨pk, sk, hpk, -⟩ := id hk'
  subst hpk
  have S2 := Bx.mk (And.intro (S1.out.later hb) (And.intro hk' S1.out.st.low.2.2.2))
  clear hk' hb S1
  go_wp2_with fail
  refine (HAd.out _ w2 S2.out.1 (S2.out.2.1.weak S2.out.2.2)).mono ?_
  rintro e w3 ⟨rfl, hkp⟩
  obtain ⟨M9, p9, hr9, hM9, hm9, hko9, kp9⟩ := id hkp
  have HKp := Bx.mk hkp
  have HP3 : Bx (KP R L B w2 w3) := ⟨kp9.weaken⟩
  have HRow3 : Bx (w3.heap[X]? = some (.cells #[.int .i64 kd, .int .i64 ro, .int .i64 ci, .int .i64 cr, .int .i64 cx, .int .i64 cq, .slice ab nb cb] 40 (0, 0))) := ⟨HP3.out.block X _ S2.out.1.row HX.out.1 HX.out.2 (.inr rfl)⟩
  have HOw3 : Bx (OwnE w3 B (.slice va m.length c) m) := ⟨S2.out.1.st.own.keep HP3.out S2.out.1.st.low.1 S2.out.1.st.low.2.1⟩
  clear hr9 hM9 hm9 hko9 kp9 hkp HAd
  have k0 : w3.cell? ⟨X, 0, none⟩ = some (.int .i64 kd) := by rw [cell_of_row _ _ _ _ _ _ (HRow3.out)]; rfl
  have k1 : w3.cell? ⟨X, 1, none⟩ = some (.int .i64 ro) := by rw [cell_of_row _ _ _ _ _ _ (HRow3.out)]; rfl
  have k2 : w3.cell? ⟨X, 2, none⟩ = some (.int .i64 ci) := by rw [cell_of_row _ _ _ _ _ _ (HRow3.out)]; rfl
  have k3 : w3.cell? ⟨X, 3, none⟩ = some (.int .i64 cr) := by rw [cell_of_row _ _ _ _ _ _ (HRow3.out)]; rfl
  have k4 : w3.cell? ⟨X, 4, none⟩ = some (.int .i64 cx) := by rw [cell_of_row _ _ _ _ _ _ (HRow3.out)]; rfl
  have k5 : w3.cell? ⟨X, 5, none⟩ = some (.int .i64 cq) := by rw [cell_of_row _ _ _ _ _ _ (HRow3.out)]; rfl
  have k6 : w3.cell? ⟨X, 6, none⟩ = some (.slice ab nb cb) := by rw [cell_of_row _ _ _ _ _ _ (HRow3.out)]; rfl
  go_wp2_with fail
  refine (HRi.out w3).mono ?_
  rintro e w4 ⟨rfl, hb⟩
  rw [hok]
  have HB4 := Bx.mk hb
  have HRow4 : Bx (w4.heap[X]? = some (.cells #[.int .i64 kd, .int .i64 ro, .int .i64 ci, .int .i64 cr, .int .i64 cx, .int .i64 cq, .slice ab nb cb] 40 (0, 0))) := ⟨by rw [hb.block X (Array.getElem?_eq_some_iff.1 HRow3.out).1]; exact HRow3.out⟩
  have HOw4 := Bx.mk (HOw3.out.later hb)
  clear hb k0 k1 k2 k3 k4 k5 k6 HRow3 HOw3
  have k0 : w4.cell? ⟨X, 0, none⟩ = some (.int .i64 kd) := by rw [cell_of_row _ _ _ _ _ _ (HRow4.out)]; rfl
  have k1 : w4.cell? ⟨X, 1, none⟩ = some (.int .i64 ro) := by rw [cell_of_row _ _ _ _ _ _ (HRow4.out)]; rfl
  have k2 : w4.cell? ⟨X, 2, none⟩ = some (.int .i64 ci) := by rw [cell_of_row _ _ _ _ _ _ (HRow4.out)]; rfl
  have k3 : w4.cell? ⟨X, 3, none⟩ = some (.int .i64 cr) := by rw [cell_of_row _ _ _ _ _ _ (HRow4.out)]; rfl
  have k4 : w4.cell? ⟨X, 4, none⟩ = some (.int .i64 cx) := by rw [cell_of_row _ _ _ _ _ _ (HRow4.out)]; rfl
  have k5 : w4.cell? ⟨X, 5, none⟩ = some (.int .i64 cq) := by rw [cell_of_row _ _ _ _ _ _ (HRow4.out)]; rfl
  have k6 : w4.cell? ⟨X, 6, none⟩ = some (.slice ab nb cb) := by rw [cell_of_row _ _ _ _ _ _ (HRow4.out)]; rfl
  go_wp2_with fail
  refine (eadd_any B _ m ci cr cx cq (.slice a1 kn c1) w4 HOw4.out (by omega) rfl hOne.out).mono ?_
  rintro e w5 ⟨v5, rfl, ho5, hb⟩
  obtain ⟨a5, c5, hv5⟩ := ho5.form
  obtain ⟨mv9, l9, hst9⟩ := S2.out.1.st.add HKp.out (HB4.out.trans (hb.mono HB4.out.size)) (ho5.weak HB4.out.size) S2.out.1.key (by rw [List.length_take]; omega) hl16
  have hkp9 := S2.out.1.kp.trans (HP3.out.trans (KP.below (HB4.out.trans (hb.mono HB4.out.size))))
  subst hv5
  have Z1 := Bx.mk hst9
  have Z2 := Bx.mk hkp9
  clear hst9 hkp9 ho5 hb HKp HP3 HRow4 HOw4 HB4 S2 k0 k1 k2 k3 k4 k5 k6
  go_wp2
  refine ⟨_, _, _, mv9, lb, l9, _, ls, ?_, Z1.out, Z2.out⟩
  exact ⟨⟨rfl, rfl⟩, rfl, rfl, rfl, rfl, rfl, rfl, rfl, rfl⟩
end Go.Proofs.YtnefpjdjnjcmbaaGreatDoor
