/-
  DeltaDigests' walk: a set's digest, its bytes, and the digest of any bytes, are the document's.
-/
import Derived.Test.YtnfgamekjbkbkaaDoorNh
import Derived.Test.YtnfgamekjbkbkaaDoorD11
namespace Go.Proofs.YtnfgamekjbkbkaaDoor
open Go Go.RowKit
set_option maxRecDepth 100000 in
set_option maxHeartbeats 16000000 in
theorem digests_walk (x : VV) (m : L4) (xv : V4) (xp : B8) (b : List UInt8) (vb : Value) (w : World) (hx : RowsI w x m) (hm : Most m 9223372036854775807) (hb : Bytes w vb b) (hbl : b.length ≤ 9223372036854775807) (hTab : Tab w) (hG : 1 < w.heap.size) :
    Calls Tryd.prog 4 #[.agg #[x.a, x.b, x.c, x.d], .agg (dgC xv xp), vb] w fun e w' => e = .returned (.bool true) ∧ Below w.heap.size w w' := by
  obtain ⟨E, hE⟩ : ∃ E, w.heap.size = E := ⟨_, rfl⟩
  obtain ⟨ab, cb, rfl, hcb, hnb, -⟩ := id hb
  obtain ⟨n3, hn3⟩ : ∃ n, min b.length 30 = n := ⟨_, rfl⟩
  have hmin : min (b.length : Int) 30 = (n3 : Int) := by omega
  have HCut := fun W => cut_bytes ab b.length cb n3 (by omega) hcb hnb W
  have HBt : Bx (∀ W, Below E w W → Bytes W (.slice ab n3 cb) (b.take n3)) := ⟨fun W h => (hb.later (by rw [hE]; exact h)).take n3 (by omega)⟩
  have HBn : Bx ((b.take n3).length = n3 ∧ n3 ≤ 30) := ⟨by rw [List.length_take]; omega, by omega⟩
  have hbl1 : (b.length : Int) ≤ 9223372036854775807 := by omega
  have hbl0 : (0 : Int) ≤ (b.length : Int) := by omega
  have HT : Bx (Tab w ∧ 1 < w.heap.size) := ⟨hTab, hG⟩
  have HTl : Bx (∀ W, Below E w W → Tab W ∧ 1 < W.heap.size) := ⟨fun W h => ⟨hTab.later h (by omega), by have := h.size; omega⟩⟩
  have HKn : Bx (∀ W, Below E w W → Calls Tryd.prog 33 #[] W fun e w' => e = .returned (.bool true) ∧ Below W.heap.size W w') := ⟨fun W h => known9_any W (HTl.out W h).1 (HTl.out W h).2⟩
  have HMk := Bx.mk (fun W (h : Below E w W) => make9 x m W (hx.later (by rw [hE]; exact h)) hm)
  have K0 : Bx (KR w E [(E + 1, .cells #[.int .i64 xv.a, .int .i64 xv.b, .int .i64 xv.c, .int .i64 xv.d, .int .u8 (ub xp.a), .int .u8 (ub xp.b), .int .u8 (ub xp.c), .int .u8 (ub xp.d), .int .u8 (ub xp.e), .int .u8 (ub xp.f), .int .u8 (ub xp.g), .int .u8 (ub xp.h)] 50), (E, .cells #[x.a, x.b, x.c, x.d] 24)] ((w.alloc (.cells #[x.a, x.b, x.c, x.d] 24)).alloc (.cells #[.int .i64 xv.a, .int .i64 xv.b, .int .i64 xv.c, .int .i64 xv.d, .int .u8 (ub xp.a), .int .u8 (ub xp.b), .int .u8 (ub xp.c), .int .u8 (ub xp.d), .int .u8 (ub xp.e), .int .u8 (ub xp.f), .int .u8 (ub xp.g), .int .u8 (ub xp.h)] 50))) := Bx.mk (by
    subst hE
    have h := ((KR.start w).new (.cells #[x.a, x.b, x.c, x.d] 24)).new (.cells #[.int .i64 xv.a, .int .i64 xv.b, .int .i64 xv.c, .int .i64 xv.d, .int .u8 (ub xp.a), .int .u8 (ub xp.b), .int .u8 (ub xp.c), .int .u8 (ub xp.d), .int .u8 (ub xp.e), .int .u8 (ub xp.f), .int .u8 (ub xp.g), .int .u8 (ub xp.h)] 50)
    simpa using h)
  obtain ⟨tbl, htb⟩ : ∃ l : List Value, u32s (kTab ++ Go.Proofs.YtnfgamekjbkbkaaDoor.hTab) = l.toArray := ⟨(u32s (kTab ++ Go.Proofs.YtnfgamekjbkbkaaDoor.hTab)).toList, by simp⟩
  have HMt := Bx.mk (fun W => make_any W)
  rw [htb] at HMt
  obtain ⟨zt, hzt⟩ : ∃ z, u32s (List.replicate 72 0) = z := ⟨_, rfl⟩
  have hztv : ∀ W : World, (zeroValue 59).run Tryd.prog W = .ok (.agg zt) W := fun W => by rw [← hzt]; kernel_rfl
  have HTI : Bx (tbl.toArray.size = zt.size ∧ (Tryd.prog.info? 59).map (·.size) = some tbl.toArray.size ∧ tbl.toArray.all (·.oneCell') = true) := ⟨by rw [← htb, ← hzt, u32s_size, u32s_size]; rfl, by rw [← htb]; kernel_rfl, by rw [← htb]; exact one_u32s _⟩
  have HTB := Bx.mk htb
  have HE := Bx.mk hE
  clear hx hm hb hbl hTab hG hn3 hcb hnb hzt htb
  rw [hE]
  generalize b.take n3 = b3 at *
  generalize b.length = bn at *
  unfold dgC
  go_enter Tryd.func4, Tryd.ntmps4
  go_wp2_with (refine wpList_load_row rfl 24 _ rfl E (by rfl) _ #[x.a, x.b, x.c, x.d] (0, 0) _ (K0.out.rows _ (.tail _ (.head _))) Tryd.underlying24 rfl (by kernel_rfl) ?_)
  generalize (w.alloc (.cells #[x.a, x.b, x.c, x.d] 24)).alloc (.cells #[.int .i64 xv.a, .int .i64 xv.b, .int .i64 xv.c, .int .i64 xv.d, .int .u8 (ub xp.a), .int .u8 (ub xp.b), .int .u8 (ub xp.c), .int .u8 (ub xp.d), .int .u8 (ub xp.e), .int .u8 (ub xp.f), .int .u8 (ub xp.g), .int .u8 (ub xp.h)] 50) = w0 at *
  refine (HMk.out w0 K0.out.below).mono ?_
  rintro e w1 ⟨pp, qq, rfl, hs, hr, -, -, hb⟩
  have K1 := Bx.mk (K0.out.later hb)
  have S1 := Bx.mk (And.intro hs hr)
  clear hs hr hb K0 HMk
  go_wp2_with fail
  refine (HMt.out w1).mono ?_
  rintro e w2 ⟨rfl, hb⟩
  have K2 := Bx.mk (K1.out.later hb)
  have S2 := Bx.mk (And.intro (S1.out.1.later hb) (S1.out.2.later hb))
  clear hb K1 S1 HMt hmin HCut hbl1 hbl0
  obtain ⟨D1, hD1⟩ : ∃ X, w2.heap.size = X := ⟨_, rfl⟩
  go_wp2_with (refine wpList_store_v9 rfl 59 _ _ rfl w2 D1 hD1 zt 59 rfl (by rfl) tbl.toArray (by rfl) HTI.out.1 HTI.out.2.1 HTI.out.2.2 ?_; intro w3 hb hr _; have K3 := Bx.mk (K2.out.var9 hD1 hb hr); have S3 := Bx.mk (And.intro (S2.out.1.later hb) (S2.out.2.later hb)); clear hb hr K2 S2)
  refine (dof_any (.pointer (some ⟨pp, 0, none⟩)) (mkL m 4) w3 (.inr ⟨pp, rfl, S3.out.1⟩) (mkL_good m 4) (HTl.out w3 K3.out.below).1 (HTl.out w3 K3.out.below).2).mono ?_
  rintro e w4 ⟨rfl, hb⟩
  have K4 := Bx.mk (K3.out.later hb)
  have S4 := Bx.mk (And.intro (S3.out.1.later hb) (S3.out.2.later hb))
  clear hb K3 S3 hD1 HTI hztv
  obtain ⟨D2, hD2⟩ : ∃ X, w4.heap.size = X := ⟨_, rfl⟩
  obtain ⟨lv, hlv⟩ : ∃ l, (mkL m 4).ver = l := ⟨_, rfl⟩
  obtain ⟨lp, hlp⟩ : ∃ l, prtL (mkL m 4) = l := ⟨_, rfl⟩
  have HL := Bx.mk (And.intro hlv hlp)
  rw [hlv, hlp]
  clear hlv hlp
  unfold dgC
  go_upto_region 5 with (refine wpList_store_v9 rfl 62 _ _ rfl w4 D2 hD2 #[.int .i64 0, .int .i64 0, .int .i64 0, .int .i64 0, .int .u8 0, .int .u8 0, .int .u8 0, .int .u8 0, .int .u8 0, .int .u8 0, .int .u8 0, .int .u8 0] 62 rfl (by rfl) #[.int .i64 lv.a, .int .i64 lv.b, .int .i64 lv.c, .int .i64 lv.d, .int .u8 (ub lp.a), .int .u8 (ub lp.b), .int .u8 (ub lp.c), .int .u8 (ub lp.d), .int .u8 (ub lp.e), .int .u8 (ub lp.f), .int .u8 (ub lp.g), .int .u8 (ub lp.h)] (by rfl) rfl (by kernel_rfl) (by simp [Value.oneCell']) ?_; intro w5 hb hr _; have Y5 : Bx (KR w E [(D2, .cells #[.int .i64 lv.a, .int .i64 lv.b, .int .i64 lv.c, .int .i64 lv.d, .int .u8 (ub lp.a), .int .u8 (ub lp.b), .int .u8 (ub lp.c), .int .u8 (ub lp.d), .int .u8 (ub lp.e), .int .u8 (ub lp.f), .int .u8 (ub lp.g), .int .u8 (ub lp.h)] 62), (D1, .cells tbl.toArray 59), (E + 1, .cells #[.int .i64 xv.a, .int .i64 xv.b, .int .i64 xv.c, .int .i64 xv.d, .int .u8 (ub xp.a), .int .u8 (ub xp.b), .int .u8 (ub xp.c), .int .u8 (ub xp.d), .int .u8 (ub xp.e), .int .u8 (ub xp.f), .int .u8 (ub xp.g), .int .u8 (ub xp.h)] 50)] w5 ∧ SetAt w5 pp (mkL m 4) ∧ RAt w5 qq (mkL m 4)) := ⟨(K4.out.var9 hD2 hb hr).sub (fun x hx => by simp at hx ⊢; rcases hx with rfl | rfl | rfl <;> simp), S4.out.1.later hb, S4.out.2.later hb⟩; clear hb hr K4 S4)
  rename_i K1 hK1 K2 hK2
  refine wp_mono (reg5 w E n3 cb D1 D2 pp qq ab (mkL m 4) xv lv xp lp tbl HL.out.1 HL.out.2 (mkL_good m 4) HTB.out HE.out HT.out.1 HT.out.2 _ w5 ⟨⟨rfl, rfl⟩, rfl, rfl, rfl, rfl, rfl, rfl⟩ Y5) (fun e a w1 hp => ?_)
  obtain ⟨rfl, hpm, hkr⟩ := hp
  exact hK2 _ _ (wp_cond_false hpm.s57 (wp_skip (hK1 _ _ (tailA w E n3 cb ab b3 xv xp HBn.out.1 HBn.out.2 HBt HKn a w1 ⟨hpm.fr, hpm.s2, hpm.s4⟩ ⟨hkr⟩))))
end Go.Proofs.YtnfgamekjbkbkaaDoor
