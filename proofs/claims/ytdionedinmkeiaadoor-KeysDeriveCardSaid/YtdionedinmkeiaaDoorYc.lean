/-
  The example of the seventh layer; rings: New, Own, To, Seed.
-/
import Derived.Test.YtdionedinmkeiaaDoorYa
import Derived.Test.YtdionedinmkeiaaDoorQm
import Derived.Lib.SlBytesConst
namespace Go.Proofs.YtdionedinmkeiaaDoor
open Go Go.RowKit
def exK : List UInt8 := [48, 49, 50, 51, 52, 53, 54, 55, 56, 57, 97, 98, 99, 100, 101, 102]
theorem exK_cells : u8s exK = #[.int .u8 48, .int .u8 49, .int .u8 50, .int .u8 51, .int .u8 52, .int .u8 53, .int .u8 54, .int .u8 55, .int .u8 56, .int .u8 57, .int .u8 97, .int .u8 98, .int .u8 99, .int .u8 100, .int .u8 101, .int .u8 102] := rfl
theorem below_of {w w3 : World} {o : Obj} {E : Nat} (hE : w.heap.size = E) (hg : (w.alloc o).grownBy w3 (some E)) : Below w.heap.size w w3 := (below_a o).trans (grown_below hg (Nat.le_of_eq hE) (by rw [World.size_alloc]; omega))
theorem drewN_below (w : World) (n : Nat) : Below w.heap.size w (w.drewN n) := ⟨rfl, rfl, rfl, Nat.le_refl _, fun _ _ => rfl⟩
theorem ex_ok : okC ⟨5, 0, 0, 1⟩ = true := by decide
set_option maxRecDepth 100000 in
set_option maxHeartbeats 2000000 in
theorem known7_any (w : World) (hTab : Tab w) (hg : 0 < w.heap.size) : Calls Tryd.prog 17 #[] w fun e w' => e = .returned (.bool true) ∧ Below w.heap.size w w' := by
  have HT : Bx (∀ W, Below w.heap.size w W → Tab W ∧ 0 < W.heap.size) := Bx.mk fun W hb => ⟨hTab.later hb hg, Nat.lt_of_lt_of_le hg hb.size⟩
  obtain ⟨zc, hzc⟩ : ∃ zc, tkC c0 z32 = zc := ⟨_, rfl⟩
  have hzv : ∀ W : World, (zeroValue 53).run Tryd.prog W = .ok (.agg zc) W := fun W => by rw [← hzc]; exact tk_zero W
  have HKL : Bx (exK.length ≤ 1000000) := Bx.mk (by decide)
  have HNw : Bx (∀ (W : World) v, Bytes W v exK → Calls Tryd.prog 7 #[v] W fun e w' => ∃ v', e = .returned v' ∧ KeyO w' W.heap.size v' exK ∧ Below W.heap.size W w') := Bx.mk fun W v hv => new_any exK v W hv (by have := HKL.out; omega)
  have HMk : Bx (∀ W v, Below w.heap.size w W → IsKey W v exK → Calls Tryd.prog 36 #[v, .agg #[.int .i64 5, .int .i64 0, .int .i64 0, .int .i64 1]] W fun e w' => e = .returned (.tuple #[.agg (tkC ⟨5, 0, 0, 1⟩ (secK exK ⟨5, 0, 0, 1⟩)), .int .i64 0]) ∧ Below W.heap.size W w') := Bx.mk fun W v hb hv => mk_ok exK ⟨5, 0, 0, 1⟩ v W hv HKL.out ex_ok (HT.out W hb).1 (HT.out W hb).2
  have HGr : Bx (∀ W v, Below w.heap.size w W → IsKey W v exK → Calls Tryd.prog 9 #[v, .agg #[.int .i64 5, .int .i64 0, .int .i64 0, .int .i64 1], .int .i64 9] W fun e w' => ∃ v', e = .returned (.tuple #[v', .int .i64 0]) ∧ KeyO w' W.heap.size v' (senK (secK exK ⟨5, 0, 0, 1⟩) 9) ∧ Below W.heap.size W w') := Bx.mk fun W v hb hv => gra_ok exK ⟨5, 0, 0, 1⟩ 9 v W hv HKL.out ex_ok (by decide) (by decide) (HT.out W hb).1 (HT.out W hb).2
  have HSe : Bx (∀ W v, Below w.heap.size w W → IsKey W v (secK exK ⟨5, 0, 0, 1⟩) → Calls Tryd.prog 19 #[v, .int .i64 9] W fun e w' => ∃ v', e = .returned (.tuple #[v', .int .i64 0]) ∧ KeyO w' W.heap.size v' (senK (secK exK ⟨5, 0, 0, 1⟩) 9) ∧ Below W.heap.size W w') := Bx.mk fun W v hb hv => sen_ok _ 9 v W hv (by rw [secK_length]; decide) (by decide) (by decide) (HT.out W hb).1 (HT.out W hb).2
  have HTk := Bx.mk fun (W : World) => tkey_any ⟨5, 0, 0, 1⟩ (secK exK ⟨5, 0, 0, 1⟩) W (secK_length _ _)
  have HS := secK_length exK ⟨5, 0, 0, 1⟩
  have HK32 : Bx ((senK (secK exK ⟨5, 0, 0, 1⟩) 9).length = 32) := Bx.mk (senK_length _ _)
  have HKs : Bx ((senK (secK exK ⟨5, 0, 0, 1⟩) 9).length ≤ 140737488355328) := Bx.mk (by rw [senK_length]; decide)
  generalize senK (secK exK ⟨5, 0, 0, 1⟩) 9 = kk at *
  generalize secK exK ⟨5, 0, 0, 1⟩ = sk at *
  obtain ⟨kl, hkl⟩ : ∃ kl : List Value, tkC ⟨5, 0, 0, 1⟩ sk = kl.toArray := ⟨_, rfl⟩
  have HI : Bx ((Tryd.prog.info? 53).map (·.size) = some kl.toArray.size ∧ kl.toArray.all (·.oneCell') = true ∧ kl.toArray.size = zc.size ∧ (Tryd.prog.info? 53).map (·.size) = some kl.length) := Bx.mk (by rw [show kl.length = kl.toArray.size from rfl, ← hkl, ← hzc]; exact ⟨tk_info _ _ HS, tkC_one _ _, by rw [tkC_size _ _ HS, tkC_size _ _ rfl], tk_info _ _ HS⟩)
  unfold tkV at HTk
  rw [hkl] at HMk HTk
  have HBu : Bx (Bytes (w.alloc (.cells #[.int .u8 48, .int .u8 49, .int .u8 50, .int .u8 51, .int .u8 52, .int .u8 53, .int .u8 54, .int .u8 55, .int .u8 56, .int .u8 57, .int .u8 97, .int .u8 98, .int .u8 99, .int .u8 100, .int .u8 101, .int .u8 102] 5 (16, 17))) (.slice (some ⟨w.heap.size, 0, none⟩) 16 16) exK) := Bx.mk (const_bytes (hnew w _ _ rfl) rfl)
  clear hzc hkl HS hTab hg
  generalize exK = kb at *
  obtain ⟨B, hB⟩ : ∃ B, w.heap.size = B := ⟨_, rfl⟩
  have H0 := Bx.mk ((KS.start w B hB).alloc (.cells #[.int .u8 48, .int .u8 49, .int .u8 50, .int .u8 51, .int .u8 52, .int .u8 53, .int .u8 54, .int .u8 55, .int .u8 56, .int .u8 57, .int .u8 97, .int .u8 98, .int .u8 99, .int .u8 100, .int .u8 101, .int .u8 102] 5 (16, 17)))
  rw [hB] at HBu HMk HGr HSe ⊢
  have kc := fun (w : World) (C : Array Value) (n c : Nat) => Lib.run_convert_bytes_const (P := Tryd.prog) w 22 5 C n c Tryd.underlying22 Tryd.underlying5
  have kc2 := kc w #[.int .u8 48, .int .u8 49, .int .u8 50, .int .u8 51, .int .u8 52, .int .u8 53, .int .u8 54, .int .u8 55, .int .u8 56, .int .u8 57, .int .u8 97, .int .u8 98, .int .u8 99, .int .u8 100, .int .u8 101, .int .u8 102] 16 16
  rw [hB] at kc2
  go_enter Tryd.func17, Tryd.ntmps17
  go_wp2_with fail
  clear kc kc2
  try rw [hB]
  obtain ⟨w0, hw0⟩ : ∃ w0, w.alloc (.cells #[.int .u8 48, .int .u8 49, .int .u8 50, .int .u8 51, .int .u8 52, .int .u8 53, .int .u8 54, .int .u8 55, .int .u8 56, .int .u8 57, .int .u8 97, .int .u8 98, .int .u8 99, .int .u8 100, .int .u8 101, .int .u8 102] 5 (16, 17)) = w0 := ⟨_, rfl⟩
  rw [hw0] at H0 HBu ⊢
  clear hw0
  refine (HNw.out w0 _ HBu.out).mono ?_
  rintro e w1 ⟨v1, rfl, hk1, hb⟩
  have H1 := Bx.mk (And.intro (H0.out.later hb) hk1.key)
  clear hb hk1 H0 HBu
  obtain ⟨p1, s1, hv1, -, -⟩ := H1.out.2
  subst hv1
  obtain ⟨E, hE⟩ : ∃ E, w1.heap.size = E := ⟨_, rfl⟩
  have H3 := Bx.mk (And.intro (H1.out.1.new (.cells #[.int .i64 5, .int .i64 0, .int .i64 0, .int .i64 1] 37)) (H1.out.2.later (below_a (.cells #[.int .i64 5, .int .i64 0, .int .i64 0, .int .i64 1] 37))))
  rw [hE] at H3
  go_upto_region 3 with fail
  clear H1 hE
  generalize w1.alloc (.cells #[.int .i64 5, .int .i64 0, .int .i64 0, .int .i64 1] 37) = w3 at *
  go_wp2_with (refine wpList_load_mid rfl 37 _ rfl E 0 (by rfl) [.int .i64 5, .int .i64 0, .int .i64 0, .int .i64 1] _ (row_rng (l := [.int .i64 5, .int .i64 0, .int .i64 0, .int .i64 1]) (H3.out.1.rows _ (.head _))) Tryd.underlying37 rfl (by kernel_rfl) ?_)
  refine (HMk.out w3 _ H3.out.1.below H3.out.2).mono ?_
  rintro e w4 ⟨rfl, hb⟩
  have H4 := Bx.mk (And.intro (H3.out.1.later hb) (H3.out.2.later hb))
  clear hb H3
  obtain ⟨D, hD⟩ : ∃ D, w4.heap.size = D := ⟨_, rfl⟩
  have H5 := Bx.mk (And.intro (H4.out.1.new (.cells zc 53)) (And.intro (show B ≤ D from by rw [← hD]; exact H4.out.1.le) (show E < D from by rw [← hD]; exact H4.out.1.lt (.head _))))
  rw [hD] at H5
  go_upto_region 4 with (refine wpList_store_new rfl 53 _ _ rfl D kl.toArray zc _ (by rfl) (by rfl) (H5.out.1.rows _ (.head _)) HI.out.2.2.1 HI.out.1 HI.out.2.1 ?_; intro w5 hw8 hr8; have hg8 := Bx.mk (kb_of hw8); have HR8 := Bx.mk hr8; clear hw8 hr8)
  have H6 := Bx.mk (And.intro (H5.out.1.set hg8.out HR8.out H5.out.2.1 (by intro y hy; have := H5.out.2.2; simp at hy; rcases hy with rfl; simp only; omega)) (H4.out.2.later (below_of hD hg8.out)))
  clear H5 hg8 HR8 H4 hD
  go_wp2_with (refine wpList_load_mid rfl 53 _ rfl D 0 (by rfl) kl _ (row_rng (H6.out.1.rows _ (.head _))) Tryd.underlying53 rfl HI.out.2.2.2 ?_)
  refine (HTk.out w5).mono ?_
  rintro e w6 ⟨v6, rfl, hk6, hb⟩
  have H7 := Bx.mk (And.intro (H6.out.1.later hb) (And.intro (H6.out.2.later hb) hk6.key))
  clear hb hk6 H6
  obtain ⟨p6, s6, hv6, -, -⟩ := H7.out.2.2
  subst hv6
  go_wp2_with fail
  refine (HSe.out w6 _ H7.out.1.below H7.out.2.2).mono ?_
  rintro e w7 ⟨v7, rfl, hk7, hb⟩
  have H8 := Bx.mk (And.intro (H7.out.1.later hb) (And.intro (H7.out.2.1.later hb) hk7.key))
  clear hb hk7 H7
  obtain ⟨p7, s7, hv7, -, -⟩ := H8.out.2.2
  subst hv7
  go_wp2_with (refine wpList_load_mid rfl 37 _ rfl E 0 (by rfl) [.int .i64 5, .int .i64 0, .int .i64 0, .int .i64 1] _ (row_rng (l := [.int .i64 5, .int .i64 0, .int .i64 0, .int .i64 1]) (H8.out.1.rows _ (.tail _ (.head _)))) Tryd.underlying37 rfl (by kernel_rfl) ?_)
  refine (HGr.out w7 _ H8.out.1.below H8.out.2.1).mono ?_
  rintro e w8 ⟨v8, rfl, hk8, hb⟩
  have H9 := Bx.mk (And.intro (H8.out.1.later hb) (And.intro (H8.out.2.2.later hb) hk8.key))
  clear hb hk8 H8
  obtain ⟨p8, s8, hv8, -, -⟩ := H9.out.2.2
  subst hv8
  go_wp2_with fail
  refine (kbytes_any kk _ w8 H9.out.2.1 HKs.out).mono ?_
  rintro e w9 ⟨v9, rfl, ho9, hb⟩
  have H10 := Bx.mk (And.intro (H9.out.1.later hb) (And.intro (H9.out.2.2.later hb) ho9.bytes))
  clear hb ho9 H9
  obtain ⟨a9, c9, hv9, -⟩ := H10.out.2.2
  subst hv9
  rw [HK32.out] at H10 ⊢
  go_wp2_with fail
  refine (kbytes_any kk _ w9 H10.out.2.1 HKs.out).mono ?_
  rintro e w10 ⟨v10, rfl, ho10, hb⟩
  have H11 := Bx.mk (And.intro (H10.out.1.later hb) (And.intro (H10.out.2.2.later hb) ho10.bytes))
  clear hb ho10 H10
  obtain ⟨a10, c10, hv10, -⟩ := H11.out.2.2
  subst hv10
  rw [HK32.out] at H11 ⊢
  go_wp2_with fail
  refine (equal_any kk kk _ _ w10 H11.out.2.1 H11.out.2.2 HKs.out HKs.out).mono ?_
  rintro e w11 ⟨rfl, n11, rfl⟩
  rw [decide_eq_true rfl]
  have H12 := Bx.mk (H11.out.1.later (drewN_below w10 n11))
  clear H11
  generalize w10.drewN n11 = w12 at *
  go_wp2
  go_ret
  exact ⟨rfl, H12.out.below⟩
end Go.Proofs.YtdionedinmkeiaaDoor
