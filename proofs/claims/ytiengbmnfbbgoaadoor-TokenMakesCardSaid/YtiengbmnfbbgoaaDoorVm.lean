/-
  The walk of TokenMakes.
-/
import Derived.Test.YtiengbmnfbbgoaaDoorQm
namespace Go.Proofs.YtiengbmnfbbgoaaDoor
open Go Go.RowKit
/-- A load of a struct by its cells, where its guard is decided. -/
theorem wpList_load_midw {P : Program} {ops : Array Oper} {rest : List Oper} {op : Oper} {a : Act} {w : World} {Q : Exit → Act → World → Prop} (hw : Region.wanted op (yielded ops a.tmps) = true) (ty : TypeId) (x : Operand) (ho : op.op = .load ty x)
    (b o : Nat) (hx : a.eval x = .pointer (some ⟨b, o, none⟩)) (cs : List Value) (d : TypeDesc) (hr : w.rangeAt b o cs)
    (hu : P.underlying ty = some d) (hd : d.isRow = true) (hi : (P.info? ty).map (·.size) = some cs.length)
    (h : wpList P ops Q rest (a.put op.dst (.agg cs.toArray)) w) : wpList P ops Q (op :: rest) a w := by
  refine wpList_step fun K hK => ?_
  rw [if_pos hw]
  unfold Oper.wp execOp
  simp only [ho, hx, Instr.loadAt, Instr.sureAddr, Sem.run_bind, Sem.run_pure, Result.andThen_ok, run_loadVar_mid w b o ty cs d hr hu hd hi]
  exact hK _ _ h
theorem step_apw {w : World} {ops : Array Oper} {o : Oper} {a : Act} {K : Act → World → Prop} {Q : Exit → Act → World → Prop} {E : Prop} (hw : Region.wanted o (yielded ops a.tmps) = true) (s x : Operand)
    (ho : o.op = .call { callee := .builtin .append, args := #[s, x], argTypes := #[22, 22] }) (base : Nat) (v : Value) (l : List UInt8) (hs : a.eval s = v) (hown : OwnB w base v l) (xv : Value) (ps : List UInt8) (hx : a.eval x = xv) (hb : Bytes w xv ps)
    (hn : l.length + ps.length ≤ 140737488355328) (hbase : base ≤ w.heap.size)
    (h : ∀ v' w', OwnB w' base v' (l ++ ps) → w.grownBy w' v.ownBlock → (v'.ownBlock = v.ownBlock ∨ v'.ownBlock = some w.heap.size) → K (a.put o.dst v') w') :
    if Region.wanted o (yielded ops a.tmps) = true then Oper.wp Tryd.prog o a w K Q else E := by
  rw [if_pos hw]
  obtain ⟨v', w', hrun, h1, h2, h3⟩ := run_ap w base v l hown xv ps hb hn hbase o.type
  unfold Oper.wp
  simp [execOp, ho, resolve, invoke, builtin, hs, hx, hrun, Result.andThen]
  exact h v' w' h1 h2 h3
theorem tk_rest {W : World} {g : Nat} {c : Cl} {s : List UInt8} {t : TypeId} (h : W.heap[g]? = some (.cells (tkC c s) t (0, 0))) : W.rangeAt g 4 (u8s s).toList := by
  intro j v hj
  show W.cell? ⟨g, 4 + j, none⟩ = some v
  rw [cell_of_row _ _ _ _ _ _ h, ← Array.getElem?_toList, tkC_list, List.getElem?_append_right (by simp [clC]), show 4 + j - (clC c).toList.length = j by simp [clC]]
  exact hj
/-- Over an append to bytes that came later than the rows. -/
theorem KS.grown2 {w : World} {B b0 : Nat} {rs : List (Nat × Obj)} {W0 W W1 : World} {v : Value} {l : List UInt8} (h : KS w B rs W) (hg : W.grownBy W1 v.ownBlock) (ho : OwnB W b0 v l) (h0 : KS w B rs W0) (hb : b0 = W0.heap.size) : KS w B rs W1 := by
  have hne : ∀ k, k < b0 → v.ownBlock ≠ some k := fun k hk e => by have := (ho.lt k e).2; omega
  refine ⟨fun x hx => ?_, ⟨by rw [hg.os]; exact h.below.os, by rw [hg.tape]; exact h.below.tape, by rw [hg.output]; exact h.below.output, Nat.le_trans h.below.size hg.size, fun i hi => ?_⟩, Nat.le_trans h.le hg.size⟩
  · rw [hg.block x.1 (h.lt hx) (fun e => hne x.1 (by rw [hb]; exact h0.lt hx) e.symm)]
    exact h.rows x hx
  · rw [hg.block i (Nat.lt_of_lt_of_le hi h.le) (fun e => hne i (by rw [hb]; exact Nat.lt_of_lt_of_le hi h0.le) e.symm)]
    exact h.below.block i hi
set_option maxRecDepth 100000 in
set_option maxHeartbeats 4000000 in
theorem makes6_bad (m0 : List UInt8) (c : Cl) (p0 : List (List UInt8)) (vm vp : Value) (w : World) (hm : Bytes w vm m0) (hp : Parts w vp p0) (hml : m0.length ≤ 9223372036854775807) (hpn : p0.length ≤ 9223372036854775807) (hpl : ∀ p ∈ p0, p.length ≤ 9223372036854775807) (hc : okC c = false) (hTab : Tab w) (hg : 0 < w.heap.size) :
    Calls Tryd.prog 3 #[vm, clV c, vp] w fun e w' => e = .returned (.bool true) ∧ Below w.heap.size w w' := by
  have HT : Bx (∀ W, Below w.heap.size w W → Tab W ∧ 0 < W.heap.size) := Bx.mk fun W hb => ⟨hTab.later hb hg, Nat.lt_of_lt_of_le hg hb.size⟩
  clear hTab hg
  have HCm := Bx.mk fun (W : World) (hW : Bytes W vm m0) => cut6_any m0 70 vm W hW hml (by omega)
  have HFew := Bx.mk fun (W : World) (hW : Parts W vp p0) => few6_any p0 vp W hW hpn hpl
  have HMl : Bx ((m0.take 70).length ≤ 70) := Bx.mk (by rw [List.length_take]; omega)
  have HQ := Bx.mk (And.intro (cut4_len p0) (cut4_each p0))
  have HV := Bx.mk (And.intro hm hp)
  obtain ⟨am, cm, rfl, -⟩ := hm
  obtain ⟨ap, cp, rfl, -⟩ := hp
  generalize m0.take 70 = mk at *
  generalize m0.length = mn at *
  generalize p0.length = pn at *
  have HNw : Bx (∀ (W : World) v, Bytes W v mk → Calls Tryd.prog 11 #[v] W fun e w' => ∃ v', e = .returned v' ∧ KeyO w' W.heap.size v' mk ∧ Below W.heap.size W w') := Bx.mk fun W v hv => new_any mk v W hv (by have := HMl.out; omega)
  have HTo := Bx.mk fun (W : World) => cto_any c W
  have HRi := Bx.mk fun (W : World) => cright_any c W
  rw [hc] at HRi
  obtain ⟨zc, hzc⟩ : ∃ zc, tkC c0 z32 = zc := ⟨_, rfl⟩
  have hzv : ∀ W : World, (zeroValue 39).run Tryd.prog W = .ok (.agg zc) W := fun W => by rw [← hzc]; exact tk_zero W
  have hbz : Tryd.prog.built 39 [] = some zc := by rw [← hzc]; exact tk_none
  have HM1 : Bx ((Tryd.prog.info? 39).map (·.size) = some zc.size ∧ zc.all (·.oneCell') = true) := Bx.mk (by rw [← hzc]; exact ⟨tk_info _ _ rfl, tkC_one _ _⟩)
  have hself0 : ∀ W : World, (binOp .eql 39 (.agg zc) (.agg zc)).run Tryd.prog W = .ok (.bool true) W := fun W => by rw [← hzc]; exact self_tk_eql _ _ rfl W
  have HMn : Bx (∀ W, Calls Tryd.prog 12 #[.pointer none, clV c] W fun e w' => e = .returned (.tuple #[.agg zc, .int .i64 1]) ∧ Below W.heap.size W w') := Bx.mk fun W => by rw [← hzc]; exact mk_nil c W
  obtain ⟨zt, hzt⟩ : ∃ z, u32s (List.replicate 72 0) = z := ⟨_, rfl⟩
  have hztv : ∀ W : World, (zeroValue 32).run Tryd.prog W = .ok (.agg zt) W := fun W => by rw [← hzt]; kernel_rfl
  obtain ⟨tbl, htb⟩ : ∃ tbl : List Value, u32s (kTab ++ hTab) = tbl.toArray := ⟨_, rfl⟩
  have HMake : Bx (∀ W : World, Calls Tryd.prog 10 #[] W fun e w' => e = .returned (.agg tbl.toArray) ∧ Below W.heap.size W w') := Bx.mk fun W => by rw [← htb]; exact make_any W
  have HTI : Bx (tbl.toArray.size = zt.size ∧ (Tryd.prog.info? 32).map (·.size) = some tbl.toArray.size ∧ tbl.toArray.all (·.oneCell') = true ∧ (Tryd.prog.info? 32).map (·.size) = some tbl.length) := Bx.mk ⟨by rw [← htb, ← hzt, u32s_size, u32s_size]; rfl, tbl_size3 htb, by rw [← htb]; exact one_u32s _, tbl_size3 htb⟩
  have HMk : Bx (∀ W v, IsKey W v mk → Calls Tryd.prog 12 #[v, clV c] W fun e w' => e = .returned (.tuple #[.agg zc, .int .i64 10]) ∧ Below W.heap.size W w') := Bx.mk fun W v hv => by
    obtain ⟨p, s, rfl, -, -⟩ := hv
    rw [← hzc]; exact mk_bad c p W hc
  have HHo : Bx (∀ W v, IsKey W v mk → Calls Tryd.prog 16 #[v, .agg zc] W fun e w' => e = .returned (.bool false) ∧ Below W.heap.size W w') := Bx.mk fun W v hv => by
    rw [← hzc]; exact holds_bad mk c0 z32 v W hv rfl (by decide)
  have HPr : Bx (∀ W v vt vq, IsKey W v mk → Calls Tryd.prog 17 #[v, clV c, vt, vq] W fun e w' => e = .returned (.int .i64 10) ∧ Below W.heap.size W w') := Bx.mk fun W v vt vq hv => by
    obtain ⟨p, s, rfl, -, -⟩ := hv
    exact proves_bad c p vt vq W hc
  clear hzt htb hzc
  clear hml hpn hpl hc
  obtain ⟨i, r, x, q⟩ := c
  unfold clV at *
  skip
  simp only at HTo HRi HPr HMk HMn  ⊢
  obtain ⟨B, hB⟩ : ∃ B, w.heap.size = B := ⟨_, rfl⟩
  have HB := Bx.mk hB
  have H0 := Bx.mk ((KS.start w B hB).new (.cells #[.int .i64 i, .int .i64 r, .int .i64 x, .int .i64 q] 24))
  rw [hB] at H0 HT  ⊢
  go_enter Tryd.func3, Tryd.ntmps3
  go_wp2_with fail
  generalize w.alloc (.cells #[.int .i64 i, .int .i64 r, .int .i64 x, .int .i64 q] 24) = w0 at *
  have HM0 := Bx.mk (HV.out.1.later (by rw [HB.out]; exact H0.out.below))
  have HP0 := Bx.mk (HV.out.2.later (by rw [HB.out]; exact H0.out.below))
  refine (HCm.out w0 HM0.out).mono ?_
  rintro e w1 ⟨v1, rfl, hm1, rfl⟩
  have HM := Bx.mk (hm1 w0 HM0.out)
  obtain ⟨am, cm, hv1, -⟩ := HM.out
  subst hv1
  clear hm1 HCm HM0
  generalize mk.length = mn at *
  go_wp2_with fail
  refine (HFew.out w0 HP0.out).mono ?_
  rintro e w2 ⟨vo, xs, rfl, hv2, ho2, hb2⟩
  generalize cut4 p0 = qs at *
  have hv3 : Vals w2 xs qs := hv2.later hb2
  have FV := Bx.mk (And.intro (HM.out.later hb2) (And.intro (parts_of ho2 hv3) (show PartsR w2 vo qs from ⟨xs, own_rowP ho2, hv3⟩)))
  obtain ⟨oa, on, oc, rfl⟩ := ownP_form ho2
  have H2 := Bx.mk (H0.out.later hb2)
  clear hv2 ho2 hb2 hv3 H0 HV HM HP0 HFew
  go_wp2_with fail
  refine (HMake.out w2).mono ?_
  rintro e w3 ⟨rfl, hb⟩
  have H3 := Bx.mk (H2.out.later hb)
  have FV := Bx.mk (And.intro (FV.out.1.later hb) (And.intro (FV.out.2.1.later hb) (FV.out.2.2.later hb)))
  clear hb H2
  obtain ⟨D, hD⟩ : ∃ D, w3.heap.size = D := ⟨_, rfl⟩
  have HBD : Bx (B < D) := Bx.mk (by rw [← hD]; exact H3.out.lt (.head _))
  have HDz := Bx.mk hD
  have H4 := Bx.mk (H3.out.new (.cells zt 32))
  rw [hD] at H4
  clear H3
  go_upto_region 4 with (refine wpList_store_new rfl 32 _ _ rfl D tbl.toArray zt _ (by rfl) (by rfl) (H4.out.rows _ (.head _)) HTI.out.1 HTI.out.2.1 HTI.out.2.2.1 ?_; intro w5 hw8 hr8; have hg8 := Bx.mk (kb_of hw8); have hw9 := Bx.mk hw8; have HR8 := Bx.mk hr8; clear hw8 hr8)
  have H5 := Bx.mk (H4.out.set hg8.out HR8.out (by have := HBD.out; omega) (by intro y hy; have h1 := HBD.out; simp at hy; rcases hy with rfl; simp only; omega))
  have hb := (below_a (W := w3) (.cells zt 32)).trans (grown_below hg8.out (Nat.le_of_eq HDz.out) (by rw [alloc_size]; omega))
  have FV := Bx.mk (And.intro (FV.out.1.later hb) (And.intro (FV.out.2.1.later hb) (FV.out.2.2.later hb)))
  clear hb H4 hg8 HR8 hD hw9
  go_wp2_with fail
  refine (HNw.out w5 _ FV.out.1).mono ?_
  rintro e w6 ⟨vk, rfl, hk, hb⟩
  have H6 := H5.out.later hb
  have FW := Bx.mk (And.intro (FV.out.1.later hb) (And.intro (FV.out.2.1.later hb) (And.intro (FV.out.2.2.later hb) hk.key)))
  obtain ⟨kp, rfl⟩ : ∃ kp, vk = .pointer (some ⟨kp, 0, none⟩) := by obtain ⟨p, s, h, -, -⟩ := hk.key; exact ⟨p, h⟩
  obtain ⟨G, hG⟩ : ∃ G, w6.heap.size = G := ⟨_, rfl⟩
  have HG := Bx.mk hG
  have HW : Bx (Below B w w6 ∧ B ≤ G) := Bx.mk (by rw [← hG]; exact ⟨H6.below, H6.le⟩)
  have R0 : Bx (KS w6 G [(D, .cells tbl.toArray 32), (B, .cells #[.int .i64 i, .int .i64 r, .int .i64 x, .int .i64 q] 24)] w6) := Bx.mk ⟨H6.rows, Below.refl _ _, Nat.le_of_eq hG.symm⟩
  clear hk hb H6 H5 FV hG HMake HNw HDz
  go_wp2_with (refine wpList_load_mid rfl 24 _ rfl B 0 (by rfl) [.int .i64 i, .int .i64 r, .int .i64 x, .int .i64 q] _ (row_rng (l := [.int .i64 i, .int .i64 r, .int .i64 x, .int .i64 q]) (R0.out.rows _ (.tail _ (.head _)))) Tryd.underlying24 rfl (by kernel_rfl) ?_)
  refine (HTo.out w6).mono ?_
  rintro e x1 ⟨rfl, hb⟩
  have R1 := Bx.mk (R0.out.later hb)
  clear hb R0
  go_wp2_with fail
  refine (HMk.out x1 _ (FW.out.2.2.2.later (by rw [HG.out]; exact R1.out.below))).mono ?_
  rintro e x2 ⟨rfl, hb⟩
  have R2 := Bx.mk (R1.out.later hb)
  clear hb R1
  obtain ⟨K0, hK0⟩ : ∃ D, x2.heap.size = D := ⟨_, rfl⟩
  have HDK : Bx (B < K0 ∧ D < K0 ∧ G ≤ K0) := Bx.mk (by rw [← hK0]; exact ⟨R2.out.lt (.tail _ (.head _)), R2.out.lt (.head _), R2.out.le⟩)
  have R3 := Bx.mk (R2.out.new (.cells zc 39))
  rw [hK0] at R3
  clear R2
  go_upto_region 6 with (refine wpList_store_new rfl 39 _ _ rfl K0 zc zc _ (by rfl) (by rfl) (R3.out.rows _ (.head _)) rfl HM1.out.1 HM1.out.2 ?_; intro x3 hw8 hr8; have hg8 := Bx.mk (kb_of hw8); have HR8 := Bx.mk hr8; clear hw8 hr8)
  have R4 := Bx.mk (R3.out.set hg8.out HR8.out HDK.out.2.2 (by intro y hy; have h1 := HDK.out; simp at hy; rcases hy with rfl | rfl <;> (simp only; omega)))
  clear R3 hg8 HR8 hK0
  go_wp2_with (refine wpList_load_mid rfl 24 _ rfl B 0 (by rfl) [.int .i64 i, .int .i64 r, .int .i64 x, .int .i64 q] _ (row_rng (l := [.int .i64 i, .int .i64 r, .int .i64 x, .int .i64 q]) (R4.out.rows _ (.tail _ (.tail _ (.head _))))) Tryd.underlying24 rfl (by kernel_rfl) ?_)
  refine (HTo.out x3).mono ?_
  rintro e x4 ⟨rfl, hb⟩
  have R5 := Bx.mk (R4.out.later hb)
  clear hb R4
  go_wp2_with fail
  refine (HMn.out x4).mono ?_
  rintro e x5 ⟨rfl, hb⟩
  have R6 := Bx.mk (R5.out.later hb)
  clear hb R5
  obtain ⟨K1, hK1⟩ : ∃ D, x5.heap.size = D := ⟨_, rfl⟩
  have HDL : Bx (K0 < K1 ∧ G ≤ K1) := Bx.mk (by rw [← hK1]; exact ⟨R6.out.lt (.head _), R6.out.le⟩)
  have R7 := Bx.mk (R6.out.new (.cells zc 39))
  rw [hK1] at R7
  clear R6
  go_upto_region 7 with (refine wpList_store_new rfl 39 _ _ rfl K1 zc zc _ (by rfl) (by rfl) (R7.out.rows _ (.head _)) rfl HM1.out.1 HM1.out.2 ?_; intro x6 hw8 hr8; have hg8 := Bx.mk (kb_of hw8); have HR8 := Bx.mk hr8; clear hw8 hr8)
  have R8 := Bx.mk (R7.out.set hg8.out HR8.out HDL.out.2 (by intro y hy; have h1 := HDK.out; have h2 := HDL.out; simp at hy; rcases hy with rfl | rfl | rfl <;> (simp only; omega))).tail
  clear R7 hg8 HR8 hK1 HDL
  go_wp2_with (refine wpList_load_mid rfl 24 _ rfl B 0 (by rfl) [.int .i64 i, .int .i64 r, .int .i64 x, .int .i64 q] _ (row_rng (l := [.int .i64 i, .int .i64 r, .int .i64 x, .int .i64 q]) (R8.out.rows _ (.tail _ (.tail _ (.head _))))) Tryd.underlying24 rfl (by kernel_rfl) ?_)
  refine (HRi.out x6).mono ?_
  rintro e x7 ⟨rfl, hb⟩
  have R9 := Bx.mk (R8.out.later hb)
  clear hb R8
  go_wp2_with fail
  refine (known6_any x7 (HT.out x7 (HW.out.1.trans (R9.out.below.mono HW.out.2))).1 (HT.out x7 (HW.out.1.trans (R9.out.below.mono HW.out.2))).2).mono ?_
  rintro e x8 ⟨rfl, hb⟩
  have S0 := Bx.mk (R9.out.later hb)
  clear hb R9
  go_wp2_with (first | (refine wpList_load_roww (by rfl) 39 _ rfl K0 (by rfl) _ _ _ _ (S0.out.rows _ (.head _)) Tryd.underlying39 rfl HM1.out.1 ?_) | (refine wpList_buildw (by rfl) 39 _ rfl zc hbz ?_))
  refine (HHo.out x8 _ (FW.out.2.2.2.later (by rw [HG.out]; exact S0.out.below))).mono ?_
  rintro e x9 ⟨rfl, hb⟩
  have S1 := Bx.mk (S0.out.later hb)
  clear hb S0
  go_wp2_with (refine wpList_load_midw (by rfl) 24 _ rfl B 0 (by rfl) [.int .i64 i, .int .i64 r, .int .i64 x, .int .i64 q] _ (row_rng (l := [.int .i64 i, .int .i64 r, .int .i64 x, .int .i64 q]) (S1.out.rows _ (.tail _ (.tail _ (.head _))))) Tryd.underlying24 rfl (by kernel_rfl) ?_)
  refine (HTo.out x9).mono ?_
  rintro e xa ⟨rfl, hb⟩
  have S2 := Bx.mk (S1.out.later hb)
  clear hb S1
  go_wp2_with fail
  refine (HPr.out xa _ _ _ (FW.out.2.2.2.later (by rw [HG.out]; exact S2.out.below))).mono ?_
  rintro e xb ⟨rfl, hb⟩
  have S3 := Bx.mk (S2.out.later hb)
  clear hb S2
  go_wp2
  go_ret
  exact ⟨rfl, (HW.out.1.trans (S3.out.below.mono HW.out.2))⟩
end Go.Proofs.YtiengbmnfbbgoaaDoor
