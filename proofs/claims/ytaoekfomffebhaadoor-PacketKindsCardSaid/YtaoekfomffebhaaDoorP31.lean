/-
  Kinds of packets: the law, kind by kind.
-/
import Derived.Test.YtaoekfomffebhaaDoorP30
namespace Go.Proofs.YtaoekfomffebhaaDoor
open Go Go.ChangeShapes Go.WideShapes Go.ChangeAt Go.RowKit
set_option maxRecDepth 100000 in
set_option maxHeartbeats 4000000 in
theorem armN1 (a0 : Option Addr) (n0 c0 : Nat) (l : List Pk) (w : World) (hp : PksR w (.slice a0 n0 c0) l) (hl : l.length ≤ 9223372036854775807) (hWd : WordsAtP w) :
    Calls Tryd.prog 5 #[.int .i64 1, (.slice a0 n0 c0)] w fun e w' => e = .returned (.bool true) ∧ Below w.heap.size w w' := by
  have hnl : n0 = l.length := by
    obtain ⟨a', c', hv, -⟩ := hp.form
    injection hv with e1 e2 e3
  obtain ⟨m, hm⟩ : ∃ m, m = min n0 20 := ⟨_, rfl⟩
  have HM : Bx (m ≤ 20) := Bx.mk (by omega)
  have HP := Bx.mk fun (inb : Bool) (s : Value) (V : Nat) (Q : Exit → Act → World → Prop) (a : Act) (wr : World) => loopPK w 1 inb s V l a0 n0 c0 hp m hm Q a wr
  have HWd := Bx.mk hWd
  obtain ⟨B, hB⟩ : ∃ B, w.heap.size = B := ⟨_, rfl⟩
  have K0 := Bx.mk (KP.start w B hB)
  obtain ⟨zr, hzr⟩ : ∃ z, (i64s z15).toArray = z := ⟨_, rfl⟩
  have hzv : ∀ W : World, (zeroValue 62).run Tryd.prog W = .ok (.agg zr) W := fun W => by rw [← hzr]; exact zero15 W
  have HR : Bx ((w.alloc (.cells ((List.replicate 15 []).map wordVP).toArray 60)).heap[B]? = some (.cells ((List.replicate 15 []).map wordVP).toArray 60 (0, 0))) := Bx.mk (hnew _ _ _ hB.symm)
  have HI := Bx.mk (infoS15 (wordsPk.map wordVP).toArray.size rfl)
  have HO : Bx ((wordsPk.map wordVP).toArray.all (·.oneCell') = true) := Bx.mk (by kernel_rfl)
  have HSz : Bx ((wordsPk.map wordVP).toArray.size = ((List.replicate 15 []).map wordVP).toArray.size) := Bx.mk rfl
  have HZR := Bx.mk hzr
  obtain ⟨sa, hsa⟩ : ∃ s : Array UInt8, (wordsPk.getD 1 []).toArray = s := ⟨_, rfl⟩
  have HCw : Bx (∀ W : World, W.heap[B]? = some (.cells (wordsPk.map wordVP).toArray 60 (0, 0)) → W.cell? ⟨B, 1, none⟩ = some (.string ⟨sa⟩)) := Bx.mk fun W h => by
    rw [cell_of_row _ _ _ _ _ _ h, List.getElem?_toArray, words_get 1 (by omega)]
    unfold wordVP
    rw [hsa]
  have HWo : Bx (∀ W, WordsAtP W → Calls Tryd.prog 19 #[.int .i64 1] W fun e w' => e = .returned (.string ⟨sa⟩) ∧ Below W.heap.size W w') := Bx.mk fun W h => (word14 1 W h).mono fun e w' h9 => ⟨by
    rw [h9.1]
    rw [if_pos (by kernel_rfl), show Int.toNat 1 = 1 from rfl]
    unfold wordVP
    rw [hsa], by rw [← h9.2]; exact Below.refl _ _⟩
  have HPl : Bx (∀ W : World, Calls Tryd.prog 20 #[.int .i64 1] W fun e w' => e = .returned (.bool true) ∧ Below W.heap.size W w') := Bx.mk fun W => (plain14 1 true (by kernel_rfl) W).mono fun e w' h9 => ⟨h9.1, by rw [← h9.2]; exact Below.refl _ _⟩
  have HSd : Bx (∀ W : World, Calls Tryd.prog 21 #[.int .i64 1] W fun e w' => e = .returned (.bool true) ∧ Below W.heap.size W w') := Bx.mk fun W => (seeds14 1 W).mono fun e w' h9 => ⟨by
    rw [h9.1, show seedB 1 = true by kernel_rfl], by rw [← h9.2]; exact Below.refl _ _⟩
  clear hp hl hWd hnl hm hzr hsa
  go_enter Tryd.func5, Tryd.ntmps5
  go_upto_region 1 with fail
  go_upto_region 2 with (refine wpList_store_new rfl 60 _ _ rfl B (wordsPk.map wordVP).toArray _ _ (by rfl) (by rfl) HR.out HSz.out HI.out HO.out ?_; intro w2 hw8 hr8; have hcw := HCw.out w2 hr8; have F9 := Bx.mk (K0.out.fresh hB (kb_ofP hw8) hr8); clear hw8 hr8)
  clear HR HI HO HSz K0
  go_wp2_with fail
  skip -- M1
  obtain ⟨V, hV⟩ : ∃ V, w2.heap.size = V := ⟨_, rfl⟩
  have L0 : Bx (LK w V l 0 (.slice none 0 0) [] (w2.alloc (.cells zr 62))) := Bx.mk ⟨by rw [show cntK ((klK l).take 0) = z15 from rfl, HZR.out]; exact hnew _ _ _ hV.symm, OwnK.nil _ _, rfl, by have h1 := F9.out.1.below; rw [hB]; exact h1.trans ((below_a (W := w2) _).mono F9.out.1.le), by have h1 := F9.out.1.below.size; omega⟩
  rw [hV]
  refine HP.out true (.string ⟨sa⟩) V _ _ _ ⟨⟨⟨rfl, rfl⟩, rfl, rfl, rfl, rfl, rfl⟩, rfl, _, _, rfl, L0.out⟩ ?_
  intro a6 w6 xv le hf h8 hL
  have R := Bx.mk (ZK.mk hL (HWd.out.later hL.below))
  obtain ⟨y, rfl, hy⟩ := open115 hf.fr
  have e0 := (hy 0).symm.trans hf.s0
  have e1 := (hy 1).symm.trans hf.s1
  have e6 := (hy 6).symm.trans hf.s6
  have e7 := (hy 7).symm.trans hf.s7
  have e8 := (hy 8).symm.trans h8
  have e9 := (hy 9).symm.trans hf.s9
  clear hf hy h8 hL HP L0 F9 hV hzv hcw HCw
  rw [e0, e1, e6, e7, e8, e9]
  clear e0 e1 e6 e7 e8 e9
  have HKi : Bx (∀ W, ZK w V l m xv le W → Calls Tryd.prog 22 #[xv] W fun e w' => e = .returned (.agg (i64s (cntK ((klK l).take m))).toArray) ∧ Below W.heap.size W w') := Bx.mk fun W h => by
    have h9 := congrArg List.length h.lk.ks
    unfold ksK at h9
    rw [List.length_map, List.length_take] at h9
    have h10 := kinds14 (V + 1) xv le W h.lk.own (by have := HM.out; omega)
    rw [h.lk.ks] at h10
    exact h10
  have HSS : Bx (∀ W, ZK w V l m xv le W → W.rangeAt V 0 (i64s (cntK ((klK l).take m)))) := Bx.mk fun W h => row_rngP h.lk.want
  have HEq : Bx (∀ W : World, (Op.equalIn 10000 62 (.agg (i64s (cntK ((klK l).take m))).toArray) (.agg (i64s (cntK ((klK l).take m))).toArray)).run Tryd.prog W = .ok true W) := Bx.mk fun W => by
    have h := equalIn_ints14 (P := Tryd.prog) W 9998 62 3 15 Tryd.underlying62 Tryd.underlying3 (fun _ => by kernel_rfl) (cntK ((klK l).take m)) (cntK ((klK l).take m)) (cntK_len _) (cntK_len _)
    rw [i64s_14]
    rw [beq_self_eq_true] at h
    exact h
  have HIt : Bx ((Tryd.prog.info? 62).map (·.size) = some (i64s (cntK ((klK l).take m))).length) := Bx.mk (info15 _ (by unfold i64s; rw [List.length_map]; exact cntK_len _))
  generalize i64s (cntK ((klK l).take m)) = tw at *
  skip -- M2
  go_upto_region 16 with fail
  skip -- M3
  have R0 := Bx.mk (R.out.later (Below.refl _ _).drew)
  clear R
  refine wp_region_noPanic ?_
  refine wp_region_held_drew (S := fun W => W.rangeAt V 0 tw) (by kernel_rfl) (HSS.out _ R0.out) (fun hHeld => ?_)
  generalize w6.drew = W0 at *
  refine stepL 0 (by kernel_rfl) rfl (fun K hK => ?_)
  go_simp
  refine (known14_any W0).mono ?_
  rintro e W1 ⟨rfl, hb⟩
  show K _ _
  have R1 := Bx.mk (R0.out.later hb)
  clear hb R0
  refine hK.out _ _ (HSS.out _ R1.out) (fun hHeld => ?_)
  clear hK K
  try simp only [Act.put, List.setIfInBounds_toArray, List.set_cons_zero, List.set_cons_succ]
  refine takeL 1 (v := ?_) rfl (by kernel_rfl) (by kernel_rfl) (by kernel_rfl) (fun _ _ _ h => h) (Or.inl ⟨by rfl, ?_⟩) hHeld ?_
  rotate_left 1
  · (intro w hSw; go_simp; try with_reducible rfl)
  try simp only [Act.put, List.setIfInBounds_toArray, List.set_cons_zero, List.set_cons_succ]
  refine takeL 2 (v := ?_) rfl (by kernel_rfl) (by kernel_rfl) (by kernel_rfl) (fun _ _ _ h => h) (Or.inl ⟨by rfl, ?_⟩) hHeld ?_
  rotate_left 1
  · (intro w hSw; go_simp; try with_reducible rfl)
  try simp only [Act.put, List.setIfInBounds_toArray, List.set_cons_zero, List.set_cons_succ]
  refine takeL 4 (v := ?_) rfl (by kernel_rfl) (by kernel_rfl) (by kernel_rfl) (fun _ _ _ h => h) (Or.inl ⟨by rfl, ?_⟩) hHeld ?_
  rotate_left 1
  · (intro w hSw; go_simp; try with_reducible rfl)
  try simp only [Act.put, List.setIfInBounds_toArray, List.set_cons_zero, List.set_cons_succ]
  refine stepL 3 (by kernel_rfl) rfl (fun K hK => ?_)
  go_simp
  refine (HWo.out W1 R1.out.wd).mono ?_
  rintro e W2 ⟨rfl, hb⟩
  show K _ _
  have R2 := Bx.mk (R1.out.later hb)
  clear hb R1
  refine hK.out _ _ (HSS.out _ R2.out) (fun hHeld => ?_)
  clear hK K
  try simp only [Act.put, List.setIfInBounds_toArray, List.set_cons_zero, List.set_cons_succ]
  refine takeL 5 (v := ?_) rfl (by kernel_rfl) (by kernel_rfl) (by kernel_rfl) (fun _ _ _ h => h) (Or.inl ⟨by rfl, ?_⟩) hHeld ?_
  rotate_left 1
  · (intro w hSw; go_simp; try with_reducible rfl)
  try simp only [Act.put, List.setIfInBounds_toArray, List.set_cons_zero, List.set_cons_succ]
  refine takeL 6 (v := ?_) rfl (by kernel_rfl) (by kernel_rfl) (by kernel_rfl) (fun _ _ _ h => h) (Or.inl ⟨by rfl, ?_⟩) hHeld ?_
  rotate_left 1
  · (intro w hSw; go_simp; try with_reducible rfl)
  try simp only [Act.put, List.setIfInBounds_toArray, List.set_cons_zero, List.set_cons_succ]
  refine takeL 7 (v := ?_) rfl (by kernel_rfl) (by kernel_rfl) (by kernel_rfl) (fun _ _ _ h => h) (Or.inl ⟨by rfl, ?_⟩) hHeld ?_
  rotate_left 1
  · (intro w hSw; go_simp; try with_reducible rfl)
  try simp only [Act.put, List.setIfInBounds_toArray, List.set_cons_zero, List.set_cons_succ]
  refine takeL 8 (v := ?_) rfl (by kernel_rfl) (by kernel_rfl) (by kernel_rfl) (fun _ _ _ h => h) (Or.inl ⟨by rfl, ?_⟩) hHeld ?_
  rotate_left 1
  · (intro w hSw; go_simp; try with_reducible rfl)
  try simp only [Act.put, List.setIfInBounds_toArray, List.set_cons_zero, List.set_cons_succ]
  refine takeL 10 (v := ?_) rfl (by kernel_rfl) (by kernel_rfl) (by kernel_rfl) (fun _ _ _ h => h) (Or.inl ⟨by rfl, ?_⟩) hHeld ?_
  rotate_left 1
  · (intro w hSw; go_simp; try with_reducible rfl)
  try simp only [Act.put, List.setIfInBounds_toArray, List.set_cons_zero, List.set_cons_succ]
  refine takeL 11 (v := ?_) rfl (by kernel_rfl) (by kernel_rfl) (by kernel_rfl) (fun _ _ _ h => h) (Or.inl ⟨by rfl, ?_⟩) hHeld ?_
  rotate_left 1
  · (intro w hSw; go_simp; try with_reducible rfl)
  try simp only [Act.put, List.setIfInBounds_toArray, List.set_cons_zero, List.set_cons_succ]
  refine stepL 9 (by kernel_rfl) rfl (fun K hK => ?_)
  go_simp
  refine (HPl.out W2).mono ?_
  rintro e W3 ⟨rfl, hb⟩
  show K _ _
  have R3 := Bx.mk (R2.out.later hb)
  clear hb R2
  refine hK.out _ _ (HSS.out _ R3.out) (fun hHeld => ?_)
  clear hK K
  try simp only [Act.put, List.setIfInBounds_toArray, List.set_cons_zero, List.set_cons_succ]
  refine takeL 12 (v := ?_) rfl (by kernel_rfl) (by kernel_rfl) (by kernel_rfl) (fun _ _ _ h => h) (Or.inl ⟨by rfl, ?_⟩) hHeld ?_
  rotate_left 1
  · (intro w hSw; go_simp; try with_reducible rfl)
  try simp only [Act.put, List.setIfInBounds_toArray, List.set_cons_zero, List.set_cons_succ]
  refine takeL 13 (v := undef) rfl (by kernel_rfl) (by kernel_rfl) (by kernel_rfl) (fun _ _ _ h => h) (Or.inr ⟨by rfl, rfl⟩) hHeld ?_
  try simp only [Act.put, List.setIfInBounds_toArray, List.set_cons_zero, List.set_cons_succ]
  refine takeL 14 (v := undef) rfl (by kernel_rfl) (by kernel_rfl) (by kernel_rfl) (fun _ _ _ h => h) (Or.inr ⟨by rfl, rfl⟩) hHeld ?_
  try simp only [Act.put, List.setIfInBounds_toArray, List.set_cons_zero, List.set_cons_succ]
  refine takeL 15 (v := ?_) rfl (by kernel_rfl) (by kernel_rfl) (by kernel_rfl) (fun _ _ _ h => h) (Or.inl ⟨by rfl, ?_⟩) hHeld ?_
  rotate_left 1
  · (intro w hSw; go_simp; try with_reducible rfl)
  try simp only [Act.put, List.setIfInBounds_toArray, List.set_cons_zero, List.set_cons_succ]
  refine takeL 16 (v := ?_) rfl (by kernel_rfl) (by kernel_rfl) (by kernel_rfl) (fun _ _ _ h => h) (Or.inl ⟨by rfl, ?_⟩) hHeld ?_
  rotate_left 1
  · (intro w hSw; go_simp; try with_reducible rfl)
  try simp only [Act.put, List.setIfInBounds_toArray, List.set_cons_zero, List.set_cons_succ]
  refine takeL 17 (v := ?_) rfl (by kernel_rfl) (by kernel_rfl) (by kernel_rfl) (fun _ _ _ h => h) (Or.inl ⟨by rfl, ?_⟩) hHeld ?_
  rotate_left 1
  · (intro w hSw; go_simp; try with_reducible rfl)
  try simp only [Act.put, List.setIfInBounds_toArray, List.set_cons_zero, List.set_cons_succ]
  refine takeL 18 (v := ?_) rfl (by kernel_rfl) (by kernel_rfl) (by kernel_rfl) (fun _ _ _ h => h) (Or.inl ⟨by rfl, ?_⟩) hHeld ?_
  rotate_left 1
  · (intro w hSw; go_simp; try with_reducible rfl)
  try simp only [Act.put, List.setIfInBounds_toArray, List.set_cons_zero, List.set_cons_succ]
  refine takeL 19 (v := ?_) rfl (by kernel_rfl) (by kernel_rfl) (by kernel_rfl) (fun _ _ _ h => h) (Or.inl ⟨by rfl, ?_⟩) hHeld ?_
  rotate_left 1
  · (intro w hSw; go_simp; try with_reducible rfl)
  try simp only [Act.put, List.setIfInBounds_toArray, List.set_cons_zero, List.set_cons_succ]
  refine takeL 21 (v := ?_) rfl (by kernel_rfl) (by kernel_rfl) (by kernel_rfl) (fun _ _ _ h => h) (Or.inl ⟨by rfl, ?_⟩) hHeld ?_
  rotate_left 1
  · (intro w hSw; go_simp; try with_reducible rfl)
  try simp only [Act.put, List.setIfInBounds_toArray, List.set_cons_zero, List.set_cons_succ]
  refine stepL 20 (by kernel_rfl) rfl (fun K hK => ?_)
  go_simp
  refine (HSd.out W3).mono ?_
  rintro e W4 ⟨rfl, hb⟩
  show K _ _
  have R4 := Bx.mk (R3.out.later hb)
  clear hb R3
  refine hK.out _ _ (HSS.out _ R4.out) (fun hHeld => ?_)
  clear hK K
  try simp only [Act.put, List.setIfInBounds_toArray, List.set_cons_zero, List.set_cons_succ]
  refine takeL 22 (v := ?_) rfl (by kernel_rfl) (by kernel_rfl) (by kernel_rfl) (fun _ _ _ h => h) (Or.inl ⟨by rfl, ?_⟩) hHeld ?_
  rotate_left 1
  · (intro w hSw; go_simp; try with_reducible rfl)
  try simp only [Act.put, List.setIfInBounds_toArray, List.set_cons_zero, List.set_cons_succ]
  refine takeL 23 (v := ?_) rfl (by kernel_rfl) (by kernel_rfl) (by kernel_rfl) (fun _ _ _ h => h) (Or.inl ⟨by rfl, ?_⟩) hHeld ?_
  rotate_left 1
  · (intro w hSw; go_simp; try with_reducible rfl)
  try simp only [Act.put, List.setIfInBounds_toArray, List.set_cons_zero, List.set_cons_succ]
  refine takeL 24 (v := ?_) rfl (by kernel_rfl) (by kernel_rfl) (by kernel_rfl) (fun _ _ _ h => h) (Or.inl ⟨by rfl, ?_⟩) hHeld ?_
  rotate_left 1
  · (intro w hSw; go_simp; try with_reducible rfl)
  try simp only [Act.put, List.setIfInBounds_toArray, List.set_cons_zero, List.set_cons_succ]
  refine takeL 25 (v := ?_) rfl (by kernel_rfl) (by kernel_rfl) (by kernel_rfl) (fun _ _ _ h => h) (Or.inl ⟨by rfl, ?_⟩) hHeld ?_
  rotate_left 1
  · (intro w hSw; go_simp; try with_reducible rfl)
  try simp only [Act.put, List.setIfInBounds_toArray, List.set_cons_zero, List.set_cons_succ]
  refine takeL 27 rfl (by kernel_rfl) (by kernel_rfl) (by kernel_rfl) (fun _ _ _ h => h) (yieldsIf_load_mid (by rfl) _ _ rfl _ _ rfl _ _ (fun w hSw => hSw) Tryd.underlying62 rfl HIt.out) hHeld ?_
  try simp only [Act.put, List.setIfInBounds_toArray, List.set_cons_zero, List.set_cons_succ]
  refine stepL 26 (by kernel_rfl) rfl (fun K hK => ?_)
  go_simp
  refine (HKi.out W4 R4.out).mono ?_
  rintro e W5 ⟨rfl, hb⟩
  show K _ _
  have R5 := Bx.mk (R4.out.later hb)
  clear hb R4
  refine hK.out _ _ (HSS.out _ R5.out) (fun hHeld => ?_)
  clear hK K
  try simp only [Act.put, List.setIfInBounds_toArray, List.set_cons_zero, List.set_cons_succ]
  refine takeL 28 (v := ?_) rfl (by kernel_rfl) (by kernel_rfl) (by kernel_rfl) (fun _ _ _ h => h) (Or.inl ⟨by rfl, ?_⟩) hHeld ?_
  rotate_left 1
  · (intro w hSw; have q := HEq.out w; clear hSw; go_simp; try with_reducible rfl)
  try simp only [Act.put, List.setIfInBounds_toArray, List.set_cons_zero, List.set_cons_succ]
  refine takeL 29 (v := ?_) rfl (by kernel_rfl) (by kernel_rfl) (by kernel_rfl) (fun _ _ _ h => h) (Or.inl ⟨by rfl, ?_⟩) hHeld ?_
  rotate_left 1
  · (intro w hSw; go_simp; try with_reducible rfl)
  try simp only [Act.put, List.setIfInBounds_toArray, List.set_cons_zero, List.set_cons_succ]
  refine takeL 30 (v := ?_) rfl (by kernel_rfl) (by kernel_rfl) (by kernel_rfl) (fun _ _ _ h => h) (Or.inl ⟨by rfl, ?_⟩) hHeld ?_
  rotate_left 1
  · (intro w hSw; go_simp; try with_reducible rfl)
  try simp only [Act.put, List.setIfInBounds_toArray, List.set_cons_zero, List.set_cons_succ]
  refine wpAnyH_done (by kernel_rfl) ?_ _
  refine NoPanic.normal ?_
  clear hHeld
  try go_wp2
  go_ret
  exact ⟨rfl, R5.out.lk.below⟩
set_option maxRecDepth 100000 in
set_option maxHeartbeats 4000000 in
theorem armN2 (a0 : Option Addr) (n0 c0 : Nat) (l : List Pk) (w : World) (hp : PksR w (.slice a0 n0 c0) l) (hl : l.length ≤ 9223372036854775807) (hWd : WordsAtP w) :
    Calls Tryd.prog 5 #[.int .i64 2, (.slice a0 n0 c0)] w fun e w' => e = .returned (.bool true) ∧ Below w.heap.size w w' := by
  have hnl : n0 = l.length := by
    obtain ⟨a', c', hv, -⟩ := hp.form
    injection hv with e1 e2 e3
  obtain ⟨m, hm⟩ : ∃ m, m = min n0 20 := ⟨_, rfl⟩
  have HM : Bx (m ≤ 20) := Bx.mk (by omega)
  have HP := Bx.mk fun (inb : Bool) (s : Value) (V : Nat) (Q : Exit → Act → World → Prop) (a : Act) (wr : World) => loopPK w 2 inb s V l a0 n0 c0 hp m hm Q a wr
  have HWd := Bx.mk hWd
  obtain ⟨B, hB⟩ : ∃ B, w.heap.size = B := ⟨_, rfl⟩
  have K0 := Bx.mk (KP.start w B hB)
  obtain ⟨zr, hzr⟩ : ∃ z, (i64s z15).toArray = z := ⟨_, rfl⟩
  have hzv : ∀ W : World, (zeroValue 62).run Tryd.prog W = .ok (.agg zr) W := fun W => by rw [← hzr]; exact zero15 W
  have HR : Bx ((w.alloc (.cells ((List.replicate 15 []).map wordVP).toArray 60)).heap[B]? = some (.cells ((List.replicate 15 []).map wordVP).toArray 60 (0, 0))) := Bx.mk (hnew _ _ _ hB.symm)
  have HI := Bx.mk (infoS15 (wordsPk.map wordVP).toArray.size rfl)
  have HO : Bx ((wordsPk.map wordVP).toArray.all (·.oneCell') = true) := Bx.mk (by kernel_rfl)
  have HSz : Bx ((wordsPk.map wordVP).toArray.size = ((List.replicate 15 []).map wordVP).toArray.size) := Bx.mk rfl
  have HZR := Bx.mk hzr
  obtain ⟨sa, hsa⟩ : ∃ s : Array UInt8, (wordsPk.getD 2 []).toArray = s := ⟨_, rfl⟩
  have HCw : Bx (∀ W : World, W.heap[B]? = some (.cells (wordsPk.map wordVP).toArray 60 (0, 0)) → W.cell? ⟨B, 2, none⟩ = some (.string ⟨sa⟩)) := Bx.mk fun W h => by
    rw [cell_of_row _ _ _ _ _ _ h, List.getElem?_toArray, words_get 2 (by omega)]
    unfold wordVP
    rw [hsa]
  have HWo : Bx (∀ W, WordsAtP W → Calls Tryd.prog 19 #[.int .i64 2] W fun e w' => e = .returned (.string ⟨sa⟩) ∧ Below W.heap.size W w') := Bx.mk fun W h => (word14 2 W h).mono fun e w' h9 => ⟨by
    rw [h9.1]
    rw [if_pos (by kernel_rfl), show Int.toNat 2 = 2 from rfl]
    unfold wordVP
    rw [hsa], by rw [← h9.2]; exact Below.refl _ _⟩
  have HPl : Bx (∀ W : World, Calls Tryd.prog 20 #[.int .i64 2] W fun e w' => e = .returned (.bool true) ∧ Below W.heap.size W w') := Bx.mk fun W => (plain14 2 true (by kernel_rfl) W).mono fun e w' h9 => ⟨h9.1, by rw [← h9.2]; exact Below.refl _ _⟩
  have HSd : Bx (∀ W : World, Calls Tryd.prog 21 #[.int .i64 2] W fun e w' => e = .returned (.bool true) ∧ Below W.heap.size W w') := Bx.mk fun W => (seeds14 2 W).mono fun e w' h9 => ⟨by
    rw [h9.1, show seedB 2 = true by kernel_rfl], by rw [← h9.2]; exact Below.refl _ _⟩
  clear hp hl hWd hnl hm hzr hsa
  go_enter Tryd.func5, Tryd.ntmps5
  go_upto_region 1 with fail
  go_upto_region 2 with (refine wpList_store_new rfl 60 _ _ rfl B (wordsPk.map wordVP).toArray _ _ (by rfl) (by rfl) HR.out HSz.out HI.out HO.out ?_; intro w2 hw8 hr8; have hcw := HCw.out w2 hr8; have F9 := Bx.mk (K0.out.fresh hB (kb_ofP hw8) hr8); clear hw8 hr8)
  clear HR HI HO HSz K0
  go_wp2_with fail
  skip -- M1
  obtain ⟨V, hV⟩ : ∃ V, w2.heap.size = V := ⟨_, rfl⟩
  have L0 : Bx (LK w V l 0 (.slice none 0 0) [] (w2.alloc (.cells zr 62))) := Bx.mk ⟨by rw [show cntK ((klK l).take 0) = z15 from rfl, HZR.out]; exact hnew _ _ _ hV.symm, OwnK.nil _ _, rfl, by have h1 := F9.out.1.below; rw [hB]; exact h1.trans ((below_a (W := w2) _).mono F9.out.1.le), by have h1 := F9.out.1.below.size; omega⟩
  rw [hV]
  refine HP.out true (.string ⟨sa⟩) V _ _ _ ⟨⟨⟨rfl, rfl⟩, rfl, rfl, rfl, rfl, rfl⟩, rfl, _, _, rfl, L0.out⟩ ?_
  intro a6 w6 xv le hf h8 hL
  have R := Bx.mk (ZK.mk hL (HWd.out.later hL.below))
  obtain ⟨y, rfl, hy⟩ := open115 hf.fr
  have e0 := (hy 0).symm.trans hf.s0
  have e1 := (hy 1).symm.trans hf.s1
  have e6 := (hy 6).symm.trans hf.s6
  have e7 := (hy 7).symm.trans hf.s7
  have e8 := (hy 8).symm.trans h8
  have e9 := (hy 9).symm.trans hf.s9
  clear hf hy h8 hL HP L0 F9 hV hzv hcw HCw
  rw [e0, e1, e6, e7, e8, e9]
  clear e0 e1 e6 e7 e8 e9
  have HKi : Bx (∀ W, ZK w V l m xv le W → Calls Tryd.prog 22 #[xv] W fun e w' => e = .returned (.agg (i64s (cntK ((klK l).take m))).toArray) ∧ Below W.heap.size W w') := Bx.mk fun W h => by
    have h9 := congrArg List.length h.lk.ks
    unfold ksK at h9
    rw [List.length_map, List.length_take] at h9
    have h10 := kinds14 (V + 1) xv le W h.lk.own (by have := HM.out; omega)
    rw [h.lk.ks] at h10
    exact h10
  have HSS : Bx (∀ W, ZK w V l m xv le W → W.rangeAt V 0 (i64s (cntK ((klK l).take m)))) := Bx.mk fun W h => row_rngP h.lk.want
  have HEq : Bx (∀ W : World, (Op.equalIn 10000 62 (.agg (i64s (cntK ((klK l).take m))).toArray) (.agg (i64s (cntK ((klK l).take m))).toArray)).run Tryd.prog W = .ok true W) := Bx.mk fun W => by
    have h := equalIn_ints14 (P := Tryd.prog) W 9998 62 3 15 Tryd.underlying62 Tryd.underlying3 (fun _ => by kernel_rfl) (cntK ((klK l).take m)) (cntK ((klK l).take m)) (cntK_len _) (cntK_len _)
    rw [i64s_14]
    rw [beq_self_eq_true] at h
    exact h
  have HIt : Bx ((Tryd.prog.info? 62).map (·.size) = some (i64s (cntK ((klK l).take m))).length) := Bx.mk (info15 _ (by unfold i64s; rw [List.length_map]; exact cntK_len _))
  generalize i64s (cntK ((klK l).take m)) = tw at *
  skip -- M2
  go_upto_region 16 with fail
  skip -- M3
  have R0 := Bx.mk (R.out.later (Below.refl _ _).drew)
  clear R
  refine wp_region_noPanic ?_
  refine wp_region_held_drew (S := fun W => W.rangeAt V 0 tw) (by kernel_rfl) (HSS.out _ R0.out) (fun hHeld => ?_)
  generalize w6.drew = W0 at *
  refine stepL 0 (by kernel_rfl) rfl (fun K hK => ?_)
  go_simp
  refine (known14_any W0).mono ?_
  rintro e W1 ⟨rfl, hb⟩
  show K _ _
  have R1 := Bx.mk (R0.out.later hb)
  clear hb R0
  refine hK.out _ _ (HSS.out _ R1.out) (fun hHeld => ?_)
  clear hK K
  try simp only [Act.put, List.setIfInBounds_toArray, List.set_cons_zero, List.set_cons_succ]
  refine takeL 1 (v := ?_) rfl (by kernel_rfl) (by kernel_rfl) (by kernel_rfl) (fun _ _ _ h => h) (Or.inl ⟨by rfl, ?_⟩) hHeld ?_
  rotate_left 1
  · (intro w hSw; go_simp; try with_reducible rfl)
  try simp only [Act.put, List.setIfInBounds_toArray, List.set_cons_zero, List.set_cons_succ]
  refine takeL 2 (v := ?_) rfl (by kernel_rfl) (by kernel_rfl) (by kernel_rfl) (fun _ _ _ h => h) (Or.inl ⟨by rfl, ?_⟩) hHeld ?_
  rotate_left 1
  · (intro w hSw; go_simp; try with_reducible rfl)
  try simp only [Act.put, List.setIfInBounds_toArray, List.set_cons_zero, List.set_cons_succ]
  refine takeL 4 (v := ?_) rfl (by kernel_rfl) (by kernel_rfl) (by kernel_rfl) (fun _ _ _ h => h) (Or.inl ⟨by rfl, ?_⟩) hHeld ?_
  rotate_left 1
  · (intro w hSw; go_simp; try with_reducible rfl)
  try simp only [Act.put, List.setIfInBounds_toArray, List.set_cons_zero, List.set_cons_succ]
  refine stepL 3 (by kernel_rfl) rfl (fun K hK => ?_)
  go_simp
  refine (HWo.out W1 R1.out.wd).mono ?_
  rintro e W2 ⟨rfl, hb⟩
  show K _ _
  have R2 := Bx.mk (R1.out.later hb)
  clear hb R1
  refine hK.out _ _ (HSS.out _ R2.out) (fun hHeld => ?_)
  clear hK K
  try simp only [Act.put, List.setIfInBounds_toArray, List.set_cons_zero, List.set_cons_succ]
  refine takeL 5 (v := ?_) rfl (by kernel_rfl) (by kernel_rfl) (by kernel_rfl) (fun _ _ _ h => h) (Or.inl ⟨by rfl, ?_⟩) hHeld ?_
  rotate_left 1
  · (intro w hSw; go_simp; try with_reducible rfl)
  try simp only [Act.put, List.setIfInBounds_toArray, List.set_cons_zero, List.set_cons_succ]
  refine takeL 6 (v := ?_) rfl (by kernel_rfl) (by kernel_rfl) (by kernel_rfl) (fun _ _ _ h => h) (Or.inl ⟨by rfl, ?_⟩) hHeld ?_
  rotate_left 1
  · (intro w hSw; go_simp; try with_reducible rfl)
  try simp only [Act.put, List.setIfInBounds_toArray, List.set_cons_zero, List.set_cons_succ]
  refine takeL 7 (v := ?_) rfl (by kernel_rfl) (by kernel_rfl) (by kernel_rfl) (fun _ _ _ h => h) (Or.inl ⟨by rfl, ?_⟩) hHeld ?_
  rotate_left 1
  · (intro w hSw; go_simp; try with_reducible rfl)
  try simp only [Act.put, List.setIfInBounds_toArray, List.set_cons_zero, List.set_cons_succ]
  refine takeL 8 (v := ?_) rfl (by kernel_rfl) (by kernel_rfl) (by kernel_rfl) (fun _ _ _ h => h) (Or.inl ⟨by rfl, ?_⟩) hHeld ?_
  rotate_left 1
  · (intro w hSw; go_simp; try with_reducible rfl)
  try simp only [Act.put, List.setIfInBounds_toArray, List.set_cons_zero, List.set_cons_succ]
  refine takeL 10 (v := ?_) rfl (by kernel_rfl) (by kernel_rfl) (by kernel_rfl) (fun _ _ _ h => h) (Or.inl ⟨by rfl, ?_⟩) hHeld ?_
  rotate_left 1
  · (intro w hSw; go_simp; try with_reducible rfl)
  try simp only [Act.put, List.setIfInBounds_toArray, List.set_cons_zero, List.set_cons_succ]
  refine takeL 11 (v := ?_) rfl (by kernel_rfl) (by kernel_rfl) (by kernel_rfl) (fun _ _ _ h => h) (Or.inl ⟨by rfl, ?_⟩) hHeld ?_
  rotate_left 1
  · (intro w hSw; go_simp; try with_reducible rfl)
  try simp only [Act.put, List.setIfInBounds_toArray, List.set_cons_zero, List.set_cons_succ]
  refine stepL 9 (by kernel_rfl) rfl (fun K hK => ?_)
  go_simp
  refine (HPl.out W2).mono ?_
  rintro e W3 ⟨rfl, hb⟩
  show K _ _
  have R3 := Bx.mk (R2.out.later hb)
  clear hb R2
  refine hK.out _ _ (HSS.out _ R3.out) (fun hHeld => ?_)
  clear hK K
  try simp only [Act.put, List.setIfInBounds_toArray, List.set_cons_zero, List.set_cons_succ]
  refine takeL 12 (v := ?_) rfl (by kernel_rfl) (by kernel_rfl) (by kernel_rfl) (fun _ _ _ h => h) (Or.inl ⟨by rfl, ?_⟩) hHeld ?_
  rotate_left 1
  · (intro w hSw; go_simp; try with_reducible rfl)
  try simp only [Act.put, List.setIfInBounds_toArray, List.set_cons_zero, List.set_cons_succ]
  refine takeL 13 (v := ?_) rfl (by kernel_rfl) (by kernel_rfl) (by kernel_rfl) (fun _ _ _ h => h) (Or.inl ⟨by rfl, ?_⟩) hHeld ?_
  rotate_left 1
  · (intro w hSw; go_simp; try with_reducible rfl)
  try simp only [Act.put, List.setIfInBounds_toArray, List.set_cons_zero, List.set_cons_succ]
  refine takeL 14 (v := ?_) rfl (by kernel_rfl) (by kernel_rfl) (by kernel_rfl) (fun _ _ _ h => h) (Or.inl ⟨by rfl, ?_⟩) hHeld ?_
  rotate_left 1
  · (intro w hSw; go_simp; try with_reducible rfl)
  try simp only [Act.put, List.setIfInBounds_toArray, List.set_cons_zero, List.set_cons_succ]
  refine takeL 15 (v := ?_) rfl (by kernel_rfl) (by kernel_rfl) (by kernel_rfl) (fun _ _ _ h => h) (Or.inl ⟨by rfl, ?_⟩) hHeld ?_
  rotate_left 1
  · (intro w hSw; go_simp; try with_reducible rfl)
  try simp only [Act.put, List.setIfInBounds_toArray, List.set_cons_zero, List.set_cons_succ]
  refine takeL 16 (v := ?_) rfl (by kernel_rfl) (by kernel_rfl) (by kernel_rfl) (fun _ _ _ h => h) (Or.inl ⟨by rfl, ?_⟩) hHeld ?_
  rotate_left 1
  · (intro w hSw; go_simp; try with_reducible rfl)
  try simp only [Act.put, List.setIfInBounds_toArray, List.set_cons_zero, List.set_cons_succ]
  refine takeL 17 (v := ?_) rfl (by kernel_rfl) (by kernel_rfl) (by kernel_rfl) (fun _ _ _ h => h) (Or.inl ⟨by rfl, ?_⟩) hHeld ?_
  rotate_left 1
  · (intro w hSw; go_simp; try with_reducible rfl)
  try simp only [Act.put, List.setIfInBounds_toArray, List.set_cons_zero, List.set_cons_succ]
  refine takeL 18 (v := ?_) rfl (by kernel_rfl) (by kernel_rfl) (by kernel_rfl) (fun _ _ _ h => h) (Or.inl ⟨by rfl, ?_⟩) hHeld ?_
  rotate_left 1
  · (intro w hSw; go_simp; try with_reducible rfl)
  try simp only [Act.put, List.setIfInBounds_toArray, List.set_cons_zero, List.set_cons_succ]
  refine takeL 19 (v := ?_) rfl (by kernel_rfl) (by kernel_rfl) (by kernel_rfl) (fun _ _ _ h => h) (Or.inl ⟨by rfl, ?_⟩) hHeld ?_
  rotate_left 1
  · (intro w hSw; go_simp; try with_reducible rfl)
  try simp only [Act.put, List.setIfInBounds_toArray, List.set_cons_zero, List.set_cons_succ]
  refine takeL 21 (v := ?_) rfl (by kernel_rfl) (by kernel_rfl) (by kernel_rfl) (fun _ _ _ h => h) (Or.inl ⟨by rfl, ?_⟩) hHeld ?_
  rotate_left 1
  · (intro w hSw; go_simp; try with_reducible rfl)
  try simp only [Act.put, List.setIfInBounds_toArray, List.set_cons_zero, List.set_cons_succ]
  refine stepL 20 (by kernel_rfl) rfl (fun K hK => ?_)
  go_simp
  refine (HSd.out W3).mono ?_
  rintro e W4 ⟨rfl, hb⟩
  show K _ _
  have R4 := Bx.mk (R3.out.later hb)
  clear hb R3
  refine hK.out _ _ (HSS.out _ R4.out) (fun hHeld => ?_)
  clear hK K
  try simp only [Act.put, List.setIfInBounds_toArray, List.set_cons_zero, List.set_cons_succ]
  refine takeL 22 (v := ?_) rfl (by kernel_rfl) (by kernel_rfl) (by kernel_rfl) (fun _ _ _ h => h) (Or.inl ⟨by rfl, ?_⟩) hHeld ?_
  rotate_left 1
  · (intro w hSw; go_simp; try with_reducible rfl)
  try simp only [Act.put, List.setIfInBounds_toArray, List.set_cons_zero, List.set_cons_succ]
  refine takeL 23 (v := ?_) rfl (by kernel_rfl) (by kernel_rfl) (by kernel_rfl) (fun _ _ _ h => h) (Or.inl ⟨by rfl, ?_⟩) hHeld ?_
  rotate_left 1
  · (intro w hSw; go_simp; try with_reducible rfl)
  try simp only [Act.put, List.setIfInBounds_toArray, List.set_cons_zero, List.set_cons_succ]
  refine takeL 24 (v := ?_) rfl (by kernel_rfl) (by kernel_rfl) (by kernel_rfl) (fun _ _ _ h => h) (Or.inl ⟨by rfl, ?_⟩) hHeld ?_
  rotate_left 1
  · (intro w hSw; go_simp; try with_reducible rfl)
  try simp only [Act.put, List.setIfInBounds_toArray, List.set_cons_zero, List.set_cons_succ]
  refine takeL 25 (v := ?_) rfl (by kernel_rfl) (by kernel_rfl) (by kernel_rfl) (fun _ _ _ h => h) (Or.inl ⟨by rfl, ?_⟩) hHeld ?_
  rotate_left 1
  · (intro w hSw; go_simp; try with_reducible rfl)
  try simp only [Act.put, List.setIfInBounds_toArray, List.set_cons_zero, List.set_cons_succ]
  refine takeL 27 rfl (by kernel_rfl) (by kernel_rfl) (by kernel_rfl) (fun _ _ _ h => h) (yieldsIf_load_mid (by rfl) _ _ rfl _ _ rfl _ _ (fun w hSw => hSw) Tryd.underlying62 rfl HIt.out) hHeld ?_
  try simp only [Act.put, List.setIfInBounds_toArray, List.set_cons_zero, List.set_cons_succ]
  refine stepL 26 (by kernel_rfl) rfl (fun K hK => ?_)
  go_simp
  refine (HKi.out W4 R4.out).mono ?_
  rintro e W5 ⟨rfl, hb⟩
  show K _ _
  have R5 := Bx.mk (R4.out.later hb)
  clear hb R4
  refine hK.out _ _ (HSS.out _ R5.out) (fun hHeld => ?_)
  clear hK K
  try simp only [Act.put, List.setIfInBounds_toArray, List.set_cons_zero, List.set_cons_succ]
  refine takeL 28 (v := ?_) rfl (by kernel_rfl) (by kernel_rfl) (by kernel_rfl) (fun _ _ _ h => h) (Or.inl ⟨by rfl, ?_⟩) hHeld ?_
  rotate_left 1
  · (intro w hSw; have q := HEq.out w; clear hSw; go_simp; try with_reducible rfl)
  try simp only [Act.put, List.setIfInBounds_toArray, List.set_cons_zero, List.set_cons_succ]
  refine takeL 29 (v := ?_) rfl (by kernel_rfl) (by kernel_rfl) (by kernel_rfl) (fun _ _ _ h => h) (Or.inl ⟨by rfl, ?_⟩) hHeld ?_
  rotate_left 1
  · (intro w hSw; go_simp; try with_reducible rfl)
  try simp only [Act.put, List.setIfInBounds_toArray, List.set_cons_zero, List.set_cons_succ]
  refine takeL 30 (v := ?_) rfl (by kernel_rfl) (by kernel_rfl) (by kernel_rfl) (fun _ _ _ h => h) (Or.inl ⟨by rfl, ?_⟩) hHeld ?_
  rotate_left 1
  · (intro w hSw; go_simp; try with_reducible rfl)
  try simp only [Act.put, List.setIfInBounds_toArray, List.set_cons_zero, List.set_cons_succ]
  refine wpAnyH_done (by kernel_rfl) ?_ _
  refine NoPanic.normal ?_
  clear hHeld
  try go_wp2
  go_ret
  exact ⟨rfl, R5.out.lk.below⟩
end Go.Proofs.YtaoekfomffebhaaDoor
