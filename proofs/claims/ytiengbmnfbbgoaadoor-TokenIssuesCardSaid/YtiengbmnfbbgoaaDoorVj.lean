/-
  The walk of TokenIssues, of a round that issues.
-/
import Derived.Test.YtiengbmnfbbgoaaDoorVg
namespace Go.Proofs.YtiengbmnfbbgoaaDoor
open Go Go.RowKit
set_option maxRecDepth 100000 in
set_option maxHeartbeats 4000000 in
theorem roundI_ok (w0 w : World) (M : Nat) (os : List Od) (v : Value) (key : List UInt8) (al : Option Addr) (nl cl : Nat) (s : Int) (hO : Ords w0 (.slice al nl cl) os) (hnl : os.length = nl) (hb0 : Below w0.heap.size w0 w) (hM0 : w0.heap.size ≤ M) (hn9 : nl ≤ 9223372036854775807) (hkl : key.length ≤ 1000000) (hTab : Tab w) (hg : 0 < w.heap.size) (hgM : 0 ≠ M)
    (Q : Exit → Act → World → Prop) (k : Nat) (a : Act) (wr : World) (hk : k < nl) (hk8 : k < 8) (hc : okC (clO (os.getD k Od.zero) (isK os k).length) = true) (h : IL w M os v key (.slice al nl cl) s k a wr) :
    Code.wp Tryd.prog (loopAt (Tryd.f6.body) 0) (Exit.then (fun a' w' => IL w M os v key (.slice al nl cl) s (k + 1) a' w') Q) a wr := by
  obtain ⟨zc, hzc⟩ : ∃ zc, tkC c0 z32 = zc := ⟨_, rfl⟩
  have hzv : ∀ W : World, (zeroValue 39).run Tryd.prog W = .ok (.agg zc) W := fun W => by rw [← hzc]; exact tk_zero W
  have hbz : Tryd.prog.built 39 [] = some zc := by rw [← hzc]; exact tk_none
  have HM1 : Bx ((Tryd.prog.info? 39).map (·.size) = some zc.size ∧ zc.all (·.oneCell') = true) := Bx.mk (by rw [← hzc]; exact ⟨tk_info _ _ rfl, tkC_one _ _⟩)
  obtain ⟨va, hva, hIR⟩ := h.st
  have hIM : IM w M [] (isK os k) v key va (isK os k) wr := hIR
  have HIK : Bx (isK os (k + 1) = isK os k ++ [clO (os.getD k Od.zero) (isK os k).length]) := Bx.mk (by show (if _ then _ else _) = _; rw [if_pos hc])
  have HB0 : Bx (∀ W, w.grownBy W (some M) → Below w0.heap.size w0 W) := Bx.mk fun W hb => hb0.trans (grown_below hb hM0 hb0.size)
  have HLn : Bx ((isK os k).length ≤ 8) := Bx.mk (Nat.le_trans (isK_length os k) (by omega))
  obtain ⟨a', cap', hv', hr'⟩ := hO
  injection hv' with p1 p2 p3
  obtain ⟨b, o, ha, hcell⟩ := hr' (by omega)
  subst p1
  subst ha
  obtain ⟨vr, hrg, hin, hinl⟩ := hcell k (by omega)
  generalize os.getD k Od.zero = od at *
  generalize isK os k = l at *
  obtain ⟨va2, ca, hva2⟩ := hIM.own.form
  have HOk := Bx.mk (okO hc)
  have HCl : Bx (clO od l.length = ⟨od.id, (mkN (od.ns.take 10) : Int), od.ex, (l.length : Int) + 1⟩) := Bx.mk (by unfold clO; rw [(okO hc).2])
  have HIs : Bx (∀ W vq, w.grownBy W (some M) → MT W M l key → Ints W vq (od.ns.take 10) → Calls Tryd.prog 32 #[.pointer (some ⟨M, 0, none⟩), .int .i64 od.id, .int .i64 od.ex, vq] W fun e w' => e = .returned (.tuple #[tkV (clO od l.length) (secK key (clO od l.length)), .int .i64 0]) ∧ Issued M l (l ++ [clO od l.length]) W w') := Bx.mk fun W vq hgr hm hi => by
    have h1 := hc
    rw [HCl.out] at h1 ⊢
    exact issue_ok M l key od.id od.ex (od.ns.take 10) vq W hm (by have := HLn.out; omega) hi (by rw [List.length_take]; omega) HOk.out.1 h1 hkl (hTab.grown hgr hg hgM) (Nat.lt_of_lt_of_le hg hgr.size) hgM
  have HHo : Bx (∀ W v, w.grownBy W (some M) → IsKey W v key → Calls Tryd.prog 16 #[v, tkV (clO od l.length) (secK key (clO od l.length))] W fun e w' => e = .returned (.bool true) ∧ Below W.heap.size W w') := Bx.mk fun W v hgr hv => by
    have h := holds_ok key (clO od l.length) (secK key (clO od l.length)) v W hv (secK_length _ _) hkl hc (hTab.grown hgr hg hgM) (Nat.lt_of_lt_of_le hg hgr.size)
    rw [decide_eq_true rfl] at h
    exact h
  have HKL := Bx.mk hkl
  have HSl : Bx ((secK key (clO od l.length)).length = 32) := Bx.mk (secK_length _ _)
  have HTo := Bx.mk fun (W : World) => cto_any (clO od l.length) W
  have hselfc := fun W : World => self_cl_neq 36 (.inl rfl) (clO od l.length) W
  generalize secK key (clO od l.length) = sk at *
  obtain ⟨kl, hkl2⟩ : ∃ kl : List Value, tkC (clO od l.length) sk = kl.toArray := ⟨_, rfl⟩
  have HI : Bx ((Tryd.prog.info? 39).map (·.size) = some kl.toArray.size ∧ kl.toArray.all (·.oneCell') = true ∧ kl.toArray.size = zc.size ∧ (Tryd.prog.info? 39).map (·.size) = some kl.length) := Bx.mk (by rw [show kl.length = kl.toArray.size from rfl, ← hkl2, ← hzc]; exact ⟨tk_info _ _ HSl.out, tkC_one _ _, by rw [tkC_size _ _ HSl.out, tkC_size _ _ rfl], tk_info _ _ HSl.out⟩)
  have HK4 : Bx (∀ (W : World) (D : Nat) (t : TypeId), W.heap[D]? = some (.cells kl.toArray t (0, 0)) → W.rangeAt D 0 (clC (clO od l.length)).toList ∧ W.rangeAt D 0 kl) := Bx.mk fun W D t h => ⟨by rw [← hkl2] at h; exact tk_cl h, row_rng h⟩
  unfold tkV at HIs HHo
  rw [hkl2] at HIs HHo
  clear hkl2
  have HRi := Bx.mk fun (W : World) => cright_any (clO od l.length) W
  rw [hc] at HRi
  have HMa := Bx.mk fun (W : World) (vq : Value) (hi : Ints W vq (od.ns.take 10)) => rmask_any (od.ns.take 10) vq W hi (by rw [List.length_take]; omega)
  have HCo := Bx.mk fun (W : World) (l : List Cl) (hm : MT W M l key) => mcount_any M l key W hm
  have HRg := Bx.mk hrg
  have HbB : Bx (b < w0.heap.size) := Bx.mk (World.block_lt_of_cell? _ _ (hrg 0 _ rfl))
  have HIM := Bx.mk hIM
  obtain ⟨ar, cr, rfl, hcr, hnr, -⟩ := id hin
  obtain ⟨nr, hnr1⟩ : ∃ n, od.ns.length = n := ⟨_, rfl⟩
  rw [hnr1] at hin hcr hinl HRg
  obtain ⟨mm, hmm⟩ : ∃ mm, mm = min nr 10 := ⟨_, rfl⟩
  have m1 : (if (10 : Int) < (nr : Int) then (10 : Int) else (nr : Int)) = (mm : Int) := by split <;> omega
  have m2 : (mm : Int) ≤ (cr : Int) := by omega
  have hsl := fun W => cut_ints ar nr cr mm (by omega) (by omega) hnr W
  have HIn : Bx (Ints w0 (.slice ar mm cr) (od.ns.take 10)) := Bx.mk (by
    have h1 := hin.take mm (by omega)
    rwa [show od.ns.take mm = od.ns.take 10 by rw [hmm, ← hnr1, ← List.take_take, List.take_of_length_le (by rw [List.length_take]; omega)]] at h1)
  have HNk := Bx.mk hn9
  subst hva2
  have hs9 := hva
  obtain ⟨x, rfl, hx⟩ := open179 h.kf.fr
  have e1 := (hx 1).symm.trans h.kf.s1
  have e2 := (hx 2).symm.trans h.kf.s2
  have e7 := (hx 7).symm.trans h.kf.s7
  have e9 := (hx 9).symm.trans hs9
  have e10 := (hx 10).symm.trans h.s10
  clear h hx hr' hcell hva hIR hIM hb0 hM0 hkl hTab hg hgM hzc hrg hin hinl hcr hnr hnr1 hmm hn9 hc p2 p3 hs9 hnl
  rw [e1, e2, e7, e9, e10]
  clear e1 e2 e7 e9 e10
  have hl8 := HLn.out
  generalize hla : l.length = la at *
  have HLa := Bx.mk hla
  have hla8 : (la : Int) ≤ 8 := by omega
  clear hla hl8
  unfold clO at *
  unfold clV at HRi HTo
  unfold clC at HK4 hselfc
  simp only at HRi HTo HK4 hselfc
  generalize od.id = i at *
  generalize od.ex = x at *
  generalize dMask (od.ns.take 10) = r at *
  generalize od.ns.take 10 = ns at *
  generalize hq : (la : Int) + 1 = q at *
  have hwr : IntKind.i64.wrap q = q := by rw [IntKind.wrap_i64]; omega
  have hk1 : (k : Int) < (nl : Int) := by omega
  have hk2 : (k : Int) < 8 := by omega
  have hn1 : (nl : Int) ≤ 9223372036854775807 := by have := HNk.out; omega
  conv => arg 2; whnf
  go_upto_region 11 with fail
  have R0 := Bx.mk (HIM.out.later (Below.refl _ _).drew)
  clear HIM
  refine wp_region_noPanic ?_
  refine wp_region_held_drew (S := fun W => W.rangeAt b (o + k * 3) [.int .i64 i, .int .i64 x, .slice ar nr cr]) (by kernel_rfl) ((range_later HRg.out (HB0.out _ R0.out.km.grown) HbB.out)) (fun hHeld => ?_)
  generalize wr.drew = W0 at *
  refine takeL 0 (v := ?_) rfl (by kernel_rfl) (by kernel_rfl) (by kernel_rfl) (fun _ _ _ h => h) (Or.inl ⟨by rfl, ?_⟩) hHeld ?_
  rotate_left 1
  · (intro w hSw; go_simp; try with_reducible rfl)
  try simp only [Act.put, List.setIfInBounds_toArray, List.set_cons_zero, List.set_cons_succ]
  refine takeL 1 (v := ?_) rfl (by kernel_rfl) (by kernel_rfl) (by kernel_rfl) (fun _ _ _ h => h) (Or.inl ⟨by rfl, ?_⟩) hHeld ?_
  rotate_left 1
  · (intro w hSw; go_simp; try with_reducible rfl)
  try simp only [Act.put, List.setIfInBounds_toArray, List.set_cons_zero, List.set_cons_succ]
  refine takeL 2 (v := ?_) rfl (by kernel_rfl) (by kernel_rfl) (by kernel_rfl) (fun _ _ _ h => h) (Or.inl ⟨by rfl, ?_⟩) hHeld ?_
  rotate_left 1
  · (intro w hSw; go_simp; try with_reducible rfl)
  try simp only [Act.put, List.setIfInBounds_toArray, List.set_cons_zero, List.set_cons_succ]
  refine takeL 3 (v := ?_) rfl (by kernel_rfl) (by kernel_rfl) (by kernel_rfl) (fun _ _ _ h => h) (Or.inl ⟨by rfl, ?_⟩) hHeld ?_
  rotate_left 1
  · (intro w hSw; go_simp; try with_reducible rfl)
  try simp only [Act.put, List.setIfInBounds_toArray, List.set_cons_zero, List.set_cons_succ]
  refine takeL 4 (v := ?_) rfl (by kernel_rfl) (by kernel_rfl) (by kernel_rfl) (fun _ _ _ h => h) (Or.inl ⟨by rfl, ?_⟩) hHeld ?_
  rotate_left 1
  · (intro w hSw; have c0 : w.cell? ⟨b, o + k * 3 + 2, none⟩ = some _ := hSw 2 _ rfl; go_simp; try with_reducible rfl)
  try simp only [Act.put, List.setIfInBounds_toArray, List.set_cons_zero, List.set_cons_succ]
  refine takeL 5 (v := ?_) rfl (by kernel_rfl) (by kernel_rfl) (by kernel_rfl) (fun _ _ _ h => h) (Or.inl ⟨by rfl, ?_⟩) hHeld ?_
  rotate_left 1
  · (intro w hSw; go_simp; try with_reducible rfl)
  try simp only [Act.put, List.setIfInBounds_toArray, List.set_cons_zero, List.set_cons_succ]
  refine takeL 6 (v := ?_) rfl (by kernel_rfl) (by kernel_rfl) (by kernel_rfl) (fun _ _ _ h => h) (Or.inl ⟨by rfl, ?_⟩) hHeld ?_
  rotate_left 1
  · (intro w hSw; go_simp; try with_reducible rfl)
  try simp only [Act.put, List.setIfInBounds_toArray, List.set_cons_zero, List.set_cons_succ]
  refine takeL 7 (v := ?_) rfl (by kernel_rfl) (by kernel_rfl) (by kernel_rfl) (fun _ _ _ h => h) (Or.inl ⟨by rfl, ?_⟩) hHeld ?_
  rotate_left 1
  · (intro w hSw; go_simp; try with_reducible rfl)
  try simp only [Act.put, List.setIfInBounds_toArray, List.set_cons_zero, List.set_cons_succ]
  refine takeL 8 (v := ?_) rfl (by kernel_rfl) (by kernel_rfl) (by kernel_rfl) (fun _ _ _ h => h) (Or.inl ⟨by rfl, ?_⟩) hHeld ?_
  rotate_left 1
  · (intro w hSw; go_simp; try with_reducible rfl)
  try simp only [Act.put, List.setIfInBounds_toArray, List.set_cons_zero, List.set_cons_succ]
  refine takeL 9 (v := ?_) rfl (by kernel_rfl) (by kernel_rfl) (by kernel_rfl) (fun _ _ _ h => h) (Or.inl ⟨by rfl, ?_⟩) hHeld ?_
  rotate_left 1
  · (intro w hSw; have c0 : w.cell? ⟨b, o + k * 3 + 2, none⟩ = some _ := hSw 2 _ rfl; go_simp; try with_reducible rfl)
  try simp only [Act.put, List.setIfInBounds_toArray, List.set_cons_zero, List.set_cons_succ]
  refine takeL 10 (v := ?_) rfl (by kernel_rfl) (by kernel_rfl) (by kernel_rfl) (fun _ _ _ h => h) (Or.inl ⟨by rfl, ?_⟩) hHeld ?_
  rotate_left 1
  · (intro w hSw; go_simp; try with_reducible rfl)
  try simp only [Act.put, List.setIfInBounds_toArray, List.set_cons_zero, List.set_cons_succ]
  refine takeL 11 (v := ?_) rfl (by kernel_rfl) (by kernel_rfl) (by kernel_rfl) (fun _ _ _ h => h) (Or.inl ⟨by rfl, ?_⟩) hHeld ?_
  rotate_left 1
  · (intro w hSw; go_simp; try with_reducible rfl)
  try simp only [Act.put, List.setIfInBounds_toArray, List.set_cons_zero, List.set_cons_succ]
  refine takeL 12 (v := ?_) rfl (by kernel_rfl) (by kernel_rfl) (by kernel_rfl) (fun _ _ _ h => h) (Or.inl ⟨by rfl, ?_⟩) hHeld ?_
  rotate_left 1
  · (intro w hSw; go_simp; try with_reducible rfl)
  try simp only [Act.put, List.setIfInBounds_toArray, List.set_cons_zero, List.set_cons_succ]
  refine takeL 13 (v := ?_) rfl (by kernel_rfl) (by kernel_rfl) (by kernel_rfl) (fun _ _ _ h => h) (Or.inl ⟨by rfl, ?_⟩) hHeld ?_
  rotate_left 1
  · (intro w hSw; go_simp; try with_reducible rfl)
  try simp only [Act.put, List.setIfInBounds_toArray, List.set_cons_zero, List.set_cons_succ]
  refine wpAnyH_done (by kernel_rfl) ?_ _
  refine NoPanic.normal ?_
  clear hHeld
  go_upto_region 12 with fail
  have R1 := Bx.mk (R0.out.later (Below.refl _ _).drew)
  clear R0
  refine wp_region_noPanic ?_
  refine wp_region_held_drew (S := fun W => W.rangeAt b (o + k * 3) [.int .i64 i, .int .i64 x, .slice ar nr cr]) (by kernel_rfl) ((range_later HRg.out (HB0.out _ R1.out.km.grown) HbB.out)) (fun hHeld => ?_)
  generalize W0.drew = U0 at *
  refine takeL 0 (v := ?_) rfl (by kernel_rfl) (by kernel_rfl) (by kernel_rfl) (fun _ _ _ h => h) (Or.inl ⟨by rfl, ?_⟩) hHeld ?_
  rotate_left 1
  · (intro w hSw; go_simp; try with_reducible rfl)
  try simp only [Act.put, List.setIfInBounds_toArray, List.set_cons_zero, List.set_cons_succ]
  refine takeL 1 (v := ?_) rfl (by kernel_rfl) (by kernel_rfl) (by kernel_rfl) (fun _ _ _ h => h) (Or.inl ⟨by rfl, ?_⟩) hHeld ?_
  rotate_left 1
  · (intro w hSw; go_simp; try with_reducible rfl)
  try simp only [Act.put, List.setIfInBounds_toArray, List.set_cons_zero, List.set_cons_succ]
  refine takeL 2 (v := ?_) rfl (by kernel_rfl) (by kernel_rfl) (by kernel_rfl) (fun _ _ _ h => h) (Or.inl ⟨by rfl, ?_⟩) hHeld ?_
  rotate_left 1
  · (intro w hSw; go_simp; try with_reducible rfl)
  try simp only [Act.put, List.setIfInBounds_toArray, List.set_cons_zero, List.set_cons_succ]
  refine takeL 3 (v := ?_) rfl (by kernel_rfl) (by kernel_rfl) (by kernel_rfl) (fun _ _ _ h => h) (Or.inl ⟨by rfl, ?_⟩) hHeld ?_
  rotate_left 1
  · (intro w hSw; go_simp; try with_reducible rfl)
  try simp only [Act.put, List.setIfInBounds_toArray, List.set_cons_zero, List.set_cons_succ]
  refine takeL 4 (v := ?_) rfl (by kernel_rfl) (by kernel_rfl) (by kernel_rfl) (fun _ _ _ h => h) (Or.inl ⟨by rfl, ?_⟩) hHeld ?_
  rotate_left 1
  · (intro w hSw; have c0 : w.cell? ⟨b, o + k * 3, none⟩ = some _ := hSw 0 _ rfl; go_simp; try with_reducible rfl)
  try simp only [Act.put, List.setIfInBounds_toArray, List.set_cons_zero, List.set_cons_succ]
  refine takeL 5 (v := ?_) rfl (by kernel_rfl) (by kernel_rfl) (by kernel_rfl) (fun _ _ _ h => h) (Or.inl ⟨by rfl, ?_⟩) hHeld ?_
  rotate_left 1
  · (intro w hSw; go_simp; try with_reducible rfl)
  try simp only [Act.put, List.setIfInBounds_toArray, List.set_cons_zero, List.set_cons_succ]
  refine takeL 7 (v := ?_) rfl (by kernel_rfl) (by kernel_rfl) (by kernel_rfl) (fun _ _ _ h => h) (Or.inl ⟨by rfl, ?_⟩) hHeld ?_
  rotate_left 1
  · (intro w hSw; go_simp; try with_reducible rfl)
  try simp only [Act.put, List.setIfInBounds_toArray, List.set_cons_zero, List.set_cons_succ]
  refine takeL 8 (v := ?_) rfl (by kernel_rfl) (by kernel_rfl) (by kernel_rfl) (fun _ _ _ h => h) (Or.inl ⟨by rfl, ?_⟩) hHeld ?_
  rotate_left 1
  · (intro w hSw; go_simp; try with_reducible rfl)
  try simp only [Act.put, List.setIfInBounds_toArray, List.set_cons_zero, List.set_cons_succ]
  refine takeL 9 (v := ?_) rfl (by kernel_rfl) (by kernel_rfl) (by kernel_rfl) (fun _ _ _ h => h) (Or.inl ⟨by rfl, ?_⟩) hHeld ?_
  rotate_left 1
  · (intro w hSw; go_simp; try with_reducible rfl)
  try simp only [Act.put, List.setIfInBounds_toArray, List.set_cons_zero, List.set_cons_succ]
  refine takeL 10 (v := ?_) rfl (by kernel_rfl) (by kernel_rfl) (by kernel_rfl) (fun _ _ _ h => h) (Or.inl ⟨by rfl, ?_⟩) hHeld ?_
  rotate_left 1
  · (intro w hSw; go_simp; try with_reducible rfl)
  try simp only [Act.put, List.setIfInBounds_toArray, List.set_cons_zero, List.set_cons_succ]
  refine takeL 11 (v := ?_) rfl (by kernel_rfl) (by kernel_rfl) (by kernel_rfl) (fun _ _ _ h => h) (Or.inl ⟨by rfl, ?_⟩) hHeld ?_
  rotate_left 1
  · (intro w hSw; have c0 : w.cell? ⟨b, o + k * 3 + 1, none⟩ = some _ := hSw 1 _ rfl; go_simp; try with_reducible rfl)
  try simp only [Act.put, List.setIfInBounds_toArray, List.set_cons_zero, List.set_cons_succ]
  refine takeL 12 (v := ?_) rfl (by kernel_rfl) (by kernel_rfl) (by kernel_rfl) (fun _ _ _ h => h) (Or.inl ⟨by rfl, ?_⟩) hHeld ?_
  rotate_left 1
  · (intro w hSw; go_simp; try with_reducible rfl)
  try simp only [Act.put, List.setIfInBounds_toArray, List.set_cons_zero, List.set_cons_succ]
  refine takeL 13 (v := ?_) rfl (by kernel_rfl) (by kernel_rfl) (by kernel_rfl) (fun _ _ _ h => h) (Or.inl ⟨by rfl, ?_⟩) hHeld ?_
  rotate_left 1
  · (intro w hSw; go_simp; try with_reducible rfl)
  try simp only [Act.put, List.setIfInBounds_toArray, List.set_cons_zero, List.set_cons_succ]
  refine takeL 14 (v := ?_) rfl (by kernel_rfl) (by kernel_rfl) (by kernel_rfl) (fun _ _ _ h => h) (Or.inl ⟨by rfl, ?_⟩) hHeld ?_
  rotate_left 1
  · (intro w hSw; go_simp; try with_reducible rfl)
  try simp only [Act.put, List.setIfInBounds_toArray, List.set_cons_zero, List.set_cons_succ]
  refine wpAnyH_ready (rs := [6, 16]) (by kernel_rfl) (by simp) ?_
  refine consM 6 rfl (fun K hK => ?_) (consM 16 rfl (fun K hK => ?_) AllReadyH.nil)
  · go_simp
    refine (HMa.out U0 _ (HIn.out.later (HB0.out _ R1.out.km.grown))).mono ?_
    rintro e W' ⟨rfl, rfl⟩
    show K _ _
    refine hK.out _ _ (range_later HRg.out (HB0.out _ R1.out.km.grown) HbB.out) (fun hHeld => ?_)
    clear hK K
    try simp only [Act.put, List.setIfInBounds_toArray, List.set_cons_zero, List.set_cons_succ]
    refine takeL 15 (v := ?_) rfl (by kernel_rfl) (by kernel_rfl) (by kernel_rfl) (fun _ _ _ h => h) (Or.inl ⟨by rfl, ?_⟩) hHeld ?_
    rotate_left 1
    · (intro w hSw; go_simp; try with_reducible rfl)
    try simp only [Act.put, List.setIfInBounds_toArray, List.set_cons_zero, List.set_cons_succ]
    refine stepL 16 (by kernel_rfl) rfl (fun K hK => ?_)
    go_simp
    show K _ _
    have Q1 := Bx.mk (R1.out.new (.cells #[.int .i64 0, .int .i64 0, .int .i64 0, .int .i64 0] 24))
    clear R1
    generalize U0.alloc (.cells #[.int .i64 0, .int .i64 0, .int .i64 0, .int .i64 0] 24) = U1 at *
    generalize U0.heap.size = D at *
    refine hK.out _ _ (range_later HRg.out (HB0.out _ Q1.out.km.grown) HbB.out) (fun hHeld => ?_)
    clear hK K
    try simp only [Act.put, List.setIfInBounds_toArray, List.set_cons_zero, List.set_cons_succ]
    refine stepL 17 (by kernel_rfl) rfl (fun K hK => ?_)
    refine step_st rfl 24 _ _ rfl D #[.int .i64 i, .int .i64 r, .int .i64 x, .int .i64 q] (by rfl) (by rfl) (there_row (Q1.out.km.rows _ (.head _)).1 0 _ (Nat.le_refl _)) (by kernel_rfl) (by simp [Value.oneCell']) ?_
    have hr2 := heap_setCells_all (ds := #[.int .i64 i, .int .i64 r, .int .i64 x, .int .i64 q]) (Q1.out.km.rows _ (.head _)).1 rfl
    have Q2 := Bx.mk (Q1.out.set (kb_setCells (b := D) (#[.int .i64 i, .int .i64 r, .int .i64 x, .int .i64 q] : Array Value).toList 0 U1) hr2 (fun y hy => (List.not_mem_nil hy).elim))
    clear hr2 Q1
    refine hK.out _ _ (range_later HRg.out (HB0.out _ Q2.out.km.grown) HbB.out) (fun hHeld => ?_)
    clear hK K
    try simp only [Act.put]
    generalize U1.setCells D 0 (#[.int .i64 i, .int .i64 r, .int .i64 x, .int .i64 q] : Array Value).toList = U2 at *
    refine wpAnyH_done (by kernel_rfl) ?_ _
    refine NoPanic.normal ?_
    clear hHeld
    go_upto_region 13 with fail
    have Y0 := Bx.mk (Q2.out.later (Below.refl _ _).drew)
    clear Q2
    refine wp_region_noPanic ?_
    refine wp_region_held_drew (S := fun W => W.rangeAt b (o + k * 3) [.int .i64 i, .int .i64 x, .slice ar nr cr]) (by kernel_rfl) ((range_later HRg.out (HB0.out _ Y0.out.km.grown) HbB.out)) (fun hHeld => ?_)
    generalize U2.drew = V0 at *
    refine takeL 0 (v := ?_) rfl (by kernel_rfl) (by kernel_rfl) (by kernel_rfl) (fun _ _ _ h => h) (Or.inl ⟨by rfl, ?_⟩) hHeld ?_
    rotate_left 1
    · (intro w hSw; go_simp; try with_reducible rfl)
    try simp only [Act.put, List.setIfInBounds_toArray, List.set_cons_zero, List.set_cons_succ]
    refine takeL 1 (v := ?_) rfl (by kernel_rfl) (by kernel_rfl) (by kernel_rfl) (fun _ _ _ h => h) (Or.inl ⟨by rfl, ?_⟩) hHeld ?_
    rotate_left 1
    · (intro w hSw; go_simp; try with_reducible rfl)
    try simp only [Act.put, List.setIfInBounds_toArray, List.set_cons_zero, List.set_cons_succ]
    refine takeL 2 (v := ?_) rfl (by kernel_rfl) (by kernel_rfl) (by kernel_rfl) (fun _ _ _ h => h) (Or.inl ⟨by rfl, ?_⟩) hHeld ?_
    rotate_left 1
    · (intro w hSw; go_simp; try with_reducible rfl)
    try simp only [Act.put, List.setIfInBounds_toArray, List.set_cons_zero, List.set_cons_succ]
    refine takeL 3 (v := ?_) rfl (by kernel_rfl) (by kernel_rfl) (by kernel_rfl) (fun _ _ _ h => h) (Or.inl ⟨by rfl, ?_⟩) hHeld ?_
    rotate_left 1
    · (intro w hSw; go_simp; try with_reducible rfl)
    try simp only [Act.put, List.setIfInBounds_toArray, List.set_cons_zero, List.set_cons_succ]
    refine takeL 4 (v := ?_) rfl (by kernel_rfl) (by kernel_rfl) (by kernel_rfl) (fun _ _ _ h => h) (Or.inl ⟨by rfl, ?_⟩) hHeld ?_
    rotate_left 1
    · (intro w hSw; go_simp; try with_reducible rfl)
    try simp only [Act.put, List.setIfInBounds_toArray, List.set_cons_zero, List.set_cons_succ]
    refine takeL 5 (v := ?_) rfl (by kernel_rfl) (by kernel_rfl) (by kernel_rfl) (fun _ _ _ h => h) (Or.inl ⟨by rfl, ?_⟩) hHeld ?_
    rotate_left 1
    · (intro w hSw; have c0 : w.cell? ⟨b, o + k * 3, none⟩ = some _ := hSw 0 _ rfl; go_simp; try with_reducible rfl)
    try simp only [Act.put, List.setIfInBounds_toArray, List.set_cons_zero, List.set_cons_succ]
    refine takeL 6 (v := ?_) rfl (by kernel_rfl) (by kernel_rfl) (by kernel_rfl) (fun _ _ _ h => h) (Or.inl ⟨by rfl, ?_⟩) hHeld ?_
    rotate_left 1
    · (intro w hSw; go_simp; try with_reducible rfl)
    try simp only [Act.put, List.setIfInBounds_toArray, List.set_cons_zero, List.set_cons_succ]
    refine takeL 7 (v := ?_) rfl (by kernel_rfl) (by kernel_rfl) (by kernel_rfl) (fun _ _ _ h => h) (Or.inl ⟨by rfl, ?_⟩) hHeld ?_
    rotate_left 1
    · (intro w hSw; go_simp; try with_reducible rfl)
    try simp only [Act.put, List.setIfInBounds_toArray, List.set_cons_zero, List.set_cons_succ]
    refine takeL 8 (v := ?_) rfl (by kernel_rfl) (by kernel_rfl) (by kernel_rfl) (fun _ _ _ h => h) (Or.inl ⟨by rfl, ?_⟩) hHeld ?_
    rotate_left 1
    · (intro w hSw; go_simp; try with_reducible rfl)
    try simp only [Act.put, List.setIfInBounds_toArray, List.set_cons_zero, List.set_cons_succ]
    refine takeL 9 (v := ?_) rfl (by kernel_rfl) (by kernel_rfl) (by kernel_rfl) (fun _ _ _ h => h) (Or.inl ⟨by rfl, ?_⟩) hHeld ?_
    rotate_left 1
    · (intro w hSw; go_simp; try with_reducible rfl)
    try simp only [Act.put, List.setIfInBounds_toArray, List.set_cons_zero, List.set_cons_succ]
    refine takeL 10 (v := ?_) rfl (by kernel_rfl) (by kernel_rfl) (by kernel_rfl) (fun _ _ _ h => h) (Or.inl ⟨by rfl, ?_⟩) hHeld ?_
    rotate_left 1
    · (intro w hSw; have c0 : w.cell? ⟨b, o + k * 3 + 1, none⟩ = some _ := hSw 1 _ rfl; go_simp; try with_reducible rfl)
    try simp only [Act.put, List.setIfInBounds_toArray, List.set_cons_zero, List.set_cons_succ]
    refine takeL 11 (v := ?_) rfl (by kernel_rfl) (by kernel_rfl) (by kernel_rfl) (fun _ _ _ h => h) (Or.inl ⟨by rfl, ?_⟩) hHeld ?_
    rotate_left 1
    · (intro w hSw; go_simp; try with_reducible rfl)
    try simp only [Act.put, List.setIfInBounds_toArray, List.set_cons_zero, List.set_cons_succ]
    refine wpAnyH_ready (rs := [12, 16]) (by kernel_rfl) (by simp) ?_
    refine consM 12 rfl (fun K hK => ?_) (consM 16 rfl (fun K hK => ?_) AllReadyH.nil)
    · go_simp
      refine (HIs.out V0 _ Y0.out.km.grown Y0.out.km.mt (HIn.out.later (HB0.out _ Y0.out.km.grown))).mono ?_
      rintro e V1 ⟨rfl, hb⟩
      show K _ _
      have Y1 := Bx.mk (Y0.out.minted hb)
      clear hb Y0
      refine hK.out _ _ (range_later HRg.out (HB0.out _ Y1.out.km.grown) HbB.out) (fun hHeld => ?_)
      clear hK K
      try simp only [Act.put, List.setIfInBounds_toArray, List.set_cons_zero, List.set_cons_succ]
      refine takeL 13 (v := ?_) rfl (by kernel_rfl) (by kernel_rfl) (by kernel_rfl) (fun _ _ _ h => h) (Or.inl ⟨by rfl, ?_⟩) hHeld ?_
      rotate_left 1
      · (intro w hSw; go_simp; try with_reducible rfl)
      try simp only [Act.put, List.setIfInBounds_toArray, List.set_cons_zero, List.set_cons_succ]
      refine takeL 14 (v := ?_) rfl (by kernel_rfl) (by kernel_rfl) (by kernel_rfl) (fun _ _ _ h => h) (Or.inl ⟨by rfl, ?_⟩) hHeld ?_
      rotate_left 1
      · (intro w hSw; go_simp; try with_reducible rfl)
      try simp only [Act.put, List.setIfInBounds_toArray, List.set_cons_zero, List.set_cons_succ]
      refine takeL 15 (v := ?_) rfl (by kernel_rfl) (by kernel_rfl) (by kernel_rfl) (fun _ _ _ h => h) (Or.inl ⟨by rfl, ?_⟩) hHeld ?_
      rotate_left 1
      · (intro w hSw; go_simp; try with_reducible rfl)
      try simp only [Act.put, List.setIfInBounds_toArray, List.set_cons_zero, List.set_cons_succ]
      refine stepL 16 (by kernel_rfl) rfl (fun K hK => ?_)
      go_simp
      show K _ _
      have HDE : Bx (D < V1.heap.size) := Bx.mk (Y1.out.km.blt (.head _))
      have Y2 := Bx.mk (Y1.out.new (.cells zc 39))
      clear Y1
      generalize V1.alloc (.cells zc 39) = V2 at *
      generalize V1.heap.size = E at *
      refine hK.out _ _ (range_later HRg.out (HB0.out _ Y2.out.km.grown) HbB.out) (fun hHeld => ?_)
      clear hK K
      try simp only [Act.put, List.setIfInBounds_toArray, List.set_cons_zero, List.set_cons_succ]
      refine stepL 17 (by kernel_rfl) rfl (fun K hK => ?_)
      refine step_st rfl 39 _ _ rfl E kl.toArray (by rfl) (by rfl) (there_row (Y2.out.km.rows _ (.head _)).1 0 _ (by rw [HI.out.2.2.1]; omega)) HI.out.1 HI.out.2.1 ?_
      have hr2 := heap_setCells_all (ds := kl.toArray) (Y2.out.km.rows _ (.head _)).1 HI.out.2.2.1
      have Y3 := Bx.mk (Y2.out.set (kb_setCells (b := E) (kl.toArray).toList 0 V2) hr2 (by intro y hy; have h1 := HDE.out; simp at hy; rcases hy with rfl; simp only; omega))
      clear hr2 Y2
      refine hK.out _ _ (range_later HRg.out (HB0.out _ Y3.out.km.grown) HbB.out) (fun hHeld => ?_)
      clear hK K
      try simp only [Act.put]
      generalize V2.setCells E 0 (kl.toArray).toList = V3 at *
      refine takeL 18 (v := ?_) rfl (by kernel_rfl) (by kernel_rfl) (by kernel_rfl) (fun _ _ _ h => h) (Or.inl ⟨by rfl, ?_⟩) hHeld ?_
      rotate_left 1
      · (intro w hSw; go_simp; try with_reducible rfl)
      try simp only [Act.put, List.setIfInBounds_toArray, List.set_cons_zero, List.set_cons_succ]
      refine wpAnyH_done (by kernel_rfl) ?_ _
      refine NoPanic.normal ?_
      clear hHeld
      go_wp2_with (refine wpList_load_mid rfl 24 _ rfl D 0 (by rfl) [.int .i64 i, .int .i64 r, .int .i64 x, .int .i64 q] _ (row_rng (l := [.int .i64 i, .int .i64 r, .int .i64 x, .int .i64 q]) (Y3.out.km.rows _ (.tail _ (.head _))).1) Tryd.underlying24 rfl (by kernel_rfl) ?_)
      refine (HRi.out V3).mono ?_
      rintro e X1 ⟨rfl, hb⟩
      have X := Bx.mk (Y3.out.later hb)
      clear hb Y3
      go_wp2_with (refine wpList_load_mid rfl 24 _ rfl D 0 (by rfl) [.int .i64 i, .int .i64 r, .int .i64 x, .int .i64 q] _ (row_rng (l := [.int .i64 i, .int .i64 r, .int .i64 x, .int .i64 q]) (X.out.km.rows _ (.tail _ (.head _))).1) Tryd.underlying24 rfl (by kernel_rfl) ?_)
      refine (HTo.out X1).mono ?_
      rintro e X2 ⟨rfl, hb⟩
      have Xb := Bx.mk ((X.out.later hb).later (below_a (.cells #[.int .i64 i, .int .i64 r, .int .i64 x, .int .i64 q] 36)))
      have HG2 := Bx.mk (row_rng (l := [.int .i64 i, .int .i64 r, .int .i64 x, .int .i64 q]) (hnew X2 (.cells #[.int .i64 i, .int .i64 r, .int .i64 x, .int .i64 q] 36) _ rfl))
      clear hb X
      go_wp2_with (refine wpList_apC rfl _ _ rfl w.heap.size _ l (by rfl) Xb.out.own X2.heap.size i r x q (by rfl) HG2.out (by rw [HLa.out]; have := HLn.out; omega) Xb.out.km.grown.size ?_; intro vb X3 ho3 hg3; have Xc := Bx.mk (Xb.out.more hg3 ho3); clear ho3 hg3)
      obtain ⟨ab, cb, hvb⟩ := Xc.out.2.form
      have HL1 : Bx ((l ++ [(⟨i, r, x, q⟩ : Cl)]).length = la + 1) := Bx.mk (by rw [List.length_append, HLa.out]; rfl)
      rw [HL1.out] at hvb
      subst hvb
      clear Xb HG2
      go_upto_region 18 with fail
      have Y0 := Bx.mk (And.intro Xc.out.1.drew (Xc.out.2.later (Below.refl _ _).drew))
      clear Xc
      refine wp_region_noPanic ?_
      refine wp_region_held_drew (S := fun W => W.heap[E]? = some (.cells kl.toArray 39 (0, 0)) ∧ W.heap[D]? = some (.cells #[.int .i64 i, .int .i64 r, .int .i64 x, .int .i64 q] 24 (0, 0))) (by kernel_rfl) (⟨(Y0.out.1.rows _ (.head _)).1, (Y0.out.1.rows _ (.tail _ (.head _))).1⟩) (fun hHeld => ?_)
      generalize X3.drew = V0 at *
      refine takeL 0 (v := ?_) rfl (by kernel_rfl) (by kernel_rfl) (by kernel_rfl) (fun _ _ _ h => h) (Or.inl ⟨by rfl, ?_⟩) hHeld ?_
      rotate_left 1
      · (intro w hSw; go_simp; try with_reducible rfl)
      try simp only [Act.put, List.setIfInBounds_toArray, List.set_cons_zero, List.set_cons_succ]
      refine takeL 1 (v := ?_) rfl (by kernel_rfl) (by kernel_rfl) (by kernel_rfl) (fun _ _ _ h => h) (Or.inl ⟨by rfl, ?_⟩) hHeld ?_
      rotate_left 1
      · (intro w hSw; go_simp; try with_reducible rfl)
      try simp only [Act.put, List.setIfInBounds_toArray, List.set_cons_zero, List.set_cons_succ]
      refine takeL 2 (v := ?_) rfl (by kernel_rfl) (by kernel_rfl) (by kernel_rfl) (fun _ _ _ h => h) (Or.inl ⟨by rfl, ?_⟩) hHeld ?_
      rotate_left 1
      · (intro w hSw; go_simp; try with_reducible rfl)
      try simp only [Act.put, List.setIfInBounds_toArray, List.set_cons_zero, List.set_cons_succ]
      refine takeL 3 (v := ?_) rfl (by kernel_rfl) (by kernel_rfl) (by kernel_rfl) (fun _ _ _ h => h) (Or.inl ⟨by rfl, ?_⟩) hHeld ?_
      rotate_left 1
      · (intro w hSw; go_simp; try with_reducible rfl)
      try simp only [Act.put, List.setIfInBounds_toArray, List.set_cons_zero, List.set_cons_succ]
      refine takeL 4 rfl (by kernel_rfl) (by kernel_rfl) (by kernel_rfl) (fun _ _ _ h => h) (yieldsIf_load_mid (by rfl) _ _ rfl _ _ rfl _ _ (fun w hSw => (HK4.out w _ _ hSw.1).1) Tryd.underlying36 rfl (by kernel_rfl)) hHeld ?_
      try simp only [Act.put, List.setIfInBounds_toArray, List.set_cons_zero, List.set_cons_succ]
      refine takeL 5 rfl (by kernel_rfl) (by kernel_rfl) (by kernel_rfl) (fun _ _ _ h => h) (yieldsIf_load_mid (by rfl) _ _ rfl _ _ rfl _ _ (fun w hSw => row_rng (l := [.int .i64 i, .int .i64 r, .int .i64 x, .int .i64 q]) hSw.2) Tryd.underlying24 rfl (by kernel_rfl)) hHeld ?_
      try simp only [Act.put, List.setIfInBounds_toArray, List.set_cons_zero, List.set_cons_succ]
      refine stepL 6 (by kernel_rfl) rfl (fun K hK => ?_)
      go_simp
      refine (HTo.out V0).mono ?_
      rintro e V1 ⟨rfl, hb⟩
      show K _ _
      have Y1 := Bx.mk (And.intro (Y0.out.1.later hb) (Y0.out.2.later hb))
      clear hb Y0
      refine hK.out _ _ ⟨(Y1.out.1.rows _ (.head _)).1, (Y1.out.1.rows _ (.tail _ (.head _))).1⟩ (fun hHeld => ?_)
      clear hK K
      try simp only [Act.put, List.setIfInBounds_toArray, List.set_cons_zero, List.set_cons_succ]
      refine takeL 7 (v := ?_) rfl (by kernel_rfl) (by kernel_rfl) (by kernel_rfl) (fun _ _ _ h => h) (Or.inl ⟨by rfl, ?_⟩) hHeld ?_
      rotate_left 1
      · (intro w hSw; go_simp; try with_reducible rfl)
      try simp only [Act.put, List.setIfInBounds_toArray, List.set_cons_zero, List.set_cons_succ]
      refine takeL 8 (v := ?_) rfl (by kernel_rfl) (by kernel_rfl) (by kernel_rfl) (fun _ _ _ h => h) (Or.inl ⟨by rfl, ?_⟩) hHeld ?_
      rotate_left 1
      · (intro w hSw; go_simp; try with_reducible rfl)
      try simp only [Act.put, List.setIfInBounds_toArray, List.set_cons_zero, List.set_cons_succ]
      refine takeL 9 (v := ?_) rfl (by kernel_rfl) (by kernel_rfl) (by kernel_rfl) (fun _ _ _ h => h) (Or.inl ⟨by rfl, ?_⟩) hHeld ?_
      rotate_left 1
      · (intro w hSw; go_simp; try with_reducible rfl)
      try simp only [Act.put, List.setIfInBounds_toArray, List.set_cons_zero, List.set_cons_succ]
      refine takeL 10 (v := ?_) rfl (by kernel_rfl) (by kernel_rfl) (by kernel_rfl) (fun _ _ _ h => h) (Or.inl ⟨by rfl, ?_⟩) hHeld ?_
      rotate_left 1
      · (intro w hSw; go_simp; try with_reducible rfl)
      try simp only [Act.put, List.setIfInBounds_toArray, List.set_cons_zero, List.set_cons_succ]
      refine takeL 12 rfl (by kernel_rfl) (by kernel_rfl) (by kernel_rfl) (fun _ _ _ h => h) (yieldsIf_load_mid (by rfl) _ _ rfl _ _ rfl _ _ (fun w hSw => (HK4.out w _ _ hSw.1).2) Tryd.underlying39 rfl HI.out.2.2.2) hHeld ?_
      try simp only [Act.put, List.setIfInBounds_toArray, List.set_cons_zero, List.set_cons_succ]
      refine stepL 11 (by kernel_rfl) rfl (fun K hK => ?_)
      go_simp
      refine (master_any M _ key V1 Y1.out.1.mt HKL.out).mono ?_
      rintro e V2 ⟨vk, rfl, hk1, hb⟩
      show K _ _
      have Y2 := Bx.mk (And.intro (Y1.out.1.later hb) (Y1.out.2.later hb))
      have HVK := Bx.mk hk1.key
      clear hk1
      clear hb Y1
      refine hK.out _ _ ⟨(Y2.out.1.rows _ (.head _)).1, (Y2.out.1.rows _ (.tail _ (.head _))).1⟩ (fun hHeld => ?_)
      clear hK K
      try simp only [Act.put, List.setIfInBounds_toArray, List.set_cons_zero, List.set_cons_succ]
      refine stepL 13 (by kernel_rfl) rfl (fun K hK => ?_)
      go_simp
      refine (HHo.out V2 vk Y2.out.1.grown HVK.out).mono ?_
      rintro e V3 ⟨rfl, hb⟩
      show K _ _
      have Y3 := Bx.mk (And.intro (Y2.out.1.later hb) (Y2.out.2.later hb))
      clear hb Y2
      refine hK.out _ _ ⟨(Y3.out.1.rows _ (.head _)).1, (Y3.out.1.rows _ (.tail _ (.head _))).1⟩ (fun hHeld => ?_)
      clear hK K
      try simp only [Act.put, List.setIfInBounds_toArray, List.set_cons_zero, List.set_cons_succ]
      refine takeL 14 (v := ?_) rfl (by kernel_rfl) (by kernel_rfl) (by kernel_rfl) (fun _ _ _ h => h) (Or.inl ⟨by rfl, ?_⟩) hHeld ?_
      rotate_left 1
      · (intro w hSw; go_simp; try with_reducible rfl)
      try simp only [Act.put, List.setIfInBounds_toArray, List.set_cons_zero, List.set_cons_succ]
      refine takeL 15 (v := ?_) rfl (by kernel_rfl) (by kernel_rfl) (by kernel_rfl) (fun _ _ _ h => h) (Or.inl ⟨by rfl, ?_⟩) hHeld ?_
      rotate_left 1
      · (intro w hSw; go_simp; try with_reducible rfl)
      try simp only [Act.put, List.setIfInBounds_toArray, List.set_cons_zero, List.set_cons_succ]
      refine takeL 16 (v := ?_) rfl (by kernel_rfl) (by kernel_rfl) (by kernel_rfl) (fun _ _ _ h => h) (Or.inl ⟨by rfl, ?_⟩) hHeld ?_
      rotate_left 1
      · (intro w hSw; go_simp; try with_reducible rfl)
      try simp only [Act.put, List.setIfInBounds_toArray, List.set_cons_zero, List.set_cons_succ]
      refine takeL 17 (v := ?_) rfl (by kernel_rfl) (by kernel_rfl) (by kernel_rfl) (fun _ _ _ h => h) (Or.inl ⟨by rfl, ?_⟩) hHeld ?_
      rotate_left 1
      · (intro w hSw; go_simp; try with_reducible rfl)
      try simp only [Act.put, List.setIfInBounds_toArray, List.set_cons_zero, List.set_cons_succ]
      refine takeL 19 (v := ?_) rfl (by kernel_rfl) (by kernel_rfl) (by kernel_rfl) (fun _ _ _ h => h) (Or.inl ⟨by rfl, ?_⟩) hHeld ?_
      rotate_left 1
      · (intro w hSw; go_simp; try with_reducible rfl)
      try simp only [Act.put, List.setIfInBounds_toArray, List.set_cons_zero, List.set_cons_succ]
      refine takeL 20 (v := ?_) rfl (by kernel_rfl) (by kernel_rfl) (by kernel_rfl) (fun _ _ _ h => h) (Or.inl ⟨by rfl, ?_⟩) hHeld ?_
      rotate_left 1
      · (intro w hSw; go_simp; try with_reducible rfl)
      try simp only [Act.put, List.setIfInBounds_toArray, List.set_cons_zero, List.set_cons_succ]
      refine stepL 18 (by kernel_rfl) rfl (fun K hK => ?_)
      go_simp
      refine (HCo.out V3 _ Y3.out.1.mt).mono ?_
      rintro e W' ⟨rfl, rfl⟩
      show K _ _
      rw [HL1.out]
      refine hK.out _ _ ⟨(Y3.out.1.rows _ (.head _)).1, (Y3.out.1.rows _ (.tail _ (.head _))).1⟩ (fun hHeld => ?_)
      clear hK K
      try simp only [Act.put, List.setIfInBounds_toArray, List.set_cons_zero, List.set_cons_succ]
      refine takeL 21 (v := ?_) rfl (by kernel_rfl) (by kernel_rfl) (by kernel_rfl) (fun _ _ _ h => h) (Or.inl ⟨by rfl, ?_⟩) hHeld ?_
      rotate_left 1
      · (intro w hSw; go_simp; try with_reducible rfl)
      try simp only [Act.put, List.setIfInBounds_toArray, List.set_cons_zero, List.set_cons_succ]
      refine takeL 22 (v := ?_) rfl (by kernel_rfl) (by kernel_rfl) (by kernel_rfl) (fun _ _ _ h => h) (Or.inl ⟨by rfl, ?_⟩) hHeld ?_
      rotate_left 1
      · (intro w hSw; go_simp; try with_reducible rfl)
      try simp only [Act.put, List.setIfInBounds_toArray, List.set_cons_zero, List.set_cons_succ]
      refine wpAnyH_done (by kernel_rfl) ?_ _
      refine NoPanic.normal ?_
      clear hHeld
      go_wp2
      exact ⟨⟨⟨rfl, rfl⟩, rfl, rfl, rfl⟩, by first | rfl | go_num, _, rfl, by unfold IR; rw [HIK.out]; exact ⟨⟨fun _ hx => (List.not_mem_nil hx).elim, Y3.out.1.grown, Y3.out.1.lt, Y3.out.1.row⟩, Y3.out.2, fun _ hx => (List.not_mem_nil hx).elim⟩⟩
    · go_simp
      show K _ _
      have HDE : Bx (D < V0.heap.size) := Bx.mk (Y0.out.km.blt (.head _))
      have Y1 := Bx.mk (Y0.out.new (.cells zc 39))
      clear Y0
      generalize V0.alloc (.cells zc 39) = V1 at *
      generalize V0.heap.size = E at *
      refine hK.out _ _ (range_later HRg.out (HB0.out _ Y1.out.km.grown) HbB.out) (fun hHeld => ?_)
      clear hK K
      try simp only [Act.put, List.setIfInBounds_toArray, List.set_cons_zero, List.set_cons_succ]
      refine stepL 12 (by kernel_rfl) rfl (fun K hK => ?_)
      go_simp
      refine (HIs.out V1 _ Y1.out.km.grown Y1.out.km.mt (HIn.out.later (HB0.out _ Y1.out.km.grown))).mono ?_
      rintro e V2 ⟨rfl, hb⟩
      show K _ _
      have Y2 := Bx.mk (Y1.out.minted hb)
      clear hb Y1
      refine hK.out _ _ (range_later HRg.out (HB0.out _ Y2.out.km.grown) HbB.out) (fun hHeld => ?_)
      clear hK K
      try simp only [Act.put, List.setIfInBounds_toArray, List.set_cons_zero, List.set_cons_succ]
      refine takeL 13 (v := ?_) rfl (by kernel_rfl) (by kernel_rfl) (by kernel_rfl) (fun _ _ _ h => h) (Or.inl ⟨by rfl, ?_⟩) hHeld ?_
      rotate_left 1
      · (intro w hSw; go_simp; try with_reducible rfl)
      try simp only [Act.put, List.setIfInBounds_toArray, List.set_cons_zero, List.set_cons_succ]
      refine takeL 14 (v := ?_) rfl (by kernel_rfl) (by kernel_rfl) (by kernel_rfl) (fun _ _ _ h => h) (Or.inl ⟨by rfl, ?_⟩) hHeld ?_
      rotate_left 1
      · (intro w hSw; go_simp; try with_reducible rfl)
      try simp only [Act.put, List.setIfInBounds_toArray, List.set_cons_zero, List.set_cons_succ]
      refine takeL 15 (v := ?_) rfl (by kernel_rfl) (by kernel_rfl) (by kernel_rfl) (fun _ _ _ h => h) (Or.inl ⟨by rfl, ?_⟩) hHeld ?_
      rotate_left 1
      · (intro w hSw; go_simp; try with_reducible rfl)
      try simp only [Act.put, List.setIfInBounds_toArray, List.set_cons_zero, List.set_cons_succ]
      refine stepL 17 (by kernel_rfl) rfl (fun K hK => ?_)
      refine step_st rfl 39 _ _ rfl E kl.toArray (by rfl) (by rfl) (there_row (Y2.out.km.rows _ (.head _)).1 0 _ (by rw [HI.out.2.2.1]; omega)) HI.out.1 HI.out.2.1 ?_
      have hr2 := heap_setCells_all (ds := kl.toArray) (Y2.out.km.rows _ (.head _)).1 HI.out.2.2.1
      have Y3 := Bx.mk (Y2.out.set (kb_setCells (b := E) (kl.toArray).toList 0 V2) hr2 (by intro y hy; have h1 := HDE.out; simp at hy; rcases hy with rfl; simp only; omega))
      clear hr2 Y2
      refine hK.out _ _ (range_later HRg.out (HB0.out _ Y3.out.km.grown) HbB.out) (fun hHeld => ?_)
      clear hK K
      try simp only [Act.put]
      generalize V2.setCells E 0 (kl.toArray).toList = V3 at *
      refine takeL 18 (v := ?_) rfl (by kernel_rfl) (by kernel_rfl) (by kernel_rfl) (fun _ _ _ h => h) (Or.inl ⟨by rfl, ?_⟩) hHeld ?_
      rotate_left 1
      · (intro w hSw; go_simp; try with_reducible rfl)
      try simp only [Act.put, List.setIfInBounds_toArray, List.set_cons_zero, List.set_cons_succ]
      refine wpAnyH_done (by kernel_rfl) ?_ _
      refine NoPanic.normal ?_
      clear hHeld
      go_wp2_with (refine wpList_load_mid rfl 24 _ rfl D 0 (by rfl) [.int .i64 i, .int .i64 r, .int .i64 x, .int .i64 q] _ (row_rng (l := [.int .i64 i, .int .i64 r, .int .i64 x, .int .i64 q]) (Y3.out.km.rows _ (.tail _ (.head _))).1) Tryd.underlying24 rfl (by kernel_rfl) ?_)
      refine (HRi.out V3).mono ?_
      rintro e X1 ⟨rfl, hb⟩
      have X := Bx.mk (Y3.out.later hb)
      clear hb Y3
      go_wp2_with (refine wpList_load_mid rfl 24 _ rfl D 0 (by rfl) [.int .i64 i, .int .i64 r, .int .i64 x, .int .i64 q] _ (row_rng (l := [.int .i64 i, .int .i64 r, .int .i64 x, .int .i64 q]) (X.out.km.rows _ (.tail _ (.head _))).1) Tryd.underlying24 rfl (by kernel_rfl) ?_)
      refine (HTo.out X1).mono ?_
      rintro e X2 ⟨rfl, hb⟩
      have Xb := Bx.mk ((X.out.later hb).later (below_a (.cells #[.int .i64 i, .int .i64 r, .int .i64 x, .int .i64 q] 36)))
      have HG2 := Bx.mk (row_rng (l := [.int .i64 i, .int .i64 r, .int .i64 x, .int .i64 q]) (hnew X2 (.cells #[.int .i64 i, .int .i64 r, .int .i64 x, .int .i64 q] 36) _ rfl))
      clear hb X
      go_wp2_with (refine wpList_apC rfl _ _ rfl w.heap.size _ l (by rfl) Xb.out.own X2.heap.size i r x q (by rfl) HG2.out (by rw [HLa.out]; have := HLn.out; omega) Xb.out.km.grown.size ?_; intro vb X3 ho3 hg3; have Xc := Bx.mk (Xb.out.more hg3 ho3); clear ho3 hg3)
      obtain ⟨ab, cb, hvb⟩ := Xc.out.2.form
      have HL1 : Bx ((l ++ [(⟨i, r, x, q⟩ : Cl)]).length = la + 1) := Bx.mk (by rw [List.length_append, HLa.out]; rfl)
      rw [HL1.out] at hvb
      subst hvb
      clear Xb HG2
      go_upto_region 18 with fail
      have Y0 := Bx.mk (And.intro Xc.out.1.drew (Xc.out.2.later (Below.refl _ _).drew))
      clear Xc
      refine wp_region_noPanic ?_
      refine wp_region_held_drew (S := fun W => W.heap[E]? = some (.cells kl.toArray 39 (0, 0)) ∧ W.heap[D]? = some (.cells #[.int .i64 i, .int .i64 r, .int .i64 x, .int .i64 q] 24 (0, 0))) (by kernel_rfl) (⟨(Y0.out.1.rows _ (.head _)).1, (Y0.out.1.rows _ (.tail _ (.head _))).1⟩) (fun hHeld => ?_)
      generalize X3.drew = V0 at *
      refine takeL 0 (v := ?_) rfl (by kernel_rfl) (by kernel_rfl) (by kernel_rfl) (fun _ _ _ h => h) (Or.inl ⟨by rfl, ?_⟩) hHeld ?_
      rotate_left 1
      · (intro w hSw; go_simp; try with_reducible rfl)
      try simp only [Act.put, List.setIfInBounds_toArray, List.set_cons_zero, List.set_cons_succ]
      refine takeL 1 (v := ?_) rfl (by kernel_rfl) (by kernel_rfl) (by kernel_rfl) (fun _ _ _ h => h) (Or.inl ⟨by rfl, ?_⟩) hHeld ?_
      rotate_left 1
      · (intro w hSw; go_simp; try with_reducible rfl)
      try simp only [Act.put, List.setIfInBounds_toArray, List.set_cons_zero, List.set_cons_succ]
      refine takeL 2 (v := ?_) rfl (by kernel_rfl) (by kernel_rfl) (by kernel_rfl) (fun _ _ _ h => h) (Or.inl ⟨by rfl, ?_⟩) hHeld ?_
      rotate_left 1
      · (intro w hSw; go_simp; try with_reducible rfl)
      try simp only [Act.put, List.setIfInBounds_toArray, List.set_cons_zero, List.set_cons_succ]
      refine takeL 3 (v := ?_) rfl (by kernel_rfl) (by kernel_rfl) (by kernel_rfl) (fun _ _ _ h => h) (Or.inl ⟨by rfl, ?_⟩) hHeld ?_
      rotate_left 1
      · (intro w hSw; go_simp; try with_reducible rfl)
      try simp only [Act.put, List.setIfInBounds_toArray, List.set_cons_zero, List.set_cons_succ]
      refine takeL 4 rfl (by kernel_rfl) (by kernel_rfl) (by kernel_rfl) (fun _ _ _ h => h) (yieldsIf_load_mid (by rfl) _ _ rfl _ _ rfl _ _ (fun w hSw => (HK4.out w _ _ hSw.1).1) Tryd.underlying36 rfl (by kernel_rfl)) hHeld ?_
      try simp only [Act.put, List.setIfInBounds_toArray, List.set_cons_zero, List.set_cons_succ]
      refine takeL 5 rfl (by kernel_rfl) (by kernel_rfl) (by kernel_rfl) (fun _ _ _ h => h) (yieldsIf_load_mid (by rfl) _ _ rfl _ _ rfl _ _ (fun w hSw => row_rng (l := [.int .i64 i, .int .i64 r, .int .i64 x, .int .i64 q]) hSw.2) Tryd.underlying24 rfl (by kernel_rfl)) hHeld ?_
      try simp only [Act.put, List.setIfInBounds_toArray, List.set_cons_zero, List.set_cons_succ]
      refine stepL 6 (by kernel_rfl) rfl (fun K hK => ?_)
      go_simp
      refine (HTo.out V0).mono ?_
      rintro e V1 ⟨rfl, hb⟩
      show K _ _
      have Y1 := Bx.mk (And.intro (Y0.out.1.later hb) (Y0.out.2.later hb))
      clear hb Y0
      refine hK.out _ _ ⟨(Y1.out.1.rows _ (.head _)).1, (Y1.out.1.rows _ (.tail _ (.head _))).1⟩ (fun hHeld => ?_)
      clear hK K
      try simp only [Act.put, List.setIfInBounds_toArray, List.set_cons_zero, List.set_cons_succ]
      refine takeL 7 (v := ?_) rfl (by kernel_rfl) (by kernel_rfl) (by kernel_rfl) (fun _ _ _ h => h) (Or.inl ⟨by rfl, ?_⟩) hHeld ?_
      rotate_left 1
      · (intro w hSw; go_simp; try with_reducible rfl)
      try simp only [Act.put, List.setIfInBounds_toArray, List.set_cons_zero, List.set_cons_succ]
      refine takeL 8 (v := ?_) rfl (by kernel_rfl) (by kernel_rfl) (by kernel_rfl) (fun _ _ _ h => h) (Or.inl ⟨by rfl, ?_⟩) hHeld ?_
      rotate_left 1
      · (intro w hSw; go_simp; try with_reducible rfl)
      try simp only [Act.put, List.setIfInBounds_toArray, List.set_cons_zero, List.set_cons_succ]
      refine takeL 9 (v := ?_) rfl (by kernel_rfl) (by kernel_rfl) (by kernel_rfl) (fun _ _ _ h => h) (Or.inl ⟨by rfl, ?_⟩) hHeld ?_
      rotate_left 1
      · (intro w hSw; go_simp; try with_reducible rfl)
      try simp only [Act.put, List.setIfInBounds_toArray, List.set_cons_zero, List.set_cons_succ]
      refine takeL 10 (v := ?_) rfl (by kernel_rfl) (by kernel_rfl) (by kernel_rfl) (fun _ _ _ h => h) (Or.inl ⟨by rfl, ?_⟩) hHeld ?_
      rotate_left 1
      · (intro w hSw; go_simp; try with_reducible rfl)
      try simp only [Act.put, List.setIfInBounds_toArray, List.set_cons_zero, List.set_cons_succ]
      refine takeL 12 rfl (by kernel_rfl) (by kernel_rfl) (by kernel_rfl) (fun _ _ _ h => h) (yieldsIf_load_mid (by rfl) _ _ rfl _ _ rfl _ _ (fun w hSw => (HK4.out w _ _ hSw.1).2) Tryd.underlying39 rfl HI.out.2.2.2) hHeld ?_
      try simp only [Act.put, List.setIfInBounds_toArray, List.set_cons_zero, List.set_cons_succ]
      refine stepL 11 (by kernel_rfl) rfl (fun K hK => ?_)
      go_simp
      refine (master_any M _ key V1 Y1.out.1.mt HKL.out).mono ?_
      rintro e V2 ⟨vk, rfl, hk1, hb⟩
      show K _ _
      have Y2 := Bx.mk (And.intro (Y1.out.1.later hb) (Y1.out.2.later hb))
      have HVK := Bx.mk hk1.key
      clear hk1
      clear hb Y1
      refine hK.out _ _ ⟨(Y2.out.1.rows _ (.head _)).1, (Y2.out.1.rows _ (.tail _ (.head _))).1⟩ (fun hHeld => ?_)
      clear hK K
      try simp only [Act.put, List.setIfInBounds_toArray, List.set_cons_zero, List.set_cons_succ]
      refine stepL 13 (by kernel_rfl) rfl (fun K hK => ?_)
      go_simp
      refine (HHo.out V2 vk Y2.out.1.grown HVK.out).mono ?_
      rintro e V3 ⟨rfl, hb⟩
      show K _ _
      have Y3 := Bx.mk (And.intro (Y2.out.1.later hb) (Y2.out.2.later hb))
      clear hb Y2
      refine hK.out _ _ ⟨(Y3.out.1.rows _ (.head _)).1, (Y3.out.1.rows _ (.tail _ (.head _))).1⟩ (fun hHeld => ?_)
      clear hK K
      try simp only [Act.put, List.setIfInBounds_toArray, List.set_cons_zero, List.set_cons_succ]
      refine takeL 14 (v := ?_) rfl (by kernel_rfl) (by kernel_rfl) (by kernel_rfl) (fun _ _ _ h => h) (Or.inl ⟨by rfl, ?_⟩) hHeld ?_
      rotate_left 1
      · (intro w hSw; go_simp; try with_reducible rfl)
      try simp only [Act.put, List.setIfInBounds_toArray, List.set_cons_zero, List.set_cons_succ]
      refine takeL 15 (v := ?_) rfl (by kernel_rfl) (by kernel_rfl) (by kernel_rfl) (fun _ _ _ h => h) (Or.inl ⟨by rfl, ?_⟩) hHeld ?_
      rotate_left 1
      · (intro w hSw; go_simp; try with_reducible rfl)
      try simp only [Act.put, List.setIfInBounds_toArray, List.set_cons_zero, List.set_cons_succ]
      refine takeL 16 (v := ?_) rfl (by kernel_rfl) (by kernel_rfl) (by kernel_rfl) (fun _ _ _ h => h) (Or.inl ⟨by rfl, ?_⟩) hHeld ?_
      rotate_left 1
      · (intro w hSw; go_simp; try with_reducible rfl)
      try simp only [Act.put, List.setIfInBounds_toArray, List.set_cons_zero, List.set_cons_succ]
      refine takeL 17 (v := ?_) rfl (by kernel_rfl) (by kernel_rfl) (by kernel_rfl) (fun _ _ _ h => h) (Or.inl ⟨by rfl, ?_⟩) hHeld ?_
      rotate_left 1
      · (intro w hSw; go_simp; try with_reducible rfl)
      try simp only [Act.put, List.setIfInBounds_toArray, List.set_cons_zero, List.set_cons_succ]
      refine takeL 19 (v := ?_) rfl (by kernel_rfl) (by kernel_rfl) (by kernel_rfl) (fun _ _ _ h => h) (Or.inl ⟨by rfl, ?_⟩) hHeld ?_
      rotate_left 1
      · (intro w hSw; go_simp; try with_reducible rfl)
      try simp only [Act.put, List.setIfInBounds_toArray, List.set_cons_zero, List.set_cons_succ]
      refine takeL 20 (v := ?_) rfl (by kernel_rfl) (by kernel_rfl) (by kernel_rfl) (fun _ _ _ h => h) (Or.inl ⟨by rfl, ?_⟩) hHeld ?_
      rotate_left 1
      · (intro w hSw; go_simp; try with_reducible rfl)
      try simp only [Act.put, List.setIfInBounds_toArray, List.set_cons_zero, List.set_cons_succ]
      refine stepL 18 (by kernel_rfl) rfl (fun K hK => ?_)
      go_simp
      refine (HCo.out V3 _ Y3.out.1.mt).mono ?_
      rintro e W' ⟨rfl, rfl⟩
      show K _ _
      rw [HL1.out]
      refine hK.out _ _ ⟨(Y3.out.1.rows _ (.head _)).1, (Y3.out.1.rows _ (.tail _ (.head _))).1⟩ (fun hHeld => ?_)
      clear hK K
      try simp only [Act.put, List.setIfInBounds_toArray, List.set_cons_zero, List.set_cons_succ]
      refine takeL 21 (v := ?_) rfl (by kernel_rfl) (by kernel_rfl) (by kernel_rfl) (fun _ _ _ h => h) (Or.inl ⟨by rfl, ?_⟩) hHeld ?_
      rotate_left 1
      · (intro w hSw; go_simp; try with_reducible rfl)
      try simp only [Act.put, List.setIfInBounds_toArray, List.set_cons_zero, List.set_cons_succ]
      refine takeL 22 (v := ?_) rfl (by kernel_rfl) (by kernel_rfl) (by kernel_rfl) (fun _ _ _ h => h) (Or.inl ⟨by rfl, ?_⟩) hHeld ?_
      rotate_left 1
      · (intro w hSw; go_simp; try with_reducible rfl)
      try simp only [Act.put, List.setIfInBounds_toArray, List.set_cons_zero, List.set_cons_succ]
      refine wpAnyH_done (by kernel_rfl) ?_ _
      refine NoPanic.normal ?_
      clear hHeld
      go_wp2
      exact ⟨⟨⟨rfl, rfl⟩, rfl, rfl, rfl⟩, by first | rfl | go_num, _, rfl, by unfold IR; rw [HIK.out]; exact ⟨⟨fun _ hx => (List.not_mem_nil hx).elim, Y3.out.1.grown, Y3.out.1.lt, Y3.out.1.row⟩, Y3.out.2, fun _ hx => (List.not_mem_nil hx).elim⟩⟩
  · go_simp
    show K _ _
    have Q1 := Bx.mk (R1.out.new (.cells #[.int .i64 0, .int .i64 0, .int .i64 0, .int .i64 0] 24))
    clear R1
    generalize U0.alloc (.cells #[.int .i64 0, .int .i64 0, .int .i64 0, .int .i64 0] 24) = U1 at *
    generalize U0.heap.size = D at *
    refine hK.out _ _ (range_later HRg.out (HB0.out _ Q1.out.km.grown) HbB.out) (fun hHeld => ?_)
    clear hK K
    try simp only [Act.put, List.setIfInBounds_toArray, List.set_cons_zero, List.set_cons_succ]
    refine stepL 6 (by kernel_rfl) rfl (fun K hK => ?_)
    go_simp
    refine (HMa.out U1 _ (HIn.out.later (HB0.out _ Q1.out.km.grown))).mono ?_
    rintro e W' ⟨rfl, rfl⟩
    show K _ _
    refine hK.out _ _ (range_later HRg.out (HB0.out _ Q1.out.km.grown) HbB.out) (fun hHeld => ?_)
    clear hK K
    try simp only [Act.put, List.setIfInBounds_toArray, List.set_cons_zero, List.set_cons_succ]
    refine takeL 15 (v := ?_) rfl (by kernel_rfl) (by kernel_rfl) (by kernel_rfl) (fun _ _ _ h => h) (Or.inl ⟨by rfl, ?_⟩) hHeld ?_
    rotate_left 1
    · (intro w hSw; go_simp; try with_reducible rfl)
    try simp only [Act.put, List.setIfInBounds_toArray, List.set_cons_zero, List.set_cons_succ]
    refine stepL 17 (by kernel_rfl) rfl (fun K hK => ?_)
    refine step_st rfl 24 _ _ rfl D #[.int .i64 i, .int .i64 r, .int .i64 x, .int .i64 q] (by rfl) (by rfl) (there_row (Q1.out.km.rows _ (.head _)).1 0 _ (Nat.le_refl _)) (by kernel_rfl) (by simp [Value.oneCell']) ?_
    have hr2 := heap_setCells_all (ds := #[.int .i64 i, .int .i64 r, .int .i64 x, .int .i64 q]) (Q1.out.km.rows _ (.head _)).1 rfl
    have Q2 := Bx.mk (Q1.out.set (kb_setCells (b := D) (#[.int .i64 i, .int .i64 r, .int .i64 x, .int .i64 q] : Array Value).toList 0 U1) hr2 (fun y hy => (List.not_mem_nil hy).elim))
    clear hr2 Q1
    refine hK.out _ _ (range_later HRg.out (HB0.out _ Q2.out.km.grown) HbB.out) (fun hHeld => ?_)
    clear hK K
    try simp only [Act.put]
    generalize U1.setCells D 0 (#[.int .i64 i, .int .i64 r, .int .i64 x, .int .i64 q] : Array Value).toList = U2 at *
    refine wpAnyH_done (by kernel_rfl) ?_ _
    refine NoPanic.normal ?_
    clear hHeld
    go_upto_region 13 with fail
    have Y0 := Bx.mk (Q2.out.later (Below.refl _ _).drew)
    clear Q2
    refine wp_region_noPanic ?_
    refine wp_region_held_drew (S := fun W => W.rangeAt b (o + k * 3) [.int .i64 i, .int .i64 x, .slice ar nr cr]) (by kernel_rfl) ((range_later HRg.out (HB0.out _ Y0.out.km.grown) HbB.out)) (fun hHeld => ?_)
    generalize U2.drew = V0 at *
    refine takeL 0 (v := ?_) rfl (by kernel_rfl) (by kernel_rfl) (by kernel_rfl) (fun _ _ _ h => h) (Or.inl ⟨by rfl, ?_⟩) hHeld ?_
    rotate_left 1
    · (intro w hSw; go_simp; try with_reducible rfl)
    try simp only [Act.put, List.setIfInBounds_toArray, List.set_cons_zero, List.set_cons_succ]
    refine takeL 1 (v := ?_) rfl (by kernel_rfl) (by kernel_rfl) (by kernel_rfl) (fun _ _ _ h => h) (Or.inl ⟨by rfl, ?_⟩) hHeld ?_
    rotate_left 1
    · (intro w hSw; go_simp; try with_reducible rfl)
    try simp only [Act.put, List.setIfInBounds_toArray, List.set_cons_zero, List.set_cons_succ]
    refine takeL 2 (v := ?_) rfl (by kernel_rfl) (by kernel_rfl) (by kernel_rfl) (fun _ _ _ h => h) (Or.inl ⟨by rfl, ?_⟩) hHeld ?_
    rotate_left 1
    · (intro w hSw; go_simp; try with_reducible rfl)
    try simp only [Act.put, List.setIfInBounds_toArray, List.set_cons_zero, List.set_cons_succ]
    refine takeL 3 (v := ?_) rfl (by kernel_rfl) (by kernel_rfl) (by kernel_rfl) (fun _ _ _ h => h) (Or.inl ⟨by rfl, ?_⟩) hHeld ?_
    rotate_left 1
    · (intro w hSw; go_simp; try with_reducible rfl)
    try simp only [Act.put, List.setIfInBounds_toArray, List.set_cons_zero, List.set_cons_succ]
    refine takeL 4 (v := ?_) rfl (by kernel_rfl) (by kernel_rfl) (by kernel_rfl) (fun _ _ _ h => h) (Or.inl ⟨by rfl, ?_⟩) hHeld ?_
    rotate_left 1
    · (intro w hSw; go_simp; try with_reducible rfl)
    try simp only [Act.put, List.setIfInBounds_toArray, List.set_cons_zero, List.set_cons_succ]
    refine takeL 5 (v := ?_) rfl (by kernel_rfl) (by kernel_rfl) (by kernel_rfl) (fun _ _ _ h => h) (Or.inl ⟨by rfl, ?_⟩) hHeld ?_
    rotate_left 1
    · (intro w hSw; have c0 : w.cell? ⟨b, o + k * 3, none⟩ = some _ := hSw 0 _ rfl; go_simp; try with_reducible rfl)
    try simp only [Act.put, List.setIfInBounds_toArray, List.set_cons_zero, List.set_cons_succ]
    refine takeL 6 (v := ?_) rfl (by kernel_rfl) (by kernel_rfl) (by kernel_rfl) (fun _ _ _ h => h) (Or.inl ⟨by rfl, ?_⟩) hHeld ?_
    rotate_left 1
    · (intro w hSw; go_simp; try with_reducible rfl)
    try simp only [Act.put, List.setIfInBounds_toArray, List.set_cons_zero, List.set_cons_succ]
    refine takeL 7 (v := ?_) rfl (by kernel_rfl) (by kernel_rfl) (by kernel_rfl) (fun _ _ _ h => h) (Or.inl ⟨by rfl, ?_⟩) hHeld ?_
    rotate_left 1
    · (intro w hSw; go_simp; try with_reducible rfl)
    try simp only [Act.put, List.setIfInBounds_toArray, List.set_cons_zero, List.set_cons_succ]
    refine takeL 8 (v := ?_) rfl (by kernel_rfl) (by kernel_rfl) (by kernel_rfl) (fun _ _ _ h => h) (Or.inl ⟨by rfl, ?_⟩) hHeld ?_
    rotate_left 1
    · (intro w hSw; go_simp; try with_reducible rfl)
    try simp only [Act.put, List.setIfInBounds_toArray, List.set_cons_zero, List.set_cons_succ]
    refine takeL 9 (v := ?_) rfl (by kernel_rfl) (by kernel_rfl) (by kernel_rfl) (fun _ _ _ h => h) (Or.inl ⟨by rfl, ?_⟩) hHeld ?_
    rotate_left 1
    · (intro w hSw; go_simp; try with_reducible rfl)
    try simp only [Act.put, List.setIfInBounds_toArray, List.set_cons_zero, List.set_cons_succ]
    refine takeL 10 (v := ?_) rfl (by kernel_rfl) (by kernel_rfl) (by kernel_rfl) (fun _ _ _ h => h) (Or.inl ⟨by rfl, ?_⟩) hHeld ?_
    rotate_left 1
    · (intro w hSw; have c0 : w.cell? ⟨b, o + k * 3 + 1, none⟩ = some _ := hSw 1 _ rfl; go_simp; try with_reducible rfl)
    try simp only [Act.put, List.setIfInBounds_toArray, List.set_cons_zero, List.set_cons_succ]
    refine takeL 11 (v := ?_) rfl (by kernel_rfl) (by kernel_rfl) (by kernel_rfl) (fun _ _ _ h => h) (Or.inl ⟨by rfl, ?_⟩) hHeld ?_
    rotate_left 1
    · (intro w hSw; go_simp; try with_reducible rfl)
    try simp only [Act.put, List.setIfInBounds_toArray, List.set_cons_zero, List.set_cons_succ]
    refine wpAnyH_ready (rs := [12, 16]) (by kernel_rfl) (by simp) ?_
    refine consM 12 rfl (fun K hK => ?_) (consM 16 rfl (fun K hK => ?_) AllReadyH.nil)
    · go_simp
      refine (HIs.out V0 _ Y0.out.km.grown Y0.out.km.mt (HIn.out.later (HB0.out _ Y0.out.km.grown))).mono ?_
      rintro e V1 ⟨rfl, hb⟩
      show K _ _
      have Y1 := Bx.mk (Y0.out.minted hb)
      clear hb Y0
      refine hK.out _ _ (range_later HRg.out (HB0.out _ Y1.out.km.grown) HbB.out) (fun hHeld => ?_)
      clear hK K
      try simp only [Act.put, List.setIfInBounds_toArray, List.set_cons_zero, List.set_cons_succ]
      refine takeL 13 (v := ?_) rfl (by kernel_rfl) (by kernel_rfl) (by kernel_rfl) (fun _ _ _ h => h) (Or.inl ⟨by rfl, ?_⟩) hHeld ?_
      rotate_left 1
      · (intro w hSw; go_simp; try with_reducible rfl)
      try simp only [Act.put, List.setIfInBounds_toArray, List.set_cons_zero, List.set_cons_succ]
      refine takeL 14 (v := ?_) rfl (by kernel_rfl) (by kernel_rfl) (by kernel_rfl) (fun _ _ _ h => h) (Or.inl ⟨by rfl, ?_⟩) hHeld ?_
      rotate_left 1
      · (intro w hSw; go_simp; try with_reducible rfl)
      try simp only [Act.put, List.setIfInBounds_toArray, List.set_cons_zero, List.set_cons_succ]
      refine takeL 15 (v := ?_) rfl (by kernel_rfl) (by kernel_rfl) (by kernel_rfl) (fun _ _ _ h => h) (Or.inl ⟨by rfl, ?_⟩) hHeld ?_
      rotate_left 1
      · (intro w hSw; go_simp; try with_reducible rfl)
      try simp only [Act.put, List.setIfInBounds_toArray, List.set_cons_zero, List.set_cons_succ]
      refine stepL 16 (by kernel_rfl) rfl (fun K hK => ?_)
      go_simp
      show K _ _
      have HDE : Bx (D < V1.heap.size) := Bx.mk (Y1.out.km.blt (.head _))
      have Y2 := Bx.mk (Y1.out.new (.cells zc 39))
      clear Y1
      generalize V1.alloc (.cells zc 39) = V2 at *
      generalize V1.heap.size = E at *
      refine hK.out _ _ (range_later HRg.out (HB0.out _ Y2.out.km.grown) HbB.out) (fun hHeld => ?_)
      clear hK K
      try simp only [Act.put, List.setIfInBounds_toArray, List.set_cons_zero, List.set_cons_succ]
      refine stepL 17 (by kernel_rfl) rfl (fun K hK => ?_)
      refine step_st rfl 39 _ _ rfl E kl.toArray (by rfl) (by rfl) (there_row (Y2.out.km.rows _ (.head _)).1 0 _ (by rw [HI.out.2.2.1]; omega)) HI.out.1 HI.out.2.1 ?_
      have hr2 := heap_setCells_all (ds := kl.toArray) (Y2.out.km.rows _ (.head _)).1 HI.out.2.2.1
      have Y3 := Bx.mk (Y2.out.set (kb_setCells (b := E) (kl.toArray).toList 0 V2) hr2 (by intro y hy; have h1 := HDE.out; simp at hy; rcases hy with rfl; simp only; omega))
      clear hr2 Y2
      refine hK.out _ _ (range_later HRg.out (HB0.out _ Y3.out.km.grown) HbB.out) (fun hHeld => ?_)
      clear hK K
      try simp only [Act.put]
      generalize V2.setCells E 0 (kl.toArray).toList = V3 at *
      refine takeL 18 (v := ?_) rfl (by kernel_rfl) (by kernel_rfl) (by kernel_rfl) (fun _ _ _ h => h) (Or.inl ⟨by rfl, ?_⟩) hHeld ?_
      rotate_left 1
      · (intro w hSw; go_simp; try with_reducible rfl)
      try simp only [Act.put, List.setIfInBounds_toArray, List.set_cons_zero, List.set_cons_succ]
      refine wpAnyH_done (by kernel_rfl) ?_ _
      refine NoPanic.normal ?_
      clear hHeld
      go_wp2_with (refine wpList_load_mid rfl 24 _ rfl D 0 (by rfl) [.int .i64 i, .int .i64 r, .int .i64 x, .int .i64 q] _ (row_rng (l := [.int .i64 i, .int .i64 r, .int .i64 x, .int .i64 q]) (Y3.out.km.rows _ (.tail _ (.head _))).1) Tryd.underlying24 rfl (by kernel_rfl) ?_)
      refine (HRi.out V3).mono ?_
      rintro e X1 ⟨rfl, hb⟩
      have X := Bx.mk (Y3.out.later hb)
      clear hb Y3
      go_wp2_with (refine wpList_load_mid rfl 24 _ rfl D 0 (by rfl) [.int .i64 i, .int .i64 r, .int .i64 x, .int .i64 q] _ (row_rng (l := [.int .i64 i, .int .i64 r, .int .i64 x, .int .i64 q]) (X.out.km.rows _ (.tail _ (.head _))).1) Tryd.underlying24 rfl (by kernel_rfl) ?_)
      refine (HTo.out X1).mono ?_
      rintro e X2 ⟨rfl, hb⟩
      have Xb := Bx.mk ((X.out.later hb).later (below_a (.cells #[.int .i64 i, .int .i64 r, .int .i64 x, .int .i64 q] 36)))
      have HG2 := Bx.mk (row_rng (l := [.int .i64 i, .int .i64 r, .int .i64 x, .int .i64 q]) (hnew X2 (.cells #[.int .i64 i, .int .i64 r, .int .i64 x, .int .i64 q] 36) _ rfl))
      clear hb X
      go_wp2_with (refine wpList_apC rfl _ _ rfl w.heap.size _ l (by rfl) Xb.out.own X2.heap.size i r x q (by rfl) HG2.out (by rw [HLa.out]; have := HLn.out; omega) Xb.out.km.grown.size ?_; intro vb X3 ho3 hg3; have Xc := Bx.mk (Xb.out.more hg3 ho3); clear ho3 hg3)
      obtain ⟨ab, cb, hvb⟩ := Xc.out.2.form
      have HL1 : Bx ((l ++ [(⟨i, r, x, q⟩ : Cl)]).length = la + 1) := Bx.mk (by rw [List.length_append, HLa.out]; rfl)
      rw [HL1.out] at hvb
      subst hvb
      clear Xb HG2
      go_upto_region 18 with fail
      have Y0 := Bx.mk (And.intro Xc.out.1.drew (Xc.out.2.later (Below.refl _ _).drew))
      clear Xc
      refine wp_region_noPanic ?_
      refine wp_region_held_drew (S := fun W => W.heap[E]? = some (.cells kl.toArray 39 (0, 0)) ∧ W.heap[D]? = some (.cells #[.int .i64 i, .int .i64 r, .int .i64 x, .int .i64 q] 24 (0, 0))) (by kernel_rfl) (⟨(Y0.out.1.rows _ (.head _)).1, (Y0.out.1.rows _ (.tail _ (.head _))).1⟩) (fun hHeld => ?_)
      generalize X3.drew = V0 at *
      refine takeL 0 (v := ?_) rfl (by kernel_rfl) (by kernel_rfl) (by kernel_rfl) (fun _ _ _ h => h) (Or.inl ⟨by rfl, ?_⟩) hHeld ?_
      rotate_left 1
      · (intro w hSw; go_simp; try with_reducible rfl)
      try simp only [Act.put, List.setIfInBounds_toArray, List.set_cons_zero, List.set_cons_succ]
      refine takeL 1 (v := ?_) rfl (by kernel_rfl) (by kernel_rfl) (by kernel_rfl) (fun _ _ _ h => h) (Or.inl ⟨by rfl, ?_⟩) hHeld ?_
      rotate_left 1
      · (intro w hSw; go_simp; try with_reducible rfl)
      try simp only [Act.put, List.setIfInBounds_toArray, List.set_cons_zero, List.set_cons_succ]
      refine takeL 2 (v := ?_) rfl (by kernel_rfl) (by kernel_rfl) (by kernel_rfl) (fun _ _ _ h => h) (Or.inl ⟨by rfl, ?_⟩) hHeld ?_
      rotate_left 1
      · (intro w hSw; go_simp; try with_reducible rfl)
      try simp only [Act.put, List.setIfInBounds_toArray, List.set_cons_zero, List.set_cons_succ]
      refine takeL 3 (v := ?_) rfl (by kernel_rfl) (by kernel_rfl) (by kernel_rfl) (fun _ _ _ h => h) (Or.inl ⟨by rfl, ?_⟩) hHeld ?_
      rotate_left 1
      · (intro w hSw; go_simp; try with_reducible rfl)
      try simp only [Act.put, List.setIfInBounds_toArray, List.set_cons_zero, List.set_cons_succ]
      refine takeL 4 rfl (by kernel_rfl) (by kernel_rfl) (by kernel_rfl) (fun _ _ _ h => h) (yieldsIf_load_mid (by rfl) _ _ rfl _ _ rfl _ _ (fun w hSw => (HK4.out w _ _ hSw.1).1) Tryd.underlying36 rfl (by kernel_rfl)) hHeld ?_
      try simp only [Act.put, List.setIfInBounds_toArray, List.set_cons_zero, List.set_cons_succ]
      refine takeL 5 rfl (by kernel_rfl) (by kernel_rfl) (by kernel_rfl) (fun _ _ _ h => h) (yieldsIf_load_mid (by rfl) _ _ rfl _ _ rfl _ _ (fun w hSw => row_rng (l := [.int .i64 i, .int .i64 r, .int .i64 x, .int .i64 q]) hSw.2) Tryd.underlying24 rfl (by kernel_rfl)) hHeld ?_
      try simp only [Act.put, List.setIfInBounds_toArray, List.set_cons_zero, List.set_cons_succ]
      refine stepL 6 (by kernel_rfl) rfl (fun K hK => ?_)
      go_simp
      refine (HTo.out V0).mono ?_
      rintro e V1 ⟨rfl, hb⟩
      show K _ _
      have Y1 := Bx.mk (And.intro (Y0.out.1.later hb) (Y0.out.2.later hb))
      clear hb Y0
      refine hK.out _ _ ⟨(Y1.out.1.rows _ (.head _)).1, (Y1.out.1.rows _ (.tail _ (.head _))).1⟩ (fun hHeld => ?_)
      clear hK K
      try simp only [Act.put, List.setIfInBounds_toArray, List.set_cons_zero, List.set_cons_succ]
      refine takeL 7 (v := ?_) rfl (by kernel_rfl) (by kernel_rfl) (by kernel_rfl) (fun _ _ _ h => h) (Or.inl ⟨by rfl, ?_⟩) hHeld ?_
      rotate_left 1
      · (intro w hSw; go_simp; try with_reducible rfl)
      try simp only [Act.put, List.setIfInBounds_toArray, List.set_cons_zero, List.set_cons_succ]
      refine takeL 8 (v := ?_) rfl (by kernel_rfl) (by kernel_rfl) (by kernel_rfl) (fun _ _ _ h => h) (Or.inl ⟨by rfl, ?_⟩) hHeld ?_
      rotate_left 1
      · (intro w hSw; go_simp; try with_reducible rfl)
      try simp only [Act.put, List.setIfInBounds_toArray, List.set_cons_zero, List.set_cons_succ]
      refine takeL 9 (v := ?_) rfl (by kernel_rfl) (by kernel_rfl) (by kernel_rfl) (fun _ _ _ h => h) (Or.inl ⟨by rfl, ?_⟩) hHeld ?_
      rotate_left 1
      · (intro w hSw; go_simp; try with_reducible rfl)
      try simp only [Act.put, List.setIfInBounds_toArray, List.set_cons_zero, List.set_cons_succ]
      refine takeL 10 (v := ?_) rfl (by kernel_rfl) (by kernel_rfl) (by kernel_rfl) (fun _ _ _ h => h) (Or.inl ⟨by rfl, ?_⟩) hHeld ?_
      rotate_left 1
      · (intro w hSw; go_simp; try with_reducible rfl)
      try simp only [Act.put, List.setIfInBounds_toArray, List.set_cons_zero, List.set_cons_succ]
      refine takeL 12 rfl (by kernel_rfl) (by kernel_rfl) (by kernel_rfl) (fun _ _ _ h => h) (yieldsIf_load_mid (by rfl) _ _ rfl _ _ rfl _ _ (fun w hSw => (HK4.out w _ _ hSw.1).2) Tryd.underlying39 rfl HI.out.2.2.2) hHeld ?_
      try simp only [Act.put, List.setIfInBounds_toArray, List.set_cons_zero, List.set_cons_succ]
      refine stepL 11 (by kernel_rfl) rfl (fun K hK => ?_)
      go_simp
      refine (master_any M _ key V1 Y1.out.1.mt HKL.out).mono ?_
      rintro e V2 ⟨vk, rfl, hk1, hb⟩
      show K _ _
      have Y2 := Bx.mk (And.intro (Y1.out.1.later hb) (Y1.out.2.later hb))
      have HVK := Bx.mk hk1.key
      clear hk1
      clear hb Y1
      refine hK.out _ _ ⟨(Y2.out.1.rows _ (.head _)).1, (Y2.out.1.rows _ (.tail _ (.head _))).1⟩ (fun hHeld => ?_)
      clear hK K
      try simp only [Act.put, List.setIfInBounds_toArray, List.set_cons_zero, List.set_cons_succ]
      refine stepL 13 (by kernel_rfl) rfl (fun K hK => ?_)
      go_simp
      refine (HHo.out V2 vk Y2.out.1.grown HVK.out).mono ?_
      rintro e V3 ⟨rfl, hb⟩
      show K _ _
      have Y3 := Bx.mk (And.intro (Y2.out.1.later hb) (Y2.out.2.later hb))
      clear hb Y2
      refine hK.out _ _ ⟨(Y3.out.1.rows _ (.head _)).1, (Y3.out.1.rows _ (.tail _ (.head _))).1⟩ (fun hHeld => ?_)
      clear hK K
      try simp only [Act.put, List.setIfInBounds_toArray, List.set_cons_zero, List.set_cons_succ]
      refine takeL 14 (v := ?_) rfl (by kernel_rfl) (by kernel_rfl) (by kernel_rfl) (fun _ _ _ h => h) (Or.inl ⟨by rfl, ?_⟩) hHeld ?_
      rotate_left 1
      · (intro w hSw; go_simp; try with_reducible rfl)
      try simp only [Act.put, List.setIfInBounds_toArray, List.set_cons_zero, List.set_cons_succ]
      refine takeL 15 (v := ?_) rfl (by kernel_rfl) (by kernel_rfl) (by kernel_rfl) (fun _ _ _ h => h) (Or.inl ⟨by rfl, ?_⟩) hHeld ?_
      rotate_left 1
      · (intro w hSw; go_simp; try with_reducible rfl)
      try simp only [Act.put, List.setIfInBounds_toArray, List.set_cons_zero, List.set_cons_succ]
      refine takeL 16 (v := ?_) rfl (by kernel_rfl) (by kernel_rfl) (by kernel_rfl) (fun _ _ _ h => h) (Or.inl ⟨by rfl, ?_⟩) hHeld ?_
      rotate_left 1
      · (intro w hSw; go_simp; try with_reducible rfl)
      try simp only [Act.put, List.setIfInBounds_toArray, List.set_cons_zero, List.set_cons_succ]
      refine takeL 17 (v := ?_) rfl (by kernel_rfl) (by kernel_rfl) (by kernel_rfl) (fun _ _ _ h => h) (Or.inl ⟨by rfl, ?_⟩) hHeld ?_
      rotate_left 1
      · (intro w hSw; go_simp; try with_reducible rfl)
      try simp only [Act.put, List.setIfInBounds_toArray, List.set_cons_zero, List.set_cons_succ]
      refine takeL 19 (v := ?_) rfl (by kernel_rfl) (by kernel_rfl) (by kernel_rfl) (fun _ _ _ h => h) (Or.inl ⟨by rfl, ?_⟩) hHeld ?_
      rotate_left 1
      · (intro w hSw; go_simp; try with_reducible rfl)
      try simp only [Act.put, List.setIfInBounds_toArray, List.set_cons_zero, List.set_cons_succ]
      refine takeL 20 (v := ?_) rfl (by kernel_rfl) (by kernel_rfl) (by kernel_rfl) (fun _ _ _ h => h) (Or.inl ⟨by rfl, ?_⟩) hHeld ?_
      rotate_left 1
      · (intro w hSw; go_simp; try with_reducible rfl)
      try simp only [Act.put, List.setIfInBounds_toArray, List.set_cons_zero, List.set_cons_succ]
      refine stepL 18 (by kernel_rfl) rfl (fun K hK => ?_)
      go_simp
      refine (HCo.out V3 _ Y3.out.1.mt).mono ?_
      rintro e W' ⟨rfl, rfl⟩
      show K _ _
      rw [HL1.out]
      refine hK.out _ _ ⟨(Y3.out.1.rows _ (.head _)).1, (Y3.out.1.rows _ (.tail _ (.head _))).1⟩ (fun hHeld => ?_)
      clear hK K
      try simp only [Act.put, List.setIfInBounds_toArray, List.set_cons_zero, List.set_cons_succ]
      refine takeL 21 (v := ?_) rfl (by kernel_rfl) (by kernel_rfl) (by kernel_rfl) (fun _ _ _ h => h) (Or.inl ⟨by rfl, ?_⟩) hHeld ?_
      rotate_left 1
      · (intro w hSw; go_simp; try with_reducible rfl)
      try simp only [Act.put, List.setIfInBounds_toArray, List.set_cons_zero, List.set_cons_succ]
      refine takeL 22 (v := ?_) rfl (by kernel_rfl) (by kernel_rfl) (by kernel_rfl) (fun _ _ _ h => h) (Or.inl ⟨by rfl, ?_⟩) hHeld ?_
      rotate_left 1
      · (intro w hSw; go_simp; try with_reducible rfl)
      try simp only [Act.put, List.setIfInBounds_toArray, List.set_cons_zero, List.set_cons_succ]
      refine wpAnyH_done (by kernel_rfl) ?_ _
      refine NoPanic.normal ?_
      clear hHeld
      go_wp2
      exact ⟨⟨⟨rfl, rfl⟩, rfl, rfl, rfl⟩, by first | rfl | go_num, _, rfl, by unfold IR; rw [HIK.out]; exact ⟨⟨fun _ hx => (List.not_mem_nil hx).elim, Y3.out.1.grown, Y3.out.1.lt, Y3.out.1.row⟩, Y3.out.2, fun _ hx => (List.not_mem_nil hx).elim⟩⟩
    · go_simp
      show K _ _
      have HDE : Bx (D < V0.heap.size) := Bx.mk (Y0.out.km.blt (.head _))
      have Y1 := Bx.mk (Y0.out.new (.cells zc 39))
      clear Y0
      generalize V0.alloc (.cells zc 39) = V1 at *
      generalize V0.heap.size = E at *
      refine hK.out _ _ (range_later HRg.out (HB0.out _ Y1.out.km.grown) HbB.out) (fun hHeld => ?_)
      clear hK K
      try simp only [Act.put, List.setIfInBounds_toArray, List.set_cons_zero, List.set_cons_succ]
      refine stepL 12 (by kernel_rfl) rfl (fun K hK => ?_)
      go_simp
      refine (HIs.out V1 _ Y1.out.km.grown Y1.out.km.mt (HIn.out.later (HB0.out _ Y1.out.km.grown))).mono ?_
      rintro e V2 ⟨rfl, hb⟩
      show K _ _
      have Y2 := Bx.mk (Y1.out.minted hb)
      clear hb Y1
      refine hK.out _ _ (range_later HRg.out (HB0.out _ Y2.out.km.grown) HbB.out) (fun hHeld => ?_)
      clear hK K
      try simp only [Act.put, List.setIfInBounds_toArray, List.set_cons_zero, List.set_cons_succ]
      refine takeL 13 (v := ?_) rfl (by kernel_rfl) (by kernel_rfl) (by kernel_rfl) (fun _ _ _ h => h) (Or.inl ⟨by rfl, ?_⟩) hHeld ?_
      rotate_left 1
      · (intro w hSw; go_simp; try with_reducible rfl)
      try simp only [Act.put, List.setIfInBounds_toArray, List.set_cons_zero, List.set_cons_succ]
      refine takeL 14 (v := ?_) rfl (by kernel_rfl) (by kernel_rfl) (by kernel_rfl) (fun _ _ _ h => h) (Or.inl ⟨by rfl, ?_⟩) hHeld ?_
      rotate_left 1
      · (intro w hSw; go_simp; try with_reducible rfl)
      try simp only [Act.put, List.setIfInBounds_toArray, List.set_cons_zero, List.set_cons_succ]
      refine takeL 15 (v := ?_) rfl (by kernel_rfl) (by kernel_rfl) (by kernel_rfl) (fun _ _ _ h => h) (Or.inl ⟨by rfl, ?_⟩) hHeld ?_
      rotate_left 1
      · (intro w hSw; go_simp; try with_reducible rfl)
      try simp only [Act.put, List.setIfInBounds_toArray, List.set_cons_zero, List.set_cons_succ]
      refine stepL 17 (by kernel_rfl) rfl (fun K hK => ?_)
      refine step_st rfl 39 _ _ rfl E kl.toArray (by rfl) (by rfl) (there_row (Y2.out.km.rows _ (.head _)).1 0 _ (by rw [HI.out.2.2.1]; omega)) HI.out.1 HI.out.2.1 ?_
      have hr2 := heap_setCells_all (ds := kl.toArray) (Y2.out.km.rows _ (.head _)).1 HI.out.2.2.1
      have Y3 := Bx.mk (Y2.out.set (kb_setCells (b := E) (kl.toArray).toList 0 V2) hr2 (by intro y hy; have h1 := HDE.out; simp at hy; rcases hy with rfl; simp only; omega))
      clear hr2 Y2
      refine hK.out _ _ (range_later HRg.out (HB0.out _ Y3.out.km.grown) HbB.out) (fun hHeld => ?_)
      clear hK K
      try simp only [Act.put]
      generalize V2.setCells E 0 (kl.toArray).toList = V3 at *
      refine takeL 18 (v := ?_) rfl (by kernel_rfl) (by kernel_rfl) (by kernel_rfl) (fun _ _ _ h => h) (Or.inl ⟨by rfl, ?_⟩) hHeld ?_
      rotate_left 1
      · (intro w hSw; go_simp; try with_reducible rfl)
      try simp only [Act.put, List.setIfInBounds_toArray, List.set_cons_zero, List.set_cons_succ]
      refine wpAnyH_done (by kernel_rfl) ?_ _
      refine NoPanic.normal ?_
      clear hHeld
      go_wp2_with (refine wpList_load_mid rfl 24 _ rfl D 0 (by rfl) [.int .i64 i, .int .i64 r, .int .i64 x, .int .i64 q] _ (row_rng (l := [.int .i64 i, .int .i64 r, .int .i64 x, .int .i64 q]) (Y3.out.km.rows _ (.tail _ (.head _))).1) Tryd.underlying24 rfl (by kernel_rfl) ?_)
      refine (HRi.out V3).mono ?_
      rintro e X1 ⟨rfl, hb⟩
      have X := Bx.mk (Y3.out.later hb)
      clear hb Y3
      go_wp2_with (refine wpList_load_mid rfl 24 _ rfl D 0 (by rfl) [.int .i64 i, .int .i64 r, .int .i64 x, .int .i64 q] _ (row_rng (l := [.int .i64 i, .int .i64 r, .int .i64 x, .int .i64 q]) (X.out.km.rows _ (.tail _ (.head _))).1) Tryd.underlying24 rfl (by kernel_rfl) ?_)
      refine (HTo.out X1).mono ?_
      rintro e X2 ⟨rfl, hb⟩
      have Xb := Bx.mk ((X.out.later hb).later (below_a (.cells #[.int .i64 i, .int .i64 r, .int .i64 x, .int .i64 q] 36)))
      have HG2 := Bx.mk (row_rng (l := [.int .i64 i, .int .i64 r, .int .i64 x, .int .i64 q]) (hnew X2 (.cells #[.int .i64 i, .int .i64 r, .int .i64 x, .int .i64 q] 36) _ rfl))
      clear hb X
      go_wp2_with (refine wpList_apC rfl _ _ rfl w.heap.size _ l (by rfl) Xb.out.own X2.heap.size i r x q (by rfl) HG2.out (by rw [HLa.out]; have := HLn.out; omega) Xb.out.km.grown.size ?_; intro vb X3 ho3 hg3; have Xc := Bx.mk (Xb.out.more hg3 ho3); clear ho3 hg3)
      obtain ⟨ab, cb, hvb⟩ := Xc.out.2.form
      have HL1 : Bx ((l ++ [(⟨i, r, x, q⟩ : Cl)]).length = la + 1) := Bx.mk (by rw [List.length_append, HLa.out]; rfl)
      rw [HL1.out] at hvb
      subst hvb
      clear Xb HG2
      go_upto_region 18 with fail
      have Y0 := Bx.mk (And.intro Xc.out.1.drew (Xc.out.2.later (Below.refl _ _).drew))
      clear Xc
      refine wp_region_noPanic ?_
      refine wp_region_held_drew (S := fun W => W.heap[E]? = some (.cells kl.toArray 39 (0, 0)) ∧ W.heap[D]? = some (.cells #[.int .i64 i, .int .i64 r, .int .i64 x, .int .i64 q] 24 (0, 0))) (by kernel_rfl) (⟨(Y0.out.1.rows _ (.head _)).1, (Y0.out.1.rows _ (.tail _ (.head _))).1⟩) (fun hHeld => ?_)
      generalize X3.drew = V0 at *
      refine takeL 0 (v := ?_) rfl (by kernel_rfl) (by kernel_rfl) (by kernel_rfl) (fun _ _ _ h => h) (Or.inl ⟨by rfl, ?_⟩) hHeld ?_
      rotate_left 1
      · (intro w hSw; go_simp; try with_reducible rfl)
      try simp only [Act.put, List.setIfInBounds_toArray, List.set_cons_zero, List.set_cons_succ]
      refine takeL 1 (v := ?_) rfl (by kernel_rfl) (by kernel_rfl) (by kernel_rfl) (fun _ _ _ h => h) (Or.inl ⟨by rfl, ?_⟩) hHeld ?_
      rotate_left 1
      · (intro w hSw; go_simp; try with_reducible rfl)
      try simp only [Act.put, List.setIfInBounds_toArray, List.set_cons_zero, List.set_cons_succ]
      refine takeL 2 (v := ?_) rfl (by kernel_rfl) (by kernel_rfl) (by kernel_rfl) (fun _ _ _ h => h) (Or.inl ⟨by rfl, ?_⟩) hHeld ?_
      rotate_left 1
      · (intro w hSw; go_simp; try with_reducible rfl)
      try simp only [Act.put, List.setIfInBounds_toArray, List.set_cons_zero, List.set_cons_succ]
      refine takeL 3 (v := ?_) rfl (by kernel_rfl) (by kernel_rfl) (by kernel_rfl) (fun _ _ _ h => h) (Or.inl ⟨by rfl, ?_⟩) hHeld ?_
      rotate_left 1
      · (intro w hSw; go_simp; try with_reducible rfl)
      try simp only [Act.put, List.setIfInBounds_toArray, List.set_cons_zero, List.set_cons_succ]
      refine takeL 4 rfl (by kernel_rfl) (by kernel_rfl) (by kernel_rfl) (fun _ _ _ h => h) (yieldsIf_load_mid (by rfl) _ _ rfl _ _ rfl _ _ (fun w hSw => (HK4.out w _ _ hSw.1).1) Tryd.underlying36 rfl (by kernel_rfl)) hHeld ?_
      try simp only [Act.put, List.setIfInBounds_toArray, List.set_cons_zero, List.set_cons_succ]
      refine takeL 5 rfl (by kernel_rfl) (by kernel_rfl) (by kernel_rfl) (fun _ _ _ h => h) (yieldsIf_load_mid (by rfl) _ _ rfl _ _ rfl _ _ (fun w hSw => row_rng (l := [.int .i64 i, .int .i64 r, .int .i64 x, .int .i64 q]) hSw.2) Tryd.underlying24 rfl (by kernel_rfl)) hHeld ?_
      try simp only [Act.put, List.setIfInBounds_toArray, List.set_cons_zero, List.set_cons_succ]
      refine stepL 6 (by kernel_rfl) rfl (fun K hK => ?_)
      go_simp
      refine (HTo.out V0).mono ?_
      rintro e V1 ⟨rfl, hb⟩
      show K _ _
      have Y1 := Bx.mk (And.intro (Y0.out.1.later hb) (Y0.out.2.later hb))
      clear hb Y0
      refine hK.out _ _ ⟨(Y1.out.1.rows _ (.head _)).1, (Y1.out.1.rows _ (.tail _ (.head _))).1⟩ (fun hHeld => ?_)
      clear hK K
      try simp only [Act.put, List.setIfInBounds_toArray, List.set_cons_zero, List.set_cons_succ]
      refine takeL 7 (v := ?_) rfl (by kernel_rfl) (by kernel_rfl) (by kernel_rfl) (fun _ _ _ h => h) (Or.inl ⟨by rfl, ?_⟩) hHeld ?_
      rotate_left 1
      · (intro w hSw; go_simp; try with_reducible rfl)
      try simp only [Act.put, List.setIfInBounds_toArray, List.set_cons_zero, List.set_cons_succ]
      refine takeL 8 (v := ?_) rfl (by kernel_rfl) (by kernel_rfl) (by kernel_rfl) (fun _ _ _ h => h) (Or.inl ⟨by rfl, ?_⟩) hHeld ?_
      rotate_left 1
      · (intro w hSw; go_simp; try with_reducible rfl)
      try simp only [Act.put, List.setIfInBounds_toArray, List.set_cons_zero, List.set_cons_succ]
      refine takeL 9 (v := ?_) rfl (by kernel_rfl) (by kernel_rfl) (by kernel_rfl) (fun _ _ _ h => h) (Or.inl ⟨by rfl, ?_⟩) hHeld ?_
      rotate_left 1
      · (intro w hSw; go_simp; try with_reducible rfl)
      try simp only [Act.put, List.setIfInBounds_toArray, List.set_cons_zero, List.set_cons_succ]
      refine takeL 10 (v := ?_) rfl (by kernel_rfl) (by kernel_rfl) (by kernel_rfl) (fun _ _ _ h => h) (Or.inl ⟨by rfl, ?_⟩) hHeld ?_
      rotate_left 1
      · (intro w hSw; go_simp; try with_reducible rfl)
      try simp only [Act.put, List.setIfInBounds_toArray, List.set_cons_zero, List.set_cons_succ]
      refine takeL 12 rfl (by kernel_rfl) (by kernel_rfl) (by kernel_rfl) (fun _ _ _ h => h) (yieldsIf_load_mid (by rfl) _ _ rfl _ _ rfl _ _ (fun w hSw => (HK4.out w _ _ hSw.1).2) Tryd.underlying39 rfl HI.out.2.2.2) hHeld ?_
      try simp only [Act.put, List.setIfInBounds_toArray, List.set_cons_zero, List.set_cons_succ]
      refine stepL 11 (by kernel_rfl) rfl (fun K hK => ?_)
      go_simp
      refine (master_any M _ key V1 Y1.out.1.mt HKL.out).mono ?_
      rintro e V2 ⟨vk, rfl, hk1, hb⟩
      show K _ _
      have Y2 := Bx.mk (And.intro (Y1.out.1.later hb) (Y1.out.2.later hb))
      have HVK := Bx.mk hk1.key
      clear hk1
      clear hb Y1
      refine hK.out _ _ ⟨(Y2.out.1.rows _ (.head _)).1, (Y2.out.1.rows _ (.tail _ (.head _))).1⟩ (fun hHeld => ?_)
      clear hK K
      try simp only [Act.put, List.setIfInBounds_toArray, List.set_cons_zero, List.set_cons_succ]
      refine stepL 13 (by kernel_rfl) rfl (fun K hK => ?_)
      go_simp
      refine (HHo.out V2 vk Y2.out.1.grown HVK.out).mono ?_
      rintro e V3 ⟨rfl, hb⟩
      show K _ _
      have Y3 := Bx.mk (And.intro (Y2.out.1.later hb) (Y2.out.2.later hb))
      clear hb Y2
      refine hK.out _ _ ⟨(Y3.out.1.rows _ (.head _)).1, (Y3.out.1.rows _ (.tail _ (.head _))).1⟩ (fun hHeld => ?_)
      clear hK K
      try simp only [Act.put, List.setIfInBounds_toArray, List.set_cons_zero, List.set_cons_succ]
      refine takeL 14 (v := ?_) rfl (by kernel_rfl) (by kernel_rfl) (by kernel_rfl) (fun _ _ _ h => h) (Or.inl ⟨by rfl, ?_⟩) hHeld ?_
      rotate_left 1
      · (intro w hSw; go_simp; try with_reducible rfl)
      try simp only [Act.put, List.setIfInBounds_toArray, List.set_cons_zero, List.set_cons_succ]
      refine takeL 15 (v := ?_) rfl (by kernel_rfl) (by kernel_rfl) (by kernel_rfl) (fun _ _ _ h => h) (Or.inl ⟨by rfl, ?_⟩) hHeld ?_
      rotate_left 1
      · (intro w hSw; go_simp; try with_reducible rfl)
      try simp only [Act.put, List.setIfInBounds_toArray, List.set_cons_zero, List.set_cons_succ]
      refine takeL 16 (v := ?_) rfl (by kernel_rfl) (by kernel_rfl) (by kernel_rfl) (fun _ _ _ h => h) (Or.inl ⟨by rfl, ?_⟩) hHeld ?_
      rotate_left 1
      · (intro w hSw; go_simp; try with_reducible rfl)
      try simp only [Act.put, List.setIfInBounds_toArray, List.set_cons_zero, List.set_cons_succ]
      refine takeL 17 (v := ?_) rfl (by kernel_rfl) (by kernel_rfl) (by kernel_rfl) (fun _ _ _ h => h) (Or.inl ⟨by rfl, ?_⟩) hHeld ?_
      rotate_left 1
      · (intro w hSw; go_simp; try with_reducible rfl)
      try simp only [Act.put, List.setIfInBounds_toArray, List.set_cons_zero, List.set_cons_succ]
      refine takeL 19 (v := ?_) rfl (by kernel_rfl) (by kernel_rfl) (by kernel_rfl) (fun _ _ _ h => h) (Or.inl ⟨by rfl, ?_⟩) hHeld ?_
      rotate_left 1
      · (intro w hSw; go_simp; try with_reducible rfl)
      try simp only [Act.put, List.setIfInBounds_toArray, List.set_cons_zero, List.set_cons_succ]
      refine takeL 20 (v := ?_) rfl (by kernel_rfl) (by kernel_rfl) (by kernel_rfl) (fun _ _ _ h => h) (Or.inl ⟨by rfl, ?_⟩) hHeld ?_
      rotate_left 1
      · (intro w hSw; go_simp; try with_reducible rfl)
      try simp only [Act.put, List.setIfInBounds_toArray, List.set_cons_zero, List.set_cons_succ]
      refine stepL 18 (by kernel_rfl) rfl (fun K hK => ?_)
      go_simp
      refine (HCo.out V3 _ Y3.out.1.mt).mono ?_
      rintro e W' ⟨rfl, rfl⟩
      show K _ _
      rw [HL1.out]
      refine hK.out _ _ ⟨(Y3.out.1.rows _ (.head _)).1, (Y3.out.1.rows _ (.tail _ (.head _))).1⟩ (fun hHeld => ?_)
      clear hK K
      try simp only [Act.put, List.setIfInBounds_toArray, List.set_cons_zero, List.set_cons_succ]
      refine takeL 21 (v := ?_) rfl (by kernel_rfl) (by kernel_rfl) (by kernel_rfl) (fun _ _ _ h => h) (Or.inl ⟨by rfl, ?_⟩) hHeld ?_
      rotate_left 1
      · (intro w hSw; go_simp; try with_reducible rfl)
      try simp only [Act.put, List.setIfInBounds_toArray, List.set_cons_zero, List.set_cons_succ]
      refine takeL 22 (v := ?_) rfl (by kernel_rfl) (by kernel_rfl) (by kernel_rfl) (fun _ _ _ h => h) (Or.inl ⟨by rfl, ?_⟩) hHeld ?_
      rotate_left 1
      · (intro w hSw; go_simp; try with_reducible rfl)
      try simp only [Act.put, List.setIfInBounds_toArray, List.set_cons_zero, List.set_cons_succ]
      refine wpAnyH_done (by kernel_rfl) ?_ _
      refine NoPanic.normal ?_
      clear hHeld
      go_wp2
      exact ⟨⟨⟨rfl, rfl⟩, rfl, rfl, rfl⟩, by first | rfl | go_num, _, rfl, by unfold IR; rw [HIK.out]; exact ⟨⟨fun _ hx => (List.not_mem_nil hx).elim, Y3.out.1.grown, Y3.out.1.lt, Y3.out.1.row⟩, Y3.out.2, fun _ hx => (List.not_mem_nil hx).elim⟩⟩
end Go.Proofs.YtiengbmnfbbgoaaDoor
