/-
  The walk of TokenIssues, of a round that issues none.
-/
import Derived.Test.YtiengbmnfbbgoaaDoorVg
namespace Go.Proofs.YtiengbmnfbbgoaaDoor
open Go Go.RowKit
set_option maxRecDepth 100000 in
set_option maxHeartbeats 4000000 in
theorem roundI_bad (w0 w : World) (M : Nat) (os : List Od) (v : Value) (key : List UInt8) (al : Option Addr) (nl cl : Nat) (s : Int) (hO : Ords w0 (.slice al nl cl) os) (hnl : os.length = nl) (hb0 : Below w0.heap.size w0 w) (hM0 : w0.heap.size ≤ M) (hn9 : nl ≤ 9223372036854775807) (_ : key.length ≤ 1000000) (_ : Tab w) (_ : 0 < w.heap.size) (_ : 0 ≠ M)
    (Q : Exit → Act → World → Prop) (k : Nat) (a : Act) (wr : World) (hk : k < nl) (hk8 : k < 8) (hc : okC (clO (os.getD k Od.zero) (isK os k).length) = false) (h : IL w M os v key (.slice al nl cl) s k a wr) :
    Code.wp Tryd.prog (loopAt (Tryd.f6.body) 0) (Exit.then (fun a' w' => IL w M os v key (.slice al nl cl) s (k + 1) a' w') Q) a wr := by
  obtain ⟨zc, hzc⟩ : ∃ zc, tkC c0 z32 = zc := ⟨_, rfl⟩
  have hzv : ∀ W : World, (zeroValue 39).run Tryd.prog W = .ok (.agg zc) W := fun W => by rw [← hzc]; exact tk_zero W
  have hbz : Tryd.prog.built 39 [] = some zc := by rw [← hzc]; exact tk_none
  have HM1 : Bx ((Tryd.prog.info? 39).map (·.size) = some zc.size ∧ zc.all (·.oneCell') = true) := Bx.mk (by rw [← hzc]; exact ⟨tk_info _ _ rfl, tkC_one _ _⟩)
  obtain ⟨va, hva, hIR⟩ := h.st
  have hIM : IM w M [] (isK os k) v key va (isK os k) wr := hIR
  have HIK : Bx (isK os (k + 1) = isK os k) := Bx.mk (by show (if _ then _ else _) = _; rw [if_neg (by rw [hc]; decide)])
  have HB0 : Bx (∀ W, w.grownBy W (some M) → Below w0.heap.size w0 W) := Bx.mk fun W hb => hb0.trans (grown_below hb hM0 hb0.size)
  have HLn : Bx ((isK os k).length ≤ 8) := Bx.mk (Nat.le_trans (isK_length os k) (by omega))
  obtain ⟨a', cap', hv', hr'⟩ := hO
  injection hv' with p1 p2 p3
  obtain ⟨b, o, ha, hcell⟩ := hr' (by omega)
  subst p1
  subst ha
  obtain ⟨vr, hrg, hin, hinl⟩ := hcell k (by omega)
  generalize os.getD k Od.zero = od at *
  generalize isK os k = l at *
  obtain ⟨va2, ca, hva2⟩ := hIM.own.form
  have hself0 : ∀ W : World, (binOp .neq 39 (.agg zc) (.agg zc)).run Tryd.prog W = .ok (.bool false) W := fun W => by rw [← hzc]; exact self_tk_neq _ _ rfl W
  have HIs : Bx (∀ W vq, MT W M l key → Ints W vq (od.ns.take 10) → Calls Tryd.prog 32 #[.pointer (some ⟨M, 0, none⟩), .int .i64 od.id, .int .i64 od.ex, vq] W fun e w' => e = .returned (.tuple #[.agg zc, .int .i64 10]) ∧ Below W.heap.size W w') := Bx.mk fun W vq hm hi => by
    rw [← hzc]
    cases hr : (od.ns.take 10).all isR
    · exact issue_mask M od.id od.ex (od.ns.take 10) vq W hi (by rw [List.length_take]; omega) hr
    · have h1 := hc
      unfold clO dMask at h1
      rw [if_pos hr] at h1
      exact issue_bad M l key od.id od.ex (od.ns.take 10) vq W hm (by have := HLn.out; omega) hi (by rw [List.length_take]; omega) hr h1
  have HRi := Bx.mk fun (W : World) => cright_any (clO od l.length) W
  rw [hc] at HRi
  have HMa := Bx.mk fun (W : World) (vq : Value) (hi : Ints W vq (od.ns.take 10)) => rmask_any (od.ns.take 10) vq W hi (by rw [List.length_take]; omega)
  have HCo := Bx.mk fun (W : World) (l : List Cl) (hm : MT W M l key) => mcount_any M l key W hm
  have HRg := Bx.mk hrg
  have HbB : Bx (b < w0.heap.size) := Bx.mk (World.block_lt_of_cell? _ _ (hrg 0 _ rfl))
  have HIM := Bx.mk hIM
  obtain ⟨ar, cr, rfl, hcr, hnr, -⟩ := id hin
  obtain ⟨nr, hnr1⟩ : ∃ n, od.ns.length = n := ⟨_, rfl⟩
  rw [hnr1] at hin hcr hinl HRg
  obtain ⟨mm, hmm⟩ : ∃ mm, mm = min nr 10 := ⟨_, rfl⟩
  have m1 : (if (10 : Int) < (nr : Int) then (10 : Int) else (nr : Int)) = (mm : Int) := by split <;> omega
  have m2 : (mm : Int) ≤ (cr : Int) := by omega
  have hsl := fun W => cut_ints ar nr cr mm (by omega) (by omega) hnr W
  have HIn : Bx (Ints w0 (.slice ar mm cr) (od.ns.take 10)) := Bx.mk (by
    have h1 := hin.take mm (by omega)
    rwa [show od.ns.take mm = od.ns.take 10 by rw [hmm, ← hnr1, ← List.take_take, List.take_of_length_le (by rw [List.length_take]; omega)]] at h1)
  have HNk := Bx.mk hn9
  subst hva2
  have hs9 := hva
  obtain ⟨x, rfl, hx⟩ := open179 h.kf.fr
  have e1 := (hx 1).symm.trans h.kf.s1
  have e2 := (hx 2).symm.trans h.kf.s2
  have e7 := (hx 7).symm.trans h.kf.s7
  have e9 := (hx 9).symm.trans hs9
  have e10 := (hx 10).symm.trans h.s10
  clear h hx hr' hcell hva hIR hIM hb0 hM0 hzc hrg hin hinl hcr hnr hnr1 hmm hn9 hc p2 p3 hs9 hnl
  rw [e1, e2, e7, e9, e10]
  clear e1 e2 e7 e9 e10
  have hl8 := HLn.out
  generalize hla : l.length = la at *
  have HLa := Bx.mk hla
  have hla8 : (la : Int) ≤ 8 := by omega
  clear hla hl8
  unfold clO at *
  unfold clV at HRi
  skip
  simp only at HRi
  generalize od.id = i at *
  generalize od.ex = x at *
  generalize dMask (od.ns.take 10) = r at *
  generalize od.ns.take 10 = ns at *
  generalize hq : (la : Int) + 1 = q at *
  have hwr : IntKind.i64.wrap q = q := by rw [IntKind.wrap_i64]; omega
  have hk1 : (k : Int) < (nl : Int) := by omega
  have hk2 : (k : Int) < 8 := by omega
  have hn1 : (nl : Int) ≤ 9223372036854775807 := by have := HNk.out; omega
  conv => arg 2; whnf
  go_upto_region 11 with fail
  have R0 := Bx.mk (HIM.out.later (Below.refl _ _).drew)
  clear HIM
  refine wp_region_noPanic ?_
  refine wp_region_held_drew (S := fun W => W.rangeAt b (o + k * 3) [.int .i64 i, .int .i64 x, .slice ar nr cr]) (by kernel_rfl) ((range_later HRg.out (HB0.out _ R0.out.km.grown) HbB.out)) (fun hHeld => ?_)
  generalize wr.drew = W0 at *
  refine takeL 0 (v := ?_) rfl (by kernel_rfl) (by kernel_rfl) (by kernel_rfl) (fun _ _ _ h => h) (Or.inl ⟨by rfl, ?_⟩) hHeld ?_
  rotate_left 1
  · (intro w hSw; go_simp; try with_reducible rfl)
  try simp only [Act.put, List.setIfInBounds_toArray, List.set_cons_zero, List.set_cons_succ]
  refine takeL 1 (v := ?_) rfl (by kernel_rfl) (by kernel_rfl) (by kernel_rfl) (fun _ _ _ h => h) (Or.inl ⟨by rfl, ?_⟩) hHeld ?_
  rotate_left 1
  · (intro w hSw; go_simp; try with_reducible rfl)
  try simp only [Act.put, List.setIfInBounds_toArray, List.set_cons_zero, List.set_cons_succ]
  refine takeL 2 (v := ?_) rfl (by kernel_rfl) (by kernel_rfl) (by kernel_rfl) (fun _ _ _ h => h) (Or.inl ⟨by rfl, ?_⟩) hHeld ?_
  rotate_left 1
  · (intro w hSw; go_simp; try with_reducible rfl)
  try simp only [Act.put, List.setIfInBounds_toArray, List.set_cons_zero, List.set_cons_succ]
  refine takeL 3 (v := ?_) rfl (by kernel_rfl) (by kernel_rfl) (by kernel_rfl) (fun _ _ _ h => h) (Or.inl ⟨by rfl, ?_⟩) hHeld ?_
  rotate_left 1
  · (intro w hSw; go_simp; try with_reducible rfl)
  try simp only [Act.put, List.setIfInBounds_toArray, List.set_cons_zero, List.set_cons_succ]
  refine takeL 4 (v := ?_) rfl (by kernel_rfl) (by kernel_rfl) (by kernel_rfl) (fun _ _ _ h => h) (Or.inl ⟨by rfl, ?_⟩) hHeld ?_
  rotate_left 1
  · (intro w hSw; have c0 : w.cell? ⟨b, o + k * 3 + 2, none⟩ = some _ := hSw 2 _ rfl; go_simp; try with_reducible rfl)
  try simp only [Act.put, List.setIfInBounds_toArray, List.set_cons_zero, List.set_cons_succ]
  refine takeL 5 (v := ?_) rfl (by kernel_rfl) (by kernel_rfl) (by kernel_rfl) (fun _ _ _ h => h) (Or.inl ⟨by rfl, ?_⟩) hHeld ?_
  rotate_left 1
  · (intro w hSw; go_simp; try with_reducible rfl)
  try simp only [Act.put, List.setIfInBounds_toArray, List.set_cons_zero, List.set_cons_succ]
  refine takeL 6 (v := ?_) rfl (by kernel_rfl) (by kernel_rfl) (by kernel_rfl) (fun _ _ _ h => h) (Or.inl ⟨by rfl, ?_⟩) hHeld ?_
  rotate_left 1
  · (intro w hSw; go_simp; try with_reducible rfl)
  try simp only [Act.put, List.setIfInBounds_toArray, List.set_cons_zero, List.set_cons_succ]
  refine takeL 7 (v := ?_) rfl (by kernel_rfl) (by kernel_rfl) (by kernel_rfl) (fun _ _ _ h => h) (Or.inl ⟨by rfl, ?_⟩) hHeld ?_
  rotate_left 1
  · (intro w hSw; go_simp; try with_reducible rfl)
  try simp only [Act.put, List.setIfInBounds_toArray, List.set_cons_zero, List.set_cons_succ]
  refine takeL 8 (v := ?_) rfl (by kernel_rfl) (by kernel_rfl) (by kernel_rfl) (fun _ _ _ h => h) (Or.inl ⟨by rfl, ?_⟩) hHeld ?_
  rotate_left 1
  · (intro w hSw; go_simp; try with_reducible rfl)
  try simp only [Act.put, List.setIfInBounds_toArray, List.set_cons_zero, List.set_cons_succ]
  refine takeL 9 (v := ?_) rfl (by kernel_rfl) (by kernel_rfl) (by kernel_rfl) (fun _ _ _ h => h) (Or.inl ⟨by rfl, ?_⟩) hHeld ?_
  rotate_left 1
  · (intro w hSw; have c0 : w.cell? ⟨b, o + k * 3 + 2, none⟩ = some _ := hSw 2 _ rfl; go_simp; try with_reducible rfl)
  try simp only [Act.put, List.setIfInBounds_toArray, List.set_cons_zero, List.set_cons_succ]
  refine takeL 10 (v := ?_) rfl (by kernel_rfl) (by kernel_rfl) (by kernel_rfl) (fun _ _ _ h => h) (Or.inl ⟨by rfl, ?_⟩) hHeld ?_
  rotate_left 1
  · (intro w hSw; go_simp; try with_reducible rfl)
  try simp only [Act.put, List.setIfInBounds_toArray, List.set_cons_zero, List.set_cons_succ]
  refine takeL 11 (v := ?_) rfl (by kernel_rfl) (by kernel_rfl) (by kernel_rfl) (fun _ _ _ h => h) (Or.inl ⟨by rfl, ?_⟩) hHeld ?_
  rotate_left 1
  · (intro w hSw; go_simp; try with_reducible rfl)
  try simp only [Act.put, List.setIfInBounds_toArray, List.set_cons_zero, List.set_cons_succ]
  refine takeL 12 (v := ?_) rfl (by kernel_rfl) (by kernel_rfl) (by kernel_rfl) (fun _ _ _ h => h) (Or.inl ⟨by rfl, ?_⟩) hHeld ?_
  rotate_left 1
  · (intro w hSw; go_simp; try with_reducible rfl)
  try simp only [Act.put, List.setIfInBounds_toArray, List.set_cons_zero, List.set_cons_succ]
  refine takeL 13 (v := ?_) rfl (by kernel_rfl) (by kernel_rfl) (by kernel_rfl) (fun _ _ _ h => h) (Or.inl ⟨by rfl, ?_⟩) hHeld ?_
  rotate_left 1
  · (intro w hSw; go_simp; try with_reducible rfl)
  try simp only [Act.put, List.setIfInBounds_toArray, List.set_cons_zero, List.set_cons_succ]
  refine wpAnyH_done (by kernel_rfl) ?_ _
  refine NoPanic.normal ?_
  clear hHeld
  go_upto_region 12 with fail
  have R1 := Bx.mk (R0.out.later (Below.refl _ _).drew)
  clear R0
  refine wp_region_noPanic ?_
  refine wp_region_held_drew (S := fun W => W.rangeAt b (o + k * 3) [.int .i64 i, .int .i64 x, .slice ar nr cr]) (by kernel_rfl) ((range_later HRg.out (HB0.out _ R1.out.km.grown) HbB.out)) (fun hHeld => ?_)
  generalize W0.drew = U0 at *
  refine takeL 0 (v := ?_) rfl (by kernel_rfl) (by kernel_rfl) (by kernel_rfl) (fun _ _ _ h => h) (Or.inl ⟨by rfl, ?_⟩) hHeld ?_
  rotate_left 1
  · (intro w hSw; go_simp; try with_reducible rfl)
  try simp only [Act.put, List.setIfInBounds_toArray, List.set_cons_zero, List.set_cons_succ]
  refine takeL 1 (v := ?_) rfl (by kernel_rfl) (by kernel_rfl) (by kernel_rfl) (fun _ _ _ h => h) (Or.inl ⟨by rfl, ?_⟩) hHeld ?_
  rotate_left 1
  · (intro w hSw; go_simp; try with_reducible rfl)
  try simp only [Act.put, List.setIfInBounds_toArray, List.set_cons_zero, List.set_cons_succ]
  refine takeL 2 (v := ?_) rfl (by kernel_rfl) (by kernel_rfl) (by kernel_rfl) (fun _ _ _ h => h) (Or.inl ⟨by rfl, ?_⟩) hHeld ?_
  rotate_left 1
  · (intro w hSw; go_simp; try with_reducible rfl)
  try simp only [Act.put, List.setIfInBounds_toArray, List.set_cons_zero, List.set_cons_succ]
  refine takeL 3 (v := ?_) rfl (by kernel_rfl) (by kernel_rfl) (by kernel_rfl) (fun _ _ _ h => h) (Or.inl ⟨by rfl, ?_⟩) hHeld ?_
  rotate_left 1
  · (intro w hSw; go_simp; try with_reducible rfl)
  try simp only [Act.put, List.setIfInBounds_toArray, List.set_cons_zero, List.set_cons_succ]
  refine takeL 4 (v := ?_) rfl (by kernel_rfl) (by kernel_rfl) (by kernel_rfl) (fun _ _ _ h => h) (Or.inl ⟨by rfl, ?_⟩) hHeld ?_
  rotate_left 1
  · (intro w hSw; have c0 : w.cell? ⟨b, o + k * 3, none⟩ = some _ := hSw 0 _ rfl; go_simp; try with_reducible rfl)
  try simp only [Act.put, List.setIfInBounds_toArray, List.set_cons_zero, List.set_cons_succ]
  refine takeL 5 (v := ?_) rfl (by kernel_rfl) (by kernel_rfl) (by kernel_rfl) (fun _ _ _ h => h) (Or.inl ⟨by rfl, ?_⟩) hHeld ?_
  rotate_left 1
  · (intro w hSw; go_simp; try with_reducible rfl)
  try simp only [Act.put, List.setIfInBounds_toArray, List.set_cons_zero, List.set_cons_succ]
  refine takeL 7 (v := ?_) rfl (by kernel_rfl) (by kernel_rfl) (by kernel_rfl) (fun _ _ _ h => h) (Or.inl ⟨by rfl, ?_⟩) hHeld ?_
  rotate_left 1
  · (intro w hSw; go_simp; try with_reducible rfl)
  try simp only [Act.put, List.setIfInBounds_toArray, List.set_cons_zero, List.set_cons_succ]
  refine takeL 8 (v := ?_) rfl (by kernel_rfl) (by kernel_rfl) (by kernel_rfl) (fun _ _ _ h => h) (Or.inl ⟨by rfl, ?_⟩) hHeld ?_
  rotate_left 1
  · (intro w hSw; go_simp; try with_reducible rfl)
  try simp only [Act.put, List.setIfInBounds_toArray, List.set_cons_zero, List.set_cons_succ]
  refine takeL 9 (v := ?_) rfl (by kernel_rfl) (by kernel_rfl) (by kernel_rfl) (fun _ _ _ h => h) (Or.inl ⟨by rfl, ?_⟩) hHeld ?_
  rotate_left 1
  · (intro w hSw; go_simp; try with_reducible rfl)
  try simp only [Act.put, List.setIfInBounds_toArray, List.set_cons_zero, List.set_cons_succ]
  refine takeL 10 (v := ?_) rfl (by kernel_rfl) (by kernel_rfl) (by kernel_rfl) (fun _ _ _ h => h) (Or.inl ⟨by rfl, ?_⟩) hHeld ?_
  rotate_left 1
  · (intro w hSw; go_simp; try with_reducible rfl)
  try simp only [Act.put, List.setIfInBounds_toArray, List.set_cons_zero, List.set_cons_succ]
  refine takeL 11 (v := ?_) rfl (by kernel_rfl) (by kernel_rfl) (by kernel_rfl) (fun _ _ _ h => h) (Or.inl ⟨by rfl, ?_⟩) hHeld ?_
  rotate_left 1
  · (intro w hSw; have c0 : w.cell? ⟨b, o + k * 3 + 1, none⟩ = some _ := hSw 1 _ rfl; go_simp; try with_reducible rfl)
  try simp only [Act.put, List.setIfInBounds_toArray, List.set_cons_zero, List.set_cons_succ]
  refine takeL 12 (v := ?_) rfl (by kernel_rfl) (by kernel_rfl) (by kernel_rfl) (fun _ _ _ h => h) (Or.inl ⟨by rfl, ?_⟩) hHeld ?_
  rotate_left 1
  · (intro w hSw; go_simp; try with_reducible rfl)
  try simp only [Act.put, List.setIfInBounds_toArray, List.set_cons_zero, List.set_cons_succ]
  refine takeL 13 (v := ?_) rfl (by kernel_rfl) (by kernel_rfl) (by kernel_rfl) (fun _ _ _ h => h) (Or.inl ⟨by rfl, ?_⟩) hHeld ?_
  rotate_left 1
  · (intro w hSw; go_simp; try with_reducible rfl)
  try simp only [Act.put, List.setIfInBounds_toArray, List.set_cons_zero, List.set_cons_succ]
  refine takeL 14 (v := ?_) rfl (by kernel_rfl) (by kernel_rfl) (by kernel_rfl) (fun _ _ _ h => h) (Or.inl ⟨by rfl, ?_⟩) hHeld ?_
  rotate_left 1
  · (intro w hSw; go_simp; try with_reducible rfl)
  try simp only [Act.put, List.setIfInBounds_toArray, List.set_cons_zero, List.set_cons_succ]
  refine wpAnyH_ready (rs := [6, 16]) (by kernel_rfl) (by simp) ?_
  refine consM 6 rfl (fun K hK => ?_) (consM 16 rfl (fun K hK => ?_) AllReadyH.nil)
  · go_simp
    refine (HMa.out U0 _ (HIn.out.later (HB0.out _ R1.out.km.grown))).mono ?_
    rintro e W' ⟨rfl, rfl⟩
    show K _ _
    refine hK.out _ _ (range_later HRg.out (HB0.out _ R1.out.km.grown) HbB.out) (fun hHeld => ?_)
    clear hK K
    try simp only [Act.put, List.setIfInBounds_toArray, List.set_cons_zero, List.set_cons_succ]
    refine takeL 15 (v := ?_) rfl (by kernel_rfl) (by kernel_rfl) (by kernel_rfl) (fun _ _ _ h => h) (Or.inl ⟨by rfl, ?_⟩) hHeld ?_
    rotate_left 1
    · (intro w hSw; go_simp; try with_reducible rfl)
    try simp only [Act.put, List.setIfInBounds_toArray, List.set_cons_zero, List.set_cons_succ]
    refine stepL 16 (by kernel_rfl) rfl (fun K hK => ?_)
    go_simp
    show K _ _
    have Q1 := Bx.mk (R1.out.new (.cells #[.int .i64 0, .int .i64 0, .int .i64 0, .int .i64 0] 24))
    clear R1
    generalize U0.alloc (.cells #[.int .i64 0, .int .i64 0, .int .i64 0, .int .i64 0] 24) = U1 at *
    generalize U0.heap.size = D at *
    refine hK.out _ _ (range_later HRg.out (HB0.out _ Q1.out.km.grown) HbB.out) (fun hHeld => ?_)
    clear hK K
    try simp only [Act.put, List.setIfInBounds_toArray, List.set_cons_zero, List.set_cons_succ]
    refine stepL 17 (by kernel_rfl) rfl (fun K hK => ?_)
    refine step_st rfl 24 _ _ rfl D #[.int .i64 i, .int .i64 r, .int .i64 x, .int .i64 q] (by rfl) (by rfl) (there_row (Q1.out.km.rows _ (.head _)).1 0 _ (Nat.le_refl _)) (by kernel_rfl) (by simp [Value.oneCell']) ?_
    have hr2 := heap_setCells_all (ds := #[.int .i64 i, .int .i64 r, .int .i64 x, .int .i64 q]) (Q1.out.km.rows _ (.head _)).1 rfl
    have Q2 := Bx.mk (Q1.out.set (kb_setCells (b := D) (#[.int .i64 i, .int .i64 r, .int .i64 x, .int .i64 q] : Array Value).toList 0 U1) hr2 (fun y hy => (List.not_mem_nil hy).elim))
    clear hr2 Q1
    refine hK.out _ _ (range_later HRg.out (HB0.out _ Q2.out.km.grown) HbB.out) (fun hHeld => ?_)
    clear hK K
    try simp only [Act.put]
    generalize U1.setCells D 0 (#[.int .i64 i, .int .i64 r, .int .i64 x, .int .i64 q] : Array Value).toList = U2 at *
    refine wpAnyH_done (by kernel_rfl) ?_ _
    refine NoPanic.normal ?_
    clear hHeld
    go_upto_region 13 with fail
    have Y0 := Bx.mk (Q2.out.later (Below.refl _ _).drew)
    clear Q2
    refine wp_region_noPanic ?_
    refine wp_region_held_drew (S := fun W => W.rangeAt b (o + k * 3) [.int .i64 i, .int .i64 x, .slice ar nr cr]) (by kernel_rfl) ((range_later HRg.out (HB0.out _ Y0.out.km.grown) HbB.out)) (fun hHeld => ?_)
    generalize U2.drew = V0 at *
    refine takeL 0 (v := ?_) rfl (by kernel_rfl) (by kernel_rfl) (by kernel_rfl) (fun _ _ _ h => h) (Or.inl ⟨by rfl, ?_⟩) hHeld ?_
    rotate_left 1
    · (intro w hSw; go_simp; try with_reducible rfl)
    try simp only [Act.put, List.setIfInBounds_toArray, List.set_cons_zero, List.set_cons_succ]
    refine takeL 1 (v := ?_) rfl (by kernel_rfl) (by kernel_rfl) (by kernel_rfl) (fun _ _ _ h => h) (Or.inl ⟨by rfl, ?_⟩) hHeld ?_
    rotate_left 1
    · (intro w hSw; go_simp; try with_reducible rfl)
    try simp only [Act.put, List.setIfInBounds_toArray, List.set_cons_zero, List.set_cons_succ]
    refine takeL 2 (v := ?_) rfl (by kernel_rfl) (by kernel_rfl) (by kernel_rfl) (fun _ _ _ h => h) (Or.inl ⟨by rfl, ?_⟩) hHeld ?_
    rotate_left 1
    · (intro w hSw; go_simp; try with_reducible rfl)
    try simp only [Act.put, List.setIfInBounds_toArray, List.set_cons_zero, List.set_cons_succ]
    refine takeL 3 (v := ?_) rfl (by kernel_rfl) (by kernel_rfl) (by kernel_rfl) (fun _ _ _ h => h) (Or.inl ⟨by rfl, ?_⟩) hHeld ?_
    rotate_left 1
    · (intro w hSw; go_simp; try with_reducible rfl)
    try simp only [Act.put, List.setIfInBounds_toArray, List.set_cons_zero, List.set_cons_succ]
    refine takeL 4 (v := ?_) rfl (by kernel_rfl) (by kernel_rfl) (by kernel_rfl) (fun _ _ _ h => h) (Or.inl ⟨by rfl, ?_⟩) hHeld ?_
    rotate_left 1
    · (intro w hSw; go_simp; try with_reducible rfl)
    try simp only [Act.put, List.setIfInBounds_toArray, List.set_cons_zero, List.set_cons_succ]
    refine takeL 5 (v := ?_) rfl (by kernel_rfl) (by kernel_rfl) (by kernel_rfl) (fun _ _ _ h => h) (Or.inl ⟨by rfl, ?_⟩) hHeld ?_
    rotate_left 1
    · (intro w hSw; have c0 : w.cell? ⟨b, o + k * 3, none⟩ = some _ := hSw 0 _ rfl; go_simp; try with_reducible rfl)
    try simp only [Act.put, List.setIfInBounds_toArray, List.set_cons_zero, List.set_cons_succ]
    refine takeL 6 (v := ?_) rfl (by kernel_rfl) (by kernel_rfl) (by kernel_rfl) (fun _ _ _ h => h) (Or.inl ⟨by rfl, ?_⟩) hHeld ?_
    rotate_left 1
    · (intro w hSw; go_simp; try with_reducible rfl)
    try simp only [Act.put, List.setIfInBounds_toArray, List.set_cons_zero, List.set_cons_succ]
    refine takeL 7 (v := ?_) rfl (by kernel_rfl) (by kernel_rfl) (by kernel_rfl) (fun _ _ _ h => h) (Or.inl ⟨by rfl, ?_⟩) hHeld ?_
    rotate_left 1
    · (intro w hSw; go_simp; try with_reducible rfl)
    try simp only [Act.put, List.setIfInBounds_toArray, List.set_cons_zero, List.set_cons_succ]
    refine takeL 8 (v := ?_) rfl (by kernel_rfl) (by kernel_rfl) (by kernel_rfl) (fun _ _ _ h => h) (Or.inl ⟨by rfl, ?_⟩) hHeld ?_
    rotate_left 1
    · (intro w hSw; go_simp; try with_reducible rfl)
    try simp only [Act.put, List.setIfInBounds_toArray, List.set_cons_zero, List.set_cons_succ]
    refine takeL 9 (v := ?_) rfl (by kernel_rfl) (by kernel_rfl) (by kernel_rfl) (fun _ _ _ h => h) (Or.inl ⟨by rfl, ?_⟩) hHeld ?_
    rotate_left 1
    · (intro w hSw; go_simp; try with_reducible rfl)
    try simp only [Act.put, List.setIfInBounds_toArray, List.set_cons_zero, List.set_cons_succ]
    refine takeL 10 (v := ?_) rfl (by kernel_rfl) (by kernel_rfl) (by kernel_rfl) (fun _ _ _ h => h) (Or.inl ⟨by rfl, ?_⟩) hHeld ?_
    rotate_left 1
    · (intro w hSw; have c0 : w.cell? ⟨b, o + k * 3 + 1, none⟩ = some _ := hSw 1 _ rfl; go_simp; try with_reducible rfl)
    try simp only [Act.put, List.setIfInBounds_toArray, List.set_cons_zero, List.set_cons_succ]
    refine takeL 11 (v := ?_) rfl (by kernel_rfl) (by kernel_rfl) (by kernel_rfl) (fun _ _ _ h => h) (Or.inl ⟨by rfl, ?_⟩) hHeld ?_
    rotate_left 1
    · (intro w hSw; go_simp; try with_reducible rfl)
    try simp only [Act.put, List.setIfInBounds_toArray, List.set_cons_zero, List.set_cons_succ]
    refine wpAnyH_ready (rs := [12, 16]) (by kernel_rfl) (by simp) ?_
    refine consM 12 rfl (fun K hK => ?_) (consM 16 rfl (fun K hK => ?_) AllReadyH.nil)
    · go_simp
      refine (HIs.out V0 _ Y0.out.km.mt (HIn.out.later (HB0.out _ Y0.out.km.grown))).mono ?_
      rintro e V1 ⟨rfl, hb⟩
      show K _ _
      have Y1 := Bx.mk (Y0.out.later hb)
      clear hb Y0
      refine hK.out _ _ (range_later HRg.out (HB0.out _ Y1.out.km.grown) HbB.out) (fun hHeld => ?_)
      clear hK K
      try simp only [Act.put, List.setIfInBounds_toArray, List.set_cons_zero, List.set_cons_succ]
      refine takeL 13 (v := ?_) rfl (by kernel_rfl) (by kernel_rfl) (by kernel_rfl) (fun _ _ _ h => h) (Or.inl ⟨by rfl, ?_⟩) hHeld ?_
      rotate_left 1
      · (intro w hSw; go_simp; try with_reducible rfl)
      try simp only [Act.put, List.setIfInBounds_toArray, List.set_cons_zero, List.set_cons_succ]
      refine takeL 14 (v := ?_) rfl (by kernel_rfl) (by kernel_rfl) (by kernel_rfl) (fun _ _ _ h => h) (Or.inl ⟨by rfl, ?_⟩) hHeld ?_
      rotate_left 1
      · (intro w hSw; go_simp; try with_reducible rfl)
      try simp only [Act.put, List.setIfInBounds_toArray, List.set_cons_zero, List.set_cons_succ]
      refine takeL 15 (v := ?_) rfl (by kernel_rfl) (by kernel_rfl) (by kernel_rfl) (fun _ _ _ h => h) (Or.inl ⟨by rfl, ?_⟩) hHeld ?_
      rotate_left 1
      · (intro w hSw; go_simp; try with_reducible rfl)
      try simp only [Act.put, List.setIfInBounds_toArray, List.set_cons_zero, List.set_cons_succ]
      refine stepL 16 (by kernel_rfl) rfl (fun K hK => ?_)
      go_simp
      show K _ _
      have HDE : Bx (D < V1.heap.size) := Bx.mk (Y1.out.km.blt (.head _))
      have Y2 := Bx.mk (Y1.out.new (.cells zc 39))
      clear Y1
      generalize V1.alloc (.cells zc 39) = V2 at *
      generalize V1.heap.size = E at *
      refine hK.out _ _ (range_later HRg.out (HB0.out _ Y2.out.km.grown) HbB.out) (fun hHeld => ?_)
      clear hK K
      try simp only [Act.put, List.setIfInBounds_toArray, List.set_cons_zero, List.set_cons_succ]
      refine stepL 17 (by kernel_rfl) rfl (fun K hK => ?_)
      refine step_st rfl 39 _ _ rfl E zc (by rfl) (by rfl) (there_row (Y2.out.km.rows _ (.head _)).1 0 _ (by omega)) HM1.out.1 HM1.out.2 ?_
      have hr2 := heap_setCells_all (ds := zc) (Y2.out.km.rows _ (.head _)).1 rfl
      have Y3 := Bx.mk (Y2.out.set (kb_setCells (b := E) (zc).toList 0 V2) hr2 (by intro y hy; have h1 := HDE.out; simp at hy; rcases hy with rfl; simp only; omega))
      clear hr2 Y2
      refine hK.out _ _ (range_later HRg.out (HB0.out _ Y3.out.km.grown) HbB.out) (fun hHeld => ?_)
      clear hK K
      try simp only [Act.put]
      generalize V2.setCells E 0 (zc).toList = V3 at *
      refine takeL 18 (v := ?_) rfl (by kernel_rfl) (by kernel_rfl) (by kernel_rfl) (fun _ _ _ h => h) (Or.inl ⟨by rfl, ?_⟩) hHeld ?_
      rotate_left 1
      · (intro w hSw; go_simp; try with_reducible rfl)
      try simp only [Act.put, List.setIfInBounds_toArray, List.set_cons_zero, List.set_cons_succ]
      refine wpAnyH_done (by kernel_rfl) ?_ _
      refine NoPanic.normal ?_
      clear hHeld
      go_wp2_with (refine wpList_load_mid rfl 24 _ rfl D 0 (by rfl) [.int .i64 i, .int .i64 r, .int .i64 x, .int .i64 q] _ (row_rng (l := [.int .i64 i, .int .i64 r, .int .i64 x, .int .i64 q]) (Y3.out.km.rows _ (.tail _ (.head _))).1) Tryd.underlying24 rfl (by kernel_rfl) ?_)
      refine (HRi.out V3).mono ?_
      rintro e X1 ⟨rfl, hb⟩
      have X := Bx.mk (Y3.out.later hb)
      clear hb Y3
      go_wp2_with (first | (refine wpList_load_roww (by rfl) 39 _ rfl E (by rfl) _ _ _ _ (X.out.km.rows _ (.head _)).1 Tryd.underlying39 rfl HM1.out.1 ?_) | (refine wpList_buildw (by rfl) 39 _ rfl zc hbz ?_))
      refine (HCo.out X1 l X.out.km.mt).mono ?_
      rintro e X2 ⟨rfl, rfl⟩
      rw [HLa.out]
      go_wp2
      exact ⟨⟨⟨rfl, rfl⟩, rfl, rfl, rfl⟩, by first | rfl | go_num, _, rfl, by unfold IR; rw [HIK.out]; exact X.out.drop⟩
    · go_simp
      show K _ _
      have HDE : Bx (D < V0.heap.size) := Bx.mk (Y0.out.km.blt (.head _))
      have Y1 := Bx.mk (Y0.out.new (.cells zc 39))
      clear Y0
      generalize V0.alloc (.cells zc 39) = V1 at *
      generalize V0.heap.size = E at *
      refine hK.out _ _ (range_later HRg.out (HB0.out _ Y1.out.km.grown) HbB.out) (fun hHeld => ?_)
      clear hK K
      try simp only [Act.put, List.setIfInBounds_toArray, List.set_cons_zero, List.set_cons_succ]
      refine stepL 12 (by kernel_rfl) rfl (fun K hK => ?_)
      go_simp
      refine (HIs.out V1 _ Y1.out.km.mt (HIn.out.later (HB0.out _ Y1.out.km.grown))).mono ?_
      rintro e V2 ⟨rfl, hb⟩
      show K _ _
      have Y2 := Bx.mk (Y1.out.later hb)
      clear hb Y1
      refine hK.out _ _ (range_later HRg.out (HB0.out _ Y2.out.km.grown) HbB.out) (fun hHeld => ?_)
      clear hK K
      try simp only [Act.put, List.setIfInBounds_toArray, List.set_cons_zero, List.set_cons_succ]
      refine takeL 13 (v := ?_) rfl (by kernel_rfl) (by kernel_rfl) (by kernel_rfl) (fun _ _ _ h => h) (Or.inl ⟨by rfl, ?_⟩) hHeld ?_
      rotate_left 1
      · (intro w hSw; go_simp; try with_reducible rfl)
      try simp only [Act.put, List.setIfInBounds_toArray, List.set_cons_zero, List.set_cons_succ]
      refine takeL 14 (v := ?_) rfl (by kernel_rfl) (by kernel_rfl) (by kernel_rfl) (fun _ _ _ h => h) (Or.inl ⟨by rfl, ?_⟩) hHeld ?_
      rotate_left 1
      · (intro w hSw; go_simp; try with_reducible rfl)
      try simp only [Act.put, List.setIfInBounds_toArray, List.set_cons_zero, List.set_cons_succ]
      refine takeL 15 (v := ?_) rfl (by kernel_rfl) (by kernel_rfl) (by kernel_rfl) (fun _ _ _ h => h) (Or.inl ⟨by rfl, ?_⟩) hHeld ?_
      rotate_left 1
      · (intro w hSw; go_simp; try with_reducible rfl)
      try simp only [Act.put, List.setIfInBounds_toArray, List.set_cons_zero, List.set_cons_succ]
      refine stepL 17 (by kernel_rfl) rfl (fun K hK => ?_)
      refine step_st rfl 39 _ _ rfl E zc (by rfl) (by rfl) (there_row (Y2.out.km.rows _ (.head _)).1 0 _ (by omega)) HM1.out.1 HM1.out.2 ?_
      have hr2 := heap_setCells_all (ds := zc) (Y2.out.km.rows _ (.head _)).1 rfl
      have Y3 := Bx.mk (Y2.out.set (kb_setCells (b := E) (zc).toList 0 V2) hr2 (by intro y hy; have h1 := HDE.out; simp at hy; rcases hy with rfl; simp only; omega))
      clear hr2 Y2
      refine hK.out _ _ (range_later HRg.out (HB0.out _ Y3.out.km.grown) HbB.out) (fun hHeld => ?_)
      clear hK K
      try simp only [Act.put]
      generalize V2.setCells E 0 (zc).toList = V3 at *
      refine takeL 18 (v := ?_) rfl (by kernel_rfl) (by kernel_rfl) (by kernel_rfl) (fun _ _ _ h => h) (Or.inl ⟨by rfl, ?_⟩) hHeld ?_
      rotate_left 1
      · (intro w hSw; go_simp; try with_reducible rfl)
      try simp only [Act.put, List.setIfInBounds_toArray, List.set_cons_zero, List.set_cons_succ]
      refine wpAnyH_done (by kernel_rfl) ?_ _
      refine NoPanic.normal ?_
      clear hHeld
      go_wp2_with (refine wpList_load_mid rfl 24 _ rfl D 0 (by rfl) [.int .i64 i, .int .i64 r, .int .i64 x, .int .i64 q] _ (row_rng (l := [.int .i64 i, .int .i64 r, .int .i64 x, .int .i64 q]) (Y3.out.km.rows _ (.tail _ (.head _))).1) Tryd.underlying24 rfl (by kernel_rfl) ?_)
      refine (HRi.out V3).mono ?_
      rintro e X1 ⟨rfl, hb⟩
      have X := Bx.mk (Y3.out.later hb)
      clear hb Y3
      go_wp2_with (first | (refine wpList_load_roww (by rfl) 39 _ rfl E (by rfl) _ _ _ _ (X.out.km.rows _ (.head _)).1 Tryd.underlying39 rfl HM1.out.1 ?_) | (refine wpList_buildw (by rfl) 39 _ rfl zc hbz ?_))
      refine (HCo.out X1 l X.out.km.mt).mono ?_
      rintro e X2 ⟨rfl, rfl⟩
      rw [HLa.out]
      go_wp2
      exact ⟨⟨⟨rfl, rfl⟩, rfl, rfl, rfl⟩, by first | rfl | go_num, _, rfl, by unfold IR; rw [HIK.out]; exact X.out.drop⟩
  · go_simp
    show K _ _
    have Q1 := Bx.mk (R1.out.new (.cells #[.int .i64 0, .int .i64 0, .int .i64 0, .int .i64 0] 24))
    clear R1
    generalize U0.alloc (.cells #[.int .i64 0, .int .i64 0, .int .i64 0, .int .i64 0] 24) = U1 at *
    generalize U0.heap.size = D at *
    refine hK.out _ _ (range_later HRg.out (HB0.out _ Q1.out.km.grown) HbB.out) (fun hHeld => ?_)
    clear hK K
    try simp only [Act.put, List.setIfInBounds_toArray, List.set_cons_zero, List.set_cons_succ]
    refine stepL 6 (by kernel_rfl) rfl (fun K hK => ?_)
    go_simp
    refine (HMa.out U1 _ (HIn.out.later (HB0.out _ Q1.out.km.grown))).mono ?_
    rintro e W' ⟨rfl, rfl⟩
    show K _ _
    refine hK.out _ _ (range_later HRg.out (HB0.out _ Q1.out.km.grown) HbB.out) (fun hHeld => ?_)
    clear hK K
    try simp only [Act.put, List.setIfInBounds_toArray, List.set_cons_zero, List.set_cons_succ]
    refine takeL 15 (v := ?_) rfl (by kernel_rfl) (by kernel_rfl) (by kernel_rfl) (fun _ _ _ h => h) (Or.inl ⟨by rfl, ?_⟩) hHeld ?_
    rotate_left 1
    · (intro w hSw; go_simp; try with_reducible rfl)
    try simp only [Act.put, List.setIfInBounds_toArray, List.set_cons_zero, List.set_cons_succ]
    refine stepL 17 (by kernel_rfl) rfl (fun K hK => ?_)
    refine step_st rfl 24 _ _ rfl D #[.int .i64 i, .int .i64 r, .int .i64 x, .int .i64 q] (by rfl) (by rfl) (there_row (Q1.out.km.rows _ (.head _)).1 0 _ (Nat.le_refl _)) (by kernel_rfl) (by simp [Value.oneCell']) ?_
    have hr2 := heap_setCells_all (ds := #[.int .i64 i, .int .i64 r, .int .i64 x, .int .i64 q]) (Q1.out.km.rows _ (.head _)).1 rfl
    have Q2 := Bx.mk (Q1.out.set (kb_setCells (b := D) (#[.int .i64 i, .int .i64 r, .int .i64 x, .int .i64 q] : Array Value).toList 0 U1) hr2 (fun y hy => (List.not_mem_nil hy).elim))
    clear hr2 Q1
    refine hK.out _ _ (range_later HRg.out (HB0.out _ Q2.out.km.grown) HbB.out) (fun hHeld => ?_)
    clear hK K
    try simp only [Act.put]
    generalize U1.setCells D 0 (#[.int .i64 i, .int .i64 r, .int .i64 x, .int .i64 q] : Array Value).toList = U2 at *
    refine wpAnyH_done (by kernel_rfl) ?_ _
    refine NoPanic.normal ?_
    clear hHeld
    go_upto_region 13 with fail
    have Y0 := Bx.mk (Q2.out.later (Below.refl _ _).drew)
    clear Q2
    refine wp_region_noPanic ?_
    refine wp_region_held_drew (S := fun W => W.rangeAt b (o + k * 3) [.int .i64 i, .int .i64 x, .slice ar nr cr]) (by kernel_rfl) ((range_later HRg.out (HB0.out _ Y0.out.km.grown) HbB.out)) (fun hHeld => ?_)
    generalize U2.drew = V0 at *
    refine takeL 0 (v := ?_) rfl (by kernel_rfl) (by kernel_rfl) (by kernel_rfl) (fun _ _ _ h => h) (Or.inl ⟨by rfl, ?_⟩) hHeld ?_
    rotate_left 1
    · (intro w hSw; go_simp; try with_reducible rfl)
    try simp only [Act.put, List.setIfInBounds_toArray, List.set_cons_zero, List.set_cons_succ]
    refine takeL 1 (v := ?_) rfl (by kernel_rfl) (by kernel_rfl) (by kernel_rfl) (fun _ _ _ h => h) (Or.inl ⟨by rfl, ?_⟩) hHeld ?_
    rotate_left 1
    · (intro w hSw; go_simp; try with_reducible rfl)
    try simp only [Act.put, List.setIfInBounds_toArray, List.set_cons_zero, List.set_cons_succ]
    refine takeL 2 (v := ?_) rfl (by kernel_rfl) (by kernel_rfl) (by kernel_rfl) (fun _ _ _ h => h) (Or.inl ⟨by rfl, ?_⟩) hHeld ?_
    rotate_left 1
    · (intro w hSw; go_simp; try with_reducible rfl)
    try simp only [Act.put, List.setIfInBounds_toArray, List.set_cons_zero, List.set_cons_succ]
    refine takeL 3 (v := ?_) rfl (by kernel_rfl) (by kernel_rfl) (by kernel_rfl) (fun _ _ _ h => h) (Or.inl ⟨by rfl, ?_⟩) hHeld ?_
    rotate_left 1
    · (intro w hSw; go_simp; try with_reducible rfl)
    try simp only [Act.put, List.setIfInBounds_toArray, List.set_cons_zero, List.set_cons_succ]
    refine takeL 4 (v := ?_) rfl (by kernel_rfl) (by kernel_rfl) (by kernel_rfl) (fun _ _ _ h => h) (Or.inl ⟨by rfl, ?_⟩) hHeld ?_
    rotate_left 1
    · (intro w hSw; go_simp; try with_reducible rfl)
    try simp only [Act.put, List.setIfInBounds_toArray, List.set_cons_zero, List.set_cons_succ]
    refine takeL 5 (v := ?_) rfl (by kernel_rfl) (by kernel_rfl) (by kernel_rfl) (fun _ _ _ h => h) (Or.inl ⟨by rfl, ?_⟩) hHeld ?_
    rotate_left 1
    · (intro w hSw; have c0 : w.cell? ⟨b, o + k * 3, none⟩ = some _ := hSw 0 _ rfl; go_simp; try with_reducible rfl)
    try simp only [Act.put, List.setIfInBounds_toArray, List.set_cons_zero, List.set_cons_succ]
    refine takeL 6 (v := ?_) rfl (by kernel_rfl) (by kernel_rfl) (by kernel_rfl) (fun _ _ _ h => h) (Or.inl ⟨by rfl, ?_⟩) hHeld ?_
    rotate_left 1
    · (intro w hSw; go_simp; try with_reducible rfl)
    try simp only [Act.put, List.setIfInBounds_toArray, List.set_cons_zero, List.set_cons_succ]
    refine takeL 7 (v := ?_) rfl (by kernel_rfl) (by kernel_rfl) (by kernel_rfl) (fun _ _ _ h => h) (Or.inl ⟨by rfl, ?_⟩) hHeld ?_
    rotate_left 1
    · (intro w hSw; go_simp; try with_reducible rfl)
    try simp only [Act.put, List.setIfInBounds_toArray, List.set_cons_zero, List.set_cons_succ]
    refine takeL 8 (v := ?_) rfl (by kernel_rfl) (by kernel_rfl) (by kernel_rfl) (fun _ _ _ h => h) (Or.inl ⟨by rfl, ?_⟩) hHeld ?_
    rotate_left 1
    · (intro w hSw; go_simp; try with_reducible rfl)
    try simp only [Act.put, List.setIfInBounds_toArray, List.set_cons_zero, List.set_cons_succ]
    refine takeL 9 (v := ?_) rfl (by kernel_rfl) (by kernel_rfl) (by kernel_rfl) (fun _ _ _ h => h) (Or.inl ⟨by rfl, ?_⟩) hHeld ?_
    rotate_left 1
    · (intro w hSw; go_simp; try with_reducible rfl)
    try simp only [Act.put, List.setIfInBounds_toArray, List.set_cons_zero, List.set_cons_succ]
    refine takeL 10 (v := ?_) rfl (by kernel_rfl) (by kernel_rfl) (by kernel_rfl) (fun _ _ _ h => h) (Or.inl ⟨by rfl, ?_⟩) hHeld ?_
    rotate_left 1
    · (intro w hSw; have c0 : w.cell? ⟨b, o + k * 3 + 1, none⟩ = some _ := hSw 1 _ rfl; go_simp; try with_reducible rfl)
    try simp only [Act.put, List.setIfInBounds_toArray, List.set_cons_zero, List.set_cons_succ]
    refine takeL 11 (v := ?_) rfl (by kernel_rfl) (by kernel_rfl) (by kernel_rfl) (fun _ _ _ h => h) (Or.inl ⟨by rfl, ?_⟩) hHeld ?_
    rotate_left 1
    · (intro w hSw; go_simp; try with_reducible rfl)
    try simp only [Act.put, List.setIfInBounds_toArray, List.set_cons_zero, List.set_cons_succ]
    refine wpAnyH_ready (rs := [12, 16]) (by kernel_rfl) (by simp) ?_
    refine consM 12 rfl (fun K hK => ?_) (consM 16 rfl (fun K hK => ?_) AllReadyH.nil)
    · go_simp
      refine (HIs.out V0 _ Y0.out.km.mt (HIn.out.later (HB0.out _ Y0.out.km.grown))).mono ?_
      rintro e V1 ⟨rfl, hb⟩
      show K _ _
      have Y1 := Bx.mk (Y0.out.later hb)
      clear hb Y0
      refine hK.out _ _ (range_later HRg.out (HB0.out _ Y1.out.km.grown) HbB.out) (fun hHeld => ?_)
      clear hK K
      try simp only [Act.put, List.setIfInBounds_toArray, List.set_cons_zero, List.set_cons_succ]
      refine takeL 13 (v := ?_) rfl (by kernel_rfl) (by kernel_rfl) (by kernel_rfl) (fun _ _ _ h => h) (Or.inl ⟨by rfl, ?_⟩) hHeld ?_
      rotate_left 1
      · (intro w hSw; go_simp; try with_reducible rfl)
      try simp only [Act.put, List.setIfInBounds_toArray, List.set_cons_zero, List.set_cons_succ]
      refine takeL 14 (v := ?_) rfl (by kernel_rfl) (by kernel_rfl) (by kernel_rfl) (fun _ _ _ h => h) (Or.inl ⟨by rfl, ?_⟩) hHeld ?_
      rotate_left 1
      · (intro w hSw; go_simp; try with_reducible rfl)
      try simp only [Act.put, List.setIfInBounds_toArray, List.set_cons_zero, List.set_cons_succ]
      refine takeL 15 (v := ?_) rfl (by kernel_rfl) (by kernel_rfl) (by kernel_rfl) (fun _ _ _ h => h) (Or.inl ⟨by rfl, ?_⟩) hHeld ?_
      rotate_left 1
      · (intro w hSw; go_simp; try with_reducible rfl)
      try simp only [Act.put, List.setIfInBounds_toArray, List.set_cons_zero, List.set_cons_succ]
      refine stepL 16 (by kernel_rfl) rfl (fun K hK => ?_)
      go_simp
      show K _ _
      have HDE : Bx (D < V1.heap.size) := Bx.mk (Y1.out.km.blt (.head _))
      have Y2 := Bx.mk (Y1.out.new (.cells zc 39))
      clear Y1
      generalize V1.alloc (.cells zc 39) = V2 at *
      generalize V1.heap.size = E at *
      refine hK.out _ _ (range_later HRg.out (HB0.out _ Y2.out.km.grown) HbB.out) (fun hHeld => ?_)
      clear hK K
      try simp only [Act.put, List.setIfInBounds_toArray, List.set_cons_zero, List.set_cons_succ]
      refine stepL 17 (by kernel_rfl) rfl (fun K hK => ?_)
      refine step_st rfl 39 _ _ rfl E zc (by rfl) (by rfl) (there_row (Y2.out.km.rows _ (.head _)).1 0 _ (by omega)) HM1.out.1 HM1.out.2 ?_
      have hr2 := heap_setCells_all (ds := zc) (Y2.out.km.rows _ (.head _)).1 rfl
      have Y3 := Bx.mk (Y2.out.set (kb_setCells (b := E) (zc).toList 0 V2) hr2 (by intro y hy; have h1 := HDE.out; simp at hy; rcases hy with rfl; simp only; omega))
      clear hr2 Y2
      refine hK.out _ _ (range_later HRg.out (HB0.out _ Y3.out.km.grown) HbB.out) (fun hHeld => ?_)
      clear hK K
      try simp only [Act.put]
      generalize V2.setCells E 0 (zc).toList = V3 at *
      refine takeL 18 (v := ?_) rfl (by kernel_rfl) (by kernel_rfl) (by kernel_rfl) (fun _ _ _ h => h) (Or.inl ⟨by rfl, ?_⟩) hHeld ?_
      rotate_left 1
      · (intro w hSw; go_simp; try with_reducible rfl)
      try simp only [Act.put, List.setIfInBounds_toArray, List.set_cons_zero, List.set_cons_succ]
      refine wpAnyH_done (by kernel_rfl) ?_ _
      refine NoPanic.normal ?_
      clear hHeld
      go_wp2_with (refine wpList_load_mid rfl 24 _ rfl D 0 (by rfl) [.int .i64 i, .int .i64 r, .int .i64 x, .int .i64 q] _ (row_rng (l := [.int .i64 i, .int .i64 r, .int .i64 x, .int .i64 q]) (Y3.out.km.rows _ (.tail _ (.head _))).1) Tryd.underlying24 rfl (by kernel_rfl) ?_)
      refine (HRi.out V3).mono ?_
      rintro e X1 ⟨rfl, hb⟩
      have X := Bx.mk (Y3.out.later hb)
      clear hb Y3
      go_wp2_with (first | (refine wpList_load_roww (by rfl) 39 _ rfl E (by rfl) _ _ _ _ (X.out.km.rows _ (.head _)).1 Tryd.underlying39 rfl HM1.out.1 ?_) | (refine wpList_buildw (by rfl) 39 _ rfl zc hbz ?_))
      refine (HCo.out X1 l X.out.km.mt).mono ?_
      rintro e X2 ⟨rfl, rfl⟩
      rw [HLa.out]
      go_wp2
      exact ⟨⟨⟨rfl, rfl⟩, rfl, rfl, rfl⟩, by first | rfl | go_num, _, rfl, by unfold IR; rw [HIK.out]; exact X.out.drop⟩
    · go_simp
      show K _ _
      have HDE : Bx (D < V0.heap.size) := Bx.mk (Y0.out.km.blt (.head _))
      have Y1 := Bx.mk (Y0.out.new (.cells zc 39))
      clear Y0
      generalize V0.alloc (.cells zc 39) = V1 at *
      generalize V0.heap.size = E at *
      refine hK.out _ _ (range_later HRg.out (HB0.out _ Y1.out.km.grown) HbB.out) (fun hHeld => ?_)
      clear hK K
      try simp only [Act.put, List.setIfInBounds_toArray, List.set_cons_zero, List.set_cons_succ]
      refine stepL 12 (by kernel_rfl) rfl (fun K hK => ?_)
      go_simp
      refine (HIs.out V1 _ Y1.out.km.mt (HIn.out.later (HB0.out _ Y1.out.km.grown))).mono ?_
      rintro e V2 ⟨rfl, hb⟩
      show K _ _
      have Y2 := Bx.mk (Y1.out.later hb)
      clear hb Y1
      refine hK.out _ _ (range_later HRg.out (HB0.out _ Y2.out.km.grown) HbB.out) (fun hHeld => ?_)
      clear hK K
      try simp only [Act.put, List.setIfInBounds_toArray, List.set_cons_zero, List.set_cons_succ]
      refine takeL 13 (v := ?_) rfl (by kernel_rfl) (by kernel_rfl) (by kernel_rfl) (fun _ _ _ h => h) (Or.inl ⟨by rfl, ?_⟩) hHeld ?_
      rotate_left 1
      · (intro w hSw; go_simp; try with_reducible rfl)
      try simp only [Act.put, List.setIfInBounds_toArray, List.set_cons_zero, List.set_cons_succ]
      refine takeL 14 (v := ?_) rfl (by kernel_rfl) (by kernel_rfl) (by kernel_rfl) (fun _ _ _ h => h) (Or.inl ⟨by rfl, ?_⟩) hHeld ?_
      rotate_left 1
      · (intro w hSw; go_simp; try with_reducible rfl)
      try simp only [Act.put, List.setIfInBounds_toArray, List.set_cons_zero, List.set_cons_succ]
      refine takeL 15 (v := ?_) rfl (by kernel_rfl) (by kernel_rfl) (by kernel_rfl) (fun _ _ _ h => h) (Or.inl ⟨by rfl, ?_⟩) hHeld ?_
      rotate_left 1
      · (intro w hSw; go_simp; try with_reducible rfl)
      try simp only [Act.put, List.setIfInBounds_toArray, List.set_cons_zero, List.set_cons_succ]
      refine stepL 17 (by kernel_rfl) rfl (fun K hK => ?_)
      refine step_st rfl 39 _ _ rfl E zc (by rfl) (by rfl) (there_row (Y2.out.km.rows _ (.head _)).1 0 _ (by omega)) HM1.out.1 HM1.out.2 ?_
      have hr2 := heap_setCells_all (ds := zc) (Y2.out.km.rows _ (.head _)).1 rfl
      have Y3 := Bx.mk (Y2.out.set (kb_setCells (b := E) (zc).toList 0 V2) hr2 (by intro y hy; have h1 := HDE.out; simp at hy; rcases hy with rfl; simp only; omega))
      clear hr2 Y2
      refine hK.out _ _ (range_later HRg.out (HB0.out _ Y3.out.km.grown) HbB.out) (fun hHeld => ?_)
      clear hK K
      try simp only [Act.put]
      generalize V2.setCells E 0 (zc).toList = V3 at *
      refine takeL 18 (v := ?_) rfl (by kernel_rfl) (by kernel_rfl) (by kernel_rfl) (fun _ _ _ h => h) (Or.inl ⟨by rfl, ?_⟩) hHeld ?_
      rotate_left 1
      · (intro w hSw; go_simp; try with_reducible rfl)
      try simp only [Act.put, List.setIfInBounds_toArray, List.set_cons_zero, List.set_cons_succ]
      refine wpAnyH_done (by kernel_rfl) ?_ _
      refine NoPanic.normal ?_
      clear hHeld
      go_wp2_with (refine wpList_load_mid rfl 24 _ rfl D 0 (by rfl) [.int .i64 i, .int .i64 r, .int .i64 x, .int .i64 q] _ (row_rng (l := [.int .i64 i, .int .i64 r, .int .i64 x, .int .i64 q]) (Y3.out.km.rows _ (.tail _ (.head _))).1) Tryd.underlying24 rfl (by kernel_rfl) ?_)
      refine (HRi.out V3).mono ?_
      rintro e X1 ⟨rfl, hb⟩
      have X := Bx.mk (Y3.out.later hb)
      clear hb Y3
      go_wp2_with (first | (refine wpList_load_roww (by rfl) 39 _ rfl E (by rfl) _ _ _ _ (X.out.km.rows _ (.head _)).1 Tryd.underlying39 rfl HM1.out.1 ?_) | (refine wpList_buildw (by rfl) 39 _ rfl zc hbz ?_))
      refine (HCo.out X1 l X.out.km.mt).mono ?_
      rintro e X2 ⟨rfl, rfl⟩
      rw [HLa.out]
      go_wp2
      exact ⟨⟨⟨rfl, rfl⟩, rfl, rfl, rfl⟩, by first | rfl | go_num, _, rfl, by unfold IR; rw [HIK.out]; exact X.out.drop⟩
end Go.Proofs.YtiengbmnfbbgoaaDoor
