/-
  Delta: Answer, over a contract of cut.
-/
import Derived.Test.YtnfgamekjbkbkaaDoorD15
import Derived.Test.YtnfgamekjbkbkaaDoorEk
namespace Go.Proofs.YtnfgamekjbkbkaaDoor
open Go Go.RowKit
/-- Rows cut from the last on, and from the end on, to so many serials. -/
def cutM (m : L4) (n : Nat) : L4 :=
  ⟨m.a.take (min m.a.length n), m.b.take (min m.b.length (n - min m.a.length n)), m.c.take (min m.c.length (n - min m.a.length n - min m.b.length (n - min m.a.length n))), m.d.take (min m.d.length (n - min m.a.length n - min m.b.length (n - min m.a.length n) - min m.c.length (n - min m.a.length n - min m.b.length (n - min m.a.length n))))⟩
theorem ans_cut (l : L4) (v : V4) (n : Nat) : cutM ⟨l.a.drop (fN v.a l.a), l.b.drop (fN v.b l.b), l.c.drop (fN v.c l.c), l.d.drop (fN v.d l.d)⟩ n = ansL l v n := by
  unfold cutM ansL tN
  simp only [List.length_drop]
set_option maxRecDepth 100000 in
set_option maxHeartbeats 16000000 in
theorem answer_ok (v : V4) (p : Nat) (l : L4) (room : Int) (w : World) (hs : SetAt w p l) (hg : Good l) (hok : okV v = true) (hr : 16 ≤ room)
    (hcut : ∀ (f : V4) (x : VV) (m : L4) (W : World), Rows4 W x m → Most m 1000 → Calls Tryd.prog 67 #[.agg (dC f x), .int .i64 room] W fun e w' => ∃ u, e = .returned (.agg (dC f u)) ∧ Rows4 w' u (cutM m ((room - 16) / 2).toNat) ∧ Below W.heap.size W w') :
    Calls Tryd.prog 34 #[.pointer (some ⟨p, 0, none⟩), .agg #[.int .i64 v.a, .int .i64 v.b, .int .i64 v.c, .int .i64 v.d], .int .i64 room] w fun e w' => ∃ u, e = .returned (.tuple #[.agg (dC (lowV v l.ver) u), .int .i64 0]) ∧ Rows4 w' u (ansL l v ((room - 16) / 2).toNat) ∧ Below w.heap.size w w' := by
  obtain ⟨E, hE⟩ : ∃ E, w.heap.size = E := ⟨_, rfl⟩
  have K0 : Bx (KR w E [(E + 1, .cells #[.int .i64 0, .int .i64 0, .int .i64 0, .int .i64 0, .slice none 0 0, .slice none 0 0, .slice none 0 0, .slice none 0 0] 30), (E, .cells #[.int .i64 v.a, .int .i64 v.b, .int .i64 v.c, .int .i64 v.d] 28)] (((w.alloc (.cells #[.int .i64 v.a, .int .i64 v.b, .int .i64 v.c, .int .i64 v.d] 28)).alloc (.cells #[.int .i64 0, .int .i64 0, .int .i64 0, .int .i64 0, .slice none 0 0, .slice none 0 0, .slice none 0 0, .slice none 0 0] 30)))) := Bx.mk (by
    subst hE
    have h := ((KR.start w).new (.cells #[.int .i64 v.a, .int .i64 v.b, .int .i64 v.c, .int .i64 v.d] 28)).new (.cells #[.int .i64 0, .int .i64 0, .int .i64 0, .int .i64 0, .slice none 0 0, .slice none 0 0, .slice none 0 0, .slice none 0 0] 30)
    simpa using h)
  have HW := Bx.mk (fun W => within9_any v W)
  rw [hok] at HW
  obtain ⟨⟨va1, va2⟩, ⟨vb1, vb2⟩, ⟨vc1, vc2⟩, vd1, vd2⟩ := (okV_iff v).1 hok
  have hr2 : ¬ room < 16 := by omega
  obtain ⟨n0, hn0⟩ : ∃ n, ((room - 16) / 2).toNat = n := ⟨_, rfl⟩
  rw [hn0] at hcut ⊢
  have HCL := Bx.mk (ans_cut l v n0)
  obtain ⟨lv, hlv⟩ : ∃ c, lowV v l.ver = c := ⟨_, rfl⟩
  have e1 : lv.a = (fN v.a l.a : Int) ∧ lv.b = (fN v.b l.b : Int) ∧ lv.c = (fN v.c l.c : Int) ∧ lv.d = (fN v.d l.d : Int) := by
    rw [← hlv]
    unfold lowV L4.ver fN
    simp only
    omega
  have l1 : fN v.a l.a ≤ l.a.length ∧ fN v.b l.b ≤ l.b.length ∧ fN v.c l.c ≤ l.c.length ∧ fN v.d l.d ≤ l.d.length := by unfold fN; omega
  generalize fN v.a l.a = fa at *
  generalize fN v.b l.b = fb at *
  generalize fN v.c l.c = fc at *
  generalize fN v.d l.d = fd at *
  have HV : Bx (∀ W, Below E w W → Calls Tryd.prog 36 #[.pointer (some ⟨p, 0, none⟩)] W fun e w' => e = .returned (.agg #[.int .i64 l.ver.a, .int .i64 l.ver.b, .int .i64 l.ver.c, .int .i64 l.ver.d]) ∧ Below W.heap.size W w') := ⟨fun W h => versions_any _ l W ((SetV.later (.inr ⟨p, rfl, hs⟩) (by rw [hE]; exact h)))⟩
  have HLo : Bx (∀ W, Calls Tryd.prog 66 #[.agg #[.int .i64 v.a, .int .i64 v.b, .int .i64 v.c, .int .i64 v.d], .agg #[.int .i64 l.ver.a, .int .i64 l.ver.b, .int .i64 l.ver.c, .int .i64 l.ver.d]] W fun e w' => e = .returned (.agg #[.int .i64 lv.a, .int .i64 lv.b, .int .i64 lv.c, .int .i64 lv.d]) ∧ Below W.heap.size W w') := ⟨fun W => by
    rw [← hlv]
    exact lower9 v l.ver W (by have := hg.a; have := hg.b; have := hg.c; have := hg.d; intro n hn; unfold in64; unfold L4.ver at hn; simp at hn; omega)⟩
  have HSi : Bx (∀ W, Below E w W → Calls Tryd.prog 60 #[.pointer (some ⟨p, 0, none⟩), .agg #[.int .i64 lv.a, .int .i64 lv.b, .int .i64 lv.c, .int .i64 lv.d]] W fun e w' => ∃ u : VV, e = .returned (.tuple #[.agg (dC lv u), .int .i64 0]) ∧ Rows4 w' u ⟨l.a.drop fa, l.b.drop fb, l.c.drop fc, l.d.drop fd⟩ ∧ Below W.heap.size W w') := ⟨fun W h => since_ok lv fa fb fc fd p l W (hs.later (by rw [hE]; exact h)) hg e1.1 e1.2.1 e1.2.2.1 e1.2.2.2 l1.1 l1.2.1 l1.2.2.1 l1.2.2.2⟩
  have HCut : Bx (∀ (f : V4) (x : VV) (m : L4) (W : World), Rows4 W x m → Most m 1000 → Calls Tryd.prog 67 #[.agg (dC f x), .int .i64 room] W fun e w' => ∃ u, e = .returned (.agg (dC f u)) ∧ Rows4 w' u (cutM m n0) ∧ Below W.heap.size W w') := ⟨hcut⟩
  have HMo : Bx (Most ⟨l.a.drop fa, l.b.drop fb, l.c.drop fc, l.d.drop fd⟩ 1000) := ⟨by have := hg.a; have := hg.b; have := hg.c; have := hg.d; constructor <;> (simp only [List.length_drop]; omega)⟩
  generalize l.a.drop fa = ra at *
  generalize l.b.drop fb = rb at *
  generalize l.c.drop fc = rc at *
  generalize l.d.drop fd = rd at *
  clear hcut hok hs hg e1 l1 hn0 va1 va2 vb1 vb2 vc1 vc2 vd1 vd2
  rw [hlv, hE]
  clear hlv
  generalize l.ver = lr at *
  go_enter Tryd.func34, Tryd.ntmps34
  go_wp2_with (refine wpList_load_row rfl 28 _ rfl E (by rfl) _ #[.int .i64 v.a, .int .i64 v.b, .int .i64 v.c, .int .i64 v.d] (0, 0) _ (K0.out.rows _ (.tail _ (.head _))) Tryd.underlying28 rfl (by kernel_rfl) ?_)
  generalize ((w.alloc (.cells #[.int .i64 v.a, .int .i64 v.b, .int .i64 v.c, .int .i64 v.d] 28)).alloc (.cells #[.int .i64 0, .int .i64 0, .int .i64 0, .int .i64 0, .slice none 0 0, .slice none 0 0, .slice none 0 0, .slice none 0 0] 30)) = w0 at *
  refine (HW.out w0).mono ?_
  rintro e w1 ⟨rfl, hb⟩
  have K1 := Bx.mk (K0.out.later hb)
  clear hb K0 HW
  unfold dC at HCut
  go_upto_region 7 with fail
  have R0 := Bx.mk K1.out.drew
  clear K1
  refine wp_region_noPanic ?_
  refine wp_region_held_drew (S := fun W => W.rangeAt E 0 [.int .i64 v.a, .int .i64 v.b, .int .i64 v.c, .int .i64 v.d]) (by kernel_rfl) (row_rng8 (l := [.int .i64 v.a, .int .i64 v.b, .int .i64 v.c, .int .i64 v.d]) (R0.out.rows _ (.tail _ (.head _)))) (fun hHeld => ?_)
  generalize w1.drew = W0 at *
  refine takeL 0 (v := ?_) rfl (by kernel_rfl) (by kernel_rfl) (by kernel_rfl) (fun _ _ _ h => h) (Or.inl ⟨by rfl, ?_⟩) hHeld ?_
  rotate_left 1
  · (intro w hSw; go_simp; try with_reducible rfl)
  try simp only [Act.put, List.setIfInBounds_toArray, List.set_cons_zero, List.set_cons_succ]
  refine takeL 1 rfl (by kernel_rfl) (by kernel_rfl) (by kernel_rfl) (fun _ _ _ h => h) (yieldsIf_load_mid (by rfl) _ _ rfl _ _ rfl _ _ (fun w hSw => hSw) Tryd.underlying28 rfl (by kernel_rfl)) hHeld ?_
  try simp only [Act.put, List.setIfInBounds_toArray, List.set_cons_zero, List.set_cons_succ]
  refine takeL 2 (v := ?_) rfl (by kernel_rfl) (by kernel_rfl) (by kernel_rfl) (fun _ _ _ h => h) (Or.inl ⟨by rfl, ?_⟩) hHeld ?_
  rotate_left 1
  · (intro w hSw; go_simp; try with_reducible rfl)
  try simp only [Act.put, List.setIfInBounds_toArray, List.set_cons_zero, List.set_cons_succ]
  refine wpAnyH_ready (rs := [3, 9]) (by kernel_rfl) (by simp) ?_
  refine consM 3 rfl (fun K hK => ?_) (consM 9 rfl (fun K hK => ?_) AllReadyH.nil)
  · go_simp
    refine (HV.out W0 R0.out.below).mono ?_
    rintro e W1 ⟨rfl, hb⟩
    show K _ _
    have R1 := Bx.mk (R0.out.later hb)
    clear hb R0
    refine hK.out _ _ (row_rng8 (l := [.int .i64 v.a, .int .i64 v.b, .int .i64 v.c, .int .i64 v.d]) (R1.out.rows _ (.tail _ (.head _)))) (fun hHeld => ?_)
    clear hK K
    try simp only [Act.put, List.setIfInBounds_toArray, List.set_cons_zero, List.set_cons_succ]
    refine wpAnyH_ready (rs := [4, 9]) (by kernel_rfl) (by simp) ?_
    refine consM 4 rfl (fun K hK => ?_) (consM 9 rfl (fun K hK => ?_) AllReadyH.nil)
    · go_simp
      refine (HLo.out W1).mono ?_
      rintro e W2 ⟨rfl, hb⟩
      show K _ _
      have R2 := Bx.mk (R1.out.later hb)
      clear hb R1
      refine hK.out _ _ (row_rng8 (l := [.int .i64 v.a, .int .i64 v.b, .int .i64 v.c, .int .i64 v.d]) (R2.out.rows _ (.tail _ (.head _)))) (fun hHeld => ?_)
      clear hK K
      try simp only [Act.put, List.setIfInBounds_toArray, List.set_cons_zero, List.set_cons_succ]
      refine wpAnyH_ready (rs := [5, 9]) (by kernel_rfl) (by simp) ?_
      refine consM 5 rfl (fun K hK => ?_) (consM 9 rfl (fun K hK => ?_) AllReadyH.nil)
      · go_simp
        refine (HSi.out W2 R2.out.below).mono ?_
        rintro e W3 ⟨u, rfl, hu, hb⟩
        show K _ _
        have R3 := Bx.mk (R2.out.later hb)
        obtain ⟨u1, u2, u3, u4, b1, b2, b3, b4, rfl⟩ := hu.forms
        have HX3 := Bx.mk hu
        clear hb hu R2
        unfold dC
        simp only
        refine hK.out _ _ (row_rng8 (l := [.int .i64 v.a, .int .i64 v.b, .int .i64 v.c, .int .i64 v.d]) (R3.out.rows _ (.tail _ (.head _)))) (fun hHeld => ?_)
        clear hK K
        try simp only [Act.put, List.setIfInBounds_toArray, List.set_cons_zero, List.set_cons_succ]
        refine takeL 6 (v := ?_) rfl (by kernel_rfl) (by kernel_rfl) (by kernel_rfl) (fun _ _ _ h => h) (Or.inl ⟨by rfl, ?_⟩) hHeld ?_
        rotate_left 1
        · (intro w hSw; go_simp; try with_reducible rfl)
        try simp only [Act.put, List.setIfInBounds_toArray, List.set_cons_zero, List.set_cons_succ]
        refine takeL 7 (v := ?_) rfl (by kernel_rfl) (by kernel_rfl) (by kernel_rfl) (fun _ _ _ h => h) (Or.inl ⟨by rfl, ?_⟩) hHeld ?_
        rotate_left 1
        · (intro w hSw; go_simp; try with_reducible rfl)
        try simp only [Act.put, List.setIfInBounds_toArray, List.set_cons_zero, List.set_cons_succ]
        refine takeL 8 (v := ?_) rfl (by kernel_rfl) (by kernel_rfl) (by kernel_rfl) (fun _ _ _ h => h) (Or.inl ⟨by rfl, ?_⟩) hHeld ?_
        rotate_left 1
        · (intro w hSw; go_simp; try with_reducible rfl)
        try simp only [Act.put, List.setIfInBounds_toArray, List.set_cons_zero, List.set_cons_succ]
        refine stepL 9 (by kernel_rfl) rfl (fun K hK => ?_)
        go_simp
        show K _ _
        obtain ⟨D, hD⟩ : ∃ D, W3.heap.size = D := ⟨_, rfl⟩
        have HDE : Bx (E + 1 < D) := ⟨by rw [← hD]; exact R3.out.lt (.head _)⟩
        have R4 := Bx.mk (R3.out.new (.cells #[.int .i64 0, .int .i64 0, .int .i64 0, .int .i64 0, .slice none 0 0, .slice none 0 0, .slice none 0 0, .slice none 0 0] 30))
        rw [hD] at R4 ⊢
        have HX4 := Bx.mk (HX3.out.later (below_a (.cells #[.int .i64 0, .int .i64 0, .int .i64 0, .int .i64 0, .slice none 0 0, .slice none 0 0, .slice none 0 0, .slice none 0 0] 30)))
        clear R3 hD
        generalize W3.alloc (.cells #[.int .i64 0, .int .i64 0, .int .i64 0, .int .i64 0, .slice none 0 0, .slice none 0 0, .slice none 0 0, .slice none 0 0] 30) = W4 at *
        refine hK.out _ _ (row_rng8 (l := [.int .i64 v.a, .int .i64 v.b, .int .i64 v.c, .int .i64 v.d]) (R4.out.rows _ (.tail _ (.tail _ (.head _))))) (fun hHeld => ?_)
        clear hK K
        try simp only [Act.put, List.setIfInBounds_toArray, List.set_cons_zero, List.set_cons_succ]
        refine stepL 10 (by kernel_rfl) rfl (fun K hK => ?_)
        refine step_st rfl 30 _ _ rfl D #[.int .i64 lv.a, .int .i64 lv.b, .int .i64 lv.c, .int .i64 lv.d, .slice u1 ra.length b1, .slice u2 rb.length b2, .slice u3 rc.length b3, .slice u4 rd.length b4] (by rfl) (by rfl) (there_row (R4.out.rows _ (.head _)) 0 _ (by simp)) (by kernel_rfl) (by simp [Value.oneCell']) ?_
        have hg9 : W4.grownBy (W4.setCells D 0 (#[.int .i64 lv.a, .int .i64 lv.b, .int .i64 lv.c, .int .i64 lv.d, .slice u1 ra.length b1, .slice u2 rb.length b2, .slice u3 rc.length b3, .slice u4 rd.length b4] : Array Value).toList) (some D) := kb_setCells _ _ _
        have hr9 := heap_setCells_all (ds := #[.int .i64 lv.a, .int .i64 lv.b, .int .i64 lv.c, .int .i64 lv.d, .slice u1 ra.length b1, .slice u2 rb.length b2, .slice u3 rc.length b3, .slice u4 rd.length b4]) (R4.out.rows _ (.head _)) rfl
        have R5 := Bx.mk (R4.out.set hg9 hr9 (by have := HDE.out; omega) (by intro y hy; have := HDE.out; simp at hy; rcases hy with rfl | rfl <;> (simp only; omega)))
        have HXF := Bx.mk (HX4.out.grown hg9 (R4.out.rows _ (.head _)) del_int)
        clear hg9 hr9 R4 HX4
        generalize W4.setCells D 0 (#[.int .i64 lv.a, .int .i64 lv.b, .int .i64 lv.c, .int .i64 lv.d, .slice u1 ra.length b1, .slice u2 rb.length b2, .slice u3 rc.length b3, .slice u4 rd.length b4] : Array Value).toList = W5 at *
        refine hK.out _ _ (row_rng8 (l := [.int .i64 v.a, .int .i64 v.b, .int .i64 v.c, .int .i64 v.d]) (R5.out.rows _ (.tail _ (.tail _ (.head _))))) (fun hHeld => ?_)
        clear hK K
        try simp only [Act.put]
        refine takeL 11 (v := ?_) rfl (by kernel_rfl) (by kernel_rfl) (by kernel_rfl) (fun _ _ _ h => h) (Or.inl ⟨by rfl, ?_⟩) hHeld ?_
        rotate_left 1
        · (intro w hSw; go_simp; try with_reducible rfl)
        try simp only [Act.put, List.setIfInBounds_toArray, List.set_cons_zero, List.set_cons_succ]
        refine wpAnyH_done (by kernel_rfl) ?_ _
        refine NoPanic.normal ?_
        clear hHeld
        go_wp2_with (refine wpList_load_row rfl 30 _ rfl D (by rfl) _ #[.int .i64 lv.a, .int .i64 lv.b, .int .i64 lv.c, .int .i64 lv.d, .slice u1 ra.length b1, .slice u2 rb.length b2, .slice u3 rc.length b3, .slice u4 rd.length b4] (0, 0) _ (R5.out.rows _ (.head _)) Tryd.underlying30 rfl (by kernel_rfl) ?_)
        refine (HCut.out _ _ _ W5 HXF.out HMo.out).mono ?_
        rintro e V1 ⟨z, rfl, hz, hb⟩
        have Q1 := Bx.mk (R5.out.later hb)
        obtain ⟨z1, z2, z3, z4, y1, y2, y3, y4, rfl⟩ := hz.forms
        have HZ := Bx.mk hz
        clear hb hz R5 HXF
        simp only
        generalize hcl : cutM ⟨ra, rb, rc, rd⟩ n0 = cl at *
        go_wp2_with (refine wpList_store_new rfl 30 _ _ rfl (E + 1) #[.int .i64 lv.a, .int .i64 lv.b, .int .i64 lv.c, .int .i64 lv.d, .slice z1 cl.a.length y1, .slice z2 cl.b.length y2, .slice z3 cl.c.length y3, .slice z4 cl.d.length y4] _ _ (by rfl) (by rfl) (Q1.out.rows _ (.tail _ (.head _))) rfl (by kernel_rfl) (by simp [Value.oneCell']) ?_; intro w9 hw9 hr9; have HR := Bx.mk hr9; have HG := Bx.mk (kb_of9 hw9); clear hw9 hr9)
        refine bodyPost_ret (results_pair rfl _ _ _ (E + 1) _ rfl (run_loadVar_row _ _ _ _ _ _ _ HR.out Tryd.underlying30 rfl (by kernel_rfl))) rfl ?_
        exact ⟨⟨.slice z1 cl.a.length y1, .slice z2 cl.b.length y2, .slice z3 cl.c.length y3, .slice z4 cl.d.length y4⟩, rfl, by rw [← HCL.out]; exact HZ.out.grown HG.out (Q1.out.rows _ (.tail _ (.head _))) del_int, Q1.out.below.trans (grown_below HG.out (by omega) Q1.out.le)⟩
      · go_simp
        show K _ _
        obtain ⟨D, hD⟩ : ∃ D, W2.heap.size = D := ⟨_, rfl⟩
        have HDE : Bx (E + 1 < D) := ⟨by rw [← hD]; exact R2.out.lt (.head _)⟩
        have R3 := Bx.mk (R2.out.new (.cells #[.int .i64 0, .int .i64 0, .int .i64 0, .int .i64 0, .slice none 0 0, .slice none 0 0, .slice none 0 0, .slice none 0 0] 30))
        rw [hD] at R3 ⊢
        clear R2 hD
        generalize W2.alloc (.cells #[.int .i64 0, .int .i64 0, .int .i64 0, .int .i64 0, .slice none 0 0, .slice none 0 0, .slice none 0 0, .slice none 0 0] 30) = W3 at *
        refine hK.out _ _ (row_rng8 (l := [.int .i64 v.a, .int .i64 v.b, .int .i64 v.c, .int .i64 v.d]) (R3.out.rows _ (.tail _ (.tail _ (.head _))))) (fun hHeld => ?_)
        clear hK K
        try simp only [Act.put, List.setIfInBounds_toArray, List.set_cons_zero, List.set_cons_succ]
        refine stepL 5 (by kernel_rfl) rfl (fun K hK => ?_)
        go_simp
        refine (HSi.out W3 R3.out.below).mono ?_
        rintro e W4 ⟨u, rfl, hu, hb⟩
        show K _ _
        have R4 := Bx.mk (R3.out.later hb)
        obtain ⟨u1, u2, u3, u4, b1, b2, b3, b4, rfl⟩ := hu.forms
        have HX4 := Bx.mk hu
        clear hb hu R3
        unfold dC
        simp only
        refine hK.out _ _ (row_rng8 (l := [.int .i64 v.a, .int .i64 v.b, .int .i64 v.c, .int .i64 v.d]) (R4.out.rows _ (.tail _ (.tail _ (.head _))))) (fun hHeld => ?_)
        clear hK K
        try simp only [Act.put, List.setIfInBounds_toArray, List.set_cons_zero, List.set_cons_succ]
        refine takeL 6 (v := ?_) rfl (by kernel_rfl) (by kernel_rfl) (by kernel_rfl) (fun _ _ _ h => h) (Or.inl ⟨by rfl, ?_⟩) hHeld ?_
        rotate_left 1
        · (intro w hSw; go_simp; try with_reducible rfl)
        try simp only [Act.put, List.setIfInBounds_toArray, List.set_cons_zero, List.set_cons_succ]
        refine takeL 7 (v := ?_) rfl (by kernel_rfl) (by kernel_rfl) (by kernel_rfl) (fun _ _ _ h => h) (Or.inl ⟨by rfl, ?_⟩) hHeld ?_
        rotate_left 1
        · (intro w hSw; go_simp; try with_reducible rfl)
        try simp only [Act.put, List.setIfInBounds_toArray, List.set_cons_zero, List.set_cons_succ]
        refine takeL 8 (v := ?_) rfl (by kernel_rfl) (by kernel_rfl) (by kernel_rfl) (fun _ _ _ h => h) (Or.inl ⟨by rfl, ?_⟩) hHeld ?_
        rotate_left 1
        · (intro w hSw; go_simp; try with_reducible rfl)
        try simp only [Act.put, List.setIfInBounds_toArray, List.set_cons_zero, List.set_cons_succ]
        refine stepL 10 (by kernel_rfl) rfl (fun K hK => ?_)
        refine step_st rfl 30 _ _ rfl D #[.int .i64 lv.a, .int .i64 lv.b, .int .i64 lv.c, .int .i64 lv.d, .slice u1 ra.length b1, .slice u2 rb.length b2, .slice u3 rc.length b3, .slice u4 rd.length b4] (by rfl) (by rfl) (there_row (R4.out.rows _ (.head _)) 0 _ (by simp)) (by kernel_rfl) (by simp [Value.oneCell']) ?_
        have hg9 : W4.grownBy (W4.setCells D 0 (#[.int .i64 lv.a, .int .i64 lv.b, .int .i64 lv.c, .int .i64 lv.d, .slice u1 ra.length b1, .slice u2 rb.length b2, .slice u3 rc.length b3, .slice u4 rd.length b4] : Array Value).toList) (some D) := kb_setCells _ _ _
        have hr9 := heap_setCells_all (ds := #[.int .i64 lv.a, .int .i64 lv.b, .int .i64 lv.c, .int .i64 lv.d, .slice u1 ra.length b1, .slice u2 rb.length b2, .slice u3 rc.length b3, .slice u4 rd.length b4]) (R4.out.rows _ (.head _)) rfl
        have R5 := Bx.mk (R4.out.set hg9 hr9 (by have := HDE.out; omega) (by intro y hy; have := HDE.out; simp at hy; rcases hy with rfl | rfl <;> (simp only; omega)))
        have HXF := Bx.mk (HX4.out.grown hg9 (R4.out.rows _ (.head _)) del_int)
        clear hg9 hr9 R4 HX4
        generalize W4.setCells D 0 (#[.int .i64 lv.a, .int .i64 lv.b, .int .i64 lv.c, .int .i64 lv.d, .slice u1 ra.length b1, .slice u2 rb.length b2, .slice u3 rc.length b3, .slice u4 rd.length b4] : Array Value).toList = W5 at *
        refine hK.out _ _ (row_rng8 (l := [.int .i64 v.a, .int .i64 v.b, .int .i64 v.c, .int .i64 v.d]) (R5.out.rows _ (.tail _ (.tail _ (.head _))))) (fun hHeld => ?_)
        clear hK K
        try simp only [Act.put]
        refine takeL 11 (v := ?_) rfl (by kernel_rfl) (by kernel_rfl) (by kernel_rfl) (fun _ _ _ h => h) (Or.inl ⟨by rfl, ?_⟩) hHeld ?_
        rotate_left 1
        · (intro w hSw; go_simp; try with_reducible rfl)
        try simp only [Act.put, List.setIfInBounds_toArray, List.set_cons_zero, List.set_cons_succ]
        refine wpAnyH_done (by kernel_rfl) ?_ _
        refine NoPanic.normal ?_
        clear hHeld
        go_wp2_with (refine wpList_load_row rfl 30 _ rfl D (by rfl) _ #[.int .i64 lv.a, .int .i64 lv.b, .int .i64 lv.c, .int .i64 lv.d, .slice u1 ra.length b1, .slice u2 rb.length b2, .slice u3 rc.length b3, .slice u4 rd.length b4] (0, 0) _ (R5.out.rows _ (.head _)) Tryd.underlying30 rfl (by kernel_rfl) ?_)
        refine (HCut.out _ _ _ W5 HXF.out HMo.out).mono ?_
        rintro e V1 ⟨z, rfl, hz, hb⟩
        have Q1 := Bx.mk (R5.out.later hb)
        obtain ⟨z1, z2, z3, z4, y1, y2, y3, y4, rfl⟩ := hz.forms
        have HZ := Bx.mk hz
        clear hb hz R5 HXF
        simp only
        generalize hcl : cutM ⟨ra, rb, rc, rd⟩ n0 = cl at *
        go_wp2_with (refine wpList_store_new rfl 30 _ _ rfl (E + 1) #[.int .i64 lv.a, .int .i64 lv.b, .int .i64 lv.c, .int .i64 lv.d, .slice z1 cl.a.length y1, .slice z2 cl.b.length y2, .slice z3 cl.c.length y3, .slice z4 cl.d.length y4] _ _ (by rfl) (by rfl) (Q1.out.rows _ (.tail _ (.head _))) rfl (by kernel_rfl) (by simp [Value.oneCell']) ?_; intro w9 hw9 hr9; have HR := Bx.mk hr9; have HG := Bx.mk (kb_of9 hw9); clear hw9 hr9)
        refine bodyPost_ret (results_pair rfl _ _ _ (E + 1) _ rfl (run_loadVar_row _ _ _ _ _ _ _ HR.out Tryd.underlying30 rfl (by kernel_rfl))) rfl ?_
        exact ⟨⟨.slice z1 cl.a.length y1, .slice z2 cl.b.length y2, .slice z3 cl.c.length y3, .slice z4 cl.d.length y4⟩, rfl, by rw [← HCL.out]; exact HZ.out.grown HG.out (Q1.out.rows _ (.tail _ (.head _))) del_int, Q1.out.below.trans (grown_below HG.out (by omega) Q1.out.le)⟩
    · go_simp
      show K _ _
      obtain ⟨D, hD⟩ : ∃ D, W1.heap.size = D := ⟨_, rfl⟩
      have HDE : Bx (E + 1 < D) := ⟨by rw [← hD]; exact R1.out.lt (.head _)⟩
      have R2 := Bx.mk (R1.out.new (.cells #[.int .i64 0, .int .i64 0, .int .i64 0, .int .i64 0, .slice none 0 0, .slice none 0 0, .slice none 0 0, .slice none 0 0] 30))
      rw [hD] at R2 ⊢
      clear R1 hD
      generalize W1.alloc (.cells #[.int .i64 0, .int .i64 0, .int .i64 0, .int .i64 0, .slice none 0 0, .slice none 0 0, .slice none 0 0, .slice none 0 0] 30) = W2 at *
      refine hK.out _ _ (row_rng8 (l := [.int .i64 v.a, .int .i64 v.b, .int .i64 v.c, .int .i64 v.d]) (R2.out.rows _ (.tail _ (.tail _ (.head _))))) (fun hHeld => ?_)
      clear hK K
      try simp only [Act.put, List.setIfInBounds_toArray, List.set_cons_zero, List.set_cons_succ]
      refine stepL 4 (by kernel_rfl) rfl (fun K hK => ?_)
      go_simp
      refine (HLo.out W2).mono ?_
      rintro e W3 ⟨rfl, hb⟩
      show K _ _
      have R3 := Bx.mk (R2.out.later hb)
      clear hb R2
      refine hK.out _ _ (row_rng8 (l := [.int .i64 v.a, .int .i64 v.b, .int .i64 v.c, .int .i64 v.d]) (R3.out.rows _ (.tail _ (.tail _ (.head _))))) (fun hHeld => ?_)
      clear hK K
      try simp only [Act.put, List.setIfInBounds_toArray, List.set_cons_zero, List.set_cons_succ]
      refine stepL 5 (by kernel_rfl) rfl (fun K hK => ?_)
      go_simp
      refine (HSi.out W3 R3.out.below).mono ?_
      rintro e W4 ⟨u, rfl, hu, hb⟩
      show K _ _
      have R4 := Bx.mk (R3.out.later hb)
      obtain ⟨u1, u2, u3, u4, b1, b2, b3, b4, rfl⟩ := hu.forms
      have HX4 := Bx.mk hu
      clear hb hu R3
      unfold dC
      simp only
      refine hK.out _ _ (row_rng8 (l := [.int .i64 v.a, .int .i64 v.b, .int .i64 v.c, .int .i64 v.d]) (R4.out.rows _ (.tail _ (.tail _ (.head _))))) (fun hHeld => ?_)
      clear hK K
      try simp only [Act.put, List.setIfInBounds_toArray, List.set_cons_zero, List.set_cons_succ]
      refine takeL 6 (v := ?_) rfl (by kernel_rfl) (by kernel_rfl) (by kernel_rfl) (fun _ _ _ h => h) (Or.inl ⟨by rfl, ?_⟩) hHeld ?_
      rotate_left 1
      · (intro w hSw; go_simp; try with_reducible rfl)
      try simp only [Act.put, List.setIfInBounds_toArray, List.set_cons_zero, List.set_cons_succ]
      refine takeL 7 (v := ?_) rfl (by kernel_rfl) (by kernel_rfl) (by kernel_rfl) (fun _ _ _ h => h) (Or.inl ⟨by rfl, ?_⟩) hHeld ?_
      rotate_left 1
      · (intro w hSw; go_simp; try with_reducible rfl)
      try simp only [Act.put, List.setIfInBounds_toArray, List.set_cons_zero, List.set_cons_succ]
      refine takeL 8 (v := ?_) rfl (by kernel_rfl) (by kernel_rfl) (by kernel_rfl) (fun _ _ _ h => h) (Or.inl ⟨by rfl, ?_⟩) hHeld ?_
      rotate_left 1
      · (intro w hSw; go_simp; try with_reducible rfl)
      try simp only [Act.put, List.setIfInBounds_toArray, List.set_cons_zero, List.set_cons_succ]
      refine stepL 10 (by kernel_rfl) rfl (fun K hK => ?_)
      refine step_st rfl 30 _ _ rfl D #[.int .i64 lv.a, .int .i64 lv.b, .int .i64 lv.c, .int .i64 lv.d, .slice u1 ra.length b1, .slice u2 rb.length b2, .slice u3 rc.length b3, .slice u4 rd.length b4] (by rfl) (by rfl) (there_row (R4.out.rows _ (.head _)) 0 _ (by simp)) (by kernel_rfl) (by simp [Value.oneCell']) ?_
      have hg9 : W4.grownBy (W4.setCells D 0 (#[.int .i64 lv.a, .int .i64 lv.b, .int .i64 lv.c, .int .i64 lv.d, .slice u1 ra.length b1, .slice u2 rb.length b2, .slice u3 rc.length b3, .slice u4 rd.length b4] : Array Value).toList) (some D) := kb_setCells _ _ _
      have hr9 := heap_setCells_all (ds := #[.int .i64 lv.a, .int .i64 lv.b, .int .i64 lv.c, .int .i64 lv.d, .slice u1 ra.length b1, .slice u2 rb.length b2, .slice u3 rc.length b3, .slice u4 rd.length b4]) (R4.out.rows _ (.head _)) rfl
      have R5 := Bx.mk (R4.out.set hg9 hr9 (by have := HDE.out; omega) (by intro y hy; have := HDE.out; simp at hy; rcases hy with rfl | rfl <;> (simp only; omega)))
      have HXF := Bx.mk (HX4.out.grown hg9 (R4.out.rows _ (.head _)) del_int)
      clear hg9 hr9 R4 HX4
      generalize W4.setCells D 0 (#[.int .i64 lv.a, .int .i64 lv.b, .int .i64 lv.c, .int .i64 lv.d, .slice u1 ra.length b1, .slice u2 rb.length b2, .slice u3 rc.length b3, .slice u4 rd.length b4] : Array Value).toList = W5 at *
      refine hK.out _ _ (row_rng8 (l := [.int .i64 v.a, .int .i64 v.b, .int .i64 v.c, .int .i64 v.d]) (R5.out.rows _ (.tail _ (.tail _ (.head _))))) (fun hHeld => ?_)
      clear hK K
      try simp only [Act.put]
      refine takeL 11 (v := ?_) rfl (by kernel_rfl) (by kernel_rfl) (by kernel_rfl) (fun _ _ _ h => h) (Or.inl ⟨by rfl, ?_⟩) hHeld ?_
      rotate_left 1
      · (intro w hSw; go_simp; try with_reducible rfl)
      try simp only [Act.put, List.setIfInBounds_toArray, List.set_cons_zero, List.set_cons_succ]
      refine wpAnyH_done (by kernel_rfl) ?_ _
      refine NoPanic.normal ?_
      clear hHeld
      go_wp2_with (refine wpList_load_row rfl 30 _ rfl D (by rfl) _ #[.int .i64 lv.a, .int .i64 lv.b, .int .i64 lv.c, .int .i64 lv.d, .slice u1 ra.length b1, .slice u2 rb.length b2, .slice u3 rc.length b3, .slice u4 rd.length b4] (0, 0) _ (R5.out.rows _ (.head _)) Tryd.underlying30 rfl (by kernel_rfl) ?_)
      refine (HCut.out _ _ _ W5 HXF.out HMo.out).mono ?_
      rintro e V1 ⟨z, rfl, hz, hb⟩
      have Q1 := Bx.mk (R5.out.later hb)
      obtain ⟨z1, z2, z3, z4, y1, y2, y3, y4, rfl⟩ := hz.forms
      have HZ := Bx.mk hz
      clear hb hz R5 HXF
      simp only
      generalize hcl : cutM ⟨ra, rb, rc, rd⟩ n0 = cl at *
      go_wp2_with (refine wpList_store_new rfl 30 _ _ rfl (E + 1) #[.int .i64 lv.a, .int .i64 lv.b, .int .i64 lv.c, .int .i64 lv.d, .slice z1 cl.a.length y1, .slice z2 cl.b.length y2, .slice z3 cl.c.length y3, .slice z4 cl.d.length y4] _ _ (by rfl) (by rfl) (Q1.out.rows _ (.tail _ (.head _))) rfl (by kernel_rfl) (by simp [Value.oneCell']) ?_; intro w9 hw9 hr9; have HR := Bx.mk hr9; have HG := Bx.mk (kb_of9 hw9); clear hw9 hr9)
      refine bodyPost_ret (results_pair rfl _ _ _ (E + 1) _ rfl (run_loadVar_row _ _ _ _ _ _ _ HR.out Tryd.underlying30 rfl (by kernel_rfl))) rfl ?_
      exact ⟨⟨.slice z1 cl.a.length y1, .slice z2 cl.b.length y2, .slice z3 cl.c.length y3, .slice z4 cl.d.length y4⟩, rfl, by rw [← HCL.out]; exact HZ.out.grown HG.out (Q1.out.rows _ (.tail _ (.head _))) del_int, Q1.out.below.trans (grown_below HG.out (by omega) Q1.out.le)⟩
  · go_simp
    show K _ _
    obtain ⟨D, hD⟩ : ∃ D, W0.heap.size = D := ⟨_, rfl⟩
    have HDE : Bx (E + 1 < D) := ⟨by rw [← hD]; exact R0.out.lt (.head _)⟩
    have R1 := Bx.mk (R0.out.new (.cells #[.int .i64 0, .int .i64 0, .int .i64 0, .int .i64 0, .slice none 0 0, .slice none 0 0, .slice none 0 0, .slice none 0 0] 30))
    rw [hD] at R1 ⊢
    clear R0 hD
    generalize W0.alloc (.cells #[.int .i64 0, .int .i64 0, .int .i64 0, .int .i64 0, .slice none 0 0, .slice none 0 0, .slice none 0 0, .slice none 0 0] 30) = W1 at *
    refine hK.out _ _ (row_rng8 (l := [.int .i64 v.a, .int .i64 v.b, .int .i64 v.c, .int .i64 v.d]) (R1.out.rows _ (.tail _ (.tail _ (.head _))))) (fun hHeld => ?_)
    clear hK K
    try simp only [Act.put, List.setIfInBounds_toArray, List.set_cons_zero, List.set_cons_succ]
    refine stepL 3 (by kernel_rfl) rfl (fun K hK => ?_)
    go_simp
    refine (HV.out W1 R1.out.below).mono ?_
    rintro e W2 ⟨rfl, hb⟩
    show K _ _
    have R2 := Bx.mk (R1.out.later hb)
    clear hb R1
    refine hK.out _ _ (row_rng8 (l := [.int .i64 v.a, .int .i64 v.b, .int .i64 v.c, .int .i64 v.d]) (R2.out.rows _ (.tail _ (.tail _ (.head _))))) (fun hHeld => ?_)
    clear hK K
    try simp only [Act.put, List.setIfInBounds_toArray, List.set_cons_zero, List.set_cons_succ]
    refine stepL 4 (by kernel_rfl) rfl (fun K hK => ?_)
    go_simp
    refine (HLo.out W2).mono ?_
    rintro e W3 ⟨rfl, hb⟩
    show K _ _
    have R3 := Bx.mk (R2.out.later hb)
    clear hb R2
    refine hK.out _ _ (row_rng8 (l := [.int .i64 v.a, .int .i64 v.b, .int .i64 v.c, .int .i64 v.d]) (R3.out.rows _ (.tail _ (.tail _ (.head _))))) (fun hHeld => ?_)
    clear hK K
    try simp only [Act.put, List.setIfInBounds_toArray, List.set_cons_zero, List.set_cons_succ]
    refine stepL 5 (by kernel_rfl) rfl (fun K hK => ?_)
    go_simp
    refine (HSi.out W3 R3.out.below).mono ?_
    rintro e W4 ⟨u, rfl, hu, hb⟩
    show K _ _
    have R4 := Bx.mk (R3.out.later hb)
    obtain ⟨u1, u2, u3, u4, b1, b2, b3, b4, rfl⟩ := hu.forms
    have HX4 := Bx.mk hu
    clear hb hu R3
    unfold dC
    simp only
    refine hK.out _ _ (row_rng8 (l := [.int .i64 v.a, .int .i64 v.b, .int .i64 v.c, .int .i64 v.d]) (R4.out.rows _ (.tail _ (.tail _ (.head _))))) (fun hHeld => ?_)
    clear hK K
    try simp only [Act.put, List.setIfInBounds_toArray, List.set_cons_zero, List.set_cons_succ]
    refine takeL 6 (v := ?_) rfl (by kernel_rfl) (by kernel_rfl) (by kernel_rfl) (fun _ _ _ h => h) (Or.inl ⟨by rfl, ?_⟩) hHeld ?_
    rotate_left 1
    · (intro w hSw; go_simp; try with_reducible rfl)
    try simp only [Act.put, List.setIfInBounds_toArray, List.set_cons_zero, List.set_cons_succ]
    refine takeL 7 (v := ?_) rfl (by kernel_rfl) (by kernel_rfl) (by kernel_rfl) (fun _ _ _ h => h) (Or.inl ⟨by rfl, ?_⟩) hHeld ?_
    rotate_left 1
    · (intro w hSw; go_simp; try with_reducible rfl)
    try simp only [Act.put, List.setIfInBounds_toArray, List.set_cons_zero, List.set_cons_succ]
    refine takeL 8 (v := ?_) rfl (by kernel_rfl) (by kernel_rfl) (by kernel_rfl) (fun _ _ _ h => h) (Or.inl ⟨by rfl, ?_⟩) hHeld ?_
    rotate_left 1
    · (intro w hSw; go_simp; try with_reducible rfl)
    try simp only [Act.put, List.setIfInBounds_toArray, List.set_cons_zero, List.set_cons_succ]
    refine stepL 10 (by kernel_rfl) rfl (fun K hK => ?_)
    refine step_st rfl 30 _ _ rfl D #[.int .i64 lv.a, .int .i64 lv.b, .int .i64 lv.c, .int .i64 lv.d, .slice u1 ra.length b1, .slice u2 rb.length b2, .slice u3 rc.length b3, .slice u4 rd.length b4] (by rfl) (by rfl) (there_row (R4.out.rows _ (.head _)) 0 _ (by simp)) (by kernel_rfl) (by simp [Value.oneCell']) ?_
    have hg9 : W4.grownBy (W4.setCells D 0 (#[.int .i64 lv.a, .int .i64 lv.b, .int .i64 lv.c, .int .i64 lv.d, .slice u1 ra.length b1, .slice u2 rb.length b2, .slice u3 rc.length b3, .slice u4 rd.length b4] : Array Value).toList) (some D) := kb_setCells _ _ _
    have hr9 := heap_setCells_all (ds := #[.int .i64 lv.a, .int .i64 lv.b, .int .i64 lv.c, .int .i64 lv.d, .slice u1 ra.length b1, .slice u2 rb.length b2, .slice u3 rc.length b3, .slice u4 rd.length b4]) (R4.out.rows _ (.head _)) rfl
    have R5 := Bx.mk (R4.out.set hg9 hr9 (by have := HDE.out; omega) (by intro y hy; have := HDE.out; simp at hy; rcases hy with rfl | rfl <;> (simp only; omega)))
    have HXF := Bx.mk (HX4.out.grown hg9 (R4.out.rows _ (.head _)) del_int)
    clear hg9 hr9 R4 HX4
    generalize W4.setCells D 0 (#[.int .i64 lv.a, .int .i64 lv.b, .int .i64 lv.c, .int .i64 lv.d, .slice u1 ra.length b1, .slice u2 rb.length b2, .slice u3 rc.length b3, .slice u4 rd.length b4] : Array Value).toList = W5 at *
    refine hK.out _ _ (row_rng8 (l := [.int .i64 v.a, .int .i64 v.b, .int .i64 v.c, .int .i64 v.d]) (R5.out.rows _ (.tail _ (.tail _ (.head _))))) (fun hHeld => ?_)
    clear hK K
    try simp only [Act.put]
    refine takeL 11 (v := ?_) rfl (by kernel_rfl) (by kernel_rfl) (by kernel_rfl) (fun _ _ _ h => h) (Or.inl ⟨by rfl, ?_⟩) hHeld ?_
    rotate_left 1
    · (intro w hSw; go_simp; try with_reducible rfl)
    try simp only [Act.put, List.setIfInBounds_toArray, List.set_cons_zero, List.set_cons_succ]
    refine wpAnyH_done (by kernel_rfl) ?_ _
    refine NoPanic.normal ?_
    clear hHeld
    go_wp2_with (refine wpList_load_row rfl 30 _ rfl D (by rfl) _ #[.int .i64 lv.a, .int .i64 lv.b, .int .i64 lv.c, .int .i64 lv.d, .slice u1 ra.length b1, .slice u2 rb.length b2, .slice u3 rc.length b3, .slice u4 rd.length b4] (0, 0) _ (R5.out.rows _ (.head _)) Tryd.underlying30 rfl (by kernel_rfl) ?_)
    refine (HCut.out _ _ _ W5 HXF.out HMo.out).mono ?_
    rintro e V1 ⟨z, rfl, hz, hb⟩
    have Q1 := Bx.mk (R5.out.later hb)
    obtain ⟨z1, z2, z3, z4, y1, y2, y3, y4, rfl⟩ := hz.forms
    have HZ := Bx.mk hz
    clear hb hz R5 HXF
    simp only
    generalize hcl : cutM ⟨ra, rb, rc, rd⟩ n0 = cl at *
    go_wp2_with (refine wpList_store_new rfl 30 _ _ rfl (E + 1) #[.int .i64 lv.a, .int .i64 lv.b, .int .i64 lv.c, .int .i64 lv.d, .slice z1 cl.a.length y1, .slice z2 cl.b.length y2, .slice z3 cl.c.length y3, .slice z4 cl.d.length y4] _ _ (by rfl) (by rfl) (Q1.out.rows _ (.tail _ (.head _))) rfl (by kernel_rfl) (by simp [Value.oneCell']) ?_; intro w9 hw9 hr9; have HR := Bx.mk hr9; have HG := Bx.mk (kb_of9 hw9); clear hw9 hr9)
    refine bodyPost_ret (results_pair rfl _ _ _ (E + 1) _ rfl (run_loadVar_row _ _ _ _ _ _ _ HR.out Tryd.underlying30 rfl (by kernel_rfl))) rfl ?_
    exact ⟨⟨.slice z1 cl.a.length y1, .slice z2 cl.b.length y2, .slice z3 cl.c.length y3, .slice z4 cl.d.length y4⟩, rfl, by rw [← HCL.out]; exact HZ.out.grown HG.out (Q1.out.rows _ (.tail _ (.head _))) del_int, Q1.out.below.trans (grown_below HG.out (by omega) Q1.out.le)⟩
end Go.Proofs.YtnfgamekjbkbkaaDoor
