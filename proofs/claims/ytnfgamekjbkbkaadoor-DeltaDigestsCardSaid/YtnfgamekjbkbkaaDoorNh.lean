/-
  DeltaDigests' walk: a set's digest, its bytes, and the digest of any bytes, are the document's.
-/
import Derived.Test.YtnfgamekjbkbkaaDoorNg
import Derived.Test.YtnfgamekjbkbkaaDoorD5
import Derived.Test.YtnfgamekjbkbkaaDoorD10
namespace Go.Proofs.YtnfgamekjbkbkaaDoor
open Go Go.RowKit
set_option maxRecDepth 100000 in
set_option maxHeartbeats 4000000 in
theorem tailA (w : World) (E n3 c3 : Nat) (a3 : Option Addr) (b3 : List UInt8) (v : V4) (p : B8) (hn : b3.length = n3) (hn30 : n3 ≤ 30) (HBt : Bx (∀ W, Below E w W → Bytes W (.slice a3 n3 c3) b3)) (HKn : Bx (∀ W, Below E w W → Calls Tryd.prog 33 #[] W fun e w' => e = .returned (.bool true) ∧ Below W.heap.size W w')) (a : Act) (W : World)
    (h : PM9 (.slice a3 n3 c3) (.pointer (some ⟨E + 1, 0, none⟩)) a) (K0 : Bx (KR w E [(E + 1, .cells #[.int .i64 v.a, .int .i64 v.b, .int .i64 v.c, .int .i64 v.d, .int .u8 (ub p.a), .int .u8 (ub p.b), .int .u8 (ub p.c), .int .u8 (ub p.d), .int .u8 (ub p.e), .int .u8 (ub p.f), .int .u8 (ub p.g), .int .u8 (ub p.h)] 50)] W)) :
    Code.wp Tryd.prog (restAt Tryd.f4.body 5) (bodyPost Tryd.prog Tryd.f4 fun e w' => e = .returned (.bool true) ∧ Below E w w') a W := by
  rw [split7]
  refine wp_seq (wp_mono (reg7 w E n3 c3 a3 v p a W h K0) ?_)
  rintro x a1 w1 ⟨rfl, h1⟩
  show Code.wp Tryd.prog (restAt Tryd.f4.body 7) _ a1 w1
  rw [split8]
  refine wp_seq (wp_mono (reg8 w E n3 c3 a3 v p a1 w1 h1) ?_)
  rintro x a2 w2 ⟨rfl, h2⟩
  show Code.wp Tryd.prog (restAt Tryd.f4.body 8) _ a2 w2
  rw [split10]
  refine wp_seq (wp_mono (reg10 w E n3 c3 a3 v p a2 w2 h2) ?_)
  rintro x a4 w4 ⟨rfl, h4, hk⟩
  exact tailB w E n3 c3 a3 b3 hn hn30 HBt HKn a4 w4 h4 ⟨hk⟩
/-- The frame ahead of the digests of the sets. -/
structure PS9 (v2 v4 v7 v8 v9 v10 : Value) (a : Act) : Prop where
  fr : Fr 200 a
  s2 : a.eval (.tmp 2) = v2
  s4 : a.eval (.tmp 4) = v4
  s7 : a.eval (.tmp 7) = v7
  s8 : a.eval (.tmp 8) = v8
  s9 : a.eval (.tmp 9) = v9
  s10 : a.eval (.tmp 10) = v10
/-- The frame behind them. -/
structure PT9 (v2 v4 v57 : Value) (a : Act) : Prop where
  fr : Fr 200 a
  s2 : a.eval (.tmp 2) = v2
  s4 : a.eval (.tmp 4) = v4
  s57 : a.eval (.tmp 57) = v57
set_option maxRecDepth 100000 in
set_option maxHeartbeats 16000000 in
theorem reg5 (w : World) (E n3 c3 D1 D2 pp qq : Nat) (a3 : Option Addr) (l : L4) (xv lv : V4) (xp lp : B8) (tbl : List Value) (hlv : l.ver = lv) (hlp : prtL l = lp) (hg : Good l) (htb : u32s (kTab ++ hTab) = tbl.toArray) (hE : w.heap.size = E) (hTab : Tab w) (hG : 1 < w.heap.size) (a : Act) (W : World)
    (h : PS9 (.slice a3 n3 c3) (.pointer (some ⟨E + 1, 0, none⟩)) (.pointer (some ⟨pp, 0, none⟩)) (.pointer (some ⟨qq, 0, none⟩)) (.pointer (some ⟨D1, 0, none⟩)) (.pointer (some ⟨D2, 0, none⟩)) a) (Y0 : Bx (KR w E [(D2, .cells #[.int .i64 lv.a, .int .i64 lv.b, .int .i64 lv.c, .int .i64 lv.d, .int .u8 (ub lp.a), .int .u8 (ub lp.b), .int .u8 (ub lp.c), .int .u8 (ub lp.d), .int .u8 (ub lp.e), .int .u8 (ub lp.f), .int .u8 (ub lp.g), .int .u8 (ub lp.h)] 62), (D1, .cells tbl.toArray 59), (E + 1, .cells #[.int .i64 xv.a, .int .i64 xv.b, .int .i64 xv.c, .int .i64 xv.d, .int .u8 (ub xp.a), .int .u8 (ub xp.b), .int .u8 (ub xp.c), .int .u8 (ub xp.d), .int .u8 (ub xp.e), .int .u8 (ub xp.f), .int .u8 (ub xp.g), .int .u8 (ub xp.h)] 50)] W ∧ SetAt W pp l ∧ RAt W qq l)) :
    Code.wp Tryd.prog (regionAt Tryd.f4.body 5) (fun x a' w' => x = .normal ∧ PT9 (.slice a3 n3 c3) (.pointer (some ⟨E + 1, 0, none⟩)) (.bool false) a' ∧ KR w E [(E + 1, .cells #[.int .i64 xv.a, .int .i64 xv.b, .int .i64 xv.c, .int .i64 xv.d, .int .u8 (ub xp.a), .int .u8 (ub xp.b), .int .u8 (ub xp.c), .int .u8 (ub xp.d), .int .u8 (ub xp.e), .int .u8 (ub xp.f), .int .u8 (ub xp.g), .int .u8 (ub xp.h)] 50)] w') a W := by
  obtain ⟨y, rfl, hy⟩ := open200 h.fr
  have e2 := (hy 2).symm.trans h.s2
  have e4 := (hy 4).symm.trans h.s4
  have e7 := (hy 7).symm.trans h.s7
  have e8 := (hy 8).symm.trans h.s8
  have e9 := (hy 9).symm.trans h.s9
  have e10 := (hy 10).symm.trans h.s10
  clear h hy
  rw [e2, e4, e7, e8, e9, e10]
  clear e2 e4 e7 e8 e9 e10
  have HTI : Bx ((Tryd.prog.info? 59).map (·.size) = some tbl.length) := ⟨by rw [show tbl.length = tbl.toArray.size by simp, ← htb]; kernel_rfl⟩
  have HOf := Bx.mk (fun W => of9 lv lp W)
  have HTo := Bx.mk (fun W => to9 xv xp W)
  have HRo := Bx.mk (fun W (h : RAt W qq l) => rof9 qq l W h hg)
  rw [htb, hlv, hlp] at HRo
  obtain ⟨zz, hzz⟩ : ∃ z, eqD lv xv lp xp = z := ⟨_, rfl⟩
  have HA1 : Bx (∀ W, Below E w W → SetAt W pp l → Calls Tryd.prog 26 #[.pointer (some ⟨pp, 0, none⟩), .agg #[.int .i64 lv.a, .int .i64 lv.b, .int .i64 lv.c, .int .i64 lv.d, .int .u8 (ub lp.a), .int .u8 (ub lp.b), .int .u8 (ub lp.c), .int .u8 (ub lp.d), .int .u8 (ub lp.e), .int .u8 (ub lp.f), .int .u8 (ub lp.g), .int .u8 (ub lp.h)]] W fun e w' => e = .returned (.bool true) ∧ Below W.heap.size W w') := ⟨fun W h hs => by
    have h1 := alike_any (.pointer (some ⟨pp, 0, none⟩)) l lv lp W (.inr ⟨pp, rfl, hs⟩) hg (hTab.later h (by omega)) (by have := h.size; omega)
    rw [hlv, hlp, eqD_self] at h1
    exact h1⟩
  have HA2 : Bx (∀ W, Below E w W → SetAt W pp l → Calls Tryd.prog 26 #[.pointer (some ⟨pp, 0, none⟩), .agg #[.int .i64 xv.a, .int .i64 xv.b, .int .i64 xv.c, .int .i64 xv.d, .int .u8 (ub xp.a), .int .u8 (ub xp.b), .int .u8 (ub xp.c), .int .u8 (ub xp.d), .int .u8 (ub xp.e), .int .u8 (ub xp.f), .int .u8 (ub xp.g), .int .u8 (ub xp.h)]] W fun e w' => e = .returned (.bool zz) ∧ Below W.heap.size W w') := ⟨fun W h hs => by
    have h1 := alike_any (.pointer (some ⟨pp, 0, none⟩)) l xv xp W (.inr ⟨pp, rfl, hs⟩) hg (hTab.later h (by omega)) (by have := h.size; omega)
    rw [hlv, hlp, hzz] at h1
    exact h1⟩
  have hne := dg_neq lv lv lp lp
  rw [eqD_self] at hne
  simp only [Bool.not_true] at hne
  have heq := dg_eqr xv lv xp lp
  rw [eqD_comm, hzz] at heq
  unfold dgC at HOf HTo HRo
  have HSl : Bx (∀ W, (KR w E [(D2, .cells #[.int .i64 lv.a, .int .i64 lv.b, .int .i64 lv.c, .int .i64 lv.d, .int .u8 (ub lp.a), .int .u8 (ub lp.b), .int .u8 (ub lp.c), .int .u8 (ub lp.d), .int .u8 (ub lp.e), .int .u8 (ub lp.f), .int .u8 (ub lp.g), .int .u8 (ub lp.h)] 62), (D1, .cells tbl.toArray 59), (E + 1, .cells #[.int .i64 xv.a, .int .i64 xv.b, .int .i64 xv.c, .int .i64 xv.d, .int .u8 (ub xp.a), .int .u8 (ub xp.b), .int .u8 (ub xp.c), .int .u8 (ub xp.d), .int .u8 (ub xp.e), .int .u8 (ub xp.f), .int .u8 (ub xp.g), .int .u8 (ub xp.h)] 50)] W ∧ SetAt W pp l ∧ RAt W qq l) → W.rangeAt D2 0 [.int .i64 lv.a, .int .i64 lv.b, .int .i64 lv.c, .int .i64 lv.d, .int .u8 (ub lp.a), .int .u8 (ub lp.b), .int .u8 (ub lp.c), .int .u8 (ub lp.d), .int .u8 (ub lp.e), .int .u8 (ub lp.f), .int .u8 (ub lp.g), .int .u8 (ub lp.h)] ∧ W.rangeAt D1 0 tbl ∧ W.rangeAt (E + 1) 0 [.int .i64 xv.a, .int .i64 xv.b, .int .i64 xv.c, .int .i64 xv.d, .int .u8 (ub xp.a), .int .u8 (ub xp.b), .int .u8 (ub xp.c), .int .u8 (ub xp.d), .int .u8 (ub xp.e), .int .u8 (ub xp.f), .int .u8 (ub xp.g), .int .u8 (ub xp.h)]) := ⟨fun W h => ⟨row_rng8 (l := [.int .i64 lv.a, .int .i64 lv.b, .int .i64 lv.c, .int .i64 lv.d, .int .u8 (ub lp.a), .int .u8 (ub lp.b), .int .u8 (ub lp.c), .int .u8 (ub lp.d), .int .u8 (ub lp.e), .int .u8 (ub lp.f), .int .u8 (ub lp.g), .int .u8 (ub lp.h)]) (h.1.rows _ (.head _)), row_rng8 (l := tbl) (h.1.rows _ (.tail _ (.head _))), row_rng8 (l := [.int .i64 xv.a, .int .i64 xv.b, .int .i64 xv.c, .int .i64 xv.d, .int .u8 (ub xp.a), .int .u8 (ub xp.b), .int .u8 (ub xp.c), .int .u8 (ub xp.d), .int .u8 (ub xp.e), .int .u8 (ub xp.f), .int .u8 (ub xp.g), .int .u8 (ub xp.h)]) (h.1.rows _ (.tail _ (.tail _ (.head _))))⟩⟩
  have HLt : Bx (∀ W W1, (KR w E [(D2, .cells #[.int .i64 lv.a, .int .i64 lv.b, .int .i64 lv.c, .int .i64 lv.d, .int .u8 (ub lp.a), .int .u8 (ub lp.b), .int .u8 (ub lp.c), .int .u8 (ub lp.d), .int .u8 (ub lp.e), .int .u8 (ub lp.f), .int .u8 (ub lp.g), .int .u8 (ub lp.h)] 62), (D1, .cells tbl.toArray 59), (E + 1, .cells #[.int .i64 xv.a, .int .i64 xv.b, .int .i64 xv.c, .int .i64 xv.d, .int .u8 (ub xp.a), .int .u8 (ub xp.b), .int .u8 (ub xp.c), .int .u8 (ub xp.d), .int .u8 (ub xp.e), .int .u8 (ub xp.f), .int .u8 (ub xp.g), .int .u8 (ub xp.h)] 50)] W ∧ SetAt W pp l ∧ RAt W qq l) → Below W.heap.size W W1 → (KR w E [(D2, .cells #[.int .i64 lv.a, .int .i64 lv.b, .int .i64 lv.c, .int .i64 lv.d, .int .u8 (ub lp.a), .int .u8 (ub lp.b), .int .u8 (ub lp.c), .int .u8 (ub lp.d), .int .u8 (ub lp.e), .int .u8 (ub lp.f), .int .u8 (ub lp.g), .int .u8 (ub lp.h)] 62), (D1, .cells tbl.toArray 59), (E + 1, .cells #[.int .i64 xv.a, .int .i64 xv.b, .int .i64 xv.c, .int .i64 xv.d, .int .u8 (ub xp.a), .int .u8 (ub xp.b), .int .u8 (ub xp.c), .int .u8 (ub xp.d), .int .u8 (ub xp.e), .int .u8 (ub xp.f), .int .u8 (ub xp.g), .int .u8 (ub xp.h)] 50)] W1 ∧ SetAt W1 pp l ∧ RAt W1 qq l)) := ⟨fun W W1 h hb => ⟨h.1.later hb, h.2.1.later hb, h.2.2.later hb⟩⟩
  clear hTab hG htb hlv hlp hzz hg
  conv => arg 2; whnf
  have Z0 := Bx.mk (HLt.out _ _ Y0.out (Below.refl _ _).drew)
  clear Y0
  refine wp_region_noPanic ?_
  refine wp_region_held_drew (S := fun W => W.rangeAt D2 0 [.int .i64 lv.a, .int .i64 lv.b, .int .i64 lv.c, .int .i64 lv.d, .int .u8 (ub lp.a), .int .u8 (ub lp.b), .int .u8 (ub lp.c), .int .u8 (ub lp.d), .int .u8 (ub lp.e), .int .u8 (ub lp.f), .int .u8 (ub lp.g), .int .u8 (ub lp.h)] ∧ W.rangeAt D1 0 tbl ∧ W.rangeAt (E + 1) 0 [.int .i64 xv.a, .int .i64 xv.b, .int .i64 xv.c, .int .i64 xv.d, .int .u8 (ub xp.a), .int .u8 (ub xp.b), .int .u8 (ub xp.c), .int .u8 (ub xp.d), .int .u8 (ub xp.e), .int .u8 (ub xp.f), .int .u8 (ub xp.g), .int .u8 (ub xp.h)]) (by kernel_rfl) (HSl.out _ Z0.out) (fun hHeld => ?_)
  generalize W.drew = W0 at *
  refine takeL 0 rfl (by kernel_rfl) (by kernel_rfl) (by kernel_rfl) (fun _ _ _ h => h) (yieldsIf_load_mid (by rfl) _ _ rfl _ _ rfl _ _ (fun w hSw => hSw.1) Tryd.underlying62 rfl (by kernel_rfl)) hHeld ?_
  try simp only [Act.put, List.setIfInBounds_toArray, List.set_cons_zero, List.set_cons_succ]
  refine takeL 2 rfl (by kernel_rfl) (by kernel_rfl) (by kernel_rfl) (fun _ _ _ h => h) (yieldsIf_load_mid (by rfl) _ _ rfl _ _ rfl _ _ (fun w hSw => hSw.2.1) Tryd.underlying59 rfl HTI.out) hHeld ?_
  try simp only [Act.put, List.setIfInBounds_toArray, List.set_cons_zero, List.set_cons_succ]
  refine takeL 3 (v := ?_) rfl (by kernel_rfl) (by kernel_rfl) (by kernel_rfl) (fun _ _ _ h => h) (Or.inl ⟨by rfl, ?_⟩) hHeld ?_
  rotate_left 1
  · (intro w hSw; go_simp; try with_reducible rfl)
  try simp only [Act.put, List.setIfInBounds_toArray, List.set_cons_zero, List.set_cons_succ]
  refine stepL 1 (by kernel_rfl) rfl (fun K hK => ?_)
  go_simp
  refine (HOf.out W0).mono ?_
  rintro e W1 ⟨rfl, hb⟩
  show K _ _
  have R1 := Bx.mk (HLt.out _ _ Z0.out hb)
  clear hb Z0
  refine hK.out _ _ (HSl.out _ R1.out) (fun hHeld => ?_)
  clear hK K
  try simp only [Act.put, List.setIfInBounds_toArray, List.set_cons_zero, List.set_cons_succ]
  refine stepL 4 (by kernel_rfl) rfl (fun K hK => ?_)
  go_simp
  refine (HRo.out W1 R1.out.2.2).mono ?_
  rintro e W2 ⟨rfl, hb⟩
  show K _ _
  have R2 := Bx.mk (HLt.out _ _ R1.out hb)
  clear hb R1
  refine hK.out _ _ (HSl.out _ R2.out) (fun hHeld => ?_)
  clear hK K
  try simp only [Act.put, List.setIfInBounds_toArray, List.set_cons_zero, List.set_cons_succ]
  refine takeL 5 (v := ?_) rfl (by kernel_rfl) (by kernel_rfl) (by kernel_rfl) (fun _ _ _ h => h) (Or.inl ⟨by rfl, ?_⟩) hHeld ?_
  rotate_left 1
  · (intro w hSw; go_simp; try with_reducible rfl)
  try simp only [Act.put, List.setIfInBounds_toArray, List.set_cons_zero, List.set_cons_succ]
  refine takeL 6 (v := ?_) rfl (by kernel_rfl) (by kernel_rfl) (by kernel_rfl) (fun _ _ _ h => h) (Or.inl ⟨by rfl, ?_⟩) hHeld ?_
  rotate_left 1
  · (intro w hSw; go_simp; try with_reducible rfl)
  try simp only [Act.put, List.setIfInBounds_toArray, List.set_cons_zero, List.set_cons_succ]
  refine takeL 7 (v := ?_) rfl (by kernel_rfl) (by kernel_rfl) (by kernel_rfl) (fun _ _ _ h => h) (Or.inl ⟨by rfl, ?_⟩) hHeld ?_
  rotate_left 1
  · (intro w hSw; go_simp; try with_reducible rfl)
  try simp only [Act.put, List.setIfInBounds_toArray, List.set_cons_zero, List.set_cons_succ]
  refine takeL 8 rfl (by kernel_rfl) (by kernel_rfl) (by kernel_rfl) (fun _ _ _ h => h) (yieldsIf_load_mid (by rfl) _ _ rfl _ _ rfl _ _ (fun w hSw => hSw.1) Tryd.underlying62 rfl (by kernel_rfl)) hHeld ?_
  try simp only [Act.put, List.setIfInBounds_toArray, List.set_cons_zero, List.set_cons_succ]
  refine stepL 9 (by kernel_rfl) rfl (fun K hK => ?_)
  go_simp
  refine (HA1.out W2 R2.out.1.below R2.out.2.1).mono ?_
  rintro e W3 ⟨rfl, hb⟩
  show K _ _
  have R3 := Bx.mk (HLt.out _ _ R2.out hb)
  clear hb R2
  refine hK.out _ _ (HSl.out _ R3.out) (fun hHeld => ?_)
  clear hK K
  try simp only [Act.put, List.setIfInBounds_toArray, List.set_cons_zero, List.set_cons_succ]
  refine takeL 10 (v := ?_) rfl (by kernel_rfl) (by kernel_rfl) (by kernel_rfl) (fun _ _ _ h => h) (Or.inl ⟨by rfl, ?_⟩) hHeld ?_
  rotate_left 1
  · (intro w hSw; go_simp; try with_reducible rfl)
  try simp only [Act.put, List.setIfInBounds_toArray, List.set_cons_zero, List.set_cons_succ]
  refine takeL 11 (v := ?_) rfl (by kernel_rfl) (by kernel_rfl) (by kernel_rfl) (fun _ _ _ h => h) (Or.inl ⟨by rfl, ?_⟩) hHeld ?_
  rotate_left 1
  · (intro w hSw; go_simp; try with_reducible rfl)
  try simp only [Act.put, List.setIfInBounds_toArray, List.set_cons_zero, List.set_cons_succ]
  refine takeL 12 (v := ?_) rfl (by kernel_rfl) (by kernel_rfl) (by kernel_rfl) (fun _ _ _ h => h) (Or.inl ⟨by rfl, ?_⟩) hHeld ?_
  rotate_left 1
  · (intro w hSw; go_simp; try with_reducible rfl)
  try simp only [Act.put, List.setIfInBounds_toArray, List.set_cons_zero, List.set_cons_succ]
  refine takeL 13 (v := ?_) rfl (by kernel_rfl) (by kernel_rfl) (by kernel_rfl) (fun _ _ _ h => h) (Or.inl ⟨by rfl, ?_⟩) hHeld ?_
  rotate_left 1
  · (intro w hSw; go_simp; try with_reducible rfl)
  try simp only [Act.put, List.setIfInBounds_toArray, List.set_cons_zero, List.set_cons_succ]
  refine takeL 14 rfl (by kernel_rfl) (by kernel_rfl) (by kernel_rfl) (fun _ _ _ h => h) (yieldsIf_load_mid (by rfl) _ _ rfl _ _ rfl _ _ (fun w hSw => hSw.2.2) Tryd.underlying50 rfl (by kernel_rfl)) hHeld ?_
  try simp only [Act.put, List.setIfInBounds_toArray, List.set_cons_zero, List.set_cons_succ]
  refine takeL 17 rfl (by kernel_rfl) (by kernel_rfl) (by kernel_rfl) (fun _ _ _ h => h) (yieldsIf_load_mid (by rfl) _ _ rfl _ _ rfl _ _ (fun w hSw => hSw.2.2) Tryd.underlying50 rfl (by kernel_rfl)) hHeld ?_
  try simp only [Act.put, List.setIfInBounds_toArray, List.set_cons_zero, List.set_cons_succ]
  refine takeL 18 rfl (by kernel_rfl) (by kernel_rfl) (by kernel_rfl) (fun _ _ _ h => h) (yieldsIf_load_mid (by rfl) _ _ rfl _ _ rfl _ _ (fun w hSw => hSw.2.1) Tryd.underlying59 rfl HTI.out) hHeld ?_
  try simp only [Act.put, List.setIfInBounds_toArray, List.set_cons_zero, List.set_cons_succ]
  refine takeL 19 (v := ?_) rfl (by kernel_rfl) (by kernel_rfl) (by kernel_rfl) (fun _ _ _ h => h) (Or.inl ⟨by rfl, ?_⟩) hHeld ?_
  rotate_left 1
  · (intro w hSw; go_simp; try with_reducible rfl)
  try simp only [Act.put, List.setIfInBounds_toArray, List.set_cons_zero, List.set_cons_succ]
  refine stepL 15 (by kernel_rfl) rfl (fun K hK => ?_)
  go_simp
  refine (HTo.out W3).mono ?_
  rintro e W4 ⟨rfl, hb⟩
  show K _ _
  have R4 := Bx.mk (HLt.out _ _ R3.out hb)
  clear hb R3
  refine hK.out _ _ (HSl.out _ R4.out) (fun hHeld => ?_)
  clear hK K
  try simp only [Act.put, List.setIfInBounds_toArray, List.set_cons_zero, List.set_cons_succ]
  refine stepL 16 (by kernel_rfl) rfl (fun K hK => ?_)
  go_simp
  refine (HA2.out W4 R4.out.1.below R4.out.2.1).mono ?_
  rintro e W5 ⟨rfl, hb⟩
  show K _ _
  have R5 := Bx.mk (HLt.out _ _ R4.out hb)
  clear hb R4
  refine hK.out _ _ (HSl.out _ R5.out) (fun hHeld => ?_)
  clear hK K
  try simp only [Act.put, List.setIfInBounds_toArray, List.set_cons_zero, List.set_cons_succ]
  refine stepL 20 (by kernel_rfl) rfl (fun K hK => ?_)
  go_simp
  refine (HRo.out W5 R5.out.2.2).mono ?_
  rintro e W6 ⟨rfl, hb⟩
  show K _ _
  have R6 := Bx.mk (HLt.out _ _ R5.out hb)
  clear hb R5
  refine hK.out _ _ (HSl.out _ R6.out) (fun hHeld => ?_)
  clear hK K
  try simp only [Act.put, List.setIfInBounds_toArray, List.set_cons_zero, List.set_cons_succ]
  refine takeL 21 (v := ?_) rfl (by kernel_rfl) (by kernel_rfl) (by kernel_rfl) (fun _ _ _ h => h) (Or.inl ⟨by rfl, ?_⟩) hHeld ?_
  rotate_left 1
  · (intro w hSw; go_simp; try with_reducible rfl)
  try simp only [Act.put, List.setIfInBounds_toArray, List.set_cons_zero, List.set_cons_succ]
  refine takeL 22 (v := ?_) rfl (by kernel_rfl) (by kernel_rfl) (by kernel_rfl) (fun _ _ _ h => h) (Or.inl ⟨by rfl, ?_⟩) hHeld ?_
  rotate_left 1
  · (intro w hSw; go_simp; try with_reducible rfl)
  try simp only [Act.put, List.setIfInBounds_toArray, List.set_cons_zero, List.set_cons_succ]
  refine takeL 23 (v := ?_) rfl (by kernel_rfl) (by kernel_rfl) (by kernel_rfl) (fun _ _ _ h => h) (Or.inl ⟨by rfl, ?_⟩) hHeld ?_
  rotate_left 1
  · (intro w hSw; go_simp; try with_reducible rfl)
  try simp only [Act.put, List.setIfInBounds_toArray, List.set_cons_zero, List.set_cons_succ]
  refine wpAnyH_done (by kernel_rfl) ?_ _
  refine NoPanic.normal ?_
  clear hHeld
  exact ⟨rfl, ⟨⟨rfl, rfl⟩, rfl, rfl, rfl⟩, R6.out.1.sub (fun x hx => by simp at hx ⊢; exact .inr (.inr hx))⟩
end Go.Proofs.YtnfgamekjbkbkaaDoor
