/-
  DeltaAnswers: the law's ends.
-/
import Derived.Test.YtnfgamekjbkbkaaDoorD17
import Derived.Test.YtnfgamekjbkbkaaDoorD16
import Derived.Test.YtnfgamekjbkbkaaDoorD13
import Derived.Test.YtnfgamekjbkbkaaDoorD4
import Derived.Test.YtnfgamekjbkbkaaDoorMe
namespace Go.Proofs.YtnfgamekjbkbkaaDoor
open Go Go.RowKit
set_option maxRecDepth 100000 in
theorem open135 {a : Act} (h : Fr 135 a) : ∃ x : Nat → Value, a = ⟨List.toArray (x 0 :: x 1 :: x 2 :: x 3 :: x 4 :: x 5 :: x 6 :: x 7 :: x 8 :: x 9 :: x 10 :: x 11 :: x 12 :: x 13 :: x 14 :: x 15 :: x 16 :: x 17 :: x 18 :: x 19 :: x 20 :: x 21 :: x 22 :: x 23 :: x 24 :: x 25 :: x 26 :: x 27 :: x 28 :: x 29 :: x 30 :: x 31 :: x 32 :: x 33 :: x 34 :: x 35 :: x 36 :: x 37 :: x 38 :: x 39 :: x 40 :: x 41 :: x 42 :: x 43 :: x 44 :: x 45 :: x 46 :: x 47 :: x 48 :: x 49 :: x 50 :: x 51 :: x 52 :: x 53 :: x 54 :: x 55 :: x 56 :: x 57 :: x 58 :: x 59 :: x 60 :: x 61 :: x 62 :: x 63 :: x 64 :: x 65 :: x 66 :: x 67 :: x 68 :: x 69 :: x 70 :: x 71 :: x 72 :: x 73 :: x 74 :: x 75 :: x 76 :: x 77 :: x 78 :: x 79 :: x 80 :: x 81 :: x 82 :: x 83 :: x 84 :: x 85 :: x 86 :: x 87 :: x 88 :: x 89 :: x 90 :: x 91 :: x 92 :: x 93 :: x 94 :: x 95 :: x 96 :: x 97 :: x 98 :: x 99 :: x 100 :: x 101 :: x 102 :: x 103 :: x 104 :: x 105 :: x 106 :: x 107 :: x 108 :: x 109 :: x 110 :: x 111 :: x 112 :: x 113 :: x 114 :: x 115 :: x 116 :: x 117 :: x 118 :: x 119 :: x 120 :: x 121 :: x 122 :: x 123 :: x 124 :: x 125 :: x 126 :: x 127 :: x 128 :: x 129 :: x 130 :: x 131 :: x 132 :: x 133 :: x 134 :: []), []⟩ ∧ ∀ i, a.eval (.tmp i) = x i := ⟨fun i => a.tmps.getD i undef, h.form, fun _ => rfl⟩
/-- The frame behind what is asked. -/
structure PJ (v2 v4 v7 v8 v9 v10 : Value) (a : Act) : Prop where
  fr : Fr 135 a
  s2 : a.eval (.tmp 2) = v2
  s4 : a.eval (.tmp 4) = v4
  s7 : a.eval (.tmp 7) = v7
  s8 : a.eval (.tmp 8) = v8
  s9 : a.eval (.tmp 9) = v9
  s10 : a.eval (.tmp 10) = v10
set_option maxRecDepth 100000 in
set_option maxHeartbeats 8000000 in
theorem endR (w : World) (E D pp qq : Nat) (v : V4) (room : Int) (hok : okV v = false) (HKn : Bx (∀ W, Below E w W → Calls Tryd.prog 33 #[] W fun e w' => e = .returned (.bool true) ∧ Below W.heap.size W w')) (a : Act) (W : World) (h : PJ (.int .i64 room) (.pointer (some ⟨E + 1, 0, none⟩)) (.pointer (some ⟨pp, 0, none⟩)) (.pointer (some ⟨qq, 0, none⟩)) (.pointer (some ⟨D, 0, none⟩)) (.int .i64 10) a) (K0 : Bx (KR w E [(D, .cells #[.int .i64 0, .int .i64 0, .int .i64 0, .int .i64 0, .slice none 0 0, .slice none 0 0, .slice none 0 0, .slice none 0 0] 30), (E + 1, .cells #[.int .i64 v.a, .int .i64 v.b, .int .i64 v.c, .int .i64 v.d] 22)] W)) :
    Code.wp Tryd.prog (restAt9 Tryd.f5.body 9) (bodyPost Tryd.prog Tryd.f5 fun e w' => e = .returned (.bool true) ∧ Below E w w') a W := by
  have HR := Bx.mk (fun W => rright9 v W)
  rw [hok] at HR
  have HS := Bx.mk (fun W => same9 V4.zero VV.nil VV.nil L4.nil W (Rows4.nil _) (Rows4.nil _) ⟨by simp [L4.nil], by simp [L4.nil], by simp [L4.nil], by simp [L4.nil]⟩)
  have HS : Bx (∀ W, Calls Tryd.prog 37 #[.agg #[.int .i64 0, .int .i64 0, .int .i64 0, .int .i64 0, .slice none 0 0, .slice none 0 0, .slice none 0 0, .slice none 0 0], .agg #[.int .i64 0, .int .i64 0, .int .i64 0, .int .i64 0, .slice none 0 0, .slice none 0 0, .slice none 0 0, .slice none 0 0]] W fun e w' => e = .returned (.bool true) ∧ Below W.heap.size W w') := HS
  have hb0 : ∀ W : World, (Instr.build 26 #[]).run Tryd.prog W = .ok (.agg #[.int .i64 0, .int .i64 0, .int .i64 0, .int .i64 0, .slice none 0 0, .slice none 0 0, .slice none 0 0, .slice none 0 0]) W := fun W => by kernel_rfl
  obtain ⟨y, rfl, hy⟩ := open135 h.fr
  have e2 := (hy 2).symm.trans h.s2
  have e4 := (hy 4).symm.trans h.s4
  have e7 := (hy 7).symm.trans h.s7
  have e8 := (hy 8).symm.trans h.s8
  have e9 := (hy 9).symm.trans h.s9
  have e10 := (hy 10).symm.trans h.s10
  clear h hy
  rw [e2, e4, e7, e8, e9, e10]
  clear e2 e4 e7 e8 e9 e10
  clear hok
  conv => arg 2; whnf
  go_wp2_with (refine wpList_load_row rfl 22 _ rfl (E + 1) (by rfl) _ #[.int .i64 v.a, .int .i64 v.b, .int .i64 v.c, .int .i64 v.d] (0, 0) _ (K0.out.rows _ (.tail _ (.head _))) Tryd.underlying22 rfl (by kernel_rfl) ?_)
  refine (HR.out W).mono ?_
  rintro e w1 ⟨rfl, hb⟩
  have K1 := Bx.mk (K0.out.later hb)
  clear hb K0
  go_wp2_with fail
  refine (HKn.out w1 K1.out.below).mono ?_
  rintro e w2 ⟨rfl, hb⟩
  have K2 := Bx.mk (K1.out.later hb)
  clear hb K1
  go_wp2_with (refine wpList_load_rowg (by rfl) 30 _ rfl D (by rfl) _ #[.int .i64 0, .int .i64 0, .int .i64 0, .int .i64 0, .slice none 0 0, .slice none 0 0, .slice none 0 0, .slice none 0 0] (0, 0) _ (K2.out.rows _ (.head _)) Tryd.underlying30 rfl (by kernel_rfl) ?_)
  refine (HS.out w2).mono ?_
  rintro e w3 ⟨rfl, hb⟩
  have K3 := Bx.mk (K2.out.later hb)
  clear hb K2
  go_wp2
  go_ret
  exact ⟨rfl, K3.out.below⟩
set_option maxRecDepth 100000 in
set_option maxHeartbeats 8000000 in
theorem endG (w : World) (E D pp qq : Nat) (v : V4) (room : Int) (hok : okV v = true) (hr : room < 16) (HKn : Bx (∀ W, Below E w W → Calls Tryd.prog 33 #[] W fun e w' => e = .returned (.bool true) ∧ Below W.heap.size W w')) (a : Act) (W : World) (h : PJ (.int .i64 room) (.pointer (some ⟨E + 1, 0, none⟩)) (.pointer (some ⟨pp, 0, none⟩)) (.pointer (some ⟨qq, 0, none⟩)) (.pointer (some ⟨D, 0, none⟩)) (.int .i64 2) a) (K0 : Bx (KR w E [(D, .cells #[.int .i64 0, .int .i64 0, .int .i64 0, .int .i64 0, .slice none 0 0, .slice none 0 0, .slice none 0 0, .slice none 0 0] 30), (E + 1, .cells #[.int .i64 v.a, .int .i64 v.b, .int .i64 v.c, .int .i64 v.d] 22)] W)) :
    Code.wp Tryd.prog (restAt9 Tryd.f5.body 9) (bodyPost Tryd.prog Tryd.f5 fun e w' => e = .returned (.bool true) ∧ Below E w w') a W := by
  have HR := Bx.mk (fun W => rright9 v W)
  rw [hok] at HR
  have HS := Bx.mk (fun W => same9 V4.zero VV.nil VV.nil L4.nil W (Rows4.nil _) (Rows4.nil _) ⟨by simp [L4.nil], by simp [L4.nil], by simp [L4.nil], by simp [L4.nil]⟩)
  have HS : Bx (∀ W, Calls Tryd.prog 37 #[.agg #[.int .i64 0, .int .i64 0, .int .i64 0, .int .i64 0, .slice none 0 0, .slice none 0 0, .slice none 0 0, .slice none 0 0], .agg #[.int .i64 0, .int .i64 0, .int .i64 0, .int .i64 0, .slice none 0 0, .slice none 0 0, .slice none 0 0, .slice none 0 0]] W fun e w' => e = .returned (.bool true) ∧ Below W.heap.size W w') := HS
  have hb0 : ∀ W : World, (Instr.build 26 #[]).run Tryd.prog W = .ok (.agg #[.int .i64 0, .int .i64 0, .int .i64 0, .int .i64 0, .slice none 0 0, .slice none 0 0, .slice none 0 0, .slice none 0 0]) W := fun W => by kernel_rfl
  obtain ⟨y, rfl, hy⟩ := open135 h.fr
  have e2 := (hy 2).symm.trans h.s2
  have e4 := (hy 4).symm.trans h.s4
  have e7 := (hy 7).symm.trans h.s7
  have e8 := (hy 8).symm.trans h.s8
  have e9 := (hy 9).symm.trans h.s9
  have e10 := (hy 10).symm.trans h.s10
  clear h hy
  rw [e2, e4, e7, e8, e9, e10]
  clear e2 e4 e7 e8 e9 e10
  clear hok
  conv => arg 2; whnf
  go_wp2_with (refine wpList_load_row rfl 22 _ rfl (E + 1) (by rfl) _ #[.int .i64 v.a, .int .i64 v.b, .int .i64 v.c, .int .i64 v.d] (0, 0) _ (K0.out.rows _ (.tail _ (.head _))) Tryd.underlying22 rfl (by kernel_rfl) ?_)
  refine (HR.out W).mono ?_
  rintro e w1 ⟨rfl, hb⟩
  have K1 := Bx.mk (K0.out.later hb)
  clear hb K0
  go_wp2_with fail
  refine (HKn.out w1 K1.out.below).mono ?_
  rintro e w2 ⟨rfl, hb⟩
  have K2 := Bx.mk (K1.out.later hb)
  clear hb K1
  go_wp2_with (refine wpList_load_rowg (by rfl) 30 _ rfl D (by rfl) _ #[.int .i64 0, .int .i64 0, .int .i64 0, .int .i64 0, .slice none 0 0, .slice none 0 0, .slice none 0 0, .slice none 0 0] (0, 0) _ (K2.out.rows _ (.head _)) Tryd.underlying30 rfl (by kernel_rfl) ?_)
  refine (HS.out w2).mono ?_
  rintro e w3 ⟨rfl, hb⟩
  have K3 := Bx.mk (K2.out.later hb)
  clear hb K2
  go_wp2
  go_ret
  exact ⟨rfl, K3.out.below⟩
set_option maxRecDepth 100000 in
set_option maxHeartbeats 16000000 in
theorem endO (w : World) (E D pp qq : Nat) (v lv : V4) (l an : L4) (u : VV) (room : Int) (hok : okV v = true) (hr : 16 ≤ room) (hr2 : room ≤ 9223372036854775807) (hlv : lowV v l.ver = lv) (han : ansL l v ((room - 16) / 2).toNat = an) (hg : Good l) (hwi : withinB lv an = true) (hm : Most an 40)
    (hsz : ((16 + 2 * (an.a.length + an.b.length + an.c.length + an.d.length) : Nat) : Int) ≤ room) (HKn : Bx (∀ W, Below E w W → Calls Tryd.prog 33 #[] W fun e w' => e = .returned (.bool true) ∧ Below W.heap.size W w')) (HF : Bx (∀ W, Below E w W → Full W ∧ 0 < W.heap.size)) (a : Act) (W : World) (h : PJ (.int .i64 room) (.pointer (some ⟨E + 1, 0, none⟩)) (.pointer (some ⟨pp, 0, none⟩)) (.pointer (some ⟨qq, 0, none⟩)) (.pointer (some ⟨D, 0, none⟩)) (.int .i64 0) a)
    (K0 : Bx (KR w E [(D, .cells (dC lv u) 30), (E + 1, .cells #[.int .i64 v.a, .int .i64 v.b, .int .i64 v.c, .int .i64 v.d] 22)] W)) (hqq : RAt W qq l) (hu : Rows4 W u an) :
    Code.wp Tryd.prog (restAt9 Tryd.f5.body 9) (bodyPost Tryd.prog Tryd.f5 fun e w' => e = .returned (.bool true) ∧ Below E w w') a W := by
  obtain ⟨u1, u2, u3, u4, b1, b2, b3, b4, rfl⟩ := hu.forms
  have HR := Bx.mk (fun W => rright9 v W)
  rw [hok] at HR
  have hr3 : ¬ room < 16 := by omega
  have Y0 : Bx (KR w E [(D, .cells #[.int .i64 lv.a, .int .i64 lv.b, .int .i64 lv.c, .int .i64 lv.d, .slice u1 an.a.length b1, .slice u2 an.b.length b2, .slice u3 an.c.length b3, .slice u4 an.d.length b4] 30), (E + 1, .cells #[.int .i64 v.a, .int .i64 v.b, .int .i64 v.c, .int .i64 v.d] 22)] W ∧ RAt W qq l ∧ Rows4 W ⟨.slice u1 an.a.length b1, .slice u2 an.b.length b2, .slice u3 an.c.length b3, .slice u4 an.d.length b4⟩ an) := ⟨K0.out, hqq, hu⟩
  have HBy := Bx.mk (fun W (h : Below E w W) (hx : Rows4 W ⟨.slice u1 an.a.length b1, .slice u2 an.b.length b2, .slice u3 an.c.length b3, .slice u4 an.d.length b4⟩ an) => bytes8_ok lv ⟨.slice u1 an.a.length b1, .slice u2 an.b.length b2, .slice u3 an.c.length b3, .slice u4 an.d.length b4⟩ an W hx hm (HF.out W h).1 (HF.out W h).2 hwi)
  have HRa := Bx.mk (fun W (h : RAt W qq l) => ranswer9 v qq l room W h hg hok hr hr2)
  rw [hlv, han] at HRa
  have HSa := Bx.mk (fun W (y : VV) (h : Rows4 W ⟨.slice u1 an.a.length b1, .slice u2 an.b.length b2, .slice u3 an.c.length b3, .slice u4 an.d.length b4⟩ an) (h' : Rows4 W y an) => same9 lv ⟨.slice u1 an.a.length b1, .slice u2 an.b.length b2, .slice u3 an.c.length b3, .slice u4 an.d.length b4⟩ y an W h h' ⟨by have := hm.a; omega, by have := hm.b; omega, by have := hm.c; omega, by have := hm.d; omega⟩)
  have HSz := Bx.mk (fun W (h : Rows4 W ⟨.slice u1 an.a.length b1, .slice u2 an.b.length b2, .slice u3 an.c.length b3, .slice u4 an.d.length b4⟩ an) => size_any9 lv ⟨.slice u1 an.a.length b1, .slice u2 an.b.length b2, .slice u3 an.c.length b3, .slice u4 an.d.length b4⟩ an W h ⟨by have := hm.a; omega, by have := hm.b; omega, by have := hm.c; omega, by have := hm.d; omega⟩)
  have hdl := dlB_length lv an
  obtain ⟨sz, hsz2⟩ : ∃ s, 16 + 2 * (an.a.length + an.b.length + an.c.length + an.d.length) = s := ⟨_, rfl⟩
  rw [hsz2] at HSz hsz hdl
  have HDl := Bx.mk hdl
  have HSl : Bx (∀ W, (KR w E [(D, .cells #[.int .i64 lv.a, .int .i64 lv.b, .int .i64 lv.c, .int .i64 lv.d, .slice u1 an.a.length b1, .slice u2 an.b.length b2, .slice u3 an.c.length b3, .slice u4 an.d.length b4] 30), (E + 1, .cells #[.int .i64 v.a, .int .i64 v.b, .int .i64 v.c, .int .i64 v.d] 22)] W ∧ RAt W qq l ∧ Rows4 W ⟨.slice u1 an.a.length b1, .slice u2 an.b.length b2, .slice u3 an.c.length b3, .slice u4 an.d.length b4⟩ an) → W.rangeAt D 0 [.int .i64 lv.a, .int .i64 lv.b, .int .i64 lv.c, .int .i64 lv.d, .slice u1 an.a.length b1, .slice u2 an.b.length b2, .slice u3 an.c.length b3, .slice u4 an.d.length b4] ∧ W.rangeAt (E + 1) 0 [.int .i64 v.a, .int .i64 v.b, .int .i64 v.c, .int .i64 v.d]) := ⟨fun W h => ⟨row_rng8 (l := [.int .i64 lv.a, .int .i64 lv.b, .int .i64 lv.c, .int .i64 lv.d, .slice u1 an.a.length b1, .slice u2 an.b.length b2, .slice u3 an.c.length b3, .slice u4 an.d.length b4]) (h.1.rows _ (.head _)), row_rng8 (l := [.int .i64 v.a, .int .i64 v.b, .int .i64 v.c, .int .i64 v.d]) (h.1.rows _ (.tail _ (.head _)))⟩⟩
  have HLt : Bx (∀ W W1, (KR w E [(D, .cells #[.int .i64 lv.a, .int .i64 lv.b, .int .i64 lv.c, .int .i64 lv.d, .slice u1 an.a.length b1, .slice u2 an.b.length b2, .slice u3 an.c.length b3, .slice u4 an.d.length b4] 30), (E + 1, .cells #[.int .i64 v.a, .int .i64 v.b, .int .i64 v.c, .int .i64 v.d] 22)] W ∧ RAt W qq l ∧ Rows4 W ⟨.slice u1 an.a.length b1, .slice u2 an.b.length b2, .slice u3 an.c.length b3, .slice u4 an.d.length b4⟩ an) → Below W.heap.size W W1 → (KR w E [(D, .cells #[.int .i64 lv.a, .int .i64 lv.b, .int .i64 lv.c, .int .i64 lv.d, .slice u1 an.a.length b1, .slice u2 an.b.length b2, .slice u3 an.c.length b3, .slice u4 an.d.length b4] 30), (E + 1, .cells #[.int .i64 v.a, .int .i64 v.b, .int .i64 v.c, .int .i64 v.d] 22)] W1 ∧ RAt W1 qq l ∧ Rows4 W1 ⟨.slice u1 an.a.length b1, .slice u2 an.b.length b2, .slice u3 an.c.length b3, .slice u4 an.d.length b4⟩ an)) := ⟨fun W W1 h hb => ⟨h.1.later hb, h.2.1.later hb, h.2.2.later hb⟩⟩
  obtain ⟨y, rfl, hy⟩ := open135 h.fr
  have e2 := (hy 2).symm.trans h.s2
  have e4 := (hy 4).symm.trans h.s4
  have e7 := (hy 7).symm.trans h.s7
  have e8 := (hy 8).symm.trans h.s8
  have e9 := (hy 9).symm.trans h.s9
  have e10 := (hy 10).symm.trans h.s10
  clear h hy
  rw [e2, e4, e7, e8, e9, e10]
  clear e2 e4 e7 e8 e9 e10
  clear hok hlv han hg hwi hm hdl hsz2 K0 hqq hu HF
  unfold dC at HBy HRa HSa HSz
  simp only at HBy HSa HSz
  conv => arg 2; whnf
  go_wp2_with (refine wpList_load_row rfl 22 _ rfl (E + 1) (by rfl) _ #[.int .i64 v.a, .int .i64 v.b, .int .i64 v.c, .int .i64 v.d] (0, 0) _ (Y0.out.1.rows _ (.tail _ (.head _))) Tryd.underlying22 rfl (by kernel_rfl) ?_)
  refine (HR.out W).mono ?_
  rintro e w1 ⟨rfl, hb⟩
  have Y1 := Bx.mk (HLt.out _ _ Y0.out hb)
  clear hb Y0 HR
  go_wp2_with (refine wpList_load_row rfl 30 _ rfl D (by rfl) _ #[.int .i64 lv.a, .int .i64 lv.b, .int .i64 lv.c, .int .i64 lv.d, .slice u1 an.a.length b1, .slice u2 an.b.length b2, .slice u3 an.c.length b3, .slice u4 an.d.length b4] (0, 0) _ (Y1.out.1.rows _ (.head _)) Tryd.underlying30 rfl (by kernel_rfl) ?_)
  refine (HBy.out w1 Y1.out.1.below Y1.out.2.2).mono ?_
  rintro e w2 ⟨ub0, rfl, ho, hb⟩
  have Y2 := Bx.mk (HLt.out _ _ Y1.out hb)
  obtain ⟨g, cap, hub⟩ := own_form ho
  rw [HDl.out] at hub
  subst hub
  clear hb ho Y1 HBy HDl
  go_upto_region 16 with fail
  have Z0 := Bx.mk (HLt.out _ _ Y2.out (Below.refl _ _).drew)
  clear Y2
  refine wp_region_noPanic ?_
  refine wp_region_held_drew (S := fun W => W.rangeAt D 0 [.int .i64 lv.a, .int .i64 lv.b, .int .i64 lv.c, .int .i64 lv.d, .slice u1 an.a.length b1, .slice u2 an.b.length b2, .slice u3 an.c.length b3, .slice u4 an.d.length b4] ∧ W.rangeAt (E + 1) 0 [.int .i64 v.a, .int .i64 v.b, .int .i64 v.c, .int .i64 v.d]) (by kernel_rfl) (HSl.out _ Z0.out) (fun hHeld => ?_)
  generalize w2.drew = W0 at *
  refine stepL 0 (by kernel_rfl) rfl (fun K hK => ?_)
  go_simp
  refine (HKn.out W0 Z0.out.1.below).mono ?_
  rintro e W1 ⟨rfl, hb⟩
  show K _ _
  have R1 := Bx.mk (HLt.out _ _ Z0.out hb)
  clear hb Z0
  refine hK.out _ _ (HSl.out _ R1.out) (fun hHeld => ?_)
  clear hK K
  try simp only [Act.put, List.setIfInBounds_toArray, List.set_cons_zero, List.set_cons_succ]
  refine takeL 1 (v := ?_) rfl (by kernel_rfl) (by kernel_rfl) (by kernel_rfl) (fun _ _ _ h => h) (Or.inl ⟨by rfl, ?_⟩) hHeld ?_
  rotate_left 1
  · (intro w hSw; go_simp; try with_reducible rfl)
  try simp only [Act.put, List.setIfInBounds_toArray, List.set_cons_zero, List.set_cons_succ]
  refine takeL 2 (v := ?_) rfl (by kernel_rfl) (by kernel_rfl) (by kernel_rfl) (fun _ _ _ h => h) (Or.inl ⟨by rfl, ?_⟩) hHeld ?_
  rotate_left 1
  · (intro w hSw; go_simp; try with_reducible rfl)
  try simp only [Act.put, List.setIfInBounds_toArray, List.set_cons_zero, List.set_cons_succ]
  refine takeL 3 (v := ?_) rfl (by kernel_rfl) (by kernel_rfl) (by kernel_rfl) (fun _ _ _ h => h) (Or.inl ⟨by rfl, ?_⟩) hHeld ?_
  rotate_left 1
  · (intro w hSw; go_simp; try with_reducible rfl)
  try simp only [Act.put, List.setIfInBounds_toArray, List.set_cons_zero, List.set_cons_succ]
  refine takeL 4 (v := ?_) rfl (by kernel_rfl) (by kernel_rfl) (by kernel_rfl) (fun _ _ _ h => h) (Or.inl ⟨by rfl, ?_⟩) hHeld ?_
  rotate_left 1
  · (intro w hSw; go_simp; try with_reducible rfl)
  try simp only [Act.put, List.setIfInBounds_toArray, List.set_cons_zero, List.set_cons_succ]
  refine takeL 5 (v := ?_) rfl (by kernel_rfl) (by kernel_rfl) (by kernel_rfl) (fun _ _ _ h => h) (Or.inl ⟨by rfl, ?_⟩) hHeld ?_
  rotate_left 1
  · (intro w hSw; go_simp; try with_reducible rfl)
  try simp only [Act.put, List.setIfInBounds_toArray, List.set_cons_zero, List.set_cons_succ]
  refine takeL 6 rfl (by kernel_rfl) (by kernel_rfl) (by kernel_rfl) (fun _ _ _ h => h) (yieldsIf_load_mid (by rfl) _ _ rfl _ _ rfl _ _ (fun w hSw => hSw.1) Tryd.underlying30 rfl (by kernel_rfl)) hHeld ?_
  try simp only [Act.put, List.setIfInBounds_toArray, List.set_cons_zero, List.set_cons_succ]
  refine takeL 7 (v := ?_) rfl (by kernel_rfl) (by kernel_rfl) (by kernel_rfl) (fun _ _ _ h => h) (Or.inl ⟨by rfl, ?_⟩) hHeld ?_
  rotate_left 1
  · (intro w hSw; go_simp; try with_reducible rfl)
  try simp only [Act.put, List.setIfInBounds_toArray, List.set_cons_zero, List.set_cons_succ]
  refine takeL 8 rfl (by kernel_rfl) (by kernel_rfl) (by kernel_rfl) (fun _ _ _ h => h) (yieldsIf_load_mid (by rfl) _ _ rfl _ _ rfl _ _ (fun w hSw => hSw.2) Tryd.underlying22 rfl (by kernel_rfl)) hHeld ?_
  try simp only [Act.put, List.setIfInBounds_toArray, List.set_cons_zero, List.set_cons_succ]
  refine takeL 9 (v := ?_) rfl (by kernel_rfl) (by kernel_rfl) (by kernel_rfl) (fun _ _ _ h => h) (Or.inl ⟨by rfl, ?_⟩) hHeld ?_
  rotate_left 1
  · (intro w hSw; go_simp; try with_reducible rfl)
  try simp only [Act.put, List.setIfInBounds_toArray, List.set_cons_zero, List.set_cons_succ]
  refine stepL 10 (by kernel_rfl) rfl (fun K hK => ?_)
  go_simp
  refine (HRa.out W1 R1.out.2.1).mono ?_
  rintro e W2 ⟨x6, rfl, hx6, hb⟩
  show K _ _
  obtain ⟨q1, q2, q3, q4, d1, d2, d3, d4, rfl⟩ := hx6.forms
  have HX6 := Bx.mk hx6
  clear hx6
  have R2 := Bx.mk (HLt.out _ _ R1.out hb)
  clear hb R1
  simp only
  refine hK.out _ _ (HSl.out _ R2.out) (fun hHeld => ?_)
  clear hK K
  try simp only [Act.put, List.setIfInBounds_toArray, List.set_cons_zero, List.set_cons_succ]
  refine stepL 11 (by kernel_rfl) rfl (fun K hK => ?_)
  go_simp
  refine (HSa.out W2 _ R2.out.2.2 HX6.out).mono ?_
  rintro e W3 ⟨rfl, hb⟩
  show K _ _
  have R3 := Bx.mk (HLt.out _ _ R2.out hb)
  clear hb R2
  clear HX6
  refine hK.out _ _ (HSl.out _ R3.out) (fun hHeld => ?_)
  clear hK K
  try simp only [Act.put, List.setIfInBounds_toArray, List.set_cons_zero, List.set_cons_succ]
  refine takeL 12 (v := ?_) rfl (by kernel_rfl) (by kernel_rfl) (by kernel_rfl) (fun _ _ _ h => h) (Or.inl ⟨by rfl, ?_⟩) hHeld ?_
  rotate_left 1
  · (intro w hSw; go_simp; try with_reducible rfl)
  try simp only [Act.put, List.setIfInBounds_toArray, List.set_cons_zero, List.set_cons_succ]
  refine takeL 13 (v := ?_) rfl (by kernel_rfl) (by kernel_rfl) (by kernel_rfl) (fun _ _ _ h => h) (Or.inl ⟨by rfl, ?_⟩) hHeld ?_
  rotate_left 1
  · (intro w hSw; go_simp; try with_reducible rfl)
  try simp only [Act.put, List.setIfInBounds_toArray, List.set_cons_zero, List.set_cons_succ]
  refine takeL 14 rfl (by kernel_rfl) (by kernel_rfl) (by kernel_rfl) (fun _ _ _ h => h) (yieldsIf_load_mid (by rfl) _ _ rfl _ _ rfl _ _ (fun w hSw => hSw.1) Tryd.underlying30 rfl (by kernel_rfl)) hHeld ?_
  try simp only [Act.put, List.setIfInBounds_toArray, List.set_cons_zero, List.set_cons_succ]
  refine takeL 16 (v := ?_) rfl (by kernel_rfl) (by kernel_rfl) (by kernel_rfl) (fun _ _ _ h => h) (Or.inl ⟨by rfl, ?_⟩) hHeld ?_
  rotate_left 1
  · (intro w hSw; go_simp; try with_reducible rfl)
  try simp only [Act.put, List.setIfInBounds_toArray, List.set_cons_zero, List.set_cons_succ]
  refine stepL 15 (by kernel_rfl) rfl (fun K hK => ?_)
  go_simp
  refine (HSz.out W3 R3.out.2.2).mono ?_
  rintro e W4 ⟨rfl, hb⟩
  show K _ _
  have R4 := Bx.mk (HLt.out _ _ R3.out hb)
  clear hb R3
  refine hK.out _ _ (HSl.out _ R4.out) (fun hHeld => ?_)
  clear hK K
  try simp only [Act.put, List.setIfInBounds_toArray, List.set_cons_zero, List.set_cons_succ]
  refine takeL 17 (v := ?_) rfl (by kernel_rfl) (by kernel_rfl) (by kernel_rfl) (fun _ _ _ h => h) (Or.inl ⟨by rfl, ?_⟩) hHeld ?_
  rotate_left 1
  · (intro w hSw; go_simp; try with_reducible rfl)
  try simp only [Act.put, List.setIfInBounds_toArray, List.set_cons_zero, List.set_cons_succ]
  refine takeL 18 (v := ?_) rfl (by kernel_rfl) (by kernel_rfl) (by kernel_rfl) (fun _ _ _ h => h) (Or.inl ⟨by rfl, ?_⟩) hHeld ?_
  rotate_left 1
  · (intro w hSw; go_simp; try with_reducible rfl)
  try simp only [Act.put, List.setIfInBounds_toArray, List.set_cons_zero, List.set_cons_succ]
  refine takeL 19 (v := ?_) rfl (by kernel_rfl) (by kernel_rfl) (by kernel_rfl) (fun _ _ _ h => h) (Or.inl ⟨by rfl, ?_⟩) hHeld ?_
  rotate_left 1
  · (intro w hSw; go_simp; try with_reducible rfl)
  try simp only [Act.put, List.setIfInBounds_toArray, List.set_cons_zero, List.set_cons_succ]
  refine takeL 20 (v := ?_) rfl (by kernel_rfl) (by kernel_rfl) (by kernel_rfl) (fun _ _ _ h => h) (Or.inl ⟨by rfl, ?_⟩) hHeld ?_
  rotate_left 1
  · (intro w hSw; go_simp; try with_reducible rfl)
  try simp only [Act.put, List.setIfInBounds_toArray, List.set_cons_zero, List.set_cons_succ]
  refine takeL 21 (v := ?_) rfl (by kernel_rfl) (by kernel_rfl) (by kernel_rfl) (fun _ _ _ h => h) (Or.inl ⟨by rfl, ?_⟩) hHeld ?_
  rotate_left 1
  · (intro w hSw; go_simp; try with_reducible rfl)
  try simp only [Act.put, List.setIfInBounds_toArray, List.set_cons_zero, List.set_cons_succ]
  refine takeL 22 (v := ?_) rfl (by kernel_rfl) (by kernel_rfl) (by kernel_rfl) (fun _ _ _ h => h) (Or.inl ⟨by rfl, ?_⟩) hHeld ?_
  rotate_left 1
  · (intro w hSw; go_simp; try with_reducible rfl)
  try simp only [Act.put, List.setIfInBounds_toArray, List.set_cons_zero, List.set_cons_succ]
  refine takeL 23 (v := ?_) rfl (by kernel_rfl) (by kernel_rfl) (by kernel_rfl) (fun _ _ _ h => h) (Or.inl ⟨by rfl, ?_⟩) hHeld ?_
  rotate_left 1
  · (intro w hSw; go_simp; try with_reducible rfl)
  try simp only [Act.put, List.setIfInBounds_toArray, List.set_cons_zero, List.set_cons_succ]
  refine takeL 24 (v := ?_) rfl (by kernel_rfl) (by kernel_rfl) (by kernel_rfl) (fun _ _ _ h => h) (Or.inl ⟨by rfl, ?_⟩) hHeld ?_
  rotate_left 1
  · (intro w hSw; go_simp; try with_reducible rfl)
  try simp only [Act.put, List.setIfInBounds_toArray, List.set_cons_zero, List.set_cons_succ]
  refine takeL 25 (v := ?_) rfl (by kernel_rfl) (by kernel_rfl) (by kernel_rfl) (fun _ _ _ h => h) (Or.inl ⟨by rfl, ?_⟩) hHeld ?_
  rotate_left 1
  · (intro w hSw; go_simp; try with_reducible rfl)
  try simp only [Act.put, List.setIfInBounds_toArray, List.set_cons_zero, List.set_cons_succ]
  refine takeL 26 rfl (by kernel_rfl) (by kernel_rfl) (by kernel_rfl) (fun _ _ _ h => h) (yieldsIf_load_mid (by rfl) _ _ rfl _ _ rfl _ _ (fun w hSw => hSw.1) Tryd.underlying30 rfl (by kernel_rfl)) hHeld ?_
  try simp only [Act.put, List.setIfInBounds_toArray, List.set_cons_zero, List.set_cons_succ]
  refine stepL 27 (by kernel_rfl) rfl (fun K hK => ?_)
  go_simp
  refine (HSz.out W4 R4.out.2.2).mono ?_
  rintro e W5 ⟨rfl, hb⟩
  show K _ _
  have R5 := Bx.mk (HLt.out _ _ R4.out hb)
  clear hb R4
  refine hK.out _ _ (HSl.out _ R5.out) (fun hHeld => ?_)
  clear hK K
  try simp only [Act.put, List.setIfInBounds_toArray, List.set_cons_zero, List.set_cons_succ]
  refine takeL 28 (v := ?_) rfl (by kernel_rfl) (by kernel_rfl) (by kernel_rfl) (fun _ _ _ h => h) (Or.inl ⟨by rfl, ?_⟩) hHeld ?_
  rotate_left 1
  · (intro w hSw; go_simp; try with_reducible rfl)
  try simp only [Act.put, List.setIfInBounds_toArray, List.set_cons_zero, List.set_cons_succ]
  refine takeL 29 (v := ?_) rfl (by kernel_rfl) (by kernel_rfl) (by kernel_rfl) (fun _ _ _ h => h) (Or.inl ⟨by rfl, ?_⟩) hHeld ?_
  rotate_left 1
  · (intro w hSw; go_simp; try with_reducible rfl)
  try simp only [Act.put, List.setIfInBounds_toArray, List.set_cons_zero, List.set_cons_succ]
  refine takeL 30 (v := ?_) rfl (by kernel_rfl) (by kernel_rfl) (by kernel_rfl) (fun _ _ _ h => h) (Or.inl ⟨by rfl, ?_⟩) hHeld ?_
  rotate_left 1
  · (intro w hSw; go_simp; try with_reducible rfl)
  try simp only [Act.put, List.setIfInBounds_toArray, List.set_cons_zero, List.set_cons_succ]
  refine wpAnyH_done (by kernel_rfl) ?_ _
  refine NoPanic.normal ?_
  clear hHeld
  go_wp2_with fail
  go_ret
  exact ⟨rfl, R5.out.1.below⟩
end Go.Proofs.YtnfgamekjbkbkaaDoor
