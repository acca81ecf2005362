/-
  DeltaAnswers: the head, joined with what lies behind it.
-/
import Derived.Test.YtnfgamekjbkbkaaDoorNl
import Derived.Test.YtnfgamekjbkbkaaDoorD9
namespace Go.Proofs.YtnfgamekjbkbkaaDoor
open Go Go.RowKit
set_option maxRecDepth 100000 in
set_option maxHeartbeats 16000000 in
theorem head9 (x : VV) (m l an : L4) (v lv : V4) (room code : Int) (P : VV → Prop) (w : World) (hl : mkL m 4 = l) (hx : RowsI w x m) (hm : Most m 9223372036854775807)
    (HAn : Bx (∀ (pp : Nat) (W : World), Below w.heap.size w W → SetAt W pp l → Calls Tryd.prog 34 #[.pointer (some ⟨pp, 0, none⟩), .agg #[.int .i64 v.a, .int .i64 v.b, .int .i64 v.c, .int .i64 v.d], .int .i64 room] W fun e w' => ∃ u, e = .returned (.tuple #[.agg (dC lv u), .int .i64 code]) ∧ P u ∧ Rows4 w' u an ∧ Below W.heap.size W w'))
    (HEnd : Bx (∀ (E D pp qq : Nat) (u : VV) (a : Act) (W : World), E = w.heap.size → PJ (.int .i64 room) (.pointer (some ⟨E + 1, 0, none⟩)) (.pointer (some ⟨pp, 0, none⟩)) (.pointer (some ⟨qq, 0, none⟩)) (.pointer (some ⟨D, 0, none⟩)) (.int .i64 code) a → KR w E [(D, .cells (dC lv u) 30), (E + 1, .cells #[.int .i64 v.a, .int .i64 v.b, .int .i64 v.c, .int .i64 v.d] 22)] W → RAt W qq l → P u → Rows4 W u an → Code.wp Tryd.prog (restAt9 Tryd.f5.body 9) (bodyPost Tryd.prog Tryd.f5 fun e w' => e = .returned (.bool true) ∧ Below E w w') a W)) :
    Calls Tryd.prog 5 #[.agg #[x.a, x.b, x.c, x.d], .agg #[.int .i64 v.a, .int .i64 v.b, .int .i64 v.c, .int .i64 v.d], .int .i64 room] w fun e w' => e = .returned (.bool true) ∧ Below w.heap.size w w' := by
  obtain ⟨E, hE⟩ : ∃ E, w.heap.size = E := ⟨_, rfl⟩
  have HMk := Bx.mk (fun W (h : Below E w W) => make9 x m W (hx.later (by rw [hE]; exact h)) hm)
  rw [hl] at HMk
  have K0 : Bx (KR w E [(E + 1, .cells #[.int .i64 v.a, .int .i64 v.b, .int .i64 v.c, .int .i64 v.d] 22), (E, .cells #[x.a, x.b, x.c, x.d] 24)] ((w.alloc (.cells #[x.a, x.b, x.c, x.d] 24)).alloc (.cells #[.int .i64 v.a, .int .i64 v.b, .int .i64 v.c, .int .i64 v.d] 22))) := Bx.mk (by
    subst hE
    have h := ((KR.start w).new (.cells #[x.a, x.b, x.c, x.d] 24)).new (.cells #[.int .i64 v.a, .int .i64 v.b, .int .i64 v.c, .int .i64 v.d] 22)
    simpa using h)
  obtain ⟨av, hav⟩ : ∃ c, askV l.ver v = c := ⟨_, rfl⟩
  have HAv := Bx.mk hav
  obtain ⟨bb, hbb⟩ : ∃ c, (!covV l.ver v) = c := ⟨_, rfl⟩
  have HBb := Bx.mk hbb
  have HAsk : Bx (∀ (pp : Nat) (W : World), SetAt W pp l → Calls Tryd.prog 35 #[.pointer (some ⟨pp, 0, none⟩), .agg #[.int .i64 v.a, .int .i64 v.b, .int .i64 v.c, .int .i64 v.d, .int .u8 0, .int .u8 0, .int .u8 0, .int .u8 0, .int .u8 0, .int .u8 0, .int .u8 0, .int .u8 0]] W fun e w' => e = .returned (.tuple #[.agg #[.int .i64 av.a, .int .i64 av.b, .int .i64 av.c, .int .i64 av.d], .bool bb]) ∧ Below W.heap.size W w') := ⟨fun pp W h => by
    have h1 := ask_any (.pointer (some ⟨pp, 0, none⟩)) l v B8.zero W (.inr ⟨pp, rfl, h⟩)
    have e1 : dgC v B8.zero = #[.int .i64 v.a, .int .i64 v.b, .int .i64 v.c, .int .i64 v.d, .int .u8 0, .int .u8 0, .int .u8 0, .int .u8 0, .int .u8 0, .int .u8 0, .int .u8 0, .int .u8 0] := by kernel_rfl
    rw [e1, hav, hbb] at h1
    unfold V4.v at h1
    exact h1⟩
  have hbd : ∀ W : World, (Instr.build 62 #[(0, .agg #[.int .i64 v.a, .int .i64 v.b, .int .i64 v.c, .int .i64 v.d])]).run Tryd.prog W = .ok (.agg #[.int .i64 v.a, .int .i64 v.b, .int .i64 v.c, .int .i64 v.d, .int .u8 0, .int .u8 0, .int .u8 0, .int .u8 0, .int .u8 0, .int .u8 0, .int .u8 0, .int .u8 0]) W := fun W => by kernel_rfl
  rw [hE] at HAn
  have HE := Bx.mk hE
  clear hx hm hl hav hbb
  rw [hE]
  go_enter Tryd.func5, Tryd.ntmps5
  go_wp2_with (refine wpList_load_row rfl 24 _ rfl E (by rfl) _ #[x.a, x.b, x.c, x.d] (0, 0) _ (K0.out.rows _ (.tail _ (.head _))) Tryd.underlying24 rfl (by kernel_rfl) ?_)
  generalize (w.alloc (.cells #[x.a, x.b, x.c, x.d] 24)).alloc (.cells #[.int .i64 v.a, .int .i64 v.b, .int .i64 v.c, .int .i64 v.d] 22) = w0 at *
  refine (HMk.out w0 K0.out.below).mono ?_
  rintro e w1 ⟨pp, qq, rfl, hs, hr, -, -, hb⟩
  have K1 := Bx.mk (K0.out.later hb)
  have S1 := Bx.mk (And.intro hs hr)
  clear hs hr hb K0 HMk
  go_wp2_with (refine wpList_load_row rfl 22 _ rfl (E + 1) (by rfl) _ #[.int .i64 v.a, .int .i64 v.b, .int .i64 v.c, .int .i64 v.d] (0, 0) _ (K1.out.rows _ (.head _)) Tryd.underlying22 rfl (by kernel_rfl) ?_)
  refine (HAn.out pp w1 K1.out.below S1.out.1).mono ?_
  rintro e w2 ⟨u, rfl, hP, hu, hb⟩
  obtain ⟨u1, u2, u3, u4, b1, b2, b3, b4, rfl⟩ := hu.forms
  have K2 := Bx.mk (K1.out.later hb)
  have HP := Bx.mk hP
  clear hP
  have S2 := Bx.mk (And.intro (S1.out.1.later hb) (And.intro (S1.out.2.later hb) hu))
  clear hb hu K1 S1 HAn
  obtain ⟨D, hD⟩ : ∃ X, w2.heap.size = X := ⟨_, rfl⟩
  unfold dC
  simp only
  go_wp2_with (first | (refine wpList_store_v9 rfl 30 _ _ rfl w2 D hD #[.int .i64 0, .int .i64 0, .int .i64 0, .int .i64 0, .slice none 0 0, .slice none 0 0, .slice none 0 0, .slice none 0 0] 30 rfl (by rfl) #[.int .i64 lv.a, .int .i64 lv.b, .int .i64 lv.c, .int .i64 lv.d, .slice u1 an.a.length b1, .slice u2 an.b.length b2, .slice u3 an.c.length b3, .slice u4 an.d.length b4] (by rfl) rfl (by kernel_rfl) (by simp [Value.oneCell']) ?_; intro w3 hb hr _; have K3 := Bx.mk (K2.out.var9 hD hb hr); have S3 := Bx.mk (And.intro (S2.out.1.later hb) (And.intro (S2.out.2.1.later hb) (S2.out.2.2.later hb))); clear hb hr K2 S2) | (refine wpList_load_row rfl 22 _ rfl (E + 1) (by rfl) _ #[.int .i64 v.a, .int .i64 v.b, .int .i64 v.c, .int .i64 v.d] (0, 0) _ (K3.out.rows _ (.tail _ (.head _))) Tryd.underlying22 rfl (by kernel_rfl) ?_))
  refine (HAsk.out pp w3 S3.out.1).mono ?_
  rintro e w4 ⟨rfl, hb⟩
  have K4 := Bx.mk (K3.out.later hb)
  have S4 := Bx.mk (And.intro (S3.out.1.later hb) (And.intro (S3.out.2.1.later hb) (S3.out.2.2.later hb)))
  clear hb K3 S3 HAsk hD hbd
  obtain ⟨M, hM⟩ : ∃ X, w4.heap.size = X := ⟨_, rfl⟩
  go_upto_region 4 with (refine wpList_store_v9 rfl 28 _ _ rfl w4 M hM #[.int .i64 0, .int .i64 0, .int .i64 0, .int .i64 0] 28 rfl (by rfl) #[.int .i64 av.a, .int .i64 av.b, .int .i64 av.c, .int .i64 av.d] (by rfl) rfl (by kernel_rfl) (by simp [Value.oneCell']) ?_; intro w5 hb hr _; have K5 := Bx.mk (K4.out.var9 hM hb hr); have S5 := Bx.mk (And.intro (S4.out.1.later hb) (And.intro (S4.out.2.1.later hb) (S4.out.2.2.later hb))); clear hb hr K4 S4)
  rename_i K1 hK1
  clear hM
  refine wp_mono (reg4 E D M pp qq _ _ bb _ w5 ⟨⟨rfl, rfl⟩, rfl, rfl, rfl, rfl, rfl, rfl, rfl, rfl⟩) (fun e a w1 hp => ?_)
  obtain ⟨rfl, hp, rfl⟩ := hp
  obtain rfl := HAv.out
  obtain rfl := HBb.out
  refine hK1 _ _ (tail9 E D M pp qq _ _ v l a w1 hp (K5.out.rows _ (.tail _ (.tail _ (.head _)))) (K5.out.rows _ (.head _)) S5.out.1 S5.out.2.1 (fun a' w' h hb => ?_))
  exact HEnd.out E D pp qq ⟨.slice u1 an.a.length b1, .slice u2 an.b.length b2, .slice u3 an.c.length b3, .slice u4 an.d.length b4⟩ a' w' HE.out.symm h ((K5.out.later hb).sub (fun x hx => by simp at hx ⊢; rcases hx with rfl | rfl <;> simp [dC])) (S5.out.2.1.later hb) HP.out (S5.out.2.2.later hb)
end Go.Proofs.YtnfgamekjbkbkaaDoor
