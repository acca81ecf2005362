/-
  RevokeNil's walk: a nil set has nothing.
-/
import Derived.Test.YtmfhdhggpepbbaaDoorEw
import Derived.Test.YtmfhdhggpepbbaaDoorEv
import Derived.Test.YtmfhdhggpepbbaaDoorEq
import Derived.Test.YtmfhdhggpepbbaaDoorEt
namespace Go.Proofs.YtmfhdhggpepbbaaDoor
open Go Go.RowKit
theorem hasL4_nil (n : Int) : hasL4 L4.nil n = false := by simp [hasL4, L4.nil]
theorem logL_nil (n : Int) : logL L4.nil n = [] := by
  unfold logL L4.get L4.nil
  simp
theorem setV_nil (W : World) : SetV W (.pointer none) L4.nil := .inl ⟨rfl, rfl⟩
theorem vers_zero (W : World) : (binOp BinOp.eql 39 (.agg #[.int .i64 0, .int .i64 0, .int .i64 0, .int .i64 0]) (.agg #[.int .i64 0, .int .i64 0, .int .i64 0, .int .i64 0])).run Tryd.prog W = .ok (.bool true) W := by
  rw [vers_eql]
  rfl
set_option maxRecDepth 100000 in
set_option maxHeartbeats 2000000 in
theorem nil_walk (seed serial : Int) (v : V4) (x : VV) (m : L4) (w : World) (hx : RowsI w x m) (hm : Most m 9223372036854775807) (hT : Tab w) (hG : 1 < w.heap.size) :
    Calls Tryd.prog 7 #[.int .i64 seed, .int .i64 serial, .agg (dC v x)] w fun e w' => e = .returned (.bool true) ∧ Below w.heap.size w w' := by
  obtain ⟨E, hE⟩ : ∃ E, w.heap.size = E := ⟨_, rfl⟩
  have HE := Bx.mk hE
  have HX : Bx (∀ W, Below E w W → RowsI W x m) := ⟨fun W h => hx.later (by rw [hE]; exact h)⟩
  have HM := Bx.mk hm
  have HTab : Bx (∀ W, Below E w W → Tab W ∧ 1 < W.heap.size) := ⟨fun W h => ⟨hT.later h (by omega), Nat.lt_of_lt_of_le hG (by rw [hE]; have := h.size; rw [hE] at this; exact this)⟩⟩
  have K0 : Bx (KR w E [(E, .cells (dC v x) 33)] (w.alloc (.cells (dC v x) 33))) := ⟨by
    have h := (KR.start w).new (.cells (dC v x) 33)
    rw [hE] at h
    exact h⟩
  obtain ⟨sb, hsb⟩ : ∃ sb, sha (printB L4.nil) = sb := ⟨_, rfl⟩
  have hl32 : sb.length = 32 := by rw [← hsb]; exact sha_length _
  have heq := eq32 sb sb hl32 hl32
  have HP : Bx (∀ W u, Below E w W → SetV W u L4.nil → Calls Tryd.prog 25 #[u] W fun e w' => e = .returned (.agg (u8s sb)) ∧ Below W.heap.size W w') := ⟨fun W u h hu => by rw [← hsb]; exact print_any8 u L4.nil W hu Good.nil (HTab.out W h).1 (HTab.out W h).2⟩
  generalize u8s sb = sd at *
  simp only [beq_self_eq_true] at heq
  have HSi : Bx (∀ W, Calls Tryd.prog 20 #[.pointer none, .agg #[.int .i64 0, .int .i64 0, .int .i64 0, .int .i64 0]] W fun e w' => e = .returned (.tuple #[.agg #[.int .i64 0, .int .i64 0, .int .i64 0, .int .i64 0, .slice none 0 0, .slice none 0 0, .slice none 0 0, .slice none 0 0], .int .i64 11]) ∧ Below W.heap.size W w') := ⟨fun W => since_nil V4.zero W⟩
  have HVe : Bx (∀ W, Calls Tryd.prog 21 #[.pointer none] W fun e w' => e = .returned (.agg #[.int .i64 0, .int .i64 0, .int .i64 0, .int .i64 0]) ∧ Below W.heap.size W w') := ⟨fun W => versions_any _ L4.nil W (setV_nil W)⟩
  have hbv := build_vers
  have hve := vers_zero
  clear hx hm hT hG hsb hl32
  rw [hE]
  unfold dC at *
  go_enter Tryd.func7, Tryd.ntmps7
  go_wp2_with fail
  generalize w.alloc _ = w0 at *
  refine (HSi.out w0).mono ?_
  rintro e w1 ⟨rfl, hb⟩
  have K1 := Bx.mk ((K0.out.later hb).new (.cells #[.int .i64 0, .int .i64 0, .int .i64 0, .int .i64 0, .slice none 0 0, .slice none 0 0, .slice none 0 0, .slice none 0 0] 41))
  clear hb K0
  go_wp2_with (refine wpList_load_row rfl 33 _ rfl E (by rfl) _ #[.int .i64 v.a, .int .i64 v.b, .int .i64 v.c, .int .i64 v.d, x.a, x.b, x.c, x.d] (0, 0) _ (K1.out.rows _ (.tail _ (.head _))) Tryd.underlying33 rfl (by kernel_rfl) ?_)
  refine (to8 v x m _ (HX.out _ K1.out.below) HM.out).mono ?_
  rintro e w2 ⟨u, rfl, -, hb⟩
  have K2 := Bx.mk (K1.out.later hb)
  clear hb K1
  unfold dC
  go_wp2_with fail
  refine (apply_nil8 _ w2 rfl).mono ?_
  rintro e w3 ⟨rfl, hb⟩
  have K3 := Bx.mk (K2.out.later hb)
  clear hb K2
  go_wp2_with fail
  refine (known8_any w3).mono ?_
  rintro e w4 ⟨rfl, hb⟩
  have K4 := Bx.mk ((K3.out.later hb).new (.cells #[.int .i64 serial] 3))
  clear hb K3
  go_wp2_with fail
  refine (revoke_nil seed _ _).mono ?_
  rintro e w5 ⟨rfl, rfl⟩
  go_wp2_with fail
  generalize w4.alloc _ = w5 at *
  refine (has_any8 serial _ L4.nil w5 (setV_nil _) Good.nil).mono ?_
  rw [hasL4_nil]
  rintro e w6 ⟨rfl, hb⟩
  have K5 := Bx.mk (K4.out.later hb)
  clear hb K4
  go_wp2_with fail
  refine (HVe.out w6).mono ?_
  rintro e w7 ⟨rfl, hb⟩
  have K6 := Bx.mk (K5.out.later hb)
  clear hb K5
  go_wp2_with fail
  refine (log_any seed _ L4.nil w7 (setV_nil _) Good.nil).mono ?_
  rw [logL_nil]
  rintro e w8 ⟨y, rfl, hy, hb⟩
  obtain ⟨y1, y2, rfl⟩ := hy.form
  have K7 := Bx.mk (K6.out.later hb)
  clear hb hy K6
  go_wp2_with fail
  refine (all8 _ L4.nil w8 (setV_nil _) Good.nil).mono ?_
  rw [allL_nil]
  rintro e w9 ⟨y3, y4, rfl, -, hb⟩
  have K8 := Bx.mk (K7.out.later hb)
  clear hb K7
  go_wp2_with fail
  refine (copy_none w9).mono ?_
  rintro e w10 ⟨rfl, rfl⟩
  go_wp2_with fail
  refine (HP.out w10 _ K8.out.below (setV_nil _)).mono ?_
  rintro e w11 ⟨rfl, hb⟩
  have K9 := Bx.mk (K8.out.later hb)
  clear hb K8
  go_wp2_with fail
  refine (new_any8 w11).mono ?_
  rintro e w12 ⟨rfl, hs, hb, -⟩
  have K10 := Bx.mk (K9.out.later hb)
  have HS := Bx.mk hs
  clear hb hs K9
  go_wp2_with fail
  refine (HP.out w12 _ K10.out.below (.inr ⟨_, rfl, HS.out⟩)).mono ?_
  rintro e w13 ⟨rfl, hb⟩
  have K11 := Bx.mk (K10.out.later hb)
  clear hb K10 HS
  go_wp2
  go_ret
  exact ⟨rfl, K11.out.below⟩
end Go.Proofs.YtmfhdhggpepbbaaDoor
