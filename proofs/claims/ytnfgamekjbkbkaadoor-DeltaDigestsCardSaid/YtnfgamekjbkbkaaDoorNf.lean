/-
  DeltaDigests: what is read of any bytes.
-/
import Derived.Test.YtnfgamekjbkbkaaDoorNe
namespace Go.Proofs.YtnfgamekjbkbkaaDoor
open Go Go.RowKit
theorem rd_short : ∀ (ss : List Int), (∀ s ∈ ss, s = 0 ∨ s = 1) → ∀ (l : List UInt8), l.length < (ss.map wid).sum → (ss.foldl stepR (l, 0)).2 = 4
  | [], _, l, h => by simp at h
  | s :: ss, hs, l, h => by
    have h1 : s = 0 ∨ s = 1 ∨ s = 2 := by
      rcases hs s (.head _) with h | h
      · exact .inl h
      · exact .inr (.inl h)
    rw [List.foldl_cons]
    by_cases hl : l.length < wid s
    · rw [stepR_short l s h1 hl, fold_stuck9 ss _ (by simp)]
    · rw [stepR_long l s h1 (by omega)]
      refine rd_short ss (fun x hx => hs x (.tail _ hx)) _ ?_
      rw [List.length_drop]
      rw [List.map_cons, List.sum_cons] at h
      omega
theorem rdE_short (l : List UInt8) (h : l.length < 16) : rdE (l, 0) = 4 := by
  have h1 := rd_short [1, 1, 1, 1, 0, 0, 0, 0, 0, 0, 0, 0] (by intro s hs; simp at hs; rcases hs with rfl | rfl | rfl | rfl | rfl | rfl | rfl | rfl | rfl | rfl | rfl | rfl <;> simp) l (by
    rw [show (([1, 1, 1, 1, 0, 0, 0, 0, 0, 0, 0, 0] : List Int).map wid).sum = 16 by decide]
    exact h)
  have h2 : (nx1 (nx2 (l, 0))).2 = 4 := h1
  unfold rdE
  rw [h2, if_pos (by decide)]
theorem two_step (x y : UInt8) (l : List UInt8) : stepR (x :: y :: l, 0) 1 = (l, 0) ∧ numR (x :: y :: l, 0) 1 = 256 * ub x + ub y := by
  have hw : wid 1 = 2 := by decide
  refine ⟨by rw [stepR_long _ 1 (by omega) (by rw [hw]; simp), hw]; rfl, ?_⟩
  rw [numR_long _ 1 (by omega) (by rw [hw]; simp), hw]
  show ((valN [x, y] : Nat) : Int) = _
  unfold valN ub
  simp
  omega
theorem one_step (x : UInt8) (l : List UInt8) : stepR (x :: l, 0) 0 = (l, 0) ∧ numR (x :: l, 0) 0 = ub x := by
  have hw : wid 0 = 1 := by decide
  refine ⟨by rw [stepR_long _ 0 (by omega) (by rw [hw]; simp), hw]; rfl, ?_⟩
  rw [numR_long _ 0 (by omega) (by rw [hw]; simp), hw]
  show ((valN [x] : Nat) : Int) = _
  unfold valN ub
  simp
theorem u8N_ub (x : UInt8) : u8N (ub x) = x := by
  unfold u8N ub
  have := x.toNat_lt
  apply UInt8.toNat_inj.1
  rw [UInt8.toNat_ofNat']
  omega
theorem rd_long (y0 y1 y2 y3 y4 y5 y6 y7 y8 y9 y10 y11 y12 y13 y14 y15 : UInt8) (r : List UInt8) : nx1 (nx2 (y0 :: y1 :: y2 :: y3 :: y4 :: y5 :: y6 :: y7 :: y8 :: y9 :: y10 :: y11 :: y12 :: y13 :: y14 :: y15 :: r, 0)) = (r, 0) ∧ rdV (y0 :: y1 :: y2 :: y3 :: y4 :: y5 :: y6 :: y7 :: y8 :: y9 :: y10 :: y11 :: y12 :: y13 :: y14 :: y15 :: r, 0) = ⟨256 * ub y0 + ub y1, 256 * ub y2 + ub y3, 256 * ub y4 + ub y5, 256 * ub y6 + ub y7⟩ ∧ rdP (nx2 (y0 :: y1 :: y2 :: y3 :: y4 :: y5 :: y6 :: y7 :: y8 :: y9 :: y10 :: y11 :: y12 :: y13 :: y14 :: y15 :: r, 0)) = ⟨y8, y9, y10, y11, y12, y13, y14, y15⟩ := by
  have h2 : nx2 (y0 :: y1 :: y2 :: y3 :: y4 :: y5 :: y6 :: y7 :: y8 :: y9 :: y10 :: y11 :: y12 :: y13 :: y14 :: y15 :: r, 0) = (y8 :: y9 :: y10 :: y11 :: y12 :: y13 :: y14 :: y15 :: r, 0) := by
    unfold nx2
    rw [(two_step y0 y1 _).1, (two_step y2 y3 _).1, (two_step y4 y5 _).1, (two_step y6 y7 _).1]
  refine ⟨?_, ?_, ?_⟩
  · rw [h2]
    unfold nx1
    rw [(one_step y8 _).1, (one_step y9 _).1, (one_step y10 _).1, (one_step y11 _).1, (one_step y12 _).1, (one_step y13 _).1, (one_step y14 _).1, (one_step y15 _).1]
  · unfold rdV
    rw [(two_step y0 y1 _).1, (two_step y2 y3 _).1, (two_step y4 y5 _).1, (two_step y0 y1 _).2, (two_step y2 y3 _).2, (two_step y4 y5 _).2, (two_step y6 y7 _).2]
  · rw [h2]
    unfold rdP
    rw [(one_step y8 _).1, (one_step y9 _).1, (one_step y10 _).1, (one_step y11 _).1, (one_step y12 _).1, (one_step y13 _).1, (one_step y14 _).1, (one_step y8 _).2, (one_step y9 _).2, (one_step y10 _).2, (one_step y11 _).2, (one_step y12 _).2, (one_step y13 _).2, (one_step y14 _).2, (one_step y15 _).2]
    simp only [u8N_ub]
theorem list16_of (l : List UInt8) (h : 16 ≤ l.length) : ∃ y0 y1 y2 y3 y4 y5 y6 y7 y8 y9 y10 y11 y12 y13 y14 y15 r, l = y0 :: y1 :: y2 :: y3 :: y4 :: y5 :: y6 :: y7 :: y8 :: y9 :: y10 :: y11 :: y12 :: y13 :: y14 :: y15 :: r := by
  match l, h with
  | y0 :: y1 :: y2 :: y3 :: y4 :: y5 :: y6 :: y7 :: y8 :: y9 :: y10 :: y11 :: y12 :: y13 :: y14 :: y15 :: r, _ => exact ⟨y0, y1, y2, y3, y4, y5, y6, y7, y8, y9, y10, y11, y12, y13, y14, y15, r, rfl⟩
/-- The frame ahead of what is read of any bytes. -/
structure PB9 (v2 : Value) (a : Act) : Prop where
  fr : Fr 200 a
  s2 : a.eval (.tmp 2) = v2
/-- The part of a code that holds a region. -/
def partOf (n : Nat) : Code → Code
  | .seq a b => if (regAt n a).isSome then a else partOf n b
  | c => c
def partAt (c : Option Code) (n : Nat) : Code := partOf n (c.getD .skip)
theorem split15 : restAt Tryd.f4.body 10 = .seq (partAt Tryd.f4.body 15) (restAt Tryd.f4.body 15) := by kernel_rfl
/-- What lies behind what is read of any bytes. -/
structure RQ (w : World) (E n3 c3 : Nat) (a3 : Option Addr) (b3 : List UInt8) (a : Act) (W : World) : Prop where
  q : ∃ Yb f yc, PE (.slice a3 n3 c3) (.pointer (some ⟨Yb, 0, none⟩)) (.int .i64 f) a ∧ KR w E [(Yb, .cells yc 62)] W ∧ rdE (b3, 0) = f ∧ (if f = 0 then dgC (rdV (b3, 0)) (rdP (nx2 (b3, 0))) else dgC V4.zero B8.zero) = yc
set_option maxRecDepth 100000 in
set_option maxHeartbeats 16000000 in
theorem reg15 (w : World) (E n3 c3 : Nat) (a3 : Option Addr) (b3 : List UInt8) (hn : b3.length = n3) (hn30 : n3 ≤ 30) (HBt : Bx (∀ W, Below E w W → Bytes W (.slice a3 n3 c3) b3)) (a : Act) (W : World)
    (h : PB9 (.slice a3 n3 c3) a) (K0 : Bx (KR w E [] W)) :
    Code.wp Tryd.prog (partAt Tryd.f4.body 15) (fun x a' w' => x = .normal ∧ RQ w E n3 c3 a3 b3 a' w') a W := by
  obtain ⟨y, rfl, hy⟩ := open200 h.fr
  have e2 := (hy 2).symm.trans h.s2
  clear h hy
  rw [e2]
  clear e2
  have HN := Bx.mk (And.intro hn hn30)
  conv => arg 2; whnf
  go_wp2_with fail
  refine (new_ok b3 (.slice a3 n3 c3) W (HBt.out W K0.out.below) (by have := HN.out; omega)).mono ?_
  rintro e w1 ⟨rfl, hr, hb⟩
  have K1 := Bx.mk (K0.out.later hb)
  have HEq : Bx (E ≤ W.heap.size) := ⟨K0.out.le⟩
  have HR := Bx.mk hr
  clear hr hb K0
  generalize W.heap.size = q at *
  go_wp2_with fail
  refine (dread9 q b3 0 w1 HR.out (by have := HN.out; omega)).mono ?_
  rintro e w2 ⟨rfl, -, hg⟩
  have K2 : Bx (KR w E [] w2) := ⟨K1.out.grown hg HEq.out (fun _ h => (List.not_mem_nil h).elim)⟩
  clear hg K1 HR
  obtain ⟨f, hf⟩ : ∃ f, rdE (b3, 0) = f := ⟨_, rfl⟩
  obtain ⟨yc, hyc⟩ : ∃ c, (if f = 0 then dgC (rdV (b3, 0)) (rdP (nx2 (b3, 0))) else dgC V4.zero B8.zero) = c := ⟨_, rfl⟩
  rw [hf, hyc]
  have HF := Bx.mk hf
  have HY := Bx.mk hyc
  have HY12 : Bx (∃ v p, yc = dgC v p) := ⟨by
    rw [← hyc]
    split
    · exact ⟨_, _, rfl⟩
    · exact ⟨_, _, rfl⟩⟩
  clear hf hyc
  obtain ⟨vy, py, hvp⟩ := HY12.out
  have HVP := Bx.mk hvp
  clear HY12
  obtain ⟨Yb, hYb⟩ : ∃ X, w2.heap.size = X := ⟨_, rfl⟩
  subst hvp
  unfold dgC
  go_wp2_with (refine wpList_store_v9 rfl 62 _ _ rfl w2 Yb hYb #[.int .i64 0, .int .i64 0, .int .i64 0, .int .i64 0, .int .u8 0, .int .u8 0, .int .u8 0, .int .u8 0, .int .u8 0, .int .u8 0, .int .u8 0, .int .u8 0] 62 rfl (by rfl) #[.int .i64 vy.a, .int .i64 vy.b, .int .i64 vy.c, .int .i64 vy.d, .int .u8 (ub py.a), .int .u8 (ub py.b), .int .u8 (ub py.c), .int .u8 (ub py.d), .int .u8 (ub py.e), .int .u8 (ub py.f), .int .u8 (ub py.g), .int .u8 (ub py.h)] (by rfl) rfl (by kernel_rfl) (by simp [Value.oneCell']) ?_; intro w3 hb hr _; have K3 := Bx.mk (K2.out.var9 hYb hb hr); clear hb hr K2)
  exact ⟨Yb, f, _, ⟨⟨rfl, rfl⟩, rfl, rfl, rfl⟩, K3.out, HF.out, HY.out⟩
set_option maxRecDepth 100000 in
set_option maxHeartbeats 16000000 in
theorem tailB (w : World) (E n3 c3 : Nat) (a3 : Option Addr) (b3 : List UInt8) (hn : b3.length = n3) (hn30 : n3 ≤ 30) (HBt : Bx (∀ W, Below E w W → Bytes W (.slice a3 n3 c3) b3)) (HKn : Bx (∀ W, Below E w W → Calls Tryd.prog 33 #[] W fun e w' => e = .returned (.bool true) ∧ Below W.heap.size W w')) (a : Act) (W : World)
    (h : PB9 (.slice a3 n3 c3) a) (K0 : Bx (KR w E [] W)) :
    Code.wp Tryd.prog (restAt Tryd.f4.body 10) (bodyPost Tryd.prog Tryd.f4 fun e w' => e = .returned (.bool true) ∧ Below E w w') a W := by
  rw [split15]
  refine wp_seq (wp_mono (reg15 w E n3 c3 a3 b3 hn hn30 HBt a W h K0) ?_)
  rintro x a' w3 ⟨rfl, hq⟩
  obtain ⟨Yb, f, yc, hPE, hK3, hf, hyc⟩ := hq.q
  have K3 := Bx.mk hK3
  have HF := Bx.mk hf
  have HY := Bx.mk hyc
  have HN := Bx.mk (And.intro hn hn30)
  by_cases h16 : n3 < 16
  · have hff : f = 4 := by rw [← HF.out]; exact rdE_short b3 (by have := HN.out; omega)
    subst hff
    have hz : yc = dgC V4.zero B8.zero := by rw [← HY.out, if_neg (by decide)]
    subst hz
    exact endS w E Yb n3 c3 a3 h16 HKn a' w3 hPE K3
  · obtain ⟨y0, y1, y2, y3, y4, y5, y6, y7, y8, y9, y10, y11, y12, y13, y14, y15, r, hb3⟩ := list16_of b3 (by have := HN.out; omega)
    obtain ⟨hr1, hr2, hr3⟩ := rd_long y0 y1 y2 y3 y4 y5 y6 y7 y8 y9 y10 y11 y12 y13 y14 y15 r
    rw [← hb3] at hr1 hr2 hr3
    have hE : rdE (b3, 0) = if okV ⟨256 * ub y0 + ub y1, 256 * ub y2 + ub y3, 256 * ub y4 + ub y5, 256 * ub y6 + ub y7⟩ = true then 0 else 3 := by
      unfold rdE
      rw [hr1, hr2, if_neg (by simp)]
    have hyy : (if okV ⟨256 * ub y0 + ub y1, 256 * ub y2 + ub y3, 256 * ub y4 + ub y5, 256 * ub y6 + ub y7⟩ = true then dgC ⟨256 * ub y0 + ub y1, 256 * ub y2 + ub y3, 256 * ub y4 + ub y5, 256 * ub y6 + ub y7⟩ ⟨y8, y9, y10, y11, y12, y13, y14, y15⟩ else dgC V4.zero B8.zero) = yc := by
      rw [← HY.out, ← HF.out, hE, hr2, hr3]
      cases okV ⟨256 * ub y0 + ub y1, 256 * ub y2 + ub y3, 256 * ub y4 + ub y5, 256 * ub y6 + ub y7⟩ <;> rfl
    obtain ⟨c, o, ha, -⟩ : ∃ c o, a3 = some ⟨c, o, none⟩ ∧ True := by
      obtain ⟨a', c', hv, _, _, hx⟩ := HBt.out w3 K3.out.below
      obtain ⟨c, o, h1, _⟩ := hx (by have := HN.out; omega)
      injection hv with hv
      exact ⟨c, o, hv.trans h1, True.intro⟩
    subst ha
    have HC : Bx (∀ W, Below E w W → ∀ j, j < 16 → W.cell? ⟨c, o + j, none⟩ = some (.int .u8 (ub (b3.getD j 0)))) := ⟨fun W h j hj => by
      obtain ⟨a', c', hv, _, _, hx⟩ := HBt.out W h
      obtain ⟨c1, o1, h1, h2⟩ := hx (by have := HN.out; omega)
      injection hv with hv
      rw [← hv] at h1
      injection h1 with h1
      injection h1 with h1 h3
      subst h1 h3
      exact h2 j (by have := HN.out; omega)⟩
    exact endL w E Yb n3 c3 c o (ub y0) (ub y1) (ub y2) (ub y3) (ub y4) (ub y5) (ub y6) (ub y7) ⟨y8, y9, y10, y11, y12, y13, y14, y15⟩ (by omega) ⟨(ub_range y0), (ub_range y1), (ub_range y2), (ub_range y3), (ub_range y4), (ub_range y5), (ub_range y6), (ub_range y7)⟩ ⟨fun W h => ⟨(by have h1 := HC.out W h 0 (by omega); rw [hb3] at h1; exact h1), (by have h1 := HC.out W h 1 (by omega); rw [hb3] at h1; exact h1), (by have h1 := HC.out W h 2 (by omega); rw [hb3] at h1; exact h1), (by have h1 := HC.out W h 3 (by omega); rw [hb3] at h1; exact h1), (by have h1 := HC.out W h 4 (by omega); rw [hb3] at h1; exact h1), (by have h1 := HC.out W h 5 (by omega); rw [hb3] at h1; exact h1), (by have h1 := HC.out W h 6 (by omega); rw [hb3] at h1; exact h1), (by have h1 := HC.out W h 7 (by omega); rw [hb3] at h1; exact h1), (by have h1 := HC.out W h 8 (by omega); rw [hb3] at h1; exact h1), (by have h1 := HC.out W h 9 (by omega); rw [hb3] at h1; exact h1), (by have h1 := HC.out W h 10 (by omega); rw [hb3] at h1; exact h1), (by have h1 := HC.out W h 11 (by omega); rw [hb3] at h1; exact h1), (by have h1 := HC.out W h 12 (by omega); rw [hb3] at h1; exact h1), (by have h1 := HC.out W h 13 (by omega); rw [hb3] at h1; exact h1), (by have h1 := HC.out W h 14 (by omega); rw [hb3] at h1; exact h1), (by have h1 := HC.out W h 15 (by omega); rw [hb3] at h1; exact h1)⟩⟩ HKn _ f hyy (hE.symm.trans HF.out) a' w3 hPE K3
end Go.Proofs.YtnfgamekjbkbkaaDoor
