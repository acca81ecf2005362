/-
  DeltaDigests: a digest's bytes, and the digest of them.
-/
import Derived.Test.YtnfgamekjbkbkaaDoorNf
import Derived.Test.YtnfgamekjbkbkaaDoorD8
namespace Go.Proofs.YtnfgamekjbkbkaaDoor
open Go Go.RowKit
theorem rd_two9 (n : Int) (rest : List UInt8) (h0 : 0 ≤ n) (h1 : n ≤ 65535) : stepR (beN 2 n.toNat ++ rest, 0) 1 = (rest, 0) ∧ numR (beN 2 n.toNat ++ rest, 0) 1 = n := by
  have hw : wid 1 = 2 := by decide
  have hl : (beN 2 n.toNat).length = 2 := beN_length _ _
  have hle : wid 1 ≤ (beN 2 n.toNat ++ rest).length := by rw [hw, List.length_append, hl]; omega
  rw [stepR_long _ 1 (by omega) hle, numR_long _ 1 (by omega) hle, hw]
  refine ⟨?_, ?_⟩
  · rw [List.drop_append_of_le_length (by omega), List.drop_of_length_le (by omega)]
    rfl
  · rw [List.take_append_of_le_length (by omega), List.take_of_length_le (by omega)]
    exact val_at n 2 h0 (by omega)
theorem seven9 (W : World) : Bytes (W.alloc (.cells #[.int .u8 7] 5)) (.slice (some ⟨W.heap.size, 0, none⟩) 1 1) [7] := by
  refine ⟨some ⟨W.heap.size, 0, none⟩, 1, rfl, Nat.le_refl _, (fun h => by cases h), fun _ => ⟨W.heap.size, 0, rfl, fun i hi => ?_⟩⟩
  rw [cell_of_row _ _ _ _ _ _ (hnew W _ _ rfl)]
  obtain rfl : i = 0 := by simp at hi; omega
  rfl
theorem same_self9 (xs : List UInt8) (va vb : Value) (w : World) (ha : Bytes w va xs) (hb : Bytes w vb xs) (hl : xs.length ≤ 400) : Calls Tryd.prog 13 #[va, vb] w fun e w' => e = .returned (.bool true) ∧ Below w.heap.size w w' :=
  (same_any xs xs va vb w ha hb (by omega) (by omega)).mono fun e w' ⟨he, n, hn⟩ => ⟨by simpa using he, by subst hn; exact drewN_below (Below.refl _ _) n⟩
theorem rd_back9 (v : V4) (p : B8) (rest : List UInt8) (h : okV v = true) : nx1 (nx2 (dgB v p ++ rest, 0)) = (rest, 0) ∧ rdV (dgB v p ++ rest, 0) = v ∧ rdP (nx2 (dgB v p ++ rest, 0)) = p := by
  obtain ⟨⟨a1, a2⟩, ⟨b1, b2⟩, ⟨c1, c2⟩, d1, d2⟩ := (okV_iff v).1 h
  have e : dgB v p ++ rest = beN 2 v.a.toNat ++ (beN 2 v.b.toNat ++ (beN 2 v.c.toNat ++ (beN 2 v.d.toNat ++ (p.list ++ rest)))) := by
    unfold dgB
    simp only [List.append_assoc]
  have s1 := rd_two9 v.a (beN 2 v.b.toNat ++ (beN 2 v.c.toNat ++ (beN 2 v.d.toNat ++ (p.list ++ rest)))) a1 (by omega)
  have s2 := rd_two9 v.b (beN 2 v.c.toNat ++ (beN 2 v.d.toNat ++ (p.list ++ rest))) b1 (by omega)
  have s3 := rd_two9 v.c (beN 2 v.d.toNat ++ (p.list ++ rest)) c1 (by omega)
  have s4 := rd_two9 v.d (p.list ++ rest) d1 (by omega)
  have h2 : nx2 (dgB v p ++ rest, 0) = (p.list ++ rest, 0) := by
    unfold nx2
    rw [e, s1.1, s2.1, s3.1, s4.1]
  have h3 : p.list ++ rest = p.a :: p.b :: p.c :: p.d :: p.e :: p.f :: p.g :: p.h :: rest := rfl
  refine ⟨?_, ?_, ?_⟩
  · rw [h2, h3]
    unfold nx1
    rw [(one_step p.a _).1, (one_step p.b _).1, (one_step p.c _).1, (one_step p.d _).1, (one_step p.e _).1, (one_step p.f _).1, (one_step p.g _).1, (one_step p.h _).1]
  · unfold rdV
    rw [e, s1.1, s2.1, s3.1, s1.2, s2.2, s3.2, s4.2]
  · rw [h2, h3]
    unfold rdP
    rw [(one_step p.a _).1, (one_step p.b _).1, (one_step p.c _).1, (one_step p.d _).1, (one_step p.e _).1, (one_step p.f _).1, (one_step p.g _).1, (one_step p.a _).2, (one_step p.b _).2, (one_step p.c _).2, (one_step p.d _).2, (one_step p.e _).2, (one_step p.f _).2, (one_step p.g _).2, (one_step p.h _).2]
    simp only [u8N_ub]
theorem rdE_back9 (v : V4) (p : B8) (rest : List UInt8) (h : okV v = true) : rdE (dgB v p ++ rest, 0) = 0 := by
  obtain ⟨h1, h2, -⟩ := rd_back9 v p rest h
  unfold rdE
  rw [h1, h2, if_neg (by simp), if_pos h]
theorem split7 : restAt Tryd.f4.body 5 = .seq (partAt Tryd.f4.body 7) (restAt Tryd.f4.body 7) := by kernel_rfl
theorem split8 : restAt Tryd.f4.body 7 = .seq (partAt Tryd.f4.body 8) (restAt Tryd.f4.body 8) := by kernel_rfl
theorem split10 : restAt Tryd.f4.body 8 = .seq (partAt Tryd.f4.body 10) (restAt Tryd.f4.body 10) := by kernel_rfl
/-- The frame ahead of the bytes of a digest. -/
structure PM9 (v2 v4 : Value) (a : Act) : Prop where
  fr : Fr 200 a
  s2 : a.eval (.tmp 2) = v2
  s4 : a.eval (.tmp 4) = v4
/-- The frame behind the bytes of a digest. -/
structure PN9 (v2 v4 v11 v12 : Value) (a : Act) : Prop where
  fr : Fr 200 a
  s2 : a.eval (.tmp 2) = v2
  s4 : a.eval (.tmp 4) = v4
  s11 : a.eval (.tmp 11) = v11
  s12 : a.eval (.tmp 12) = v12
/-- What lies behind the bytes of a digest. -/
structure RM9 (w : World) (E n3 c3 : Nat) (a3 : Option Addr) (v : V4) (p : B8) (a : Act) (W : World) : Prop where
  q : ∃ u e, PN9 (.slice a3 n3 c3) (.pointer (some ⟨E + 1, 0, none⟩)) u (.int .i64 e) a ∧ KR w E [(E + 1, .cells #[.int .i64 v.a, .int .i64 v.b, .int .i64 v.c, .int .i64 v.d, .int .u8 (ub p.a), .int .u8 (ub p.b), .int .u8 (ub p.c), .int .u8 (ub p.d), .int .u8 (ub p.e), .int .u8 (ub p.f), .int .u8 (ub p.g), .int .u8 (ub p.h)] 50)] W ∧ ((okV v = true ∧ e = 0 ∧ ∃ g cap, u = .slice g 16 cap ∧ Bytes W u (dgB v p)) ∨ (okV v = false ∧ e = 10 ∧ u = .slice none 0 0))
set_option maxRecDepth 100000 in
set_option maxHeartbeats 16000000 in
theorem reg7 (w : World) (E n3 c3 : Nat) (a3 : Option Addr) (v : V4) (p : B8) (a : Act) (W : World) (h : PM9 (.slice a3 n3 c3) (.pointer (some ⟨E + 1, 0, none⟩)) a) (K0 : Bx (KR w E [(E + 1, .cells #[.int .i64 v.a, .int .i64 v.b, .int .i64 v.c, .int .i64 v.d, .int .u8 (ub p.a), .int .u8 (ub p.b), .int .u8 (ub p.c), .int .u8 (ub p.d), .int .u8 (ub p.e), .int .u8 (ub p.f), .int .u8 (ub p.g), .int .u8 (ub p.h)] 50)] W)) :
    Code.wp Tryd.prog (partAt Tryd.f4.body 7) (fun x a' w' => x = .normal ∧ RM9 w E n3 c3 a3 v p a' w') a W := by
  obtain ⟨y, rfl, hy⟩ := open200 h.fr
  have e2 := (hy 2).symm.trans h.s2
  have e4 := (hy 4).symm.trans h.s4
  clear h hy
  rw [e2, e4]
  clear e2 e4
  have HTo := Bx.mk (fun W => to9 v p W)
  have HOk := Bx.mk (fun W (h : okV v = true) => dbytes_ok v p W h)
  have HBd := Bx.mk (fun W (h : okV v = false) => dbytes_bad v p W h)
  unfold dgC at HTo HOk HBd
  conv => arg 2; whnf
  go_wp2_with (refine wpList_load_row rfl 50 _ rfl (E + 1) (by rfl) _ #[.int .i64 v.a, .int .i64 v.b, .int .i64 v.c, .int .i64 v.d, .int .u8 (ub p.a), .int .u8 (ub p.b), .int .u8 (ub p.c), .int .u8 (ub p.d), .int .u8 (ub p.e), .int .u8 (ub p.f), .int .u8 (ub p.g), .int .u8 (ub p.h)] (0, 0) _ (K0.out.rows _ (.head _)) Tryd.underlying50 rfl (by kernel_rfl) ?_)
  refine (HTo.out W).mono ?_
  rintro e w1 ⟨rfl, hb⟩
  have K1 := Bx.mk (K0.out.later hb)
  clear hb K0
  go_wp2_with fail
  cases hk : okV v with
  | true =>
    refine (HOk.out w1 hk).mono ?_
    rintro e w2 ⟨u, rfl, ho, hb⟩
    have K2 := Bx.mk (K1.out.later hb)
    obtain ⟨g, cap, hu⟩ := own_form ho
    rw [dgB_length] at hu
    subst hu
    have HU := Bx.mk ho.bytes
    clear hb K1 ho
    go_wp2
    exact ⟨_, _, ⟨⟨rfl, rfl⟩, rfl, rfl, rfl, rfl⟩, K2.out, .inl ⟨hk, rfl, g, cap, rfl, HU.out⟩⟩
  | false =>
    refine (HBd.out w1 hk).mono ?_
    rintro e w2 ⟨rfl, hb⟩
    have K2 := Bx.mk (K1.out.later hb)
    clear hb K1
    go_wp2
    exact ⟨_, _, ⟨⟨rfl, rfl⟩, rfl, rfl, rfl, rfl⟩, K2.out, .inr ⟨hk, rfl, rfl⟩⟩
set_option maxRecDepth 100000 in
set_option maxHeartbeats 16000000 in
theorem reg8 (w : World) (E n3 c3 : Nat) (a3 : Option Addr) (v : V4) (p : B8) (a : Act) (W : World) (h : RM9 w E n3 c3 a3 v p a W) :
    Code.wp Tryd.prog (partAt Tryd.f4.body 8) (fun x a' w' => x = .normal ∧ RM9 w E n3 c3 a3 v p a' w') a W := by
  obtain ⟨u, e0, hP, hK, hc⟩ := h.q
  have K0 := Bx.mk hK
  clear hK h
  have HR := Bx.mk (fun W => rright9 v W)
  rcases hc with ⟨hk, rfl, g, cap, rfl, hu⟩ | ⟨hk, rfl, rfl⟩
  · have HU := Bx.mk (fun W1 (h : Below W.heap.size W W1) => hu.later h)
    clear hu
    obtain ⟨y, rfl, hy⟩ := open200 hP.fr
    have e2 := (hy 2).symm.trans hP.s2
    have e4 := (hy 4).symm.trans hP.s4
    have e11 := (hy 11).symm.trans hP.s11
    have e12 := (hy 12).symm.trans hP.s12
    clear hP hy
    rw [e2, e4, e11, e12]
    clear e2 e4 e11 e12
    rw [hk] at HR
    conv => arg 2; whnf
    go_wp2_with (refine wpList_load_mid rfl 22 _ rfl (E + 1) 0 (by rfl) [.int .i64 v.a, .int .i64 v.b, .int .i64 v.c, .int .i64 v.d] _ (rng_dg9 (K0.out.rows _ (.head _))).1 Tryd.underlying22 rfl (by kernel_rfl) ?_)
    refine (HR.out W).mono ?_
    rintro e w1 ⟨rfl, hb⟩
    have K1 := Bx.mk (K0.out.later hb)
    have HU1 := Bx.mk (HU.out w1 hb)
    clear hb K0 HU
    go_wp2
    exact ⟨_, _, ⟨⟨rfl, rfl⟩, rfl, rfl, rfl, rfl⟩, K1.out, .inl ⟨hk, rfl, g, cap, rfl, HU1.out⟩⟩
  · obtain ⟨y, rfl, hy⟩ := open200 hP.fr
    have e2 := (hy 2).symm.trans hP.s2
    have e4 := (hy 4).symm.trans hP.s4
    have e11 := (hy 11).symm.trans hP.s11
    have e12 := (hy 12).symm.trans hP.s12
    clear hP hy
    rw [e2, e4, e11, e12]
    clear e2 e4 e11 e12
    rw [hk] at HR
    conv => arg 2; whnf
    go_wp2_with (refine wpList_load_mid rfl 22 _ rfl (E + 1) 0 (by rfl) [.int .i64 v.a, .int .i64 v.b, .int .i64 v.c, .int .i64 v.d] _ (rng_dg9 (K0.out.rows _ (.head _))).1 Tryd.underlying22 rfl (by kernel_rfl) ?_)
    refine (HR.out W).mono ?_
    rintro e w1 ⟨rfl, hb⟩
    have K1 := Bx.mk (K0.out.later hb)
    clear hb K0
    go_wp2
    exact ⟨_, _, ⟨⟨rfl, rfl⟩, rfl, rfl, rfl, rfl⟩, K1.out, .inr ⟨hk, rfl, rfl⟩⟩
theorem bytes_own9 {w w1 : World} {q : Nat} {g : Option Addr} {n cap : Nat} {bs l : List UInt8} {e : Int} (h : Bytes w (.slice g n cap) bs) (hr : IsR w q l e) (hg : w.grownBy w1 (some q)) : Bytes w1 (.slice g n cap) bs := by
  obtain ⟨v, hv, ⟨⟨a, c, rfl, -⟩, -⟩, -⟩ := hr
  exact (BytesN.grown (p := q) ⟨h, h.offA hv (fun i x hx => by rcases i with _ | _ | i <;> simp at hx)⟩ hg).1
theorem bel_own9 {w w1 : World} {base : Nat} {v : Value} {l : List UInt8} (hg : w.grownBy w1 v.ownBlock) (ho : OwnB w base v l) (hb : base ≤ w.heap.size) : Below base w w1 :=
  ⟨hg.os, hg.tape, hg.output, hg.size, fun i hi => hg.block i (by omega) (fun e => by have := (ho.lt i e.symm).2; omega)⟩
theorem kr_own9 {w : World} {E base : Nat} {rs : List (Nat × Obj)} {W W1 : World} {v : Value} {l : List UInt8} (h : KR w E rs W) (hg : W.grownBy W1 v.ownBlock) (ho : OwnB W base v l) (hE : E ≤ base) (hr : ∀ x ∈ rs, x.1 < base) : KR w E rs W1 := by
  have hb : Below E W W1 := ⟨hg.os, hg.tape, hg.output, hg.size, fun i hi => hg.block i (by have := h.le; omega) (fun e => by have := (ho.lt i e.symm).2; omega)⟩
  exact ⟨fun x hx => by rw [hg.block x.1 (h.lt hx) (fun e => by have := (ho.lt x.1 e.symm).2; have := hr x hx; omega)]; exact h.rows x hx, h.below.trans hb, Nat.le_trans h.le hg.size⟩
set_option maxRecDepth 100000 in
set_option maxHeartbeats 16000000 in
theorem reg10 (w : World) (E n3 c3 : Nat) (a3 : Option Addr) (v : V4) (p : B8) (a : Act) (W : World) (h : RM9 w E n3 c3 a3 v p a W) :
    Code.wp Tryd.prog (partAt Tryd.f4.body 10) (fun x a' w' => x = .normal ∧ PB9 (.slice a3 n3 c3) a' ∧ KR w E [] w') a W := by
  obtain ⟨u, e0, hP, hK, hc⟩ := h.q
  have K0 := Bx.mk hK
  clear hK h
  obtain ⟨y, rfl, hy⟩ := open200 hP.fr
  have e2 := (hy 2).symm.trans hP.s2
  have e4 := (hy 4).symm.trans hP.s4
  have e11 := (hy 11).symm.trans hP.s11
  have e12 := (hy 12).symm.trans hP.s12
  clear hP hy
  rw [e2, e4, e11, e12]
  clear e2 e4 e11 e12
  rcases hc with ⟨hk, rfl, g, cap, rfl, hu⟩ | ⟨hk, rfl, rfl⟩
  · have HU := Bx.mk (fun W1 (h : Below W.heap.size W W1) => hu.later h)
    clear hu
    obtain ⟨B, hB⟩ : ∃ B, W.heap.size = B := ⟨_, rfl⟩
    have HB0 : Bx (E + 1 < B) := ⟨by rw [← hB]; exact K0.out.lt (.head _)⟩
    conv => arg 2; whnf
    go_upto_region 11 with fail
    have HO0 : Bx (OwnB (W.alloc (.cells #[] 5)) B (.slice (some ⟨B, 0, none⟩) 0 0) [] ∧ Bytes (W.alloc (.cells #[] 5)) (.slice g 16 cap) (dgB v p)) := ⟨by have h := own_empty W B (by omega); rw [hB] at h; exact h, HU.out _ (below_a _)⟩
    go_wp2_with (first
      | (refine wpList_ap rfl _ _ rfl B _ [] (by rfl) HO0.out.1 _ (dgB v p) (by rfl) HO0.out.2 (by rw [dgB_length]; simp) (by simp; omega) ?_; intro v1 w1 ho hg _; rw [List.nil_append] at ho; have HO1 := Bx.mk ho; have KW1 := Bx.mk (kr_own9 (K0.out.later (below_a _)) hg HO0.out.1 (by have := HB0.out; omega) (by intro y hy; have := HB0.out; simp at hy; subst hy; simp only; omega)); have HB1 := Bx.mk ((below_a (W := W) (.cells #[] 5)).trans ((bel_own9 hg HO0.out.1 (by simp; omega)).mono (by omega))); clear ho hg)
      | (refine wpList_ap rfl _ _ rfl B _ (dgB v p) (by rfl) (HO1.out.later (below_a _) (fun g hg => (HO1.out.lt g hg).1)) _ [7] (by rfl) (seven9 w1) (by rw [dgB_length]; simp) (by have := HB1.out.size; simp; omega) ?_; intro v3 w3 ho hg _; have HO4 := Bx.mk ho; have KW3 := Bx.mk (kr_own9 (KW1.out.later (below_a _)) hg (HO1.out.later (below_a (.cells #[.int .u8 7] 5)) (fun g hg => (HO1.out.lt g hg).1)) (by have := HB0.out; omega) (by intro y hy; have := HB0.out; simp at hy; subst hy; simp only; omega)); have HB3 := Bx.mk (HB1.out.trans (((below_a (W := w1) (.cells #[.int .u8 7] 5)).mono (by have := HB1.out.size; omega)).trans ((bel_own9 hg (HO1.out.later (below_a (.cells #[.int .u8 7] 5)) (fun g hg => (HO1.out.lt g hg).1)) (by have := HB1.out.size; simp; omega)).mono (by omega)))); clear ho hg))
    refine (new_ok (dgB v p ++ [7]) v3 w3 HO4.out.bytes (by rw [List.length_append, dgB_length]; decide)).mono ?_
    rintro e w4 ⟨rfl, hr, hb⟩
    have K4 := Bx.mk (KW3.out.later hb)
    have HU4 := Bx.mk (HU.out w4 (by exact HB3.out.trans (hb.mono (by have := HB3.out.size; omega))))
    have HR4 := Bx.mk hr
    have HQ : Bx (E + 1 < w3.heap.size) := ⟨KW3.out.lt (.head _)⟩
    clear hr hb KW3 HO4 HB3 HB1 KW1 HO1 HU HO0 K0
    generalize w3.heap.size = q at *
    go_wp2_with fail
    refine (dread9 q (dgB v p ++ [7]) 0 w4 HR4.out (by rw [List.length_append, dgB_length]; decide)).mono ?_
    obtain ⟨hr1, hr2, hr3⟩ := rd_back9 v p [7] hk
    rw [rdE_back9 v p [7] hk, hr1, hr2, hr3, if_pos rfl]
    rintro e w5 ⟨rfl, hr, hg⟩
    have K5 := Bx.mk (K4.out.grown hg (by have := HQ.out; omega) (by intro y hy; have := HQ.out; simp at hy; subst hy; simp only; omega))
    have HU5 : Bx (Bytes w5 (.slice g 16 cap) (dgB v p)) := ⟨bytes_own9 HU4.out HR4.out hg⟩
    have HR5 := Bx.mk hr
    clear hr hg K4 HU4 HR4 hr1 hr2 hr3
    obtain ⟨Z, hZ⟩ : ∃ X, w5.heap.size = X := ⟨_, rfl⟩
    unfold dgC
    go_upto_region 13 with (refine wpList_store_v9 rfl 62 _ _ rfl w5 Z hZ #[.int .i64 0, .int .i64 0, .int .i64 0, .int .i64 0, .int .u8 0, .int .u8 0, .int .u8 0, .int .u8 0, .int .u8 0, .int .u8 0, .int .u8 0, .int .u8 0] 62 rfl (by rfl) #[.int .i64 v.a, .int .i64 v.b, .int .i64 v.c, .int .i64 v.d, .int .u8 (ub p.a), .int .u8 (ub p.b), .int .u8 (ub p.c), .int .u8 (ub p.d), .int .u8 (ub p.e), .int .u8 (ub p.f), .int .u8 (ub p.g), .int .u8 (ub p.h)] (by rfl) rfl (by kernel_rfl) (by simp [Value.oneCell']) ?_; intro w6 hb hr _; have Z6 : Bx (KR w E [(Z, .cells #[.int .i64 v.a, .int .i64 v.b, .int .i64 v.c, .int .i64 v.d, .int .u8 (ub p.a), .int .u8 (ub p.b), .int .u8 (ub p.c), .int .u8 (ub p.d), .int .u8 (ub p.e), .int .u8 (ub p.f), .int .u8 (ub p.g), .int .u8 (ub p.h)] 62), (E + 1, .cells #[.int .i64 v.a, .int .i64 v.b, .int .i64 v.c, .int .i64 v.d, .int .u8 (ub p.a), .int .u8 (ub p.b), .int .u8 (ub p.c), .int .u8 (ub p.d), .int .u8 (ub p.e), .int .u8 (ub p.f), .int .u8 (ub p.g), .int .u8 (ub p.h)] 50)] w6 ∧ Bytes w6 (.slice g 16 cap) (dgB v p) ∧ IsR w6 q [7] 0) := ⟨K5.out.var9 hZ hb hr, HU5.out.later hb, HR5.out.later hb⟩; clear hb hr K5 HU5 HR5)
    have HSl : Bx (∀ W, (KR w E [(Z, .cells #[.int .i64 v.a, .int .i64 v.b, .int .i64 v.c, .int .i64 v.d, .int .u8 (ub p.a), .int .u8 (ub p.b), .int .u8 (ub p.c), .int .u8 (ub p.d), .int .u8 (ub p.e), .int .u8 (ub p.f), .int .u8 (ub p.g), .int .u8 (ub p.h)] 62), (E + 1, .cells #[.int .i64 v.a, .int .i64 v.b, .int .i64 v.c, .int .i64 v.d, .int .u8 (ub p.a), .int .u8 (ub p.b), .int .u8 (ub p.c), .int .u8 (ub p.d), .int .u8 (ub p.e), .int .u8 (ub p.f), .int .u8 (ub p.g), .int .u8 (ub p.h)] 50)] W ∧ Bytes W (.slice g 16 cap) (dgB v p) ∧ IsR W q [7] 0) → W.rangeAt (E + 1) 0 [.int .i64 v.a, .int .i64 v.b, .int .i64 v.c, .int .i64 v.d, .int .u8 (ub p.a), .int .u8 (ub p.b), .int .u8 (ub p.c), .int .u8 (ub p.d), .int .u8 (ub p.e), .int .u8 (ub p.f), .int .u8 (ub p.g), .int .u8 (ub p.h)] ∧ W.rangeAt Z 0 [.int .i64 v.a, .int .i64 v.b, .int .i64 v.c, .int .i64 v.d, .int .u8 (ub p.a), .int .u8 (ub p.b), .int .u8 (ub p.c), .int .u8 (ub p.d), .int .u8 (ub p.e), .int .u8 (ub p.f), .int .u8 (ub p.g), .int .u8 (ub p.h)]) := ⟨fun W h => ⟨row_rng8 (l := [.int .i64 v.a, .int .i64 v.b, .int .i64 v.c, .int .i64 v.d, .int .u8 (ub p.a), .int .u8 (ub p.b), .int .u8 (ub p.c), .int .u8 (ub p.d), .int .u8 (ub p.e), .int .u8 (ub p.f), .int .u8 (ub p.g), .int .u8 (ub p.h)]) (h.1.rows _ (.tail _ (.head _))), row_rng8 (l := [.int .i64 v.a, .int .i64 v.b, .int .i64 v.c, .int .i64 v.d, .int .u8 (ub p.a), .int .u8 (ub p.b), .int .u8 (ub p.c), .int .u8 (ub p.d), .int .u8 (ub p.e), .int .u8 (ub p.f), .int .u8 (ub p.g), .int .u8 (ub p.h)]) (h.1.rows _ (.head _))⟩⟩
    have HLt : Bx (∀ W W1, (KR w E [(Z, .cells #[.int .i64 v.a, .int .i64 v.b, .int .i64 v.c, .int .i64 v.d, .int .u8 (ub p.a), .int .u8 (ub p.b), .int .u8 (ub p.c), .int .u8 (ub p.d), .int .u8 (ub p.e), .int .u8 (ub p.f), .int .u8 (ub p.g), .int .u8 (ub p.h)] 62), (E + 1, .cells #[.int .i64 v.a, .int .i64 v.b, .int .i64 v.c, .int .i64 v.d, .int .u8 (ub p.a), .int .u8 (ub p.b), .int .u8 (ub p.c), .int .u8 (ub p.d), .int .u8 (ub p.e), .int .u8 (ub p.f), .int .u8 (ub p.g), .int .u8 (ub p.h)] 50)] W ∧ Bytes W (.slice g 16 cap) (dgB v p) ∧ IsR W q [7] 0) → Below W.heap.size W W1 → (KR w E [(Z, .cells #[.int .i64 v.a, .int .i64 v.b, .int .i64 v.c, .int .i64 v.d, .int .u8 (ub p.a), .int .u8 (ub p.b), .int .u8 (ub p.c), .int .u8 (ub p.d), .int .u8 (ub p.e), .int .u8 (ub p.f), .int .u8 (ub p.g), .int .u8 (ub p.h)] 62), (E + 1, .cells #[.int .i64 v.a, .int .i64 v.b, .int .i64 v.c, .int .i64 v.d, .int .u8 (ub p.a), .int .u8 (ub p.b), .int .u8 (ub p.c), .int .u8 (ub p.d), .int .u8 (ub p.e), .int .u8 (ub p.f), .int .u8 (ub p.g), .int .u8 (ub p.h)] 50)] W1 ∧ Bytes W1 (.slice g 16 cap) (dgB v p) ∧ IsR W1 q [7] 0)) := ⟨fun W W1 h hb => ⟨h.1.later hb, h.2.1.later hb, h.2.2.later hb⟩⟩
    have HRb := Bx.mk (fun W => rdbytes9 v p W hk)
    have HOf := Bx.mk (fun W => of9 v p W)
    have hne := dg_neq v v p p
    rw [eqD_self] at hne
    simp only [Bool.not_true] at hne
    unfold dgC at HRb HOf
    have Z0 := Bx.mk (HLt.out _ _ Z6.out (Below.refl _ _).drew)
    clear Z6 hZ
    refine wp_region_noPanic ?_
    refine wp_region_held_drew (S := fun W => W.rangeAt (E + 1) 0 [.int .i64 v.a, .int .i64 v.b, .int .i64 v.c, .int .i64 v.d, .int .u8 (ub p.a), .int .u8 (ub p.b), .int .u8 (ub p.c), .int .u8 (ub p.d), .int .u8 (ub p.e), .int .u8 (ub p.f), .int .u8 (ub p.g), .int .u8 (ub p.h)] ∧ W.rangeAt Z 0 [.int .i64 v.a, .int .i64 v.b, .int .i64 v.c, .int .i64 v.d, .int .u8 (ub p.a), .int .u8 (ub p.b), .int .u8 (ub p.c), .int .u8 (ub p.d), .int .u8 (ub p.e), .int .u8 (ub p.f), .int .u8 (ub p.g), .int .u8 (ub p.h)]) (by kernel_rfl) (HSl.out _ Z0.out) (fun hHeld => ?_)
    generalize w6.drew = W0 at *
    refine takeL 0 (v := ?_) rfl (by kernel_rfl) (by kernel_rfl) (by kernel_rfl) (fun _ _ _ h => h) (Or.inl ⟨by rfl, ?_⟩) hHeld ?_
    rotate_left 1
    · (intro w hSw; go_simp; try with_reducible rfl)
    try simp only [Act.put, List.setIfInBounds_toArray, List.set_cons_zero, List.set_cons_succ]
    refine takeL 1 rfl (by kernel_rfl) (by kernel_rfl) (by kernel_rfl) (fun _ _ _ h => h) (yieldsIf_load_mid (by rfl) _ _ rfl _ _ rfl _ _ (fun w hSw => hSw.1) Tryd.underlying50 rfl (by kernel_rfl)) hHeld ?_
    try simp only [Act.put, List.setIfInBounds_toArray, List.set_cons_zero, List.set_cons_succ]
    refine stepL 2 (by kernel_rfl) rfl (fun K hK => ?_)
    go_simp
    refine (HRb.out W0).mono ?_
    rintro e W1 ⟨u6, rfl, ho6, hb⟩
    show K _ _
    have HB6 := Bx.mk ho6.bytes
    clear ho6
    have R1 := Bx.mk (HLt.out _ _ Z0.out hb)
    clear hb Z0
    refine hK.out _ _ (HSl.out _ R1.out) (fun hHeld => ?_)
    clear hK K
    try simp only [Act.put, List.setIfInBounds_toArray, List.set_cons_zero, List.set_cons_succ]
    refine stepL 3 (by kernel_rfl) rfl (fun K hK => ?_)
    go_simp
    refine (same_self9 (dgB v p) _ u6 W1 R1.out.2.1 HB6.out (by rw [dgB_length]; omega)).mono ?_
    rintro e W2 ⟨rfl, hb⟩
    show K _ _
    have R2 := Bx.mk (HLt.out _ _ R1.out hb)
    clear hb R1
    refine hK.out _ _ (HSl.out _ R2.out) (fun hHeld => ?_)
    clear hK K
    try simp only [Act.put, List.setIfInBounds_toArray, List.set_cons_zero, List.set_cons_succ]
    refine takeL 4 (v := ?_) rfl (by kernel_rfl) (by kernel_rfl) (by kernel_rfl) (fun _ _ _ h => h) (Or.inl ⟨by rfl, ?_⟩) hHeld ?_
    rotate_left 1
    · (intro w hSw; go_simp; try with_reducible rfl)
    try simp only [Act.put, List.setIfInBounds_toArray, List.set_cons_zero, List.set_cons_succ]
    refine takeL 5 (v := ?_) rfl (by kernel_rfl) (by kernel_rfl) (by kernel_rfl) (fun _ _ _ h => h) (Or.inl ⟨by rfl, ?_⟩) hHeld ?_
    rotate_left 1
    · (intro w hSw; go_simp; try with_reducible rfl)
    try simp only [Act.put, List.setIfInBounds_toArray, List.set_cons_zero, List.set_cons_succ]
    refine takeL 6 (v := ?_) rfl (by kernel_rfl) (by kernel_rfl) (by kernel_rfl) (fun _ _ _ h => h) (Or.inl ⟨by rfl, ?_⟩) hHeld ?_
    rotate_left 1
    · (intro w hSw; go_simp; try with_reducible rfl)
    try simp only [Act.put, List.setIfInBounds_toArray, List.set_cons_zero, List.set_cons_succ]
    refine takeL 7 (v := ?_) rfl (by kernel_rfl) (by kernel_rfl) (by kernel_rfl) (fun _ _ _ h => h) (Or.inl ⟨by rfl, ?_⟩) hHeld ?_
    rotate_left 1
    · (intro w hSw; go_simp; try with_reducible rfl)
    try simp only [Act.put, List.setIfInBounds_toArray, List.set_cons_zero, List.set_cons_succ]
    refine takeL 8 (v := ?_) rfl (by kernel_rfl) (by kernel_rfl) (by kernel_rfl) (fun _ _ _ h => h) (Or.inl ⟨by rfl, ?_⟩) hHeld ?_
    rotate_left 1
    · (intro w hSw; go_simp; try with_reducible rfl)
    try simp only [Act.put, List.setIfInBounds_toArray, List.set_cons_zero, List.set_cons_succ]
    refine takeL 9 (v := ?_) rfl (by kernel_rfl) (by kernel_rfl) (by kernel_rfl) (fun _ _ _ h => h) (Or.inl ⟨by rfl, ?_⟩) hHeld ?_
    rotate_left 1
    · (intro w hSw; go_simp; try with_reducible rfl)
    try simp only [Act.put, List.setIfInBounds_toArray, List.set_cons_zero, List.set_cons_succ]
    refine takeL 10 (v := ?_) rfl (by kernel_rfl) (by kernel_rfl) (by kernel_rfl) (fun _ _ _ h => h) (Or.inl ⟨by rfl, ?_⟩) hHeld ?_
    rotate_left 1
    · (intro w hSw; go_simp; try with_reducible rfl)
    try simp only [Act.put, List.setIfInBounds_toArray, List.set_cons_zero, List.set_cons_succ]
    refine takeL 11 (v := ?_) rfl (by kernel_rfl) (by kernel_rfl) (by kernel_rfl) (fun _ _ _ h => h) (Or.inl ⟨by rfl, ?_⟩) hHeld ?_
    rotate_left 1
    · (intro w hSw; go_simp; try with_reducible rfl)
    try simp only [Act.put, List.setIfInBounds_toArray, List.set_cons_zero, List.set_cons_succ]
    refine takeL 12 (v := ?_) rfl (by kernel_rfl) (by kernel_rfl) (by kernel_rfl) (fun _ _ _ h => h) (Or.inl ⟨by rfl, ?_⟩) hHeld ?_
    rotate_left 1
    · (intro w hSw; go_simp; try with_reducible rfl)
    try simp only [Act.put, List.setIfInBounds_toArray, List.set_cons_zero, List.set_cons_succ]
    refine takeL 13 (v := ?_) rfl (by kernel_rfl) (by kernel_rfl) (by kernel_rfl) (fun _ _ _ h => h) (Or.inl ⟨by rfl, ?_⟩) hHeld ?_
    rotate_left 1
    · (intro w hSw; go_simp; try with_reducible rfl)
    try simp only [Act.put, List.setIfInBounds_toArray, List.set_cons_zero, List.set_cons_succ]
    refine takeL 14 (v := ?_) rfl (by kernel_rfl) (by kernel_rfl) (by kernel_rfl) (fun _ _ _ h => h) (Or.inl ⟨by rfl, ?_⟩) hHeld ?_
    rotate_left 1
    · (intro w hSw; go_simp; try with_reducible rfl)
    try simp only [Act.put, List.setIfInBounds_toArray, List.set_cons_zero, List.set_cons_succ]
    refine takeL 15 rfl (by kernel_rfl) (by kernel_rfl) (by kernel_rfl) (fun _ _ _ h => h) (yieldsIf_load_mid (by rfl) _ _ rfl _ _ rfl _ _ (fun w hSw => hSw.2) Tryd.underlying62 rfl (by kernel_rfl)) hHeld ?_
    try simp only [Act.put, List.setIfInBounds_toArray, List.set_cons_zero, List.set_cons_succ]
    refine takeL 17 rfl (by kernel_rfl) (by kernel_rfl) (by kernel_rfl) (fun _ _ _ h => h) (yieldsIf_load_mid (by rfl) _ _ rfl _ _ rfl _ _ (fun w hSw => hSw.1) Tryd.underlying50 rfl (by kernel_rfl)) hHeld ?_
    try simp only [Act.put, List.setIfInBounds_toArray, List.set_cons_zero, List.set_cons_succ]
    refine stepL 16 (by kernel_rfl) rfl (fun K hK => ?_)
    go_simp
    refine (HOf.out W2).mono ?_
    rintro e W3 ⟨rfl, hb⟩
    show K _ _
    have R3 := Bx.mk (HLt.out _ _ R2.out hb)
    clear hb R2
    refine hK.out _ _ (HSl.out _ R3.out) (fun hHeld => ?_)
    clear hK K
    try simp only [Act.put, List.setIfInBounds_toArray, List.set_cons_zero, List.set_cons_succ]
    refine takeL 18 (v := ?_) rfl (by kernel_rfl) (by kernel_rfl) (by kernel_rfl) (fun _ _ _ h => h) (Or.inl ⟨by rfl, ?_⟩) hHeld ?_
    rotate_left 1
    · (intro w hSw; go_simp; try with_reducible rfl)
    try simp only [Act.put, List.setIfInBounds_toArray, List.set_cons_zero, List.set_cons_succ]
    refine takeL 19 (v := ?_) rfl (by kernel_rfl) (by kernel_rfl) (by kernel_rfl) (fun _ _ _ h => h) (Or.inl ⟨by rfl, ?_⟩) hHeld ?_
    rotate_left 1
    · (intro w hSw; go_simp; try with_reducible rfl)
    try simp only [Act.put, List.setIfInBounds_toArray, List.set_cons_zero, List.set_cons_succ]
    refine takeL 20 (v := ?_) rfl (by kernel_rfl) (by kernel_rfl) (by kernel_rfl) (fun _ _ _ h => h) (Or.inl ⟨by rfl, ?_⟩) hHeld ?_
    rotate_left 1
    · (intro w hSw; go_simp; try with_reducible rfl)
    try simp only [Act.put, List.setIfInBounds_toArray, List.set_cons_zero, List.set_cons_succ]
    refine takeL 21 (v := ?_) rfl (by kernel_rfl) (by kernel_rfl) (by kernel_rfl) (fun _ _ _ h => h) (Or.inl ⟨by rfl, ?_⟩) hHeld ?_
    rotate_left 1
    · (intro w hSw; go_simp; try with_reducible rfl)
    try simp only [Act.put, List.setIfInBounds_toArray, List.set_cons_zero, List.set_cons_succ]
    refine stepL 22 (by kernel_rfl) rfl (fun K hK => ?_)
    go_simp
    refine (left_any q [7] 0 W3 R3.out.2.2).mono ?_
    rintro e W4 ⟨rfl, hw9⟩
    show K _ _
    rw [hw9]
    clear hw9 W4
    have R4 := R3
    generalize W3 = W4 at *
    clear R3
    refine hK.out _ _ (HSl.out _ R4.out) (fun hHeld => ?_)
    clear hK K
    try simp only [Act.put, List.setIfInBounds_toArray, List.set_cons_zero, List.set_cons_succ]
    refine takeL 23 (v := ?_) rfl (by kernel_rfl) (by kernel_rfl) (by kernel_rfl) (fun _ _ _ h => h) (Or.inl ⟨by rfl, ?_⟩) hHeld ?_
    rotate_left 1
    · (intro w hSw; go_simp; try with_reducible rfl)
    try simp only [Act.put, List.setIfInBounds_toArray, List.set_cons_zero, List.set_cons_succ]
    refine takeL 24 (v := ?_) rfl (by kernel_rfl) (by kernel_rfl) (by kernel_rfl) (fun _ _ _ h => h) (Or.inl ⟨by rfl, ?_⟩) hHeld ?_
    rotate_left 1
    · (intro w hSw; go_simp; try with_reducible rfl)
    try simp only [Act.put, List.setIfInBounds_toArray, List.set_cons_zero, List.set_cons_succ]
    refine wpAnyH_done (by kernel_rfl) ?_ _
    refine NoPanic.normal ?_
    clear hHeld
    go_wp2
    exact ⟨⟨⟨rfl, rfl⟩, rfl⟩, R4.out.1.sub (fun _ h => (List.not_mem_nil h).elim)⟩
  · conv => arg 2; whnf
    go_wp2
    exact ⟨⟨⟨rfl, rfl⟩, rfl⟩, K0.out.sub (fun _ h => (List.not_mem_nil h).elim)⟩
end Go.Proofs.YtnfgamekjbkbkaaDoor
