/-
  The walk of TokenFull.
-/
import Derived.Test.YtiengbmnfbbgoaaDoorQm
namespace Go.Proofs.YtiengbmnfbbgoaaDoor
open Go Go.RowKit
set_option maxRecDepth 100000 in
theorem open102 {a : Act} (h : Fr 102 a) : ∃ x : Nat → Value, a = ⟨List.toArray (x 0 :: x 1 :: x 2 :: x 3 :: x 4 :: x 5 :: x 6 :: x 7 :: x 8 :: x 9 :: x 10 :: x 11 :: x 12 :: x 13 :: x 14 :: x 15 :: x 16 :: x 17 :: x 18 :: x 19 :: x 20 :: x 21 :: x 22 :: x 23 :: x 24 :: x 25 :: x 26 :: x 27 :: x 28 :: x 29 :: x 30 :: x 31 :: x 32 :: x 33 :: x 34 :: x 35 :: x 36 :: x 37 :: x 38 :: x 39 :: x 40 :: x 41 :: x 42 :: x 43 :: x 44 :: x 45 :: x 46 :: x 47 :: x 48 :: x 49 :: x 50 :: x 51 :: x 52 :: x 53 :: x 54 :: x 55 :: x 56 :: x 57 :: x 58 :: x 59 :: x 60 :: x 61 :: x 62 :: x 63 :: x 64 :: x 65 :: x 66 :: x 67 :: x 68 :: x 69 :: x 70 :: x 71 :: x 72 :: x 73 :: x 74 :: x 75 :: x 76 :: x 77 :: x 78 :: x 79 :: x 80 :: x 81 :: x 82 :: x 83 :: x 84 :: x 85 :: x 86 :: x 87 :: x 88 :: x 89 :: x 90 :: x 91 :: x 92 :: x 93 :: x 94 :: x 95 :: x 96 :: x 97 :: x 98 :: x 99 :: x 100 :: x 101 :: []), []⟩ ∧ ∀ i, a.eval (.tmp i) = x i := ⟨fun i => a.tmps.getD i undef, h.form, fun _ => rfl⟩
theorem lowM (a : Int) (m : Nat) (hm : 0 < m) (hm2 : m ≤ 1000000) : ∃ x : Nat, x < m ∧ wrap64 ((IntKind.u64.wrap a).tmod (m : Int)) = (x : Int) := by
  have h0 : 0 ≤ IntKind.u64.wrap a := by rw [IntKind.wrap_u64]; omega
  rw [Int.tmod_eq_emod_of_nonneg h0]
  generalize IntKind.u64.wrap a = z at h0
  have h1 := Int.emod_lt_of_pos z (show (0 : Int) < (m : Int) by omega)
  have h2 := Int.emod_nonneg z (show (m : Int) ≠ 0 by omega)
  refine ⟨(z % (m : Int)).toNat, by omega, ?_⟩
  rw [IntWalk.wrap64_in _ (by omega)]
  omega
/-- The master key of the statement. -/
def keyF : List UInt8 := [48, 49, 50, 51, 52, 53, 54, 55, 56, 57, 97, 98, 99, 100, 101, 102]
/-- The claims of the first tokens. -/
def flC (id ex : Int) : Nat → List Cl
  | 0 => []
  | k + 1 => flC id ex k ++ [⟨id, ((mkN [] : Nat) : Int), ex, ((flC id ex k).length : Int) + 1⟩]
theorem flC_length (id ex : Int) (k : Nat) : (flC id ex k).length = k := by
  induction k with
  | zero => rfl
  | succ k ih => rw [flC, List.length_append, ih]; rfl
theorem okF {id ex : Int} (hid : 1 ≤ id ∧ id ≤ 65535) (hex : 0 ≤ ex ∧ ex < 1000) (k : Nat) (hk : k < 256) : okC ⟨id, ((mkN [] : Nat) : Int), ex, ((flC id ex k).length : Int) + 1⟩ = true := by
  rw [flC_length, okC_iff, show mkN [] = 0 from rfl]
  omega
theorem KM.drop {w : World} {M : Nat} {rs : List (Nat × Obj)} {l : List Cl} {v : Value} {bs : List UInt8} {W : World} (h : KM w M rs l v bs W) : KM w M [] l v bs W := ⟨fun _ hx => (List.not_mem_nil hx).elim, h.grown, h.lt, h.row⟩
/-- What stays in the frame. -/
structure FK (id ex : Int) (M : Nat) (a : Act) : Prop where
  fr : Fr 102 a
  s0 : a.eval (.tmp 0) = .int .i64 id
  s1 : a.eval (.tmp 1) = .int .i64 ex
  s5 : a.eval (.tmp 5) = .pointer (some ⟨M, 0, none⟩)
/-- What stays in memory. -/
def FM (w : World) (M : Nat) (id ex : Int) (v : Value) (k : Nat) (W : World) : Prop := KM w M [] (flC id ex k) v keyF W
structure IF (w : World) (M : Nat) (id ex : Int) (v : Value) (k : Nat) (a : Act) (wr : World) : Prop where
  kf : FK id ex M a
  s7 : a.eval (.tmp 7) = .int .i64 (k : Int)
  st : FM w M id ex v k wr
set_option maxRecDepth 100000 in
set_option maxHeartbeats 2000000 in
theorem roundF (w : World) (M : Nat) (id ex : Int) (v : Value) (hid : 1 ≤ id ∧ id ≤ 65535) (hex : 0 ≤ ex ∧ ex < 1000) (hTab : Tab w) (hg : 0 < w.heap.size) (hgM : 0 ≠ M)
    (Q : Exit → Act → World → Prop) (k : Nat) (a : Act) (wr : World) (hk : k < 256) (h : IF w M id ex v k a wr) :
    Code.wp Tryd.prog (loopAt (Tryd.f7.body) 0) (Exit.then (fun a' w' => IF w M id ex v (k + 1) a' w') Q) a wr := by
  obtain ⟨zc, hzc⟩ : ∃ zc, tkC c0 z32 = zc := ⟨_, rfl⟩
  have hzv : ∀ W : World, (zeroValue 39).run Tryd.prog W = .ok (.agg zc) W := fun W => by rw [← hzc]; exact tk_zero W
  have HS := Bx.mk h.st
  have HIs : Bx (Calls Tryd.prog 32 #[.pointer (some ⟨M, 0, none⟩), .int .i64 id, .int .i64 ex, .slice none 0 0] wr fun e w' => e = .returned (.tuple #[tkV ⟨id, ((mkN [] : Nat) : Int), ex, ((flC id ex k).length : Int) + 1⟩ (secK keyF ⟨id, ((mkN [] : Nat) : Int), ex, ((flC id ex k).length : Int) + 1⟩), .int .i64 0]) ∧ Issued M (flC id ex k) (flC id ex (k + 1)) wr w') := Bx.mk (issue_ok M (flC id ex k) keyF id ex [] (.slice none 0 0) wr h.st.mt (by rw [flC_length]; exact hk) ⟨none, 0, rfl, Nat.le_refl _, fun _ => rfl, fun h => by simp at h⟩ (by decide) (by decide) (okF hid hex k hk) (by decide) (hTab.grown h.st.grown hg hgM) (Nat.lt_of_lt_of_le hg h.st.grown.size) hgM)
  have HSl : Bx ((secK keyF ⟨id, ((mkN [] : Nat) : Int), ex, ((flC id ex k).length : Int) + 1⟩).length = 32) := Bx.mk (secK_length _ _)
  generalize secK keyF ⟨id, ((mkN [] : Nat) : Int), ex, ((flC id ex k).length : Int) + 1⟩ = sk at *
  have HI : Bx ((Tryd.prog.info? 39).map (·.size) = some (tkC ⟨id, ((mkN [] : Nat) : Int), ex, ((flC id ex k).length : Int) + 1⟩ sk).size ∧ (tkC ⟨id, ((mkN [] : Nat) : Int), ex, ((flC id ex k).length : Int) + 1⟩ sk).all (·.oneCell') = true ∧ (tkC ⟨id, ((mkN [] : Nat) : Int), ex, ((flC id ex k).length : Int) + 1⟩ sk).size = zc.size) := Bx.mk ⟨tk_info _ _ HSl.out, tkC_one _ _, by rw [← hzc, tkC_size _ _ HSl.out, tkC_size _ _ rfl]⟩
  have HC3 : Bx (∀ (W : World) (D : Nat) (t : TypeId), W.heap[D]? = some (.cells (tkC ⟨id, ((mkN [] : Nat) : Int), ex, ((flC id ex k).length : Int) + 1⟩ sk) t (0, 0)) → W.cell? ⟨D, 3, none⟩ = some (.int .i64 ((k : Int) + 1))) := Bx.mk fun W D t h => by
    have h1 := tk_in h
    rw [h1, flC_length]
  unfold tkV at HIs
  generalize tkC ⟨id, ((mkN [] : Nat) : Int), ex, ((flC id ex k).length : Int) + 1⟩ sk = kk at *
  obtain ⟨x, rfl, hx⟩ := open102 h.kf.fr
  have e0 := (hx 0).symm.trans h.kf.s0
  have e1 := (hx 1).symm.trans h.kf.s1
  have e5 := (hx 5).symm.trans h.kf.s5
  have e7 := (hx 7).symm.trans h.s7
  clear h hx hid hex hTab hg hgM hzc
  rw [e0, e1, e5, e7]
  clear e0 e1 e5 e7
  have hk1 : (k : Int) < 256 := by omega
  conv => arg 2; whnf
  go_wp2_with fail
  refine HIs.out.mono ?_
  rintro e w1 ⟨rfl, hi⟩
  have H1 := Bx.mk ((show KM w M [] (flC id ex k) v keyF wr from HS.out).minted hi)
  clear hi HS HIs
  obtain ⟨D, hD⟩ : ∃ D, w1.heap.size = D := ⟨_, rfl⟩
  have H2 := Bx.mk (H1.out.new (.cells zc 39))
  rw [hD] at H2
  clear H1
  go_upto_region 9 with (refine wpList_store_new rfl 39 _ _ rfl D kk zc _ (by rfl) (by rfl) (H2.out.rows _ (.head _)).1 HI.out.2.2 HI.out.1 HI.out.2.1 ?_; intro w3 hw8 hr8; have hg8 := Bx.mk (kb_of hw8); have HR8 := Bx.mk hr8; clear hw8 hr8)
  have H3 := Bx.mk (H2.out.set hg8.out HR8.out (fun y hy => (List.not_mem_nil hy).elim)).drop
  have c3 := HC3.out _ _ _ HR8.out
  clear H2 hg8 HR8 hD
  go_wp2
  exact ⟨⟨⟨rfl, rfl⟩, rfl, rfl, rfl⟩, by first | rfl | go_num, H3.out⟩
set_option maxRecDepth 100000 in
set_option maxHeartbeats 1000000 in
theorem lastF (w : World) (M : Nat) (id ex : Int) (v : Value)
    (Q : Exit → Act → World → Prop) (N : Act → World → Prop)
    (hq : ∀ a' w', FK id ex M a' → FM w M id ex v 256 w' → Q (.exit 0) a' w') (a : Act) (wr : World) (h : IF w M id ex v 256 a wr) :
    Code.wp Tryd.prog (loopAt (Tryd.f7.body) 0) (Exit.then N Q) a wr := by
  have HS := Bx.mk h.st
  have HQ := Bx.mk hq
  obtain ⟨x, rfl, hx⟩ := open102 h.kf.fr
  have e0 := (hx 0).symm.trans h.kf.s0
  have e1 := (hx 1).symm.trans h.kf.s1
  have e5 := (hx 5).symm.trans h.kf.s5
  have e7 := (hx 7).symm.trans h.s7
  clear h hx hq
  rw [e0, e1, e5, e7]
  clear e0 e1 e5 e7
  conv => arg 2; whnf
  go_wp2
  exact HQ.out _ _ ⟨⟨rfl, rfl⟩, rfl, rfl, rfl⟩ HS.out
theorem loopF (w : World) (M : Nat) (id ex : Int) (v : Value) (hid : 1 ≤ id ∧ id ≤ 65535) (hex : 0 ≤ ex ∧ ex < 1000) (hTab : Tab w) (hg : 0 < w.heap.size) (hgM : 0 ≠ M)
    (Q : Exit → Act → World → Prop) (a : Act) (wr : World) (h : IF w M id ex v 0 a wr) (hq : ∀ a' w', FK id ex M a' → FM w M id ex v 256 w' → Q (.exit 0) a' w') :
    Code.wp Tryd.prog (.loop (loopAt (Tryd.f7.body) 0)) Q a wr :=
  wp_count 256 (fun k a w' => IF w M id ex v k a w') 0 (Nat.zero_le _) h (fun k a w' hk hI => roundF w M id ex v hid hex hTab hg hgM Q k a w' hk hI) (fun a w' hI => lastF w M id ex v Q _ hq a w' hI)
set_option maxRecDepth 100000 in
set_option maxHeartbeats 2000000 in
theorem full6_any (a b : Int) (w : World) (hTab : Tab w) (hg : 0 < w.heap.size) :
    Calls Tryd.prog 7 #[.int .i64 a, .int .i64 b] w fun e w' => e = .returned (.bool true) ∧ Below w.heap.size w w' := by
  obtain ⟨zc, hzc⟩ : ∃ zc, tkC c0 z32 = zc := ⟨_, rfl⟩
  have hzv : ∀ W : World, (zeroValue 39).run Tryd.prog W = .ok (.agg zc) W := fun W => by rw [← hzc]; exact tk_zero W
  have HM1 : Bx ((Tryd.prog.info? 39).map (·.size) = some zc.size ∧ zc.all (·.oneCell') = true) := Bx.mk (by rw [← hzc]; exact ⟨tk_info _ _ rfl, tkC_one _ _⟩)
  have HNil : Bx (∀ (i x : Int) W, Calls Tryd.prog 32 #[.pointer none, .int .i64 i, .int .i64 x, .slice none 0 0] W fun e w' => e = .returned (.tuple #[.agg zc, .int .i64 11]) ∧ Below W.heap.size W w') := Bx.mk fun i x W => by rw [← hzc]; exact issue_nil i x _ W
  have HFu : Bx (∀ (M : Nat) (i x : Int) W l, MT W M l keyF → l.length = 256 → Calls Tryd.prog 32 #[.pointer (some ⟨M, 0, none⟩), .int .i64 i, .int .i64 x, .slice none 0 0] W fun e w' => e = .returned (.tuple #[.agg zc, .int .i64 6]) ∧ Below W.heap.size W w') := Bx.mk fun M i x W l hm hl => by rw [← hzc]; exact issue_full M l keyF i x [] _ W hm hl ⟨none, 0, rfl, Nat.le_refl _, fun _ => rfl, fun h => by simp at h⟩ (by decide) (by decide)
  have HT : Bx (∀ W, Below w.heap.size w W → Tab W ∧ 0 < W.heap.size) := Bx.mk fun W hb => ⟨hTab.later hb hg, Nat.lt_of_lt_of_le hg hb.size⟩
  have HG := Bx.mk hg
  clear hTab hg hzc
  obtain ⟨x0, hx0, hx1⟩ := lowM a 65535 (by omega) (by omega)
  obtain ⟨y0, hy0, hy1⟩ := lowM b 1000 (by omega) (by omega)
  have hx1 : wrap64 ((IntKind.u64.wrap a).tmod 65535) = (x0 : Int) := hx1
  have hy1 : wrap64 ((IntKind.u64.wrap b).tmod 1000) = (y0 : Int) := hy1
  have hx2 : (x0 : Int) < 65535 := by omega
  have hy2 : (y0 : Int) < 1000 := by omega
  have hcv := fun (w : World) (C : Array Value) (n c : Nat) => Lib.run_convert_bytes_const (P := Tryd.prog) w 22 5 C n c Tryd.underlying22 Tryd.underlying5
  have H0 : Bx (Below w.heap.size w (w.alloc (.cells (u8s keyF) 5 (16, 17))) ∧ Bytes (w.alloc (.cells (u8s keyF) 5 (16, 17))) (.slice (some ⟨w.heap.size, 0, none⟩) 16 16) keyF) := Bx.mk ⟨below_a _, _, 16, rfl, Nat.le_refl _, (fun h => by cases h), fun _ => ⟨w.heap.size, 0, rfl, fun j hj => by rw [cell_of_row _ _ _ _ _ _ (hnew _ _ _ rfl), Nat.zero_add]; exact u8s_get keyF j hj⟩⟩
  obtain ⟨B, hB⟩ : ∃ B, w.heap.size = B := ⟨_, rfl⟩
  have HB := Bx.mk hB
  rw [hB] at HT HG ⊢
  clear hB
  go_enter Tryd.func7, Tryd.ntmps7
  go_wp2_with fail
  change Bx (Below w.heap.size w (w.alloc (.cells #[.int .u8 48, .int .u8 49, .int .u8 50, .int .u8 51, .int .u8 52, .int .u8 53, .int .u8 54, .int .u8 55, .int .u8 56, .int .u8 57, .int .u8 97, .int .u8 98, .int .u8 99, .int .u8 100, .int .u8 101, .int .u8 102] 5 (#[Value.int .u8 48, .int .u8 49, .int .u8 50, .int .u8 51, .int .u8 52, .int .u8 53, .int .u8 54, .int .u8 55, .int .u8 56, .int .u8 57, .int .u8 97, .int .u8 98, .int .u8 99, .int .u8 100, .int .u8 101, .int .u8 102].size, #[Value.int .u8 48, .int .u8 49, .int .u8 50, .int .u8 51, .int .u8 52, .int .u8 53, .int .u8 54, .int .u8 55, .int .u8 56, .int .u8 57, .int .u8 97, .int .u8 98, .int .u8 99, .int .u8 100, .int .u8 101, .int .u8 102].size + 1))) ∧ Bytes (w.alloc (.cells #[.int .u8 48, .int .u8 49, .int .u8 50, .int .u8 51, .int .u8 52, .int .u8 53, .int .u8 54, .int .u8 55, .int .u8 56, .int .u8 57, .int .u8 97, .int .u8 98, .int .u8 99, .int .u8 100, .int .u8 101, .int .u8 102] 5 (#[Value.int .u8 48, .int .u8 49, .int .u8 50, .int .u8 51, .int .u8 52, .int .u8 53, .int .u8 54, .int .u8 55, .int .u8 56, .int .u8 57, .int .u8 97, .int .u8 98, .int .u8 99, .int .u8 100, .int .u8 101, .int .u8 102].size, #[Value.int .u8 48, .int .u8 49, .int .u8 50, .int .u8 51, .int .u8 52, .int .u8 53, .int .u8 54, .int .u8 55, .int .u8 56, .int .u8 57, .int .u8 97, .int .u8 98, .int .u8 99, .int .u8 100, .int .u8 101, .int .u8 102].size + 1))) (.slice (some ⟨w.heap.size, 0, none⟩) 16 16) keyF) at H0
  generalize w.alloc (.cells #[.int .u8 48, .int .u8 49, .int .u8 50, .int .u8 51, .int .u8 52, .int .u8 53, .int .u8 54, .int .u8 55, .int .u8 56, .int .u8 57, .int .u8 97, .int .u8 98, .int .u8 99, .int .u8 100, .int .u8 101, .int .u8 102] 5 _) = w0 at *
  refine (mnew_ok keyF _ w0 H0.out.2 (by decide) (by decide)).mono ?_
  rintro e w1 ⟨M, rfl, hm1, hM, hb1⟩
  obtain ⟨v1, hk1⟩ := KM.start hm1
  have H1 := Bx.mk (And.intro hk1 (And.intro (show Below B w w1 from by rw [← HB.out]; exact H0.out.1.trans (hb1.mono H0.out.1.size)) (show B ≤ M from Nat.le_trans (Nat.le_trans (Nat.le_of_eq HB.out.symm) H0.out.1.size) hM)))
  clear hm1 hM hb1 hk1 H0
  go_upto_region 5 with fail
  have HX : Bx ((1 ≤ 1 + (x0 : Int) ∧ 1 + (x0 : Int) ≤ 65535) ∧ (0 ≤ (y0 : Int) ∧ (y0 : Int) < 1000)) := Bx.mk ⟨by omega, by omega⟩
  go_wp2
  refine loopF w1 M (1 + (x0 : Int)) (y0 : Int) v1 HX.out.1 HX.out.2 (HT.out w1 H1.out.2.1).1 (HT.out w1 H1.out.2.1).2 (by have h1 := HG.out; have h2 := H1.out.2.2; omega) _ _ _ ⟨⟨⟨rfl, rfl⟩, rfl, congrArg (Value.int IntKind.i64) hy1, rfl⟩, rfl, H1.out.1⟩ ?_
  intro a' w2 hFK hFM
  have H2 := Bx.mk (show KM w1 M [] (flC (1 + (x0 : Int)) (y0 : Int) 256) v1 keyF w2 from hFM)
  have HL : Bx ((flC (1 + (x0 : Int)) (y0 : Int) 256).length = 256) := Bx.mk (flC_length _ _ _)
  have HW : Bx (Below B w w1 ∧ B ≤ M) := Bx.mk H1.out.2
  generalize flC (1 + (x0 : Int)) (y0 : Int) 256 = fl at *
  clear hFM H1
  generalize 1 + (x0 : Int) = idv at *
  generalize (y0 : Int) = exv at *
  clear hx0 hx1 hx2 hy0 hy1 hy2 HX
  obtain ⟨x, rfl, hx⟩ := open102 hFK.fr
  have e0 := (hx 0).symm.trans hFK.s0
  have e1 := (hx 1).symm.trans hFK.s1
  have e5 := (hx 5).symm.trans hFK.s5
  clear hFK hx
  rw [e0, e1, e5]
  clear e0 e1 e5
  go_wp2_with fail
  refine (HFu.out M idv exv w2 fl H2.out.mt HL.out).mono ?_
  rintro e w3 ⟨rfl, hb⟩
  have H3 := Bx.mk (H2.out.later hb)
  clear hb H2
  obtain ⟨D, hD⟩ : ∃ D, w3.heap.size = D := ⟨_, rfl⟩
  have H4 := Bx.mk (H3.out.new (.cells zc 39))
  rw [hD] at H4
  clear H3
  go_upto_region 12 with (refine wpList_store_new rfl 39 _ _ rfl D zc zc _ (by rfl) (by rfl) (H4.out.rows _ (.head _)).1 rfl HM1.out.1 HM1.out.2 ?_; intro w5 hw8 hr8; have hg8 := Bx.mk (kb_of hw8); have HR8 := Bx.mk hr8; clear hw8 hr8)
  have H5 := Bx.mk (H4.out.set hg8.out HR8.out (fun y hy => (List.not_mem_nil hy).elim)).drop
  clear H4 hg8 HR8 hD
  go_wp2_with fail
  refine (HNil.out idv exv w5).mono ?_
  rintro e w6 ⟨rfl, hb⟩
  have H6 := Bx.mk (H5.out.later hb)
  clear hb H5
  obtain ⟨E, hE⟩ : ∃ D, w6.heap.size = D := ⟨_, rfl⟩
  have H7 := Bx.mk (H6.out.new (.cells zc 39))
  rw [hE] at H7
  clear H6
  go_upto_region 14 with (refine wpList_store_new rfl 39 _ _ rfl E zc zc _ (by rfl) (by rfl) (H7.out.rows _ (.head _)).1 rfl HM1.out.1 HM1.out.2 ?_; intro w8 hw8 hr8; have hg8 := Bx.mk (kb_of hw8); have HR8 := Bx.mk hr8; clear hw8 hr8)
  have H8 := Bx.mk (H7.out.set hg8.out HR8.out (fun y hy => (List.not_mem_nil hy).elim)).drop
  clear H7 hg8 HR8 hE
  go_wp2_with fail
  refine (find_nil 1 w8).mono ?_
  rintro e w9 ⟨rfl, hb⟩
  unfold clV c0
  have H9 := Bx.mk ((H8.out.later hb).later (below_a (.cells #[.int .i64 0, .int .i64 0, .int .i64 0, .int .i64 0] 36)))
  clear hb H8
  go_wp2_with fail
  generalize w9.alloc (.cells #[.int .i64 0, .int .i64 0, .int .i64 0, .int .i64 0] 36) = wa at *
  have HB9 := Bx.mk (HW.out.1.trans (grown_below H9.out.grown HW.out.2 (Nat.le_trans (Nat.le_of_eq HB.out.symm) HW.out.1.size)))
  refine (known6_any wa (HT.out wa HB9.out).1 (HT.out wa HB9.out).2).mono ?_
  rintro e wb ⟨rfl, hb⟩
  have Ha := Bx.mk (H9.out.later hb)
  clear hb H9 HB9
  go_wp2_with fail
  refine (mcount_any M fl keyF wb Ha.out.mt).mono ?_
  rintro e wc ⟨rfl, rfl⟩
  rw [HL.out]
  go_wp2_with fail
  refine (mcount_nil wb).mono ?_
  rintro e wc ⟨rfl, rfl⟩
  go_wp2_with fail
  refine (master_nil wb).mono ?_
  rintro e wc ⟨rfl, rfl⟩
  have HBb := Bx.mk (HW.out.1.trans (grown_below Ha.out.grown HW.out.2 (Nat.le_trans (Nat.le_of_eq HB.out.symm) HW.out.1.size)))
  go_wp2
  go_ret
  exact ⟨rfl, HBb.out⟩
end Go.Proofs.YtiengbmnfbbgoaaDoor
