/-
  Revocations: the document's Apply: what is reckoned.
  Revocations: the document's Apply: the loops.
-/
import Derived.Test.YtmfhdhggpepbbaaDoorFp
namespace Go.Proofs.YtmfhdhggpepbbaaDoor
open Go Go.RowKit
def vN (v : V4) : Nat → Int
  | 0 => v.a
  | 1 => v.b
  | 2 => v.c
  | _ => v.d
/-- A row behind k of a delta's serials. -/
def allK (r : List Int) (f : Nat) (d : List Int) (k : Nat) : List Int := r ++ (d.take k).drop (r.length - f)
theorem allK_zero (r : List Int) (f : Nat) (d : List Int) : allK r f d 0 = r := by
  unfold allK
  simp
theorem allK_app {r : List Int} {f : Nat} {d : List Int} {k : Nat} (hk : k < d.length) (h : r.length ≤ f + k) : allK r f d (k + 1) = allK r f d k ++ [d.getD k 0] := by
  unfold allK
  rw [take_snoc d k hk, List.drop_append_of_le_length (by rw [List.length_take]; omega), List.append_assoc]
theorem allK_old {r : List Int} {f : Nat} {d : List Int} {k : Nat} (h : f + k < r.length) : allK r f d (k + 1) = allK r f d k := by
  unfold allK
  rw [List.drop_eq_nil_of_le (by rw [List.length_take]; omega), List.drop_eq_nil_of_le (by rw [List.length_take]; omega)]
theorem allK_all {r : List Int} {f : Nat} {d : List Int} : allK r f d d.length = newJ r f d := by
  unfold allK newJ bothN
  rw [List.take_length]
  rcases Nat.le_total (r.length - f) d.length with h | h
  · rw [Nat.min_eq_left h]
  · rw [Nat.min_eq_right h, List.drop_eq_nil_of_le h, List.drop_eq_nil_of_le (Nat.le_refl _)]
theorem allK_len {r : List Int} {f : Nat} {d : List Int} {k : Nat} (hk : k ≤ d.length) : (allK r f d k).length = r.length + (k - (r.length - f)) := by
  unfold allK
  rw [List.length_append, List.length_drop, List.length_take, Nat.min_eq_left hk]
theorem fit_iff {r : List Int} {f : Nat} {d : List Int} (hf : f ≤ r.length) : fitL r f d ↔ ∀ t, t < d.length → f + t < r.length → r.getD (f + t) 0 = d.getD t 0 := by
  have hb : bothN r f d = min (r.length - f) d.length := rfl
  unfold fitL
  constructor
  · intro h t ht htr
    have h1 : ((r.take (f + bothN r f d)).drop f).getD t 0 = (d.take (bothN r f d)).getD t 0 := by rw [h]
    have ht2 : t < bothN r f d := by rw [hb]; omega
    simp only [List.getD_eq_getElem?_getD, List.getElem?_drop, List.getElem?_take, if_pos (show f + t < f + bothN r f d by omega), if_pos ht2] at h1
    simpa [List.getD_eq_getElem?_getD] using h1
  · intro h
    refine ext_getI ?_ (fun t ht => ?_)
    · rw [List.length_drop, List.length_take, List.length_take, hb]
      omega
    · rw [List.length_drop, List.length_take] at ht
      have ht2 : t < bothN r f d := by omega
      have h1 := h t (by rw [hb] at ht2; omega) (by rw [hb] at ht2; omega)
      simp only [List.getD_eq_getElem?_getD] at h1
      simp only [List.getD_eq_getElem?_getD, List.getElem?_drop, List.getElem?_take, if_pos (show f + t < f + bothN r f d by omega), if_pos ht2]
      exact h1
def setVV (z : VV) (i : Nat) (v : Value) : VV := match i with
  | 0 => { z with a := v }
  | 1 => { z with b := v }
  | 2 => { z with c := v }
  | _ => { z with d := v }
theorem setVV_arr (z : VV) (v : Value) : ∀ i, i < 4 → (#[z.a, z.b, z.c, z.d] : Array Value).setIfInBounds i v = #[(setVV z i v).a, (setVV z i v).b, (setVV z i v).c, (setVV z i v).d]
  | 0, _ => rfl
  | 1, _ => rfl
  | 2, _ => rfl
  | 3, _ => rfl
theorem setVV_same (z : VV) (v : Value) : ∀ i, i < 4 → uN (setVV z i v) i = v
  | 0, _ => rfl
  | 1, _ => rfl
  | 2, _ => rfl
  | 3, _ => rfl
theorem setVV_other (z : VV) (v : Value) (i j : Nat) (hi : i < 4) (hj : j < 4) (h : j ≠ i) : uN (setVV z i v) j = uN z j := by
  match i, hi, j, hj with
  | 0, _, 0, _ => exact absurd rfl h
  | 0, _, 1, _ => rfl
  | 0, _, 2, _ => rfl
  | 0, _, 3, _ => rfl
  | 1, _, 0, _ => rfl
  | 1, _, 1, _ => exact absurd rfl h
  | 1, _, 2, _ => rfl
  | 1, _, 3, _ => rfl
  | 2, _, 0, _ => rfl
  | 2, _, 1, _ => rfl
  | 2, _, 2, _ => exact absurd rfl h
  | 2, _, 3, _ => rfl
  | 3, _, 0, _ => rfl
  | 3, _, 1, _ => rfl
  | 3, _, 2, _ => rfl
  | 3, _, 3, _ => exact absurd rfl h
/-- The new row of a seed. -/
def nJ (l : L4) (v : V4) (m : L4) (i : Nat) : List Int := newJ (lN l i) (vN v i).toNat (lN m i)
def oJ (l : L4) (v : V4) (m : L4) (i : Nat) : Bool := okJ (lN l i) (vN v i).toNat (lN m i)
/-- How many are new, and is a row too long, in the first rows. -/
def nnK (l : L4) (v : V4) (m : L4) : Nat → Nat
  | 0 => 0
  | i + 1 => nnK l v m i + ((nJ l v m i).length - (lN l i).length)
def badK (l : L4) (v : V4) (m : L4) : Nat → Int
  | 0 => 0
  | i + 1 => if 256 < (nJ l v m i).length then 6 else badK l v m i
theorem lN_newL (l : L4) (v : V4) (m : L4) : ∀ i, i < 4 → lN (newL l v m) i = nJ l v m i
  | 0, _ => rfl
  | 1, _ => rfl
  | 2, _ => rfl
  | 3, _ => rfl
theorem newJ_le (r : List Int) (f : Nat) (d : List Int) : r.length ≤ (newJ r f d).length := by
  unfold newJ
  rw [List.length_append]
  omega
theorem nnK_four (l : L4) (v : V4) (m : L4) : (nnK l v m 4 : Int) = (cntL (newL l v m) : Int) - (cntL l : Int) := by
  have h0 := newJ_le l.a v.a.toNat m.a
  have h1 := newJ_le l.b v.b.toNat m.b
  have h2 := newJ_le l.c v.c.toNat m.c
  have h3 := newJ_le l.d v.d.toNat m.d
  show ((0 + ((newJ l.a v.a.toNat m.a).length - l.a.length) + ((newJ l.b v.b.toNat m.b).length - l.b.length) + ((newJ l.c v.c.toNat m.c).length - l.c.length) + ((newJ l.d v.d.toNat m.d).length - l.d.length) : Nat) : Int) = _
  unfold cntL newL
  simp only
  omega
theorem badK_four (l : L4) (v : V4) (m : L4) : (covV full4 (newL l v m).ver = true → badK l v m 4 = 0) ∧ (covV full4 (newL l v m).ver = false → badK l v m 4 = 6) := by
  unfold covV full4 L4.ver newL
  simp only [decide_eq_true_iff, decide_eq_false_iff_not, badK, nJ, lN, vN]
  constructor
  · intro h
    rw [if_neg (by omega), if_neg (by omega), if_neg (by omega), if_neg (by omega)]
  · intro h
    split
    · rfl
    · split
      · rfl
      · split
        · rfl
        · split
          · rfl
          · omega
theorem okL_iff (l : L4) (v : V4) (m : L4) : okL l v m = true ↔ ∀ i, i < 4 → oJ l v m i = true := by
  unfold okL
  simp only [Bool.and_eq_true]
  constructor
  · rintro ⟨h0, h1, h2, h3⟩ i hi
    match i, hi with
    | 0, _ => exact h0
    | 1, _ => exact h1
    | 2, _ => exact h2
    | 3, _ => exact h3
  · intro h
    exact ⟨h 0 (by omega), h 1 (by omega), h 2 (by omega), h 3 (by omega)⟩
end Go.Proofs.YtmfhdhggpepbbaaDoor
namespace Go.Proofs.YtmfhdhggpepbbaaDoor
open Go Go.RowKit
set_option maxRecDepth 100000 in
theorem open115 {a : Act} (h : Fr 115 a) : ∃ x : Nat → Value, a = ⟨List.toArray (x 0 :: x 1 :: x 2 :: x 3 :: x 4 :: x 5 :: x 6 :: x 7 :: x 8 :: x 9 :: x 10 :: x 11 :: x 12 :: x 13 :: x 14 :: x 15 :: x 16 :: x 17 :: x 18 :: x 19 :: x 20 :: x 21 :: x 22 :: x 23 :: x 24 :: x 25 :: x 26 :: x 27 :: x 28 :: x 29 :: x 30 :: x 31 :: x 32 :: x 33 :: x 34 :: x 35 :: x 36 :: x 37 :: x 38 :: x 39 :: x 40 :: x 41 :: x 42 :: x 43 :: x 44 :: x 45 :: x 46 :: x 47 :: x 48 :: x 49 :: x 50 :: x 51 :: x 52 :: x 53 :: x 54 :: x 55 :: x 56 :: x 57 :: x 58 :: x 59 :: x 60 :: x 61 :: x 62 :: x 63 :: x 64 :: x 65 :: x 66 :: x 67 :: x 68 :: x 69 :: x 70 :: x 71 :: x 72 :: x 73 :: x 74 :: x 75 :: x 76 :: x 77 :: x 78 :: x 79 :: x 80 :: x 81 :: x 82 :: x 83 :: x 84 :: x 85 :: x 86 :: x 87 :: x 88 :: x 89 :: x 90 :: x 91 :: x 92 :: x 93 :: x 94 :: x 95 :: x 96 :: x 97 :: x 98 :: x 99 :: x 100 :: x 101 :: x 102 :: x 103 :: x 104 :: x 105 :: x 106 :: x 107 :: x 108 :: x 109 :: x 110 :: x 111 :: x 112 :: x 113 :: x 114 :: []), []⟩ ∧ ∀ i, a.eval (.tmp i) = x i := ⟨fun i => a.tmps.getD i undef, h.form, fun _ => rfl⟩
/-- What the inner loop leaves alone. -/
structure AF (v0 v3 v6 v8 v10 : Value) (a : Act) : Prop where
  fr : Fr 115 a
  s0 : a.eval (.tmp 0) = v0
  s3 : a.eval (.tmp 3) = v3
  s6 : a.eval (.tmp 6) = v6
  s8 : a.eval (.tmp 8) = v8
  s10 : a.eval (.tmp 10) = v10
/-- What the inner loop reads. -/
structure AR (w : World) (E q i f : Nat) (ax ay : Option Addr) (nd cx nr cy : Nat) (r d : List Int) : Prop where
  x : w.cell? ⟨E, 4 + i, none⟩ = some (.slice ax nd cx)
  f : w.cell? ⟨E, i, none⟩ = some (.int .i64 (f : Int))
  y : w.cell? ⟨q, i, none⟩ = some (.slice ay nr cy)
  dl : IsL w (.slice ax nd cx) d
  rl : IsL w (.slice ay nr cy) r
theorem AR.later {w W : World} {E q i f : Nat} {ax ay : Option Addr} {nd cx nr cy : Nat} {r d : List Int} (h : AR w E q i f ax ay nd cx nr cy r d) (hb : Below w.heap.size w W) : AR W E q i f ax ay nd cx nr cy r d :=
  ⟨by rw [hb.cell (p := ⟨E, 4 + i, none⟩) (World.block_lt_of_cell? _ _ h.x)]; exact h.x, by rw [hb.cell (p := ⟨E, i, none⟩) (World.block_lt_of_cell? _ _ h.f)]; exact h.f, by rw [hb.cell (p := ⟨q, i, none⟩) (World.block_lt_of_cell? _ _ h.y)]; exact h.y, h.dl.later hb, h.rl.later hb⟩
theorem IsL.nth {W : World} {a : Option Addr} {n cap : Nat} {l : List Int} (h : IsL W (.slice a n cap) l) {j : Nat} (hj : j < l.length) : ∃ c o, a = some ⟨c, o, none⟩ ∧ W.cell? ⟨c, o + j, none⟩ = some (.int .i64 (l.getD j 0)) := by
  obtain ⟨_, _, hv, _, _, hr⟩ := h.ints
  injection hv with v1 v2 v3
  subst v1
  obtain ⟨c, o, hc, hf⟩ := hr (by omega)
  exact ⟨c, o, hc, hf j hj⟩
/-- Between two rounds of the inner loop. -/
structure IK (w1 : World) (B E q N i f n0 : Nat) (bd : Int) (r d : List Int) (k : Nat) (a : Act) (W : World) : Prop where
  fr : AF (.pointer (some ⟨q, 0, none⟩)) (.pointer (some ⟨E, 0, none⟩)) (.pointer (some ⟨N, 0, none⟩)) (.int .i64 bd) (.int .i64 (i : Int)) a
  s7 : a.eval (.tmp 7) = .int .i64 ((n0 + ((allK r f d k).length - r.length) : Nat) : Int)
  s12 : a.eval (.tmp 12) = .int .i64 (k : Int)
  o : OwnI W B (a.eval (.tmp 11)) (allK r f d k)
  b : Below B w1 W
  fit : ∀ t, t < k → f + t < r.length → r.getD (f + t) 0 = d.getD t 0
set_option maxRecDepth 100000 in
set_option maxHeartbeats 4000000 in
theorem roundIK (w1 : World) (B E q N i f n0 : Nat) (bd : Int) (ax ay : Option Addr) (nd cx nr cy : Nat) (r d : List Int) (hB : w1.heap.size = B) (hi : i < 4) (hA : AR w1 E q i f ax ay nd cx nr cy r d) (hd : d.length = nd) (hr : r.length = nr) (hd1 : nd ≤ 1000) (hr1 : nr ≤ 1000) (hf : f ≤ nr) (hn0 : n0 ≤ 5000)
    (Q : Exit → Act → World → Prop) (hret : ∀ a' w', Fr 115 a' → a'.eval (.tmp 4) = .int .i64 0 → a'.eval (.tmp 5) = .int .i64 3 → Below B w1 w' → ¬ fitL r f d → Q .ret a' w') (k : Nat) (a : Act) (wr : World) (hk : k < nd) (h : IK w1 B E q N i f n0 bd r d k a wr) :
    Code.wp Tryd.prog (loopAt (Tryd.f16.body) 2) (Exit.then (fun a' w' => IK w1 B E q N i f n0 bd r d (k + 1) a' w') Q) a wr := by
  have HRet := Bx.mk hret
  have HA : Bx (∀ W, Below B w1 W → AR W E q i f ax ay nd cx nr cy r d) := ⟨fun W hb => hA.later (by rw [hB]; exact hb)⟩
  have hW := h.b
  have hAr := HA.out wr hW
  have kx := hAr.x
  have kf := hAr.f
  have ky := hAr.y
  obtain ⟨c, o, rfl, -⟩ := hAr.dl.nth (j := k) (by omega)
  have HDk : Bx (∀ W, Below B w1 W → W.cell? ⟨c, o + k, none⟩ = some (.int .i64 (d.getD k 0))) := ⟨fun W hb => by
    obtain ⟨c', o', e, h1⟩ := (HA.out W hb).dl.nth (j := k) (by omega)
    injection e with e
    injection e with e1 e2 e3
    subst e1 e2
    exact h1⟩
  obtain ⟨dk, hdk⟩ : ∃ x, d.getD k 0 = x := ⟨_, rfl⟩
  rw [hdk] at HDk
  have HDv := Bx.mk hdk
  have HFt := Bx.mk h.fit
  have hoo := h.o
  have hs7 := h.s7
  obtain ⟨n7, hn7⟩ : ∃ n : Nat, n0 + ((allK r f d k).length - r.length) = n := ⟨_, rfl⟩
  have hln := allK_len (r := r) (f := f) (d := d) (k := k) (by omega)
  have hb7 : n7 ≤ 7000 := by omega
  have hlk : (allK r f d k).length ≤ 3000 := by omega
  rw [hn7] at hs7
  have HN7 := Bx.mk hn7
  obtain ⟨ak, hak⟩ : ∃ x, allK r f d k = x := ⟨_, rfl⟩
  rw [hak] at hoo hlk
  have HAk := Bx.mk hak
  have HSz : Bx (∀ W, Below B w1 W → B ≤ W.heap.size) := ⟨fun W h => by have := h.size; rw [hB] at this; exact this⟩
  have HLk := Bx.mk hlk
  have HLr := Bx.mk (And.intro hd hr)
  obtain ⟨tt, htt⟩ : ∃ t, f + k = t := ⟨_, rfl⟩
  have HTt := Bx.mk htt
  have hft : (f : Int) + (k : Int) = (tt : Int) := by omega
  have htw : IntKind.i64.wrap (tt : Int) = (tt : Int) := by rw [IntKind.wrap_i64]; omega
  have hk0 : (0 : Int) ≤ (k : Int) := by omega
  have hk1 : (k : Int) < (nd : Int) := by omega
  have hi0 : (0 : Int) ≤ (i : Int) := by omega
  have hi1 : (i : Int) < 4 := by omega
  have hnd : (nd : Int) ≤ 1000 := by omega
  have hnr : (nr : Int) ≤ 1000 := by omega
  have hn71 : (n7 : Int) ≤ 7000 := by omega
  have hn70 : (0 : Int) ≤ (n7 : Int) := by omega
  have ht0 : (0 : Int) ≤ (tt : Int) := by omega
  have hkn : k < nd := hk
  obtain ⟨va, hva⟩ : ∃ x, a.eval (.tmp 11) = x := ⟨_, rfl⟩
  rw [hva] at hoo
  obtain ⟨za, zc, rfl⟩ := hoo.form
  obtain ⟨nk, hnk⟩ : ∃ n, ak.length = n := ⟨_, rfl⟩
  rw [hnk] at hoo hva
  have HO := Bx.mk (And.intro hoo hW)
  obtain ⟨y, rfl, hy⟩ := open115 h.fr.fr
  have e0 := (hy 0).symm.trans h.fr.s0
  have e3 := (hy 3).symm.trans h.fr.s3
  have e6 := (hy 6).symm.trans h.fr.s6
  have e8 := (hy 8).symm.trans h.fr.s8
  have e10 := (hy 10).symm.trans h.fr.s10
  have e7 := (hy 7).symm.trans hs7
  have e12 := (hy 12).symm.trans h.s12
  have e11 := (hy 11).symm.trans hva
  clear h hy hret hA hAr hoo hs7 hva hW hdk hn7 hak hln hlk htt hd hr hnk hn0
  rw [e0, e3, e6, e8, e10, e7, e12, e11]
  clear e0 e3 e6 e8 e10 e7 e12 e11
  conv => arg 2; whnf
  by_cases hge : nr ≤ tt
  · have hge1 : (nr : Int) ≤ (tt : Int) := by omega
    have hge2 : ¬ (tt : Int) < (nr : Int) := by omega
    have kd := HDk.out wr HO.out.2
    have HOa := Bx.mk (HO.out.1.later (below_a (W := wr) (.cells #[.int .i64 dk] 3)) (fun g hg => (HO.out.1.lt g hg).1))
    have HI1 := Bx.mk ((isL_one8 wr dk).ints)
    have HBa : Bx (Below B w1 (wr.alloc (.cells #[.int .i64 dk] 3))) := ⟨HO.out.2.trans ((below_a _).mono (HSz.out _ HO.out.2))⟩
    clear HO
    go_wp2_with (refine wpList_apI rfl _ _ rfl B _ ak (by rfl) HOa.out _ [dk] (by rfl) HI1.out (by have := HLk.out; simp; omega) (HSz.out _ HBa.out) ?_; intro v' w2 ho hg; have HB2 : Bx (Below B w1 w2) := ⟨HBa.out.trans (ownI_below HOa.out hg (HSz.out _ HBa.out))⟩; have HO2 := Bx.mk ho; clear ho hg HOa HI1 HBa)
    have hap : allK r f d (k + 1) = ak ++ [dk] := by rw [allK_app (by rw [HLr.out.1]; exact hkn) (by rw [HLr.out.2]; have := HTt.out; omega), HAk.out, HDv.out]
    refine ⟨⟨⟨rfl, rfl⟩, rfl, rfl, rfl, rfl, rfl⟩, ?_, by first | rfl | go_num, ?_, HB2.out, fun t ht => ?_⟩
    · rw [hap]
      have h1 := HN7.out
      have h2 := allK_len (r := r) (f := f) (d := d) (k := k) (by rw [HLr.out.1]; omega)
      rw [HAk.out] at h1 h2
      rw [List.length_append]
      show Value.int .i64 _ = Value.int .i64 _
      congr 1
      simp only [List.length_singleton]
      omega
    · rw [hap]
      exact HO2.out
    · by_cases e : t = k
      · subst e
        intro h1
        exfalso
        have h2 := HTt.out
        have h3 := HLr.out.2
        omega
      · exact HFt.out t (by omega)
  · have hge1 : ¬ (nr : Int) ≤ (tt : Int) := by omega
    have hge2 : (tt : Int) < (nr : Int) := by omega
    obtain ⟨c2, o2, rfl, -⟩ := (HA.out wr HO.out.2).rl.nth (j := tt) (by have := HLr.out.2; omega)
    have HRk : Bx (∀ W, Below B w1 W → W.cell? ⟨c2, o2 + tt, none⟩ = some (.int .i64 (r.getD tt 0))) := ⟨fun W hb => by
      obtain ⟨c', o', e, h1⟩ := (HA.out W hb).rl.nth (j := tt) (by have := HLr.out.2; omega)
      injection e with e
      injection e with e1 e2 e3
      subst e1 e2
      exact h1⟩
    obtain ⟨rk, hrk⟩ : ∃ x, r.getD tt 0 = x := ⟨_, rfl⟩
    rw [hrk] at HRk
    have HRv := Bx.mk hrk
    clear hrk
    go_upto_region 21 with fail
    have R0 := Bx.mk (And.intro (show OwnI wr.drew B _ ak from HO.out.1) (HO.out.2.drew))
    clear HO kx kf ky
    refine wp_region_noPanic ?_
    refine wp_region_held_drew (S := fun W => W.cell? ⟨q, i, none⟩ = some (.slice (some ⟨c2, o2, none⟩) nr cy) ∧ W.cell? ⟨c2, o2 + tt, none⟩ = some (.int .i64 rk) ∧ W.cell? ⟨E, 4 + i, none⟩ = some (.slice (some ⟨c, o, none⟩) nd cx) ∧ W.cell? ⟨c, o + k, none⟩ = some (.int .i64 dk)) (by kernel_rfl) (⟨(HA.out _ R0.out.2).y, HRk.out _ R0.out.2, (HA.out _ R0.out.2).x, HDk.out _ R0.out.2⟩) (fun hHeld => ?_)
    generalize wr.drew = W0 at *
    refine takeL 0 (v := ?_) rfl (by kernel_rfl) (by kernel_rfl) (by kernel_rfl) (fun _ _ _ h => h) (Or.inl ⟨by rfl, ?_⟩) hHeld ?_
    rotate_left 1
    · (intro w hSw; go_simp; try with_reducible rfl)
    try simp only [Act.put, List.setIfInBounds_toArray, List.set_cons_zero, List.set_cons_succ]
    refine takeL 1 (v := ?_) rfl (by kernel_rfl) (by kernel_rfl) (by kernel_rfl) (fun _ _ _ h => h) (Or.inl ⟨by rfl, ?_⟩) hHeld ?_
    rotate_left 1
    · (intro w hSw; go_simp; try with_reducible rfl)
    try simp only [Act.put, List.setIfInBounds_toArray, List.set_cons_zero, List.set_cons_succ]
    refine takeL 2 (v := ?_) rfl (by kernel_rfl) (by kernel_rfl) (by kernel_rfl) (fun _ _ _ h => h) (Or.inl ⟨by rfl, ?_⟩) hHeld ?_
    rotate_left 1
    · (intro w hSw; go_simp; try with_reducible rfl)
    try simp only [Act.put, List.setIfInBounds_toArray, List.set_cons_zero, List.set_cons_succ]
    refine takeL 3 (v := ?_) rfl (by kernel_rfl) (by kernel_rfl) (by kernel_rfl) (fun _ _ _ h => h) (Or.inl ⟨by rfl, ?_⟩) hHeld ?_
    rotate_left 1
    · (intro w hSw; go_simp; try with_reducible rfl)
    try simp only [Act.put, List.setIfInBounds_toArray, List.set_cons_zero, List.set_cons_succ]
    refine takeL 4 (v := ?_) rfl (by kernel_rfl) (by kernel_rfl) (by kernel_rfl) (fun _ _ _ h => h) (Or.inl ⟨by rfl, ?_⟩) hHeld ?_
    rotate_left 1
    · (intro w hSw; go_simp; try with_reducible rfl)
    try simp only [Act.put, List.setIfInBounds_toArray, List.set_cons_zero, List.set_cons_succ]
    refine takeL 5 (v := ?_) rfl (by kernel_rfl) (by kernel_rfl) (by kernel_rfl) (fun _ _ _ h => h) (Or.inl ⟨by rfl, ?_⟩) hHeld ?_
    rotate_left 1
    · (intro w hSw; have c1 := hSw.1; go_simp; try with_reducible rfl)
    try simp only [Act.put, List.setIfInBounds_toArray, List.set_cons_zero, List.set_cons_succ]
    refine takeL 6 (v := ?_) rfl (by kernel_rfl) (by kernel_rfl) (by kernel_rfl) (fun _ _ _ h => h) (Or.inl ⟨by rfl, ?_⟩) hHeld ?_
    rotate_left 1
    · (intro w hSw; go_simp; try with_reducible rfl)
    try simp only [Act.put, List.setIfInBounds_toArray, List.set_cons_zero, List.set_cons_succ]
    refine takeL 7 (v := ?_) rfl (by kernel_rfl) (by kernel_rfl) (by kernel_rfl) (fun _ _ _ h => h) (Or.inl ⟨by rfl, ?_⟩) hHeld ?_
    rotate_left 1
    · (intro w hSw; go_simp; try with_reducible rfl)
    try simp only [Act.put, List.setIfInBounds_toArray, List.set_cons_zero, List.set_cons_succ]
    refine takeL 8 (v := ?_) rfl (by kernel_rfl) (by kernel_rfl) (by kernel_rfl) (fun _ _ _ h => h) (Or.inl ⟨by rfl, ?_⟩) hHeld ?_
    rotate_left 1
    · (intro w hSw; have c1 := hSw.2.1; go_simp; try with_reducible rfl)
    try simp only [Act.put, List.setIfInBounds_toArray, List.set_cons_zero, List.set_cons_succ]
    refine takeL 9 (v := ?_) rfl (by kernel_rfl) (by kernel_rfl) (by kernel_rfl) (fun _ _ _ h => h) (Or.inl ⟨by rfl, ?_⟩) hHeld ?_
    rotate_left 1
    · (intro w hSw; go_simp; try with_reducible rfl)
    try simp only [Act.put, List.setIfInBounds_toArray, List.set_cons_zero, List.set_cons_succ]
    refine takeL 10 (v := ?_) rfl (by kernel_rfl) (by kernel_rfl) (by kernel_rfl) (fun _ _ _ h => h) (Or.inl ⟨by rfl, ?_⟩) hHeld ?_
    rotate_left 1
    · (intro w hSw; go_simp; try with_reducible rfl)
    try simp only [Act.put, List.setIfInBounds_toArray, List.set_cons_zero, List.set_cons_succ]
    refine takeL 11 (v := ?_) rfl (by kernel_rfl) (by kernel_rfl) (by kernel_rfl) (fun _ _ _ h => h) (Or.inl ⟨by rfl, ?_⟩) hHeld ?_
    rotate_left 1
    · (intro w hSw; go_simp; try with_reducible rfl)
    try simp only [Act.put, List.setIfInBounds_toArray, List.set_cons_zero, List.set_cons_succ]
    refine takeL 12 (v := ?_) rfl (by kernel_rfl) (by kernel_rfl) (by kernel_rfl) (fun _ _ _ h => h) (Or.inl ⟨by rfl, ?_⟩) hHeld ?_
    rotate_left 1
    · (intro w hSw; have c1 := hSw.2.2.1; go_simp; try with_reducible rfl)
    try simp only [Act.put, List.setIfInBounds_toArray, List.set_cons_zero, List.set_cons_succ]
    refine takeL 13 (v := ?_) rfl (by kernel_rfl) (by kernel_rfl) (by kernel_rfl) (fun _ _ _ h => h) (Or.inl ⟨by rfl, ?_⟩) hHeld ?_
    rotate_left 1
    · (intro w hSw; go_simp; try with_reducible rfl)
    try simp only [Act.put, List.setIfInBounds_toArray, List.set_cons_zero, List.set_cons_succ]
    refine takeL 14 (v := ?_) rfl (by kernel_rfl) (by kernel_rfl) (by kernel_rfl) (fun _ _ _ h => h) (Or.inl ⟨by rfl, ?_⟩) hHeld ?_
    rotate_left 1
    · (intro w hSw; go_simp; try with_reducible rfl)
    try simp only [Act.put, List.setIfInBounds_toArray, List.set_cons_zero, List.set_cons_succ]
    refine takeL 15 (v := ?_) rfl (by kernel_rfl) (by kernel_rfl) (by kernel_rfl) (fun _ _ _ h => h) (Or.inl ⟨by rfl, ?_⟩) hHeld ?_
    rotate_left 1
    · (intro w hSw; have c1 := hSw.2.2.2; go_simp; try with_reducible rfl)
    try simp only [Act.put, List.setIfInBounds_toArray, List.set_cons_zero, List.set_cons_succ]
    refine takeL 16 (v := ?_) rfl (by kernel_rfl) (by kernel_rfl) (by kernel_rfl) (fun _ _ _ h => h) (Or.inl ⟨by rfl, ?_⟩) hHeld ?_
    rotate_left 1
    · (intro w hSw; go_simp; try with_reducible rfl)
    try simp only [Act.put, List.setIfInBounds_toArray, List.set_cons_zero, List.set_cons_succ]
    refine wpAnyH_done (by kernel_rfl) ?_ _
    refine NoPanic.normal ?_
    clear hHeld
    by_cases hdr : rk = dk
    · subst hdr
      go_wp2
      have hol : allK r f d (k + 1) = ak := by rw [allK_old (by rw [HLr.out.2]; have := HTt.out; omega), HAk.out]
      refine ⟨⟨⟨rfl, rfl⟩, rfl, rfl, rfl, rfl, rfl⟩, ?_, by first | rfl | go_num, by rw [hol]; exact R0.out.1, R0.out.2, fun t ht => ?_⟩
      · rw [hol]
        have h1 := HN7.out
        rw [HAk.out] at h1
        rw [h1]
        rfl
      · by_cases e : t = k
        · subst e
          intro _
          rw [HTt.out, HRv.out, HDv.out]
        · exact HFt.out t (by omega)
    · go_wp2
      refine HRet.out _ _ ⟨rfl, rfl⟩ rfl rfl R0.out.2 (fun hfl => ?_)
      have h1 := (fit_iff (by rw [HLr.out.2]; exact hf)).1 hfl k (by rw [HLr.out.1]; exact hkn) (by rw [HLr.out.2]; have := HTt.out; omega)
      rw [HTt.out, HRv.out, HDv.out] at h1
      exact hdr h1
set_option maxRecDepth 100000 in
set_option maxHeartbeats 1000000 in
theorem lastIK (w1 : World) (B E q N i f n0 : Nat) (bd : Int) (ax ay : Option Addr) (nd cx nr cy : Nat) (r d : List Int) (hB : w1.heap.size = B) (hi : i < 4) (hA : AR w1 E q i f ax ay nd cx nr cy r d) (hd1 : nd ≤ 1000)
    (Q : Exit → Act → World → Prop) (N' : Act → World → Prop) (a : Act) (wr : World) (h : IK w1 B E q N i f n0 bd r d nd a wr)
    (hq : ∀ a' w', IK w1 B E q N i f n0 bd r d nd a' w' → Q (.exit 4) a' w') : Code.wp Tryd.prog (loopAt (Tryd.f16.body) 2) (Exit.then N' Q) a wr := by
  have HQ := Bx.mk hq
  have HS := Bx.mk (And.intro h.b h.fit)
  have kx := (hA.later (by rw [hB]; exact h.b)).x
  have hoo := h.o
  have hi0 : (0 : Int) ≤ (i : Int) := by omega
  have hi1 : (i : Int) < 4 := by omega
  have hnd : (nd : Int) ≤ 1000 := by omega
  obtain ⟨y, rfl, hy⟩ := open115 h.fr.fr
  have e0 := (hy 0).symm.trans h.fr.s0
  have e3 := (hy 3).symm.trans h.fr.s3
  have e6 := (hy 6).symm.trans h.fr.s6
  have e8 := (hy 8).symm.trans h.fr.s8
  have e10 := (hy 10).symm.trans h.fr.s10
  have e7 := (hy 7).symm.trans h.s7
  have e12 := (hy 12).symm.trans h.s12
  rw [hy 11] at hoo
  have HO := Bx.mk hoo
  clear h hy hA hoo hq
  rw [e0, e3, e6, e8, e10, e7, e12]
  clear e0 e3 e6 e8 e10 e7 e12
  conv => arg 2; whnf
  go_wp2
  exact HQ.out _ _ ⟨⟨⟨rfl, rfl⟩, rfl, rfl, rfl, rfl, rfl⟩, rfl, rfl, HO.out, HS.out.1, HS.out.2⟩
theorem loopIK (w1 : World) (B E q N i f n0 : Nat) (bd : Int) (ax ay : Option Addr) (nd cx nr cy : Nat) (r d : List Int) (hB : w1.heap.size = B) (hi : i < 4) (hA : AR w1 E q i f ax ay nd cx nr cy r d) (hd : d.length = nd) (hr : r.length = nr) (hd1 : nd ≤ 1000) (hr1 : nr ≤ 1000) (hf : f ≤ nr) (hn0 : n0 ≤ 5000)
    (Q : Exit → Act → World → Prop) (hret : ∀ a' w', Fr 115 a' → a'.eval (.tmp 4) = .int .i64 0 → a'.eval (.tmp 5) = .int .i64 3 → Below B w1 w' → ¬ fitL r f d → Q .ret a' w') (a : Act) (wr : World) (h : IK w1 B E q N i f n0 bd r d 0 a wr)
    (hq : ∀ a' w', IK w1 B E q N i f n0 bd r d nd a' w' → Q (.exit 4) a' w') : Code.wp Tryd.prog (.loop (loopAt (Tryd.f16.body) 2)) Q a wr :=
  wp_count nd (fun k a' w' => IK w1 B E q N i f n0 bd r d k a' w') 0 (Nat.zero_le _) h (fun k a' w' hk hI => roundIK w1 B E q N i f n0 bd ax ay nd cx nr cy r d hB hi hA hd hr hd1 hr1 hf hn0 Q hret k a' w' hk hI)
    (fun a' w' hI => lastIK w1 B E q N i f n0 bd ax ay nd cx nr cy r d hB hi hA hd1 Q _ a' w' hI hq)
end Go.Proofs.YtmfhdhggpepbbaaDoor
