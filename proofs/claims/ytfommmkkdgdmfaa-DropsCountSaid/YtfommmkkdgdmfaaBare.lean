/-
  DropsCount: what it carries; a round.
-/
import Derived.Test.YtfommmkkdgdmfaaT12
namespace Go.Proofs.Ytfommmkkdgdmfaa
open Go Go.RowKit
/-- Drops, the document's drops, and the row that those hold. -/
structure DCs (w : World) (q p : Nat) (top : Int) (vr v : Value) (m mc : List Int) (W : World) : Prop where
  db : DB W q top (cntC top z16 mc)
  rb : RefB W p top vr
  own : OwnI W w.heap.size v m
  below : Below w.heap.size w W
  qp : q ≠ p
  qw : w.heap.size ≤ q
  pw : w.heap.size ≤ p
theorem DCs.later {w : World} {q p : Nat} {top : Int} {vr v : Value} {m mc : List Int} {W W1 : World} (h : DCs w q p top vr v m mc W) (hb : Below W.heap.size W W1) : DCs w q p top vr v m mc W1 :=
  ⟨h.db.later hb, h.rb.later hb, h.own.later hb (fun g hg => (h.own.lt g hg).1), h.below.trans (hb.mono h.below.size), h.qp, h.qw, h.pw⟩
/-- And a row of reasons, and what the counts were. -/
structure DXs (w : World) (q p X : Nat) (top : Int) (vr v x : Value) (m mc xs cs : List Int) (W : World) : Prop where
  dc : DCs w q p top vr v m mc W
  xr : OwnE W w.heap.size x xs
  bx : W.heap[X]? = some (.cells (i64s cs).toArray 35 (0, 0))
theorem DXs.later {w : World} {q p X : Nat} {top : Int} {vr v x : Value} {m mc xs cs : List Int} {W W1 : World} (h : DXs w q p X top vr v x m mc xs cs W) (hb : Below W.heap.size W W1) : DXs w q p X top vr v x m mc xs cs W1 :=
  ⟨h.dc.later hb, h.xr.later hb (fun g hg => (h.xr.lt g hg).1), (hb.block X (Array.getElem?_eq_some_iff.1 h.bx).1).trans h.bx⟩
theorem kindED : 24 ≠ 46 := by decide
theorem kindID : 3 ≠ 46 := by decide
theorem kindIR : 3 ≠ 31 := by decide
theorem kindER : 24 ≠ 31 := by decide
theorem kindEI : 24 ≠ 3 := by decide
theorem kindAI : 35 ≠ 3 := by decide
theorem kindAR : 35 ≠ 31 := by decide
theorem kindAD : 35 ≠ 46 := by decide
/-- The row has grown. -/
theorem DXs.app {w : World} {q p X : Nat} {top : Int} {vr v v' x : Value} {m m' mc xs cs : List Int} {W W1 : World} (h : DXs w q p X top vr v x m mc xs cs W) (ho : OwnI W1 w.heap.size v' m') (hg : W.grownBy W1 v.ownBlock) : DXs w q p X top vr v' x m' mc xs cs W1 :=
  ⟨⟨h.dc.db.row kindID h.dc.own hg, h.dc.rb.row kindIR h.dc.own hg, ho, h.dc.below.trans (ownI_below h.dc.own hg h.dc.below.size), h.dc.qp, h.dc.qw, h.dc.pw⟩,
    own_other13 kindEI h.xr h.dc.own hg, (hg.block X (Array.getElem?_eq_some_iff.1 h.bx).1 (fun e => by
      obtain ⟨ds, fr, hk⟩ := own_kind13 h.dc.own X e.symm
      rw [h.bx] at hk
      injection hk with hk
      injection hk with _ hk
      exact kindAI hk)).trans h.bx⟩
/-- It is laid into the document's drops. -/
theorem DXs.st {w : World} {q p X : Nat} {top : Int} {vr v x : Value} {m mc xs cs : List Int} {W : World} (h : DXs w q p X top vr v x m mc xs cs W) : DXs w q p X top v v x m mc xs cs (W.setCell ⟨p, 1, none⟩ v) := by
  have hg := kb_setCell (b := p) W 1 v
  refine ⟨⟨h.dc.db.aside hg h.dc.qp, heap_setCell_same W p 1 _ 31 v h.dc.rb, own_aside13 h.dc.own (h.dc.rb.kind kindIR) hg, h.dc.below.trans (grown_belowD hg h.dc.pw h.dc.below.size), h.dc.qp, h.dc.qw, h.dc.pw⟩, own_aside13 h.xr (h.dc.rb.kind kindER) hg, ?_⟩
  have hne := h.dc.rb.kind kindAR
  exact (hg.block X (Array.getElem?_eq_some_iff.1 h.bx).1 (fun e => by
    injection e with e
    rw [← e] at hne
    exact hne _ _ h.bx)).trans h.bx
/-- The reasons have been counted. -/
theorem DXs.cnt {w : World} {q p X : Nat} {top : Int} {vr v x : Value} {m mc mc' xs cs : List Int} {W W1 : World} (h : DXs w q p X top vr v x m mc xs cs W) (hd : DB W1 q top (cntC top z16 mc')) (hg : W.grownBy W1 (some q)) : DXs w q p X top vr v x m mc' xs cs W1 := by
  refine ⟨⟨hd, h.dc.rb.aside hg (fun e => h.dc.qp e.symm), own_aside13 h.dc.own (h.dc.db.kind kindID) hg, h.dc.below.trans (grown_belowD hg h.dc.qw h.dc.below.size), h.dc.qp, h.dc.qw, h.dc.pw⟩, own_aside13 h.xr (h.dc.db.kind kindED) hg, ?_⟩
  have hne := h.dc.db.kind kindAD
  exact (hg.block X (Array.getElem?_eq_some_iff.1 h.bx).1 (fun e => by
    injection e with e
    rw [← e] at hne
    exact hne _ _ h.bx)).trans h.bx
theorem cntC_grows {top : Int} {cs : List Int} (h : Cts top cs) (l : List Int) (k : Nat) (hk : k < 16) : cs.getD k 0 ≤ (cntC top cs l).getD k 0 := by
  rw [cntC_get l h k hk]
  have hs : ∀ (l : List Int) (c : Int), c ≤ l.foldl (stepD top (k : Int)) c := by
    intro l
    induction l with
    | nil => intro c; exact Int.le_refl c
    | cons e l ih =>
      intro c
      have h1 : c ≤ stepD top (k : Int) c e := by unfold stepD; split <;> omega
      exact Int.le_trans h1 (ih _)
  exact hs l _
/-- What stays in the frame. -/
structure FDc (v1 : Value) (q p : Nat) (a : Act) : Prop where
  fr : Fr 115 a
  s1 : a.eval (.tmp 1) = v1
  s5 : a.eval (.tmp 5) = .pointer (some ⟨q, 0, none⟩)
  s7 : a.eval (.tmp 7) = .pointer (some ⟨p, 0, none⟩)
/-- Between two rounds. -/
structure IDc (w : World) (v1 : Value) (q p : Nat) (top : Int) (k : Nat) (a : Act) (W : World) : Prop where
  fp : FDc v1 q p a
  s8 : a.eval (.tmp 8) = .int .i64 (k : Int)
  st : ∃ v m, DCs w q p top v v m m W ∧ m.length ≤ 20 * k
set_option maxRecDepth 100000 in
set_option maxHeartbeats 4000000 in
theorem roundDc (w : World) (nss : List (List Int)) (v1 : Value) (q p : Nat) (top : Int) (hv : NssR w v1 nss) (hn : nss.length ≤ 9223372036854775807) (hm : ∀ l ∈ nss, l.length ≤ 9223372036854775807) (ht1 : 1 ≤ top) (ht2 : top ≤ 2147483647)
    (Q : Exit → Act → World → Prop) (k : Nat) (a : Act) (wr : World) (hk : k < nss.length) (hk8 : k < 8) (h : IDc w v1 q p top k a wr) :
    Code.wp Try.prog (loopAt (Try.f3.body) 0) (Exit.then (fun a' w' => IDc w v1 q p top (k + 1) a' w') Q) a wr := by
  obtain ⟨hf, s8, v, m, hB, hml⟩ := h
  obtain ⟨b, o, cap, rfl, hrows⟩ := hv.start (by omega)
  obtain ⟨xv, hx0, hxi⟩ := hrows k hk
  have hnl : (nss.getD k []).length ≤ 9223372036854775807 := hm _ (by
    rw [List.getD_eq_getElem?_getD, List.getElem?_eq_getElem hk]
    exact List.getElem_mem _)
  generalize nss.getD k [] = ns at *
  obtain ⟨na, hna⟩ : ∃ na, nss.length = na := ⟨_, rfl⟩
  rw [hna] at hk hn hf ⊢
  have ck := (hB.below.cell (p := ⟨b, o + k, none⟩) (World.block_lt_of_cell? _ _ hx0)).trans hx0
  have hxi2 := hxi
  obtain ⟨ax, cx, hxf, -⟩ := hxi
  have HT := Bx.mk fun (W : World) (h : Below w.heap.size w W) => to13_any ns xv W (hxi2.later h) hnl
  have C0 := Cts.start ht1 ht2
  have HA := Bx.mk fun (W : World) (mc : List Int) (h : DB W q top (cntC top z16 mc)) => all_any13 q top _ W h (cntC_cts C0 mc).len
  have HI := Bx.mk fun (l : List Int) => info16 (i64s (cntC top z16 l)).toArray.size (by simp [i64s, (cntC_cts C0 l).len])
  have HSz : Bx (∀ l : List Int, (i64s (cntC top z16 l)).toArray.size = (i64s z16).toArray.size) := Bx.mk (fun l => by rw [List.size_toArray, List.size_toArray, i64s_len, i64s_len, (cntC_cts C0 l).len]; rfl)
  have HO := Bx.mk fun (l : List Int) => i64s_one (cntC top z16 l)
  have HL20 : Bx ((ns.take 20).length ≤ 20) := Bx.mk (by rw [List.length_take]; omega)
  have HCt := Bx.mk C0
  have HT12 := Bx.mk (And.intro ht1 ht2)
  have HML := Bx.mk (show m.length ≤ 160 by omega)
  have HML2 := Bx.mk hml
  have hbn := hB.rb.cells
  generalize ns.take 20 = xs at *
  have R0 := Bx.mk hB
  have k1 : (k : Int) < 8 := by omega
  have k2 : (k : Int) < (na : Int) := by omega
  have k0 : (0 : Int) ≤ (k : Int) := by omega
  have m1 : (na : Int) ≤ 9223372036854775807 := by omega
  have hwk : IntKind.i64.wrap ((k : Int) + 1) = (k : Int) + 1 := by simp [IntKind.wrap_i64]; omega
  subst hxf
  obtain ⟨av, cv, hvf⟩ := hB.own.form
  obtain ⟨mn, hmn⟩ : ∃ mn, m.length = mn := ⟨_, rfl⟩
  rw [hmn] at hvf
  subst hvf
  obtain ⟨nn, hnn⟩ : ∃ nn, ns.length = nn := ⟨_, rfl⟩
  rw [hnn] at HT ck
  obtain ⟨y, rfl, hy⟩ := open115 hf.fr
  have e1 := (hy 1).symm.trans hf.s1
  have e5 := (hy 5).symm.trans hf.s5
  have e7 := (hy 7).symm.trans hf.s7
  have e8 := (hy 8).symm.trans s8
  clear hf hy s8 hk hk8 hn hna hB hm hv hrows hx0 hxi2 hnl hml hmn hnn C0 hbn
  rw [e1, e5, e7, e8]
  clear e1 e5 e7 e8
  conv => arg 2; whnf
  go_wp2_with fail
  skip -- M1
  refine (HT.out _ R0.out.below).mono ?_
  rintro e w1 ⟨x, y1, rfl, hx, hy, hb⟩
  have R1 : Bx (DCs w q p top (.slice av mn cv) (.slice av mn cv) m m w1 ∧ OwnE w1 w.heap.size x xs ∧ OwnI w1 w.heap.size y1 xs) := Bx.mk ⟨R0.out.later hb, hx.weak R0.out.below.size, hy.weak R0.out.below.size⟩
  obtain ⟨xa, xc, hxf⟩ := hx.form
  obtain ⟨ya, yc, hyf⟩ := hy.form
  obtain ⟨xn, hxn⟩ : ∃ n, xs.length = n := ⟨_, rfl⟩
  have HXN := Bx.mk hxn
  rw [hxn] at hxf hyf
  subst hxf hyf
  clear hx hy hb R0 HT ck hxn
  go_wp2_with fail
  skip -- M2
  refine (HA.out _ _ R1.out.1.db).mono ?_
  rintro e w2 ⟨rfl, hb⟩
  have R2 : Bx (DCs w q p top (.slice av mn cv) (.slice av mn cv) m m w2 ∧ OwnE w2 w.heap.size (.slice xa xn xc) xs ∧ OwnI w2 w.heap.size (.slice ya xn yc) xs) := Bx.mk ⟨R1.out.1.later hb, R1.out.2.1.later hb (fun g hg => (R1.out.2.1.lt g hg).1), R1.out.2.2.later hb (fun g hg => (R1.out.2.2.lt g hg).1)⟩
  clear hb R1
  go_wp2_with (refine wpList_store_var rfl 35 _ _ rfl w2 (i64s z16).toArray 35 (by rfl) (by rfl) (i64s (cntC top z16 m)).toArray (by rfl) (HSz.out _) (HI.out _) (HO.out _) ?_; intro w3 hb hr _; have R3 : Bx (DXs w q p w2.heap.size top (.slice av mn cv) (.slice av mn cv) (.slice xa xn xc) m m xs (cntC top z16 m) w3 ∧ OwnI w3 w.heap.size (.slice ya xn yc) xs) := Bx.mk ⟨⟨R2.out.1.later hb, R2.out.2.1.later hb (fun g hg => (R2.out.2.1.lt g hg).1), hr⟩, R2.out.2.2.later hb (fun g hg => (R2.out.2.2.lt g hg).1)⟩; clear hb hr R2)
  skip -- M3
  generalize w2.heap.size = X at *
  refine loopDa w3 (.slice (some ⟨b, o, none⟩) na cap) (.pointer (some ⟨q, 0, none⟩)) (.pointer (some ⟨p, 0, none⟩)) (.int .i64 (k : Int)) (.slice xa xn xc) (.slice ya xn yc) (.pointer (some ⟨X, 0, none⟩)) xs R3.out.2.ints HL20.out _ _ ⟨⟨⟨rfl, rfl⟩, rfl, rfl, rfl, rfl, rfl, rfl, rfl⟩, rfl, rfl, rfl⟩ ?_
  intro a6 hf h12
  obtain ⟨y, rfl, hy⟩ := open115 hf.fr
  have e1 := (hy 1).symm.trans hf.s1
  have e5 := (hy 5).symm.trans hf.s5
  have e7 := (hy 7).symm.trans hf.s7
  have e8 := (hy 8).symm.trans hf.s8
  have e9 := (hy 9).symm.trans hf.s9
  have e10 := (hy 10).symm.trans hf.s10
  have e11 := (hy 11).symm.trans hf.s11
  have e12 := (hy 12).symm.trans h12
  clear hf hy h12
  rw [e1, e5, e7, e8, e9, e10, e11, e12]
  clear e1 e5 e7 e8 e9 e10 e11 e12
  generalize hrn : (reaN xs : Int) = rn at *
  have HRN := Bx.mk hrn
  clear hrn
  have hrr : (rn != rn) = false := by simp
  obtain ⟨c0, c1⟩ := R3.out.1.dc.rb.cells
  have HBase := Bx.mk R3.out.1.dc.below.size
  have HLen : Bx (m.length + xs.length ≤ 10000) := Bx.mk (by have := HML.out; have := HL20.out; omega)
  go_wp2_with (refine wpList_apI rfl _ _ rfl w.heap.size _ m (by rfl) R3.out.1.dc.own _ xs (by rfl) R3.out.2.ints HLen.out HBase.out ?_; intro v4 w4 ho hg; have R4 := Bx.mk (R3.out.1.app ho hg); obtain ⟨a4, c4, hv4⟩ := ho.form; obtain ⟨n4, hn4⟩ : ∃ n, (m ++ xs).length = n := ⟨_, rfl⟩; rw [hn4] at hv4; subst hv4; clear ho hg R3 c0 c1 hn4; have f1 := R4.out.dc.rb.frozen 1; have c1 := R4.out.dc.rb.cells.2)
  skip -- M4
  have R5 := Bx.mk R4.out.st
  clear R4 f1 c1 HBase HLen
  generalize w4.setCell ⟨p, 1, none⟩ (.slice a4 n4 c4) = w5 at *
  have HCo := Bx.mk (count_any13 q top (cntC top z16 m) xs (.slice xa xn xc) w5 R5.out.dc.db (cntC_cts HCt.out m) R5.out.xr.ints (by have := HL20.out; omega) (fun W' hg => OwnE.ints (own_aside13 R5.out.xr (R5.out.dc.db.kind kindED) hg)))
  rw [← cntC_append, HRN.out] at HCo
  have HIn : Bx (∀ W, DXs w q p X top (.slice a4 n4 c4) (.slice a4 n4 c4) (.slice xa xn xc) (m ++ xs) (m ++ xs) xs (cntC top z16 m) W → Ints W (.slice a4 n4 c4) (m ++ xs)) := Bx.mk fun W h => h.dc.own.ints
  have HTe := Bx.mk fun (W : World) (h : DXs w q p X top (.slice a4 n4 c4) (.slice a4 n4 c4) (.slice xa xn xc) (m ++ xs) (m ++ xs) xs (cntC top z16 m) W) => tells_any q p top (cntC top z16 (m ++ xs)) (.slice a4 n4 c4) (m ++ xs) W h.dc.db (cntC_cts HCt.out _) h.dc.rb h.dc.own.ints (by rw [List.length_append]; have := HML.out; have := HL20.out; omega) (fun k hk => (cntC_z16 HT12.out.1 HT12.out.2 (m ++ xs) k hk).symm)
  skip -- M5
  go_wp2_with fail
  refine HCo.out.mono ?_
  rintro e w6 ⟨rfl, hd, hg⟩
  have R6 := Bx.mk (R5.out.cnt hd hg)
  clear hd hg R5 HCo
  skip -- M6
  go_wp2_with fail
  refine (HTe.out _ R6.out).mono ?_
  rintro e w7 ⟨rfl, hb⟩
  have R7 := Bx.mk (R6.out.later hb)
  clear hb R6 HTe HIn
  go_wp2_with fail
  refine (HA.out _ _ R7.out.dc.db).mono ?_
  rintro e w8 ⟨rfl, hb⟩
  have R8 := Bx.mk (R7.out.later hb)
  clear hb R7
  go_wp2_with (refine wpList_store_var rfl 35 _ _ rfl w8 (i64s z16).toArray 35 (by rfl) (by rfl) (i64s (cntC top z16 (m ++ xs))).toArray (by rfl) (HSz.out _) (HI.out _) (HO.out _) ?_; intro w9 hb hr _; have R9 : Bx (DXs w q p X top (.slice a4 n4 c4) (.slice a4 n4 c4) (.slice xa xn xc) (m ++ xs) (m ++ xs) xs (cntC top z16 m) w9 ∧ w9.heap[w8.heap.size]? = some (.cells (i64s (cntC top z16 (m ++ xs))).toArray 35 (0, 0))) := Bx.mk ⟨R8.out.later hb, hr⟩; clear hb hr R8)
  skip -- M7
  generalize w8.heap.size = Y at *
  have HLe : Bx (∀ k : Nat, k < 16 → (cntC top z16 m).getD k 0 ≤ (cntC top z16 (m ++ xs)).getD k 0) := Bx.mk (fun k hk => by rw [cntC_append]; exact cntC_grows (cntC_cts HCt.out m) xs k hk)
  refine loopDb w9 (.slice (some ⟨b, o, none⟩) na cap) (.pointer (some ⟨q, 0, none⟩)) (.pointer (some ⟨p, 0, none⟩)) (.int .i64 (k : Int)) X Y (cntC top z16 m) (cntC top z16 (m ++ xs)) R9.out.1.bx R9.out.2 (cntC_cts HCt.out m).len (cntC_cts HCt.out _).len HLe.out _ _ ⟨⟨⟨rfl, rfl⟩, rfl, rfl, rfl, rfl, rfl, rfl⟩, rfl, Below.refl _ _⟩ ?_
  intro a10 w10 hf hb
  have R10 := Bx.mk (R9.out.1.dc.later hb)
  clear R9 hb HLe
  obtain ⟨y, rfl, hy⟩ := open115 hf.fr
  have e1 := (hy 1).symm.trans hf.s1
  have e5 := (hy 5).symm.trans hf.s5
  have e7 := (hy 7).symm.trans hf.s7
  have e8 := (hy 8).symm.trans hf.s8
  have e11 := (hy 11).symm.trans hf.s11
  have e14 := (hy 14).symm.trans hf.s14
  clear hf hy
  rw [e1, e5, e7, e8, e11, e14]
  clear e1 e5 e7 e8 e11 e14
  skip -- M8
  go_wp2
  skip -- M9
  exact ⟨⟨⟨rfl, rfl⟩, rfl, rfl, rfl⟩, by first | rfl | go_num, .slice a4 n4 c4, m ++ xs, R10.out, by rw [List.length_append]; have := HML2.out; have := HL20.out; omega⟩
end Go.Proofs.Ytfommmkkdgdmfaa
namespace Go.Proofs.Ytfommmkkdgdmfaa
open Go Go.RowKit
set_option maxRecDepth 100000 in
set_option maxHeartbeats 4000000 in
theorem lastDc (w : World) (nss : List (List Int)) (v1 : Value) (q p : Nat) (top : Int) (hv : NssR w v1 nss) (hn : nss.length ≤ 9223372036854775807) (k : Nat) (hk : k ≤ nss.length) (hk8 : k ≤ 8) (hend : nss.length ≤ k ∨ k = 8)
    (Q : Exit → Act → World → Prop) (N : Act → World → Prop) (hq : ∀ a' w', FDc v1 q p a' → Below w.heap.size w w' → Q (.exit 0) a' w') (a : Act) (wr : World) (h : IDc w v1 q p top k a wr) :
    Code.wp Try.prog (loopAt (Try.f3.body) 0) (Exit.then N Q) a wr := by
  obtain ⟨hf, s8, v, m, hB, hml⟩ := h
  have HB := Bx.mk hB.below
  have HQ := Bx.mk hq
  obtain ⟨a0, cap, rfl⟩ := hv.form
  obtain ⟨na, hna⟩ : ∃ m, nss.length = m := ⟨_, rfl⟩
  rw [hna] at hk hn hf hend HQ
  have k0 : (0 : Int) ≤ (k : Int) := by omega
  have m1 : (na : Int) ≤ 9223372036854775807 := by omega
  obtain ⟨y, rfl, hy⟩ := open115 hf.fr
  have e1 := (hy 1).symm.trans hf.s1
  have e5 := (hy 5).symm.trans hf.s5
  have e7 := (hy 7).symm.trans hf.s7
  have e8 := (hy 8).symm.trans s8
  clear hf hy s8 hB hml hq hv hna
  rw [e1, e5, e7, e8]
  clear e1 e5 e7 e8
  conv => arg 2; whnf
  by_cases hlt : k < na
  · have h1 : (k : Int) < (na : Int) := by omega
    have h2 : ¬ (k : Int) < 8 := by omega
    clear hend hlt hk hk8 hn
    go_wp2
    exact HQ.out _ _ ⟨⟨rfl, rfl⟩, rfl, rfl, rfl⟩ HB.out
  · have h1 : ¬ (k : Int) < (na : Int) := by omega
    clear hend hlt hk hk8 hn
    go_wp2
    exact HQ.out _ _ ⟨⟨rfl, rfl⟩, rfl, rfl, rfl⟩ HB.out
theorem loopDc (w : World) (nss : List (List Int)) (v1 : Value) (q p : Nat) (top : Int) (hv : NssR w v1 nss) (hn : nss.length ≤ 9223372036854775807) (hm : ∀ l ∈ nss, l.length ≤ 9223372036854775807) (ht1 : 1 ≤ top) (ht2 : top ≤ 2147483647)
    (Q : Exit → Act → World → Prop) (a : Act) (wr : World) (h : IDc w v1 q p top 0 a wr) (hq : ∀ a' w', FDc v1 q p a' → Below w.heap.size w w' → Q (.exit 0) a' w') :
    Code.wp Try.prog (.loop (loopAt (Try.f3.body) 0)) Q a wr :=
  wp_count (min nss.length 8) (fun k a w' => IDc w v1 q p top k a w') 0 (Nat.zero_le _) h (fun k a w' hk hI => roundDc w nss v1 q p top hv hn hm ht1 ht2 Q k a w' (by omega) (by omega) hI) (fun a w' hI => lastDc w nss v1 q p top hv hn _ (by omega) (by omega) (by omega) Q _ hq a w' hI)
set_option maxRecDepth 100000 in
set_option maxHeartbeats 4000000 in
theorem dcount_all (top : Int) (nss : List (List Int)) (v1 : Value) (w : World) (hv : NssR w v1 nss) (hn : nss.length ≤ 9223372036854775807) (hm : ∀ l ∈ nss, l.length ≤ 9223372036854775807) :
    Calls Try.prog 3 #[.int .i64 top, v1] w fun e w' => e = .returned (.bool true) ∧ Below w.heap.size w w' := by
  have HKn := Bx.mk fun (W : World) => known13_any W
  by_cases ht1 : 1 ≤ top
  · by_cases ht2 : top ≤ 2147483647
    · have HN := Bx.mk (dnew_ok top w ht1 ht2)
      have HP := Bx.mk fun (q p : Nat) (Q : Exit → Act → World → Prop) (a : Act) (wr : World) => loopDc w nss v1 q p top hv hn hm ht1 ht2 Q a wr
      have d1 : ¬ top < 1 := by omega
      have d2 : ¬ 2147483647 < top := by omega
      clear hv hn hm ht1 ht2
      go_enter Try.func3, Try.ntmps3
      go_wp2_with (refine HN.out.mono ?_; rintro e w1 ⟨rfl, hd, hb⟩; have R1 : Bx (DCs w w.heap.size w1.heap.size top (.slice none 0 0) (.slice none 0 0) [] [] (w1.alloc (.cells #[.int .i64 top, .slice none 0 0] 31))) := Bx.mk ⟨hd.later (below_a _), hnew _ _ _ rfl, OwnI.nil _ _, hb.trans ((below_a _).mono hb.size), by have := hd.lt; omega, Nat.le_refl _, hb.size⟩; clear hd hb HN)
      skip -- M1
      refine HP.out w.heap.size w1.heap.size _ _ _ ⟨⟨⟨rfl, rfl⟩, rfl, rfl, rfl⟩, rfl, _, [], R1.out, by simp⟩ ?_
      intro a6 w6 hf hb
      have HB := Bx.mk hb
      obtain ⟨y, rfl, hy⟩ := open115 hf.fr
      have e1 := (hy 1).symm.trans hf.s1
      clear hf hy hb HP R1
      rw [e1]
      clear e1
      go_wp2_with fail
      refine (HKn.out _).mono ?_
      rintro e w8 ⟨rfl, hb⟩
      have HB8 := Bx.mk (HB.out.trans (hb.mono HB.out.size))
      clear hb HB
      go_wp2
      go_ret
      exact ⟨rfl, HB8.out⟩
    · have HN := Bx.mk (dnew_bad top w (.inr (by omega)))
      have d1 : ¬ top < 1 := by omega
      have d2 : 2147483647 < top := by omega
      clear hv hn hm ht1 ht2
      go_enter Try.func3, Try.ntmps3
      go_wp2_with fail
      refine HN.out.mono ?_
      rintro e w1 ⟨rfl, hw⟩
      obtain rfl : w = w1 := hw.symm
      clear hw HN
      go_wp2_with fail
      refine (HKn.out _).mono ?_
      rintro e w8 ⟨rfl, hb⟩
      have HB8 := Bx.mk hb
      clear hb
      go_wp2
      go_ret
      exact ⟨rfl, HB8.out⟩
  · have HN := Bx.mk (dnew_bad top w (.inl (by omega)))
    have d1 : top < 1 := by omega
    clear hv hn hm ht1
    go_enter Try.func3, Try.ntmps3
    go_wp2_with fail
    refine HN.out.mono ?_
    rintro e w1 ⟨rfl, hw⟩
    obtain rfl : w = w1 := hw.symm
    clear hw HN
    go_wp2_with fail
    refine (HKn.out _).mono ?_
    rintro e w8 ⟨rfl, hb⟩
    have HB8 := Bx.mk hb
    clear hb
    go_wp2
    go_ret
    exact ⟨rfl, HB8.out⟩
end Go.Proofs.Ytfommmkkdgdmfaa
namespace Go.Proofs.Ytfommmkkdgdmfaa
open Go
/-- A world to begin with. -/
noncomputable def laidWorld (os : Os) : World := World.holding Try.prog os ⟨#[], #[], []⟩
end Go.Proofs.Ytfommmkkdgdmfaa
