/-
  A byte that is turned: the law.
-/
import Derived.Test.YtaoekfomffebhaaDoorP22
import Derived.Test.YtaoekfomffebhaaDoorP6
import Derived.Test.YtaoekfomffebhaaDoorP5
import Derived.Test.YtaoekfomffebhaaDoorP16
import Derived.Test.YtaoekfomffebhaaDoorAb
import Derived.Test.YtaoekfomffebhaaDoorP1
import Derived.Test.YtaoekfomffebhaaDoorRows
import Derived.ProofKit
import Derived.OpenShut
import Derived.ShutString
import Derived.ChangeOld
import Derived.Below
import Derived.Deep.DeepHandedRow
import Derived.Lib.LaidTab
import Derived.Deep.Matrix
import Derived.ChangeArms
import Derived.Deep.Slices
namespace Go.Proofs.YtaoekfomffebhaaDoor
open Go Go.ChangeShapes Go.WideShapes Go.ChangeAt Go.RowKit
/-- Bytes, a key and the digest's table. -/
structure FY (bs : List (Value × List UInt8)) (vk : Value) (kb : List UInt8) (W : World) : Prop where
  bytes : ∀ x ∈ bs, Bytes W x.1 x.2
  key : IsKey W vk kb
  tab : Tab W
  tg : 1 < W.heap.size
theorem FY.later {bs : List (Value × List UInt8)} {vk : Value} {kb : List UInt8} {W W1 : World} (h : FY bs vk kb W) (hb : Below W.heap.size W W1) : FY bs vk kb W1 := ⟨fun x hx => (h.bytes x hx).later hb, h.key.later hb, h.tab.later hb h.tg, Nat.lt_of_lt_of_le h.tg hb.size⟩
theorem FY.at0 {x : Value × List UInt8} {bs : List (Value × List UInt8)} {vk : Value} {kb : List UInt8} {W : World} (h : FY (x :: bs) vk kb W) : Bytes W x.1 x.2 := h.bytes x (.head _)
theorem FY.at2 {x y z : Value × List UInt8} {bs : List (Value × List UInt8)} {vk : Value} {kb : List UInt8} {W : World} (h : FY (x :: y :: z :: bs) vk kb W) : Bytes W z.1 z.2 := h.bytes z (.tail _ (.tail _ (.head _)))
theorem FY.cons {x : Value × List UInt8} {bs : List (Value × List UInt8)} {vk : Value} {kb : List UInt8} {W : World} (h : FY bs vk kb W) (hx : Bytes W x.1 x.2) : FY (x :: bs) vk kb W := ⟨fun y hy => by rcases List.mem_cons.1 hy with rfl | hy; exact hx; exact h.bytes y hy, h.key, h.tab, h.tg⟩
theorem wrap_nonneg14 (z : Int) : (0 : Int) ≤ IntKind.u64.wrap z := by
  have h : IntKind.u64.wrap z = z % 18446744073709551616 := rfl
  rw [h]
  omega
theorem turned_ne (a y : UInt8) : a ^^^ (y ||| 1) ≠ a := by
  intro h
  have h2 : a ^^^ (a ^^^ (y ||| 1)) = a ^^^ a := by rw [h]
  rw [← UInt8.xor_assoc, UInt8.xor_self, UInt8.zero_xor] at h2
  have h3 : (y ||| 1) &&& 1 = 0 &&& 1 := by rw [h2]
  revert h3
  have : ∀ y : UInt8, ¬ ((y ||| 1) &&& 1 = 0 &&& 1) := by
    intro y
    have hb : ∀ z : BitVec 8, ¬ ((z ||| 1#8) &&& 1#8 = 0#8 &&& 1#8) := by decide
    intro h
    exact hb y.toBitVec (by
      have := congrArg UInt8.toBitVec h
      simpa using this)
  exact this y
set_option maxRecDepth 100000 in
set_option maxHeartbeats 4000000 in
theorem walkPacketTurns (X : Pk) (v : Value) (kb0 : List UInt8) (vk0 : Value) (zat : Int) (y0 : UInt8) (w : World) (ht : X.t.length = 32) (hb : Bytes w v X.b) (hl : X.b.length ≤ 9223372036854775807) (hk : Bytes w vk0 kb0) (hkl : kb0.length ≤ 9223372036854775807) (hTab : Tab w) (hg : 1 < w.heap.size) :
    Calls Tryd.prog 4 #[pkV X v, vk0, .int .i64 zat, .int .u8 (ub y0)] w fun e w' => e = .returned (.bool true) ∧ Below w.heap.size w w' := by
  obtain ⟨aX, cX, rfl, -, -⟩ := bytes_form hb
  obtain ⟨ak, ck, rfl, hcap, hnone⟩ := bytes_form hk
  obtain ⟨l0, hl0⟩ : ∃ l, kb0.length = l := ⟨_, rfl⟩
  obtain ⟨m, hm⟩ : ∃ m, m = min l0 70 := ⟨_, rfl⟩
  obtain ⟨B, hB⟩ : ∃ B, w.heap.size = B := ⟨_, rfl⟩
  have HKy : Bx (∀ W, Below B w W → Bytes W (.slice ak m ck) (kb0.take m) ∧ Tab W ∧ 1 < W.heap.size) := Bx.mk fun W h => ⟨(hk.old hB h).take m (by omega), hTab.later (by rw [hB]; exact h) hg, Nat.lt_of_lt_of_le hg h.size⟩
  have HML : Bx ((kb0.take m).length = m ∧ m ≤ 70) := Bx.mk ⟨by rw [List.length_take]; omega, by omega⟩
  rw [hl0] at hcap hkl ⊢
  have s1 := fun W => cut_bytes ak l0 ck m (by omega) hcap hnone W
  have hmin : min (l0 : Int) 70 = (m : Int) := by omega
  have hmin2 : (if (70 : Int) < (l0 : Int) then (70 : Int) else (l0 : Int)) = (m : Int) := by split <;> omega
  have hn1 : (l0 : Int) ≤ 9223372036854775807 := by omega
  generalize kb0.take m = kb at *
  obtain ⟨zc, hzc⟩ : ∃ zc, pkC Pk.zero (.slice none 0 0) = zc := ⟨_, rfl⟩
  have hzv : ∀ W : World, (zeroValue 33).run Tryd.prog W = .ok (.agg zc) W := fun W => by rw [← hzc]; exact pk_zeroW W
  have hzr : ∀ W : World, (zeroValue 29).run Tryd.prog W = .ok (.agg zc) W := fun W => by rw [← hzc]; exact pk_zeroR W
  have HZ := Bx.mk (show zc.size = 41 by rw [← hzc, pkC_size _ _ rfl])
  have HIc : Bx ((Tryd.prog.info? 33).map (·.size) = some zc.size) := Bx.mk (by rw [← hzc]; exact pk_infoW _ _ rfl)
  have HOc : Bx (zc.all (·.oneCell') = true) := Bx.mk (by rw [← hzc]; exact pkC_one _ _ _ _)
  have HTo : Bx (∀ W, Below B w W → Calls Tryd.prog 6 #[pkV X (.slice aX X.b.length cX)] W fun e w' => ∃ u, e = .returned (pkV (cutP X) u) ∧ Bytes w' u (cutP X).b ∧ Below W.heap.size W w') := Bx.mk fun W h => to14 X _ W ht (hb.old hB h) hl
  have HIX := Bx.mk (pk_infoR X (.slice aX X.b.length cX) ht)
  have K0 := Bx.mk ((KP.start w B hB).new (.cells (pkC X (.slice aX X.b.length cX)) 29))
  rw [hB] at K0
  obtain ⟨tX, htX⟩ : ∃ tX, pkC X (.slice aX X.b.length cX) = tX := ⟨_, rfl⟩
  unfold pkV at HTo
  rw [htX] at HTo HIX K0
  have hpx : pkV X (.slice aX X.b.length cX) = .agg tX := by unfold pkV; rw [htX]
  rw [hpx]
  have ht2 : (cutP X).t.length = 32 := ht
  have hl2 : (cutP X).b.length ≤ 520 := by show (X.b.take 520).length ≤ 520; rw [List.length_take]; omega
  generalize cutP X = x at *
  rw [hB]
  have HT2 := Bx.mk (And.intro ht2 hl2)
  have HZC := Bx.mk hzc
  clear hb hl ht hpx htX hk hkl hcap hnone hl0 hm hTab hg ht2 hl2 hzc
  go_enter Tryd.func4, Tryd.ntmps4
  go_wp2_with fail
  clear s1 hmin hmin2 hn1
  generalize w.alloc (.cells tX 29) = w0 at *
  refine (new_any kb _ w0 (HKy.out w0 K0.out.below).1 (by rw [HML.out.1]; have := HML.out.2; omega)).mono ?_
  rintro e w1 ⟨vk, rfl, ho1, hb1⟩
  have K1 := Bx.mk (And.intro (K0.out.later hb1) (show FY [(.slice ak m ck, kb)] vk kb w1 from ⟨fun y hy => by
    simp only [List.mem_cons, List.not_mem_nil, or_false] at hy
    subst hy
    exact (HKy.out w1 (K0.out.later hb1).below).1, ho1.key, (HKy.out w1 (K0.out.later hb1).below).2.1, (HKy.out w1 (K0.out.later hb1).below).2.2⟩))
  obtain ⟨p, s0, rfl, -, -⟩ := ho1
  clear hb1 K0 HKy
  go_wp2_with (refine wpList_load_row rfl 29 _ rfl B (by rfl) _ _ _ _ (K1.out.1.rows _ (.head _)) Tryd.underlying29 rfl HIX.out ?_)
  refine (HTo.out w1 K1.out.1.below).mono ?_
  rintro e w2 ⟨u, rfl, hu, hb2⟩
  have K2 := Bx.mk (And.intro (K1.out.1.later hb2) ((K1.out.2.later hb2).cons (x := (u, x.b)) hu))
  obtain ⟨au, cu, rfl, -, -⟩ := bytes_form hu
  clear hu hb2 K1 HTo
  go_wp2_with fail
  cases hp : plainB x.k with
  | true =>
    refine (tagged_plain x (.slice au x.b.length cu) w2 HT2.out.1 K2.out.2.at0 p hp).mono ?_
    rintro e w3 ⟨rfl, hb⟩
    unfold pkV
    rw [HZC.out]
    have K3 := Bx.mk (And.intro (K2.out.1.later hb) (K2.out.2.later hb))
    clear hb K2
    obtain ⟨Z, hZ⟩ : ∃ Z, w3.heap.size = Z := ⟨_, rfl⟩
    have HnZ : Bx ((w3.alloc (.cells zc 33)).heap[Z]? = some (.cells zc 33 (0, 0))) := Bx.mk (hnew _ _ _ hZ.symm)
    go_wp2_with ((refine wpList_store_new rfl 33 _ _ rfl Z zc zc _ (by rfl) (by rfl) HnZ.out rfl HIc.out HOc.out ?_; intro w4 hw8 hr8; have F9 := Bx.mk (K3.out.1.fresh hZ (kb_ofP hw8) hr8); have K4 := Bx.mk (And.intro F9.out.1 (K3.out.2.later F9.out.2)); clear hw8 hr8 F9))
    clear K3 HnZ hZ
    refine (known14_any w4).mono ?_
    rintro e w5 ⟨rfl, hb⟩
    have K5 := Bx.mk (And.intro (K4.out.1.later hb) (K4.out.2.later hb))
    clear hb K4
    go_wp2
    go_ret
    exact ⟨rfl, K5.out.1.below⟩
  | false =>
    by_cases hc : chkP x = 0
    · refine (tagged_ok x (.slice au x.b.length cu) kb (.pointer (some ⟨p, 0, none⟩)) w2 HT2.out.1 K2.out.2.at0 K2.out.2.key (by rw [HML.out.1]; have := HML.out.2; omega) hp hc K2.out.2.tab K2.out.2.tg).mono ?_
      rintro e w3 ⟨uz, rfl, ho, hb⟩
      obtain ⟨z, hz⟩ : ∃ z, tgP kb x = z := ⟨_, rfl⟩
      have HZp : Bx (z.t.length = 32 ∧ chkP z = 0 ∧ z.b.length ≤ 520) := Bx.mk (by rw [← hz]; exact ⟨tagK_length _ _, by unfold tgP; rw [chkP_tag x _ hp]; exact hc, HT2.out.2⟩)
      rw [hz] at ho ⊢
      clear hz
      have K3 := Bx.mk (And.intro (K2.out.1.later hb) ((K2.out.2.later hb).cons (x := (uz, z.b)) ho.bytes))
      obtain ⟨az, cz, hv9⟩ := own_form ho
      subst hv9
      clear hb ho K2
      have HIy : Bx ((Tryd.prog.info? 33).map (·.size) = some (pkC z (.slice az z.b.length cz)).size ∧ (pkC z (.slice az z.b.length cz)).size = zc.size ∧ (pkC z (.slice az z.b.length cz)).all (·.oneCell') = true) := Bx.mk ⟨pk_infoW _ _ HZp.out.1, by rw [HZ.out, pkC_size _ _ HZp.out.1], pkC_one _ _ _ _⟩
      have HBy := Bx.mk fun (W : World) (h : Bytes W (.slice az z.b.length cz) z.b) => pbytes_ok z _ W HZp.out.1 h HZp.out.2.1
      have HSm : Bx (∀ W y u, y.t.length = 32 → Bytes W u y.b → Bytes W (.slice az z.b.length cz) z.b → y.b.length ≤ 1000 → y ≠ z → Calls Tryd.prog 18 #[pkV y u, pkV z (.slice az z.b.length cz)] W fun e w' => e = .returned (.bool false) ∧ Below W.heap.size W w') := Bx.mk fun W y u h1 h2 h3 h4 h5 => psame14 y z u _ W h1 HZp.out.1 h2 h3 (by omega) (by have := HZp.out.2.2; omega) false (by simp [h5])
      unfold pkV at HBy HSm ⊢
      obtain ⟨tz, htz⟩ : ∃ tz, pkC z (.slice az z.b.length cz) = tz := ⟨_, rfl⟩
      rw [htz] at HIy HBy HSm ⊢
      clear htz
      obtain ⟨Z, hZ⟩ : ∃ Z, w3.heap.size = Z := ⟨_, rfl⟩
      have HnZ : Bx ((w3.alloc (.cells zc 33)).heap[Z]? = some (.cells zc 33 (0, 0))) := Bx.mk (hnew _ _ _ hZ.symm)
      go_wp2_with (first | (refine wpList_store_new rfl 33 _ _ rfl Z tz zc _ (by rfl) (by rfl) HnZ.out HIy.out.2.1 HIy.out.1 HIy.out.2.2 ?_; intro w4 hw8 hr8; have F9 := Bx.mk (K3.out.1.fresh hZ (kb_ofP hw8) hr8); have K4 := Bx.mk (And.intro F9.out.1 (K3.out.2.later F9.out.2)); clear hw8 hr8 F9) | (refine wpList_load_midP (by rfl) 33 _ rfl Z 0 (by rfl) tz.toList _ (row_rngP (by rw [Array.toArray_toList]; exact K4.out.1.rows _ (.head _))) Tryd.underlying33 rfl HIy.out.1 ?_; rw [Array.toArray_toList]))
      clear K3 HnZ hZ
      refine (HBy.out w4 K4.out.2.at0).mono ?_
      rintro e w5 ⟨ub9, rfl, ho, hb⟩
      have HLb : Bx ((pkB z).length = 52 + z.b.length) := Bx.mk (by unfold pkB; rw [List.length_append, hdB_length, HZp.out.1]; omega)
      obtain ⟨bs, hbs⟩ : ∃ bs, pkB z = bs := ⟨_, rfl⟩
      have HBS := Bx.mk hbs
      rw [hbs] at ho HLb
      clear hbs
      obtain ⟨am, cm, hv9⟩ := own_form ho
      subst hv9
      obtain ⟨M, ham, hMl⟩ := own_at ho (by have := HLb.out; omega)
      subst ham
      have hMB : w4.heap.size ≤ M := (ho.lt M rfl).2
      obtain ⟨L, hL⟩ : ∃ L, bs.length = L := ⟨_, rfl⟩
      have HL : Bx (bs.length = L ∧ 52 ≤ L ∧ L ≤ 600) := Bx.mk ⟨hL, by have := HLb.out; omega, by have := HLb.out; have := HZp.out.2.2; omega⟩
      rw [hL] at ho ⊢
      have hL0 : (0 : Int) < (L : Int) := by have := HL.out; omega
      have hL1 : (L : Int) ≤ 600 := by have := HL.out; omega
      have hLw : IntKind.u64.wrap (L : Int) = (L : Int) := by
        have h : IntKind.u64.wrap (L : Int) = (L : Int) % 18446744073709551616 := rfl
        rw [h]
        omega
      have hLz : ¬ (L : Int) = 0 := by omega
      have hLd : ((L : Int) == 0) = false := by simp; omega
      obtain ⟨ii, hii, hil⟩ : ∃ i : Nat, (IntKind.u64.wrap zat).tmod (L : Int) = (i : Int) ∧ i < L := by
        have h0 : (0 : Int) ≤ IntKind.u64.wrap zat := wrap_nonneg14 zat
        rw [Int.tmod_eq_emod_of_nonneg h0]
        have h1 := Int.emod_nonneg (IntKind.u64.wrap zat) (show (L : Int) ≠ 0 by omega)
        have h2 := Int.emod_lt_of_pos (IntKind.u64.wrap zat) (show (0 : Int) < (L : Int) by omega)
        exact ⟨((IntKind.u64.wrap zat) % (L : Int)).toNat, by omega, by omega⟩
      have hi1 : (ii : Int) < (L : Int) := by omega
      have hi0 : (0 : Int) ≤ (ii : Int) := by omega
      have hcell := own_cell ho ii (by rw [hL]; exact hil)
      have fz : w5.frozen? ⟨M, ii, none⟩ = false := by
        rcases ho.2 with ⟨hv, h0⟩ | ⟨g, cap, cur, hv, hbg, hh, hr⟩
        · have := HL.out; omega
        · injection hv with e1 e2 e3
          injection e1 with e1
          injection e1 with e1 e4
          subst e1
          exact frozen_of_row _ _ _ _ _ hh
      have HW8 : Bx (Bytes (w5.setCell ⟨M, ii, none⟩ (.int .u8 (ub (bs.getD ii 0 ^^^ (y0 ||| 1))))) (.slice (some ⟨M, 0, none⟩) L cm) (bs.set ii (bs.getD ii 0 ^^^ (y0 ||| 1))) ∧ Below w4.heap.size w4 (w5.setCell ⟨M, ii, none⟩ (.int .u8 (ub (bs.getD ii 0 ^^^ (y0 ||| 1)))))) := Bx.mk ⟨(ho.set ii _).bytes, hb.setCell hMB _⟩
      have K5 := Bx.mk (And.intro (K4.out.1.later HW8.out.2) ((K4.out.2.later HW8.out.2).cons (x := ((.slice (some ⟨M, 0, none⟩) L cm), bs.set ii (bs.getD ii 0 ^^^ (y0 ||| 1)))) HW8.out.1))
      have HNe : Bx (bs.set ii (bs.getD ii 0 ^^^ (y0 ||| 1)) ≠ bs ∧ (bs.set ii (bs.getD ii 0 ^^^ (y0 ||| 1))).length = L) := Bx.mk ⟨fun e => by
        have h1 : (bs.set ii (bs.getD ii 0 ^^^ (y0 ||| 1))).getD ii 0 = bs.getD ii 0 := by rw [e]
        rw [List.getD_eq_getElem?_getD, List.getElem?_set_self (by rw [hL]; exact hil)] at h1
        exact turned_ne _ _ h1, by rw [List.length_set]; exact hL⟩
      have hxor := ub_xor (bs.getD ii 0) (y0 ||| 1)
      have hor : bits .or .u8 (ub y0) 1 = ub (y0 ||| 1) := ub_or y0 1
      have hz1 := ub_nonneg (bs.getD ii 0 ^^^ (y0 ||| 1))
      have hz2 := ub_le (bs.getD ii 0 ^^^ (y0 ||| 1))
      have hz3 := ub_nonneg (y0 ||| 1)
      have hz4 := ub_le (y0 ||| 1)
      generalize bs.set ii (bs.getD ii 0 ^^^ (y0 ||| 1)) = b2 at *
      generalize bs.getD ii 0 = x0 at *
      clear HW8 K4 ho hb hMB hMl
      skip -- M1
      go_upto_region 10 with (fail)
      generalize w5.setCell ⟨M, ii, none⟩ (.int .u8 (ub (x0 ^^^ (y0 ||| 1)))) = w6 at *
      clear hcell fz hxor hor hz1 hz2 hz3 hz4 hii hil hi1 hi0 hL0 hL1 hLw hLz hLd hL
      skip -- M2
      go_wp2_with fail
      refine (parse14 b2 _ w6 K5.out.2.at0 (by rw [HNe.out.2]; have := HL.out; omega)).mono ?_
      rintro e w7 ⟨uy, rfl, ho, hb⟩
      have K7 := Bx.mk (And.intro (K5.out.1.later hb) ((K5.out.2.later hb).cons (x := (uy, (psX b2).b)) ho.bytes))
      obtain ⟨ay, cy, hv9⟩ := own_form ho
      subst hv9
      clear ho hb K5
      have HYt : Bx ((psX b2).t.length = 32) := Bx.mk (by
        unfold psX
        split
        · exact tgT_length _ _
        · rfl)
      have HYl : Bx (psE14 b2 = 0 → chkP (psX b2) = 0 ∧ psX b2 ≠ z) := Bx.mk fun h => by
        obtain ⟨h1, h2, -⟩ := parse_cut b2 h
        exact ⟨h1, fun e => HNe.out.1 (by rw [← h2, e, HBS.out])⟩
      generalize psX b2 = y at *
      generalize psE14 b2 = ce at *
      have HIw : Bx (((Tryd.prog.info? 33).map (·.size) = some (pkC y (.slice ay y.b.length cy)).size ∧ (Tryd.prog.info? 29).map (·.size) = some (pkC y (.slice ay y.b.length cy)).size) ∧ (pkC y (.slice ay y.b.length cy)).size = zc.size ∧ (pkC y (.slice ay y.b.length cy)).all (·.oneCell') = true) := Bx.mk ⟨⟨pk_infoW _ _ HYt.out, pk_infoR _ _ HYt.out⟩, by rw [HZ.out, pkC_size _ _ HYt.out], pkC_one _ _ _ _⟩
      have HAt : Bx (∀ W D T, W.heap[D]? = some (.cells (pkC y (.slice ay y.b.length cy)) T (0, 0)) → PkAt W D y (.slice ay y.b.length cy)) := Bx.mk fun W D T h => pk_at h
      have HCa : Bx (∀ W, Bytes W (.slice ay y.b.length cy) y.b → Calls Tryd.prog 7 #[pkV y (.slice ay y.b.length cy)] W fun e w' => e = .returned (pkV y (.slice ay y.b.length cy)) ∧ Below W.heap.size W w') := Bx.mk fun W h => of14 y _ W HYt.out h
      have HHe : Bx (∀ W, plainB y.k = true → Bytes W (.slice ay y.b.length cy) y.b → Calls Tryd.prog 12 #[pkV y (.slice ay y.b.length cy), .pointer (some ⟨p, 0, none⟩)] W fun e w' => e = .returned (.bool false) ∧ Below W.heap.size W w') := Bx.mk fun W h1 h2 => holds14_err y _ 11 (some ⟨p, 0, none⟩) W HYt.out h2 (by decide) (fun W1 hb1 => tagged_plain y _ W1 HYt.out (h2.later hb1) p h1)
      have HHo : Bx (∀ W d, plainB y.k = false → chkP y = 0 → Bytes W (.slice ay y.b.length cy) y.b → IsKey W (.pointer (some ⟨p, 0, none⟩)) kb → Tab W → 1 < W.heap.size → (d = true ↔ tagK kb y = y.t) → Calls Tryd.prog 12 #[pkV y (.slice ay y.b.length cy), .pointer (some ⟨p, 0, none⟩)] W fun e w' => e = .returned (.bool d) ∧ Below W.heap.size W w') := Bx.mk fun W d h1 h2 h3 h4 h5 h6 h7 => holds14_ok y _ kb _ W HYt.out h3 h4 (by rw [HML.out.1]; have := HML.out.2; omega) h1 h2 h5 h6 d h7
      have HTa : Bx (∀ W (tb : List Value), u32s (kTab ++ hTab) = tb.toArray → chkP y = 0 → Bytes W (.slice ak m ck) kb → Bytes W (.slice ay y.b.length cy) y.b → Calls Tryd.prog 13 #[.agg tb.toArray, .slice ak m ck, pkV y (.slice ay y.b.length cy)] W fun e w' => e = .returned (.agg (u8s (tagK kb y))) ∧ Below W.heap.size W w') := Bx.mk fun W tb htb h2 h4 h5 => rtag14 tb htb kb y _ _ W h4 (by rw [HML.out.1]; have := HML.out.2; omega) HYt.out h5 h2
      have HSy : Bx (∀ W, y ≠ z → y.b.length ≤ 1000 → Bytes W (.slice ay y.b.length cy) y.b → Bytes W (.slice az z.b.length cz) z.b → Calls Tryd.prog 18 #[pkV y (.slice ay y.b.length cy), .agg tz] W fun e w' => e = .returned (.bool false) ∧ Below W.heap.size W w') := Bx.mk fun W h1 h2 h3 h4 => HSm.out W y _ HYt.out h3 h4 h2 h1
      unfold pkV at HCa HHe HHo HTa HSy
      obtain ⟨ty, hty⟩ : ∃ ty, pkC y (.slice ay y.b.length cy) = ty := ⟨_, rfl⟩
      unfold pkV
      rw [hty] at HIw HAt HCa HHe HHo HTa HSy ⊢
      clear hty HSm HBy
      by_cases hce : ce = 0
      · subst hce
        obtain ⟨hyc, hyz⟩ := HYl.out rfl
        have HYB : Bx (y.b.length ≤ 1000) := Bx.mk (by have := (chkP_ok hyc).2.2.2.2.1; omega)
        obtain ⟨D, hD⟩ : ∃ D, w7.heap.size = D := ⟨_, rfl⟩
        have HnD : Bx ((w7.alloc (.cells zc 33)).heap[D]? = some (.cells zc 33 (0, 0))) := Bx.mk (hnew _ _ _ hD.symm)
        go_wp2_with (first | (refine wpList_store_new rfl 33 _ _ rfl D ty zc _ (by rfl) (by rfl) HnD.out HIw.out.2.1 HIw.out.1.1 HIw.out.2.2 ?_; intro w8 hw8 hr8; have F9 := Bx.mk (K7.out.1.fresh hD (kb_ofP hw8) hr8); have K8 := Bx.mk (And.intro F9.out.1 (K7.out.2.later F9.out.2)); clear hw8 hr8 F9) | (refine wpList_load_midP (by rfl) 33 _ rfl D 0 (by rfl) ty.toList _ (row_rngP (by rw [Array.toArray_toList]; exact K8.out.1.rows _ (.head _))) Tryd.underlying33 rfl HIw.out.1.1 ?_; rw [Array.toArray_toList]))
        clear K7 HnD hD
        refine (HCa.out w8 K8.out.2.at0).mono ?_
        rintro e w9 ⟨rfl, hb⟩
        have K9 := Bx.mk (And.intro (K8.out.1.later hb) (K8.out.2.later hb))
        clear hb K8
        obtain ⟨E, hE⟩ : ∃ E, w9.heap.size = E := ⟨_, rfl⟩
        have HnE : Bx ((w9.alloc (.cells zc 29)).heap[E]? = some (.cells zc 29 (0, 0))) := Bx.mk (hnew _ _ _ hE.symm)
        go_upto_region 14 with (refine wpList_store_new rfl 29 _ _ rfl E ty zc _ (by rfl) (by rfl) HnE.out HIw.out.2.1 HIw.out.1.2 HIw.out.2.2 ?_; intro w10 hw8 hr8; have F9 := Bx.mk (K9.out.1.fresh hE (kb_ofP hw8) hr8); have K10 := Bx.mk (And.intro F9.out.1 (K9.out.2.later F9.out.2)); clear hw8 hr8 F9)
        clear K9 HnE hE
        have R0 := Bx.mk (And.intro (K10.out.1.later (Below.refl _ _).drew) (K10.out.2.later (Below.refl _ _).drew))
        clear K10 hzv hzr
        obtain ⟨tyl, htyl⟩ : ∃ l, ty.toList = l := ⟨_, rfl⟩
        obtain ⟨tzl, htzl⟩ : ∃ l, tz.toList = l := ⟨_, rfl⟩
        have HE1 : Bx (tyl.toArray = ty ∧ tzl.toArray = tz) := Bx.mk ⟨by rw [← htyl, Array.toArray_toList], by rw [← htzl, Array.toArray_toList]⟩
        have HLn : Bx ((Tryd.prog.info? 33).map (·.size) = some tyl.length ∧ (Tryd.prog.info? 29).map (·.size) = some tyl.length ∧ (Tryd.prog.info? 33).map (·.size) = some tzl.length ∧ (Tryd.prog.info? 27).map (·.size) = some (u8s y.t).toList.length) := Bx.mk ⟨by rw [← htyl]; exact HIw.out.1.1, by rw [← htyl]; exact HIw.out.1.2, by rw [← htzl]; exact HIy.out.1, u8_info y.t HYt.out⟩
        have HSS : Bx (∀ W, KP w B [(E, .cells ty 29), (D, .cells ty 33), (Z, .cells tz 33), (B, .cells tX 29)] W → W.rangeAt D 0 tyl ∧ W.rangeAt E 0 tyl ∧ W.rangeAt Z 0 tzl ∧ W.cell? ⟨E, 0, none⟩ = some (.int .i64 y.k) ∧ W.rangeAt E 9 (u8s y.t).toList) := Bx.mk fun W h => ⟨row_rngP (by rw [HE1.out.1]; exact h.rows _ (.tail _ (.head _))), row_rngP (by rw [HE1.out.1]; exact h.rows _ (.head _)), row_rngP (by rw [HE1.out.2]; exact h.rows _ (.tail _ (.tail _ (.head _)))), (HAt.out W E _ (h.rows _ (.head _))).k, (HAt.out W E _ (h.rows _ (.head _))).t⟩
        have HU := Bx.mk fun (W : World) (h : FY [((.slice ay y.b.length cy), y.b), ((.slice (some ⟨M, 0, none⟩) L cm), b2), ((.slice az z.b.length cz), z.b), ((.slice au x.b.length cu), x.b), (.slice ak m ck, kb)] (.pointer (some ⟨p, 0, none⟩)) kb W) => And.intro h.at0 (And.intro h.at2 (And.intro (show Bytes W (.slice ak m ck) kb from h.bytes _ (.tail _ (.tail _ (.tail _ (.tail _ (.head _)))))) h))
        clear htyl htzl
        cases hyp : plainB y.k with
        | true =>
          have hk2 : ¬ (2 : Int) < y.k := by unfold plainB at hyp; simp at hyp; omega
          refine wp_region_noPanic ?_
          refine wp_region_held_drew (S := fun W => W.rangeAt D 0 tyl ∧ W.rangeAt E 0 tyl ∧ W.rangeAt Z 0 tzl ∧ W.cell? ⟨E, 0, none⟩ = some (.int .i64 y.k) ∧ W.rangeAt E 9 (u8s y.t).toList) (by kernel_rfl) (HSS.out _ R0.out.1) (fun hHeld => ?_)
          generalize w10.drew = W0 at *
          refine stepL 0 (by kernel_rfl) rfl (fun K hK => ?_)
          go_simp
          refine (known14_any W0).mono ?_
          rintro e W1 ⟨rfl, hb⟩
          show K _ _
          have R1 := Bx.mk (And.intro (R0.out.1.later hb) (R0.out.2.later hb))
          clear hb R0
          refine hK.out _ _ (HSS.out _ R1.out.1) (fun hHeld => ?_)
          clear hK K
          try simp only [Act.put, List.setIfInBounds_toArray, List.set_cons_zero, List.set_cons_succ]
          refine takeL 1 (v := ?_) rfl (by kernel_rfl) (by kernel_rfl) (by kernel_rfl) (fun _ _ _ h => h) (Or.inl ⟨by rfl, ?_⟩) hHeld ?_
          rotate_left 1
          · (intro w hSw; go_simp; try with_reducible rfl)
          try simp only [Act.put, List.setIfInBounds_toArray, List.set_cons_zero, List.set_cons_succ]
          refine takeL 2 rfl (by kernel_rfl) (by kernel_rfl) (by kernel_rfl) (fun _ _ _ h => h) (yieldsIf_load_mid (by rfl) _ _ rfl _ _ rfl _ _ (fun w hSw => hSw.1) Tryd.underlying33 rfl HLn.out.1) hHeld ?_
          try simp only [Act.put, List.setIfInBounds_toArray, List.set_cons_zero, List.set_cons_succ]
          refine takeL 3 (v := ?_) rfl (by kernel_rfl) (by kernel_rfl) (by kernel_rfl) (fun _ _ _ h => h) (Or.inl ⟨by rfl, ?_⟩) hHeld ?_
          rotate_left 1
          · (intro w hSw; go_simp; try with_reducible rfl)
          try simp only [Act.put, List.setIfInBounds_toArray, List.set_cons_zero, List.set_cons_succ]
          refine takeL 5 (v := ?_) rfl (by kernel_rfl) (by kernel_rfl) (by kernel_rfl) (fun _ _ _ h => h) (Or.inl ⟨by rfl, ?_⟩) hHeld ?_
          rotate_left 1
          · (intro w hSw; go_simp; try with_reducible rfl)
          try simp only [Act.put, List.setIfInBounds_toArray, List.set_cons_zero, List.set_cons_succ]
          refine takeL 6 (v := ?_) rfl (by kernel_rfl) (by kernel_rfl) (by kernel_rfl) (fun _ _ _ h => h) (Or.inl ⟨by rfl, ?_⟩) hHeld ?_
          rotate_left 1
          · (intro w hSw; have q := hSw.2.2.2.1; clear hSw; go_simp; try with_reducible rfl)
          try simp only [Act.put, List.setIfInBounds_toArray, List.set_cons_zero, List.set_cons_succ]
          refine takeL 7 (v := ?_) rfl (by kernel_rfl) (by kernel_rfl) (by kernel_rfl) (fun _ _ _ h => h) (Or.inl ⟨by rfl, ?_⟩) hHeld ?_
          rotate_left 1
          · (intro w hSw; go_simp; try with_reducible rfl)
          try simp only [Act.put, List.setIfInBounds_toArray, List.set_cons_zero, List.set_cons_succ]
          refine stepL 4 (by kernel_rfl) rfl (fun K hK => ?_)
          go_simp
          try rw [HE1.out.1]
          refine (HHe.out W1 hyp (HU.out W1 R1.out.2).1).mono ?_
          rintro e W2 ⟨rfl, hb⟩
          show K _ _
          have R2 := Bx.mk (And.intro (R1.out.1.later hb) (R1.out.2.later hb))
          clear hb R1
          refine hK.out _ _ (HSS.out _ R2.out.1) (fun hHeld => ?_)
          clear hK K
          try simp only [Act.put, List.setIfInBounds_toArray, List.set_cons_zero, List.set_cons_succ]
          refine takeL 8 (v := ?_) rfl (by kernel_rfl) (by kernel_rfl) (by kernel_rfl) (fun _ _ _ h => h) (Or.inl ⟨by rfl, ?_⟩) hHeld ?_
          rotate_left 1
          · (intro w hSw; go_simp; try with_reducible rfl)
          try simp only [Act.put, List.setIfInBounds_toArray, List.set_cons_zero, List.set_cons_succ]
          refine takeL 9 (v := undef) rfl (by kernel_rfl) (by kernel_rfl) (by kernel_rfl) (fun _ _ _ h => h) (Or.inr ⟨by rfl, rfl⟩) hHeld ?_
          try simp only [Act.put, List.setIfInBounds_toArray, List.set_cons_zero, List.set_cons_succ]
          refine takeL 10 (v := undef) rfl (by kernel_rfl) (by kernel_rfl) (by kernel_rfl) (fun _ _ _ h => h) (Or.inr ⟨by rfl, rfl⟩) hHeld ?_
          try simp only [Act.put, List.setIfInBounds_toArray, List.set_cons_zero, List.set_cons_succ]
          refine takeL 11 (v := undef) rfl (by kernel_rfl) (by kernel_rfl) (by kernel_rfl) (fun _ _ _ h => h) (Or.inr ⟨by rfl, rfl⟩) hHeld ?_
          try simp only [Act.put, List.setIfInBounds_toArray, List.set_cons_zero, List.set_cons_succ]
          refine takeL 12 (v := undef) rfl (by kernel_rfl) (by kernel_rfl) (by kernel_rfl) (fun _ _ _ h => h) (Or.inr ⟨by rfl, rfl⟩) hHeld ?_
          try simp only [Act.put, List.setIfInBounds_toArray, List.set_cons_zero, List.set_cons_succ]
          refine takeL 13 (v := undef) rfl (by kernel_rfl) (by kernel_rfl) (by kernel_rfl) (fun _ _ _ h => h) (Or.inr ⟨by rfl, rfl⟩) hHeld ?_
          try simp only [Act.put, List.setIfInBounds_toArray, List.set_cons_zero, List.set_cons_succ]
          refine takeL 14 (v := undef) rfl (by kernel_rfl) (by kernel_rfl) (by kernel_rfl) (fun _ _ _ h => h) (Or.inr ⟨by rfl, rfl⟩) hHeld ?_
          try simp only [Act.put, List.setIfInBounds_toArray, List.set_cons_zero, List.set_cons_succ]
          refine takeL 15 (v := undef) rfl (by kernel_rfl) (by kernel_rfl) (by kernel_rfl) (fun _ _ _ h => h) (Or.inr ⟨by rfl, rfl⟩) hHeld ?_
          try simp only [Act.put, List.setIfInBounds_toArray, List.set_cons_zero, List.set_cons_succ]
          refine takeL 16 (v := ?_) rfl (by kernel_rfl) (by kernel_rfl) (by kernel_rfl) (fun _ _ _ h => h) (Or.inl ⟨by rfl, ?_⟩) hHeld ?_
          rotate_left 1
          · (intro w hSw; go_simp; try with_reducible rfl)
          try simp only [Act.put, List.setIfInBounds_toArray, List.set_cons_zero, List.set_cons_succ]
          refine takeL 17 (v := ?_) rfl (by kernel_rfl) (by kernel_rfl) (by kernel_rfl) (fun _ _ _ h => h) (Or.inl ⟨by rfl, ?_⟩) hHeld ?_
          rotate_left 1
          · (intro w hSw; go_simp; try with_reducible rfl)
          try simp only [Act.put, List.setIfInBounds_toArray, List.set_cons_zero, List.set_cons_succ]
          refine takeL 18 (v := ?_) rfl (by kernel_rfl) (by kernel_rfl) (by kernel_rfl) (fun _ _ _ h => h) (Or.inl ⟨by rfl, ?_⟩) hHeld ?_
          rotate_left 1
          · (intro w hSw; go_simp; try with_reducible rfl)
          try simp only [Act.put, List.setIfInBounds_toArray, List.set_cons_zero, List.set_cons_succ]
          refine takeL 19 (v := ?_) rfl (by kernel_rfl) (by kernel_rfl) (by kernel_rfl) (fun _ _ _ h => h) (Or.inl ⟨by rfl, ?_⟩) hHeld ?_
          rotate_left 1
          · (intro w hSw; go_simp; try with_reducible rfl)
          try simp only [Act.put, List.setIfInBounds_toArray, List.set_cons_zero, List.set_cons_succ]
          refine takeL 20 rfl (by kernel_rfl) (by kernel_rfl) (by kernel_rfl) (fun _ _ _ h => h) (yieldsIf_load_mid (by rfl) _ _ rfl _ _ rfl _ _ (fun w hSw => hSw.1) Tryd.underlying33 rfl HLn.out.1) hHeld ?_
          try simp only [Act.put, List.setIfInBounds_toArray, List.set_cons_zero, List.set_cons_succ]
          refine takeL 21 rfl (by kernel_rfl) (by kernel_rfl) (by kernel_rfl) (fun _ _ _ h => h) (yieldsIf_load_mid (by rfl) _ _ rfl _ _ rfl _ _ (fun w hSw => hSw.2.2.1) Tryd.underlying33 rfl HLn.out.2.2.1) hHeld ?_
          try simp only [Act.put, List.setIfInBounds_toArray, List.set_cons_zero, List.set_cons_succ]
          refine stepL 22 (by kernel_rfl) rfl (fun K hK => ?_)
          go_simp
          try rw [HE1.out.1]
          try rw [HE1.out.2]
          refine (HSy.out W2 hyz HYB.out (HU.out W2 R2.out.2).1 (HU.out W2 R2.out.2).2.1).mono ?_
          rintro e W3 ⟨rfl, hb⟩
          show K _ _
          have R3 := Bx.mk (And.intro (R2.out.1.later hb) (R2.out.2.later hb))
          clear hb R2
          refine hK.out _ _ (HSS.out _ R3.out.1) (fun hHeld => ?_)
          clear hK K
          try simp only [Act.put, List.setIfInBounds_toArray, List.set_cons_zero, List.set_cons_succ]
          refine takeL 23 (v := ?_) rfl (by kernel_rfl) (by kernel_rfl) (by kernel_rfl) (fun _ _ _ h => h) (Or.inl ⟨by rfl, ?_⟩) hHeld ?_
          rotate_left 1
          · (intro w hSw; go_simp; try with_reducible rfl)
          try simp only [Act.put, List.setIfInBounds_toArray, List.set_cons_zero, List.set_cons_succ]
          refine takeL 24 (v := ?_) rfl (by kernel_rfl) (by kernel_rfl) (by kernel_rfl) (fun _ _ _ h => h) (Or.inl ⟨by rfl, ?_⟩) hHeld ?_
          rotate_left 1
          · (intro w hSw; go_simp; try with_reducible rfl)
          try simp only [Act.put, List.setIfInBounds_toArray, List.set_cons_zero, List.set_cons_succ]
          refine takeL 25 (v := ?_) rfl (by kernel_rfl) (by kernel_rfl) (by kernel_rfl) (fun _ _ _ h => h) (Or.inl ⟨by rfl, ?_⟩) hHeld ?_
          rotate_left 1
          · (intro w hSw; go_simp; try with_reducible rfl)
          try simp only [Act.put, List.setIfInBounds_toArray, List.set_cons_zero, List.set_cons_succ]
          refine wpAnyH_done (by kernel_rfl) ?_ _
          refine NoPanic.normal ?_
          clear hHeld
          try go_wp2
          go_ret
          exact ⟨rfl, R3.out.1.below⟩
        | false =>
          have hk2 := plain_kind y hyp hyc
          obtain ⟨tb, htb⟩ : ∃ tb : List Value, u32s (kTab ++ hTab) = tb.toArray := ⟨_, rfl⟩
          have HTB := Bx.mk htb
          clear htb
          have HTl := Bx.mk (tagK_length kb y)
          obtain ⟨tg, htg⟩ : ∃ tg, tagK kb y = tg := ⟨_, rfl⟩
          obtain ⟨d, hd⟩ : ∃ d : Bool, (tg == y.t) = d := ⟨_, rfl⟩
          rw [htg] at HHo HTa HTl
          have HDd : Bx (d = true ↔ tg = y.t) := Bx.mk (by rw [← hd]; simp)
          have HEq : Bx (∀ W : World, (Op.equalIn 10000 27 (.agg (u8s tg)) (.agg (u8s y.t))).run Tryd.prog W = .ok d W) := Bx.mk fun W => by
            rw [u8s_cell, u8s_cell, ← hd]
            exact Go.run_equalIn_bytes (P := Tryd.prog) W 9998 27 5 32 Tryd.underlying27 Tryd.underlying5 one_u8P tg y.t HTl.out HYt.out
          clear hd htg
          refine wp_region_noPanic ?_
          refine wp_region_held_drew (S := fun W => W.rangeAt D 0 tyl ∧ W.rangeAt E 0 tyl ∧ W.rangeAt Z 0 tzl ∧ W.cell? ⟨E, 0, none⟩ = some (.int .i64 y.k) ∧ W.rangeAt E 9 (u8s y.t).toList) (by kernel_rfl) (HSS.out _ R0.out.1) (fun hHeld => ?_)
          generalize w10.drew = W0 at *
          refine stepL 0 (by kernel_rfl) rfl (fun K hK => ?_)
          go_simp
          refine (known14_any W0).mono ?_
          rintro e W1 ⟨rfl, hb⟩
          show K _ _
          have R1 := Bx.mk (And.intro (R0.out.1.later hb) (R0.out.2.later hb))
          clear hb R0
          refine hK.out _ _ (HSS.out _ R1.out.1) (fun hHeld => ?_)
          clear hK K
          try simp only [Act.put, List.setIfInBounds_toArray, List.set_cons_zero, List.set_cons_succ]
          refine takeL 1 (v := ?_) rfl (by kernel_rfl) (by kernel_rfl) (by kernel_rfl) (fun _ _ _ h => h) (Or.inl ⟨by rfl, ?_⟩) hHeld ?_
          rotate_left 1
          · (intro w hSw; go_simp; try with_reducible rfl)
          try simp only [Act.put, List.setIfInBounds_toArray, List.set_cons_zero, List.set_cons_succ]
          refine takeL 2 rfl (by kernel_rfl) (by kernel_rfl) (by kernel_rfl) (fun _ _ _ h => h) (yieldsIf_load_mid (by rfl) _ _ rfl _ _ rfl _ _ (fun w hSw => hSw.1) Tryd.underlying33 rfl HLn.out.1) hHeld ?_
          try simp only [Act.put, List.setIfInBounds_toArray, List.set_cons_zero, List.set_cons_succ]
          refine takeL 3 (v := ?_) rfl (by kernel_rfl) (by kernel_rfl) (by kernel_rfl) (fun _ _ _ h => h) (Or.inl ⟨by rfl, ?_⟩) hHeld ?_
          rotate_left 1
          · (intro w hSw; go_simp; try with_reducible rfl)
          try simp only [Act.put, List.setIfInBounds_toArray, List.set_cons_zero, List.set_cons_succ]
          refine takeL 5 (v := ?_) rfl (by kernel_rfl) (by kernel_rfl) (by kernel_rfl) (fun _ _ _ h => h) (Or.inl ⟨by rfl, ?_⟩) hHeld ?_
          rotate_left 1
          · (intro w hSw; go_simp; try with_reducible rfl)
          try simp only [Act.put, List.setIfInBounds_toArray, List.set_cons_zero, List.set_cons_succ]
          refine takeL 6 (v := ?_) rfl (by kernel_rfl) (by kernel_rfl) (by kernel_rfl) (fun _ _ _ h => h) (Or.inl ⟨by rfl, ?_⟩) hHeld ?_
          rotate_left 1
          · (intro w hSw; have q := hSw.2.2.2.1; clear hSw; go_simp; try with_reducible rfl)
          try simp only [Act.put, List.setIfInBounds_toArray, List.set_cons_zero, List.set_cons_succ]
          refine takeL 7 (v := ?_) rfl (by kernel_rfl) (by kernel_rfl) (by kernel_rfl) (fun _ _ _ h => h) (Or.inl ⟨by rfl, ?_⟩) hHeld ?_
          rotate_left 1
          · (intro w hSw; go_simp; try with_reducible rfl)
          try simp only [Act.put, List.setIfInBounds_toArray, List.set_cons_zero, List.set_cons_succ]
          refine stepL 4 (by kernel_rfl) rfl (fun K hK => ?_)
          go_simp
          try rw [HE1.out.1]
          refine (HHo.out W1 d hyp hyc (HU.out W1 R1.out.2).1 (HU.out W1 R1.out.2).2.2.2.key (HU.out W1 R1.out.2).2.2.2.tab (HU.out W1 R1.out.2).2.2.2.tg HDd.out).mono ?_
          rintro e W2 ⟨rfl, hb⟩
          show K _ _
          have R2 := Bx.mk (And.intro (R1.out.1.later hb) (R1.out.2.later hb))
          clear hb R1
          refine hK.out _ _ (HSS.out _ R2.out.1) (fun hHeld => ?_)
          clear hK K
          try simp only [Act.put, List.setIfInBounds_toArray, List.set_cons_zero, List.set_cons_succ]
          refine takeL 8 (v := ?_) rfl (by kernel_rfl) (by kernel_rfl) (by kernel_rfl) (fun _ _ _ h => h) (Or.inl ⟨by rfl, ?_⟩) hHeld ?_
          rotate_left 1
          · (intro w hSw; go_simp; try with_reducible rfl)
          try simp only [Act.put, List.setIfInBounds_toArray, List.set_cons_zero, List.set_cons_succ]
          refine takeL 10 (v := ?_) rfl (by kernel_rfl) (by kernel_rfl) (by kernel_rfl) (fun _ _ _ h => h) (Or.inl ⟨by rfl, ?_⟩) hHeld ?_
          rotate_left 1
          · (intro w hSw; go_simp; try with_reducible rfl)
          try simp only [Act.put, List.setIfInBounds_toArray, List.set_cons_zero, List.set_cons_succ]
          refine takeL 11 rfl (by kernel_rfl) (by kernel_rfl) (by kernel_rfl) (fun _ _ _ h => h) (yieldsIf_load_mid (by rfl) _ _ rfl _ _ rfl _ _ (fun w hSw => hSw.2.1) Tryd.underlying29 rfl HLn.out.2.1) hHeld ?_
          try simp only [Act.put, List.setIfInBounds_toArray, List.set_cons_zero, List.set_cons_succ]
          refine takeL 13 (v := ?_) rfl (by kernel_rfl) (by kernel_rfl) (by kernel_rfl) (fun _ _ _ h => h) (Or.inl ⟨by rfl, ?_⟩) hHeld ?_
          rotate_left 1
          · (intro w hSw; go_simp; try with_reducible rfl)
          try simp only [Act.put, List.setIfInBounds_toArray, List.set_cons_zero, List.set_cons_succ]
          refine takeL 14 rfl (by kernel_rfl) (by kernel_rfl) (by kernel_rfl) (fun _ _ _ h => h) (yieldsIf_load_mid (by rfl) _ _ rfl _ _ rfl _ _ (fun w hSw => hSw.2.2.2.2) Tryd.underlying27 rfl HLn.out.2.2.2) hHeld ?_
          try simp only [Act.put, List.setIfInBounds_toArray, List.set_cons_zero, List.set_cons_succ]
          refine stepL 9 (by kernel_rfl) rfl (fun K hK => ?_)
          go_simp
          refine (make_any W2).mono ?_
          rintro e W3 ⟨rfl, hb⟩
          show K _ _
          rw [HTB.out]
          have R3 := Bx.mk (And.intro (R2.out.1.later hb) (R2.out.2.later hb))
          clear hb R2
          refine hK.out _ _ (HSS.out _ R3.out.1) (fun hHeld => ?_)
          clear hK K
          try simp only [Act.put, List.setIfInBounds_toArray, List.set_cons_zero, List.set_cons_succ]
          refine stepL 12 (by kernel_rfl) rfl (fun K hK => ?_)
          go_simp
          try rw [HE1.out.1]
          refine (HTa.out W3 tb HTB.out hyc (HU.out W3 R3.out.2).2.2.1 (HU.out W3 R3.out.2).1).mono ?_
          rintro e W4 ⟨rfl, hb⟩
          show K _ _
          have R4 := Bx.mk (And.intro (R3.out.1.later hb) (R3.out.2.later hb))
          clear hb R3
          refine hK.out _ _ (HSS.out _ R4.out.1) (fun hHeld => ?_)
          clear hK K
          try simp only [Act.put, List.setIfInBounds_toArray, List.set_cons_zero, List.set_cons_succ]
          refine takeL 15 (v := ?_) rfl (by kernel_rfl) (by kernel_rfl) (by kernel_rfl) (fun _ _ _ h => h) (Or.inl ⟨by rfl, ?_⟩) hHeld ?_
          rotate_left 1
          · (intro w hSw; have q := HEq.out w; clear hSw; go_simp; try with_reducible rfl)
          try simp only [Act.put, List.setIfInBounds_toArray, List.set_cons_zero, List.set_cons_succ]
          refine takeL 16 (v := ?_) rfl (by kernel_rfl) (by kernel_rfl) (by kernel_rfl) (fun _ _ _ h => h) (Or.inl ⟨by rfl, ?_⟩) hHeld ?_
          rotate_left 1
          · (intro w hSw; go_simp; try with_reducible rfl)
          try simp only [Act.put, List.setIfInBounds_toArray, List.set_cons_zero, List.set_cons_succ]
          refine takeL 17 (v := ?_) rfl (by kernel_rfl) (by kernel_rfl) (by kernel_rfl) (fun _ _ _ h => h) (Or.inl ⟨by rfl, ?_⟩) hHeld ?_
          rotate_left 1
          · (intro w hSw; go_simp; try with_reducible rfl)
          try simp only [Act.put, List.setIfInBounds_toArray, List.set_cons_zero, List.set_cons_succ]
          refine takeL 18 (v := ?_) rfl (by kernel_rfl) (by kernel_rfl) (by kernel_rfl) (fun _ _ _ h => h) (Or.inl ⟨by rfl, ?_⟩) hHeld ?_
          rotate_left 1
          · (intro w hSw; go_simp; try with_reducible rfl)
          try simp only [Act.put, List.setIfInBounds_toArray, List.set_cons_zero, List.set_cons_succ]
          refine takeL 19 (v := ?_) rfl (by kernel_rfl) (by kernel_rfl) (by kernel_rfl) (fun _ _ _ h => h) (Or.inl ⟨by rfl, ?_⟩) hHeld ?_
          rotate_left 1
          · (intro w hSw; go_simp; try with_reducible rfl)
          try simp only [Act.put, List.setIfInBounds_toArray, List.set_cons_zero, List.set_cons_succ]
          refine takeL 20 rfl (by kernel_rfl) (by kernel_rfl) (by kernel_rfl) (fun _ _ _ h => h) (yieldsIf_load_mid (by rfl) _ _ rfl _ _ rfl _ _ (fun w hSw => hSw.1) Tryd.underlying33 rfl HLn.out.1) hHeld ?_
          try simp only [Act.put, List.setIfInBounds_toArray, List.set_cons_zero, List.set_cons_succ]
          refine takeL 21 rfl (by kernel_rfl) (by kernel_rfl) (by kernel_rfl) (fun _ _ _ h => h) (yieldsIf_load_mid (by rfl) _ _ rfl _ _ rfl _ _ (fun w hSw => hSw.2.2.1) Tryd.underlying33 rfl HLn.out.2.2.1) hHeld ?_
          try simp only [Act.put, List.setIfInBounds_toArray, List.set_cons_zero, List.set_cons_succ]
          refine stepL 22 (by kernel_rfl) rfl (fun K hK => ?_)
          go_simp
          try rw [HE1.out.1]
          try rw [HE1.out.2]
          refine (HSy.out W4 hyz HYB.out (HU.out W4 R4.out.2).1 (HU.out W4 R4.out.2).2.1).mono ?_
          rintro e W5 ⟨rfl, hb⟩
          show K _ _
          have R5 := Bx.mk (And.intro (R4.out.1.later hb) (R4.out.2.later hb))
          clear hb R4
          refine hK.out _ _ (HSS.out _ R5.out.1) (fun hHeld => ?_)
          clear hK K
          try simp only [Act.put, List.setIfInBounds_toArray, List.set_cons_zero, List.set_cons_succ]
          refine takeL 23 (v := ?_) rfl (by kernel_rfl) (by kernel_rfl) (by kernel_rfl) (fun _ _ _ h => h) (Or.inl ⟨by rfl, ?_⟩) hHeld ?_
          rotate_left 1
          · (intro w hSw; go_simp; try with_reducible rfl)
          try simp only [Act.put, List.setIfInBounds_toArray, List.set_cons_zero, List.set_cons_succ]
          refine takeL 24 (v := ?_) rfl (by kernel_rfl) (by kernel_rfl) (by kernel_rfl) (fun _ _ _ h => h) (Or.inl ⟨by rfl, ?_⟩) hHeld ?_
          rotate_left 1
          · (intro w hSw; go_simp; try with_reducible rfl)
          try simp only [Act.put, List.setIfInBounds_toArray, List.set_cons_zero, List.set_cons_succ]
          refine takeL 25 (v := ?_) rfl (by kernel_rfl) (by kernel_rfl) (by kernel_rfl) (fun _ _ _ h => h) (Or.inl ⟨by rfl, ?_⟩) hHeld ?_
          rotate_left 1
          · (intro w hSw; go_simp; try with_reducible rfl)
          try simp only [Act.put, List.setIfInBounds_toArray, List.set_cons_zero, List.set_cons_succ]
          refine wpAnyH_done (by kernel_rfl) ?_ _
          refine NoPanic.normal ?_
          clear hHeld
          try go_wp2
          go_ret
          exact ⟨rfl, R5.out.1.below⟩
      · obtain ⟨D, hD⟩ : ∃ D, w7.heap.size = D := ⟨_, rfl⟩
        have HnD : Bx ((w7.alloc (.cells zc 33)).heap[D]? = some (.cells zc 33 (0, 0))) := Bx.mk (hnew _ _ _ hD.symm)
        go_wp2_with ((refine wpList_store_new rfl 33 _ _ rfl D ty zc _ (by rfl) (by rfl) HnD.out HIw.out.2.1 HIw.out.1.1 HIw.out.2.2 ?_; intro w8 hw8 hr8; have F9 := Bx.mk (K7.out.1.fresh hD (kb_ofP hw8) hr8); have K8 := Bx.mk (And.intro F9.out.1 (K7.out.2.later F9.out.2)); clear hw8 hr8 F9))
        clear K7 HnD hD
        refine (known14_any w8).mono ?_
        rintro e w9 ⟨rfl, hb⟩
        have K9 := Bx.mk (And.intro (K8.out.1.later hb) (K8.out.2.later hb))
        clear hb K8
        go_wp2
        go_ret
        exact ⟨rfl, K9.out.1.below⟩
    · refine (tagged_bad x (.slice au x.b.length cu) w2 HT2.out.1 K2.out.2.at0 p hp hc).mono ?_
      rintro e w3 ⟨rfl, hb⟩
      unfold pkV
      rw [HZC.out]
      have K3 := Bx.mk (And.intro (K2.out.1.later hb) (K2.out.2.later hb))
      clear hb K2
      obtain ⟨cc, hcc⟩ : ∃ c, chkP x = c := ⟨_, rfl⟩
      rw [hcc] at hc ⊢
      clear hcc
      obtain ⟨Z, hZ⟩ : ∃ Z, w3.heap.size = Z := ⟨_, rfl⟩
      have HnZ : Bx ((w3.alloc (.cells zc 33)).heap[Z]? = some (.cells zc 33 (0, 0))) := Bx.mk (hnew _ _ _ hZ.symm)
      go_wp2_with ((refine wpList_store_new rfl 33 _ _ rfl Z zc zc _ (by rfl) (by rfl) HnZ.out rfl HIc.out HOc.out ?_; intro w4 hw8 hr8; have F9 := Bx.mk (K3.out.1.fresh hZ (kb_ofP hw8) hr8); have K4 := Bx.mk (And.intro F9.out.1 (K3.out.2.later F9.out.2)); clear hw8 hr8 F9))
      clear K3 HnZ hZ
      refine (known14_any w4).mono ?_
      rintro e w5 ⟨rfl, hb⟩
      have K5 := Bx.mk (And.intro (K4.out.1.later hb) (K4.out.2.later hb))
      clear hb K4
      go_wp2
      go_ret
      exact ⟨rfl, K5.out.1.below⟩
end Go.Proofs.YtaoekfomffebhaaDoor
namespace Go.Proofs.YtaoekfomffebhaaDoor
open Go Go.ChangeShapes Go.WideShapes Go.ChangeAt Go.RowKit
theorem gTab : Tryd.prog.globalNamed "vigil/digest.table" = some 1 := by kernel_rfl
theorem gTabType : (Tryd.prog.globals[1]?).map (·.type) = some 42 := by kernel_rfl
theorem cellsTab : Tryd.prog.cellsOf 42 = 64 := by kernel_rfl
theorem cellsWord : Tryd.prog.cellsOf 41 = 1 := by kernel_rfl
theorem laid_is : (Rows.laid_vigil_digest_table : DataW Unit) = Lib.tabData .u32 (kTab.map uv) := by kernel_rfl
/-- The listed variable's cells hold the table. -/
theorem tab_of {W : World} (h : laidMet Tryd.prog [("vigil/digest.table", Rows.laid_vigil_digest_table)] W) : Tab W := by
  rw [laid_is] at h
  have t := Lib.tabIs_of_head (rest := []) gTab gTabType Tryd.underlying42 Tryd.underlying41 cellsWord cellsTab h
  intro i hi
  rw [t.cell gTab i (by simpa [kTab] using hi)]
  congr 2
  have hk : i < kTab.length := hi
  simp [hk]
/-- A world for the witness: the settled one, the table holding what its initialiser lays. -/
noncomputable def laidWorld (os : Os) : World :=
  { World.holding Tryd.prog os ⟨#[], #[], []⟩ with heap := (World.holding Tryd.prog os ⟨#[], #[], []⟩).heap.modify 1 fun
      | .cells _ t frozen => .cells (u32s kTab) t frozen
      | o => o }
end Go.Proofs.YtaoekfomffebhaaDoor
namespace Go.Proofs.YtaoekfomffebhaaDoor
open Go Go.ChangeShapes Go.WideShapes Go.ChangeAt Go.RowKit
end Go.Proofs.YtaoekfomffebhaaDoor
namespace Go.Proofs.YtaoekfomffebhaaDoor
open Go Go.ChangeShapes Go.WideShapes Go.ChangeAt Go.RowKit
set_option maxRecDepth 100000 in
theorem raw_u32 {H : Type} {enc : TypeId × Value → H} {W : World} {fuel : Nat} {cs : List Value} {x : DataW H × List MemPlace} (hf : DataW.trod enc Tryd.prog W 0 (fun _ => true) true fuel 27 cs = some x) : ∃ l : List UInt8, l.length = 32 ∧ cs = (u8s l).toList := by
  obtain ⟨xs, n, -, -, hlen, hxl, hg⟩ := DataW.trod_array Tryd.underlying27 hf
  have hl : cs.length = 32 := hlen.trans (by kernel_rfl)
  have hc : Tryd.prog.cellsOf 5 = 1 := by kernel_rfl
  rw [hc] at hg
  have hrow : ∀ i, i < 32 → ∃ b : UInt8, cs[i]? = some (.int .u8 (ub b)) := fun i hi => by
    have h1 := hg i hi
    rw [Nat.mul_one, List.getElem?_eq_getElem (by omega)] at h1
    have e : (cs.drop i).take 1 = [cs[i]'(by omega)] := by rw [List.drop_eq_getElem_cons (by omega)]; rfl
    rw [e] at h1
    obtain ⟨m, e1, -, w1⟩ := DataW.trod_int Tryd.underlying5 h1
    obtain ⟨b, hb⟩ := lit_u8 m w1
    simp at e1
    exact ⟨b, by rw [List.getElem?_eq_getElem (by omega), e1, hb]⟩
  obtain ⟨f, hfb⟩ := Deep.choose_lt hrow
  refine ⟨(List.range 32).map f, by simp, ?_⟩
  apply List.ext_getElem?
  intro i
  by_cases hi : i < 32
  · rw [hfb i hi, Array.getElem?_toList, u8s_get _ _ (by simpa using hi)]
    congr 3
    rw [List.getD_eq_getElem?_getD, List.getElem?_map, List.getElem?_range hi]
    rfl
  · rw [List.getElem?_eq_none (by omega), List.getElem?_eq_none (by rw [Array.length_toList, u8s_size]; simp; omega)]
set_option maxRecDepth 100000 in
theorem claims_in {H : Type} {enc : TypeId × Value → H} {W : World} {fuel : Nat} {a0 a1 a2 a3 : Value} {x : DataW H × List MemPlace} (h : DataW.trod enc Tryd.prog W 0 (fun _ => true) true fuel 23 [a0, a1, a2, a3] = some x) : ∃ c : Cl, [a0, a1, a2, a3] = clL c := by
  obtain ⟨xs, n, -, -, hlen, hxl, hf⟩ := DataW.trod_struct Tryd.underlying23 h
  have hx4 : xs.length = 4 := hxl
  match xs, hx4 with
  | [y0, y1, y2, y3], _ =>
    have g0 : DataW.trod enc Tryd.prog W 0 (fun _ => true) true n 3 [a0] = some y0 := hf 0 _ rfl
    have g1 : DataW.trod enc Tryd.prog W 0 (fun _ => true) true n 3 [a1] = some y1 := hf 1 _ rfl
    have g2 : DataW.trod enc Tryd.prog W 0 (fun _ => true) true n 3 [a2] = some y2 := hf 2 _ rfl
    have g3 : DataW.trod enc Tryd.prog W 0 (fun _ => true) true n 3 [a3] = some y3 := hf 3 _ rfl
    obtain ⟨n0, e0, -, -⟩ := DataW.trod_int Tryd.underlying3 g0
    obtain ⟨n1, e1, -, -⟩ := DataW.trod_int Tryd.underlying3 g1
    obtain ⟨n2, e2, -, -⟩ := DataW.trod_int Tryd.underlying3 g2
    obtain ⟨n3, e3, -, -⟩ := DataW.trod_int Tryd.underlying3 g3
    simp at e0 e1 e2 e3
    subst e0 e1 e2 e3
    exact ⟨⟨n0, n1, n2, n3⟩, rfl⟩
/-- A packet that came in. -/
def PkIn (W : World) (cs : List Value) (x : Pk) : Prop := ∃ u, cs = pkL x u ∧ Bytes W u x.b ∧ x.b.length ≤ 9223372036854775807 ∧ x.t.length = 32
set_option maxRecDepth 100000 in
set_option maxHeartbeats 2000000 in
theorem packet_in {H : Type} {enc : TypeId × Value → H} {W : World} {fuel : Nat} {cs : List Value} {x : DataW H × List MemPlace} (h : DataW.trod enc Tryd.prog W 0 (fun _ => true) true fuel 29 cs = some x) : ∃ y : Pk, PkIn W cs y := by
  obtain ⟨xs, n, -, -, hlen, hxl, hf⟩ := DataW.trod_struct Tryd.underlying29 h
  have hl : cs.length = 41 := hlen.trans (by kernel_rfl)
  have hx6 : xs.length = 6 := hxl
  match cs, hl, xs, hx6 with
  | c0 :: c1 :: c2 :: c3 :: c4 :: c5 :: c6 :: c7 :: c8 :: r, hl, [y0, y1, y2, y3, y4, y5], _ =>
    have hr : r.length = 32 := by simpa using hl
    have g0 : DataW.trod enc Tryd.prog W 0 (fun _ => true) true n 3 [c0] = some y0 := hf 0 _ rfl
    have g1 : DataW.trod enc Tryd.prog W 0 (fun _ => true) true n 23 [c1, c2, c3, c4] = some y1 := hf 1 _ rfl
    have g2 : DataW.trod enc Tryd.prog W 0 (fun _ => true) true n 3 [c5] = some y2 := hf 2 _ rfl
    have g3 : DataW.trod enc Tryd.prog W 0 (fun _ => true) true n 25 [c6, c7] = some y3 := hf 3 _ rfl
    have g4 : DataW.trod enc Tryd.prog W 0 (fun _ => true) true n 26 [c8] = some y4 := hf 4 _ rfl
    have g5' : DataW.trod enc Tryd.prog W 0 (fun _ => true) true n 27 (r.take 32) = some y5 := hf 5 _ rfl
    rw [List.take_of_length_le (by omega)] at g5'
    obtain ⟨n0, e0, -, -⟩ := DataW.trod_int Tryd.underlying3 g0
    obtain ⟨c, ec⟩ := claims_in g1
    obtain ⟨n2, e2, -, -⟩ := DataW.trod_int Tryd.underlying3 g2
    obtain ⟨nn, en, -⟩ := nonce_in g3
    obtain ⟨bs, hb, hbl⟩ := raw_bytes g4
    obtain ⟨l, hl32, el⟩ := raw_u32 g5'
    simp at e0 e2
    unfold clL at ec
    injection ec with p1 ec
    injection ec with p2 ec
    injection ec with p3 ec
    injection ec with p4 ec
    injection en with p6 en
    injection en with p7 en
    subst e0 e2 p1 p2 p3 p4 p6 p7 el
    exact ⟨⟨n0, c, n2, nn, bs, l⟩, c8, rfl, hb, hbl, hl32⟩
set_option maxRecDepth 100000 in
/-- A packet by value. -/
theorem open_packet {H : Type} {enc : TypeId × Value → H} {W : World} {base : Nat} {v : Value} {d : DataW H} {p : List MemPlace} (hv : Value.okWide Tryd.prog W .any base 29 v) (h : DataW.Trod enc Tryd.prog W 0 (fun _ => true) true 29 v d p) :
    ∃ (x : Pk) (u : Value), v = pkV x u ∧ Bytes W u x.b ∧ x.b.length ≤ 9223372036854775807 ∧ x.t.length = 32 := by
  obtain ⟨cs, rfl, hsz⟩ := okWide_struct Tryd.underlying29 hv
  obtain ⟨fuel, hf⟩ := h
  have hf1 : DataW.trod enc Tryd.prog W 0 (fun _ => true) true fuel 29 cs.toList = some (d, p) := hf
  obtain ⟨x, u, e, hb, hbl, ht⟩ := packet_in hf1
  refine ⟨x, u, ?_, hb, hbl, ht⟩
  obtain ⟨l⟩ := cs
  simp only at e
  rw [e]
  rfl
/-- Packets in a row, to be read. -/
structure PksR (W : World) (v : Value) (l : List Pk) : Prop where
  form : ∃ a cap, v = .slice a l.length cap ∧ l.length ≤ cap ∧ (0 < l.length → ∃ g o, a = some ⟨g, o, none⟩ ∧ ∀ i, i < l.length → ∃ u, W.rangeAt g (o + i * 41) (pkL (l.getD i Pk.zero) u) ∧ Bytes W u (l.getD i Pk.zero).b)
  all : ∀ x ∈ l, x.b.length ≤ 9223372036854775807 ∧ x.t.length = 32
theorem PksR.later {w w1 : World} {v : Value} {l : List Pk} (h : PksR w v l) (hb : Below w.heap.size w w1) : PksR w1 v l := by
  obtain ⟨a, cap, hv, h1, hr⟩ := h.form
  refine ⟨⟨a, cap, hv, h1, fun hp => ?_⟩, h.all⟩
  obtain ⟨g, o, ha, hc⟩ := hr hp
  refine ⟨g, o, ha, fun k hk => ?_⟩
  obtain ⟨u, h2, h3⟩ := hc k hk
  exact ⟨u, fun j y hj => (hb.cell (World.block_lt_of_cell? _ _ (h2 j y hj))).trans (h2 j y hj), h3.later hb⟩
theorem PksR.start {w : World} {v : Value} {l : List Pk} (h : PksR w v l) (hp : 0 < l.length) : ∃ g o cap, v = .slice (some ⟨g, o, none⟩) l.length cap := by
  obtain ⟨a, cap, hv, -, hr⟩ := h.form
  obtain ⟨g, o, ha, -⟩ := hr hp
  exact ⟨g, o, cap, by rw [hv, ha]⟩
theorem PksR.at {w : World} {g o n cap : Nat} {l : List Pk} (h : PksR w (.slice (some ⟨g, o, none⟩) n cap) l) (k : Nat) (hk : k < l.length) : ∃ u, w.rangeAt g (o + k * 41) (pkL (l.getD k Pk.zero) u) ∧ Bytes w u (l.getD k Pk.zero).b := by
  obtain ⟨a', cap', hv, -, hr⟩ := h.form
  obtain ⟨b', o', ha, hx⟩ := hr (by omega)
  injection hv with e1 e2 e3
  rw [ha] at e1
  injection e1 with e1
  injection e1 with e4 e5
  subst e4 e5
  exact hx k hk
end Go.Proofs.YtaoekfomffebhaaDoor
