/-
  Tags of packets: the law.
-/
import Derived.Test.YtaoekfomffebhaaDoorP22
import Derived.Test.YtaoekfomffebhaaDoorP9
import Derived.Test.YtaoekfomffebhaaDoorAb
import Derived.Test.YtaoekfomffebhaaDoorW2
import Derived.Test.YtaoekfomffebhaaDoorRows
import Derived.ProofKit
import Derived.OpenShut
import Derived.ShutString
import Derived.ChangeOld
import Derived.Below
import Derived.Deep.DeepHandedRow
import Derived.Lib.LaidTab
import Derived.Deep.Matrix
namespace Go.Proofs.YtaoekfomffebhaaDoor
open Go Go.ChangeShapes Go.WideShapes Go.ChangeAt Go.RowKit
theorem KP.pick {w : World} {B E : Nat} {rs : List (Nat × Obj)} {W W1 : World} {o1 : Obj} (h : KP w B rs W) (hg : W.grownBy W1 (some E)) (hr : W1.heap[E]? = some o1) (hB : B ≤ E) (rs' : List (Nat × Obj)) (hs : ∀ x ∈ rs', x ∈ rs ∧ x.1 ≠ E) : KP w B ((E, o1) :: rs') W1 := by
  refine ⟨fun x hx => ?_, h.below.trans (grown_below hg hB h.le), Nat.le_trans h.le hg.size⟩
  rcases List.mem_cons.1 hx with rfl | hx
  · exact hr
  · obtain ⟨h1, h2⟩ := hs x hx
    exact (hg.block x.1 (h.lt h1) (fun e => h2 (by injection e))).trans (h.rows x h1)
theorem plainB_iff (k : Int) : plainB k = true ↔ k = 1 ∨ k = 2 := by unfold plainB; simp
set_option maxRecDepth 100000 in
set_option maxHeartbeats 4000000 in
theorem walkPacketTags (X : Pk) (v : Value) (kb0 : List UInt8) (vk0 : Value) (w : World) (ht : X.t.length = 32) (hb : Bytes w v X.b) (hl : X.b.length ≤ 9223372036854775807) (hk : Bytes w vk0 kb0) (hkl : kb0.length ≤ 9223372036854775807) (hTab : Tab w) (hg : 1 < w.heap.size) :
    Calls Tryd.prog 3 #[pkV X v, vk0] w fun e w' => e = .returned (.bool true) ∧ Below w.heap.size w w' := by
  obtain ⟨aX, cX, rfl, -, -⟩ := bytes_form hb
  obtain ⟨ak, ck, rfl, hcap, hnone⟩ := bytes_form hk
  obtain ⟨l0, hl0⟩ : ∃ l, kb0.length = l := ⟨_, rfl⟩
  obtain ⟨m, hm⟩ : ∃ m, m = min l0 70 := ⟨_, rfl⟩
  obtain ⟨B, hB⟩ : ∃ B, w.heap.size = B := ⟨_, rfl⟩
  have HKy : Bx (∀ W, Below B w W → Bytes W (.slice ak m ck) (kb0.take m) ∧ Tab W ∧ 1 < W.heap.size) := Bx.mk fun W h => ⟨(hk.old hB h).take m (by omega), hTab.later (by rw [hB]; exact h) hg, Nat.lt_of_lt_of_le hg h.size⟩
  have HgB : Bx (1 < B) := Bx.mk (by rw [← hB]; exact hg)
  have HML : Bx ((kb0.take m).length = m ∧ m ≤ 70) := Bx.mk ⟨by rw [List.length_take]; omega, by omega⟩
  rw [hl0] at hcap hkl ⊢
  have s1 := fun W => cut_bytes ak l0 ck m (by omega) hcap hnone W
  have hmin : min (l0 : Int) 70 = (m : Int) := by omega
  have hmin2 : (if (70 : Int) < (l0 : Int) then (70 : Int) else (l0 : Int)) = (m : Int) := by split <;> omega
  have hn1 : (l0 : Int) ≤ 9223372036854775807 := by omega
  generalize kb0.take m = kb at *
  obtain ⟨zc, hzc⟩ : ∃ zc, pkC Pk.zero (.slice none 0 0) = zc := ⟨_, rfl⟩
  have hzv : ∀ W : World, (zeroValue 33).run Tryd.prog W = .ok (.agg zc) W := fun W => by rw [← hzc]; exact pk_zeroW W
  have hzr : ∀ W : World, (zeroValue 29).run Tryd.prog W = .ok (.agg zc) W := fun W => by rw [← hzc]; exact pk_zeroR W
  obtain ⟨zt, hzt⟩ : ∃ zt, u32s (List.replicate 72 0) = zt := ⟨_, rfl⟩
  have hztv : ∀ W : World, (zeroValue 45).run Tryd.prog W = .ok (.agg zt) W := fun W => by rw [← hzt]; kernel_rfl
  have HZT := Bx.mk hzt
  obtain ⟨z1, hz1⟩ : ∃ z, u8s z32P = z := ⟨_, rfl⟩
  have hz1v : ∀ W : World, (zeroValue 27).run Tryd.prog W = .ok (.agg z1) W := fun W => by rw [← hz1]; exact zero32P W
  have HZ1 := Bx.mk hz1
  have HIc : Bx ((Tryd.prog.info? 33).map (·.size) = some zc.size) := Bx.mk (by rw [← hzc]; exact pk_infoW _ _ rfl)
  have HOc : Bx (zc.all (·.oneCell') = true) := Bx.mk (by rw [← hzc]; exact pkC_one _ _ _ _)
  have HZ := Bx.mk (show zc.size = 41 by rw [← hzc, pkC_size _ _ rfl])
  have HTo : Bx (∀ W, Below B w W → Calls Tryd.prog 6 #[pkV X (.slice aX X.b.length cX)] W fun e w' => ∃ u, e = .returned (pkV (cutP X) u) ∧ Bytes w' u (cutP X).b ∧ Below W.heap.size W w') := Bx.mk fun W h => to14 X _ W ht (hb.old hB h) hl
  have HIX := Bx.mk (pk_infoR X (.slice aX X.b.length cX) ht)
  have K0 := Bx.mk ((KP.start w B hB).new (.cells (pkC X (.slice aX X.b.length cX)) 29))
  rw [hB] at K0
  obtain ⟨tX, htX⟩ : ∃ tX, pkC X (.slice aX X.b.length cX) = tX := ⟨_, rfl⟩
  unfold pkV at HTo
  rw [htX] at HTo HIX K0
  have hpx : pkV X (.slice aX X.b.length cX) = .agg tX := by unfold pkV; rw [htX]
  rw [hpx]
  have ht2 : (cutP X).t.length = 32 := ht
  have hl2 : (cutP X).b.length ≤ 520 := by show (X.b.take 520).length ≤ 520; rw [List.length_take]; omega
  generalize cutP X = x at *
  rw [hB]
  clear hb hl ht hpx htX hk hkl hcap hnone hl0 hm hTab hg hzt hz1
  go_enter Tryd.func3, Tryd.ntmps3
  go_wp2_with (refine wpList_load_row rfl 29 _ rfl B (by rfl) _ _ _ _ (K0.out.rows _ (.head _)) Tryd.underlying29 rfl HIX.out ?_)
  clear s1 hmin hmin2 hn1
  generalize w.alloc (.cells tX 29) = w0 at *
  refine (HTo.out w0 K0.out.below).mono ?_
  rintro e w1 ⟨u, rfl, hu, hb1⟩
  have K1 := Bx.mk (And.intro (K0.out.later hb1) hu)
  obtain ⟨au, cu, rfl, -, -⟩ := bytes_form hu
  clear hu hb1 K0 HTo
  have HCR : Bx (∀ W y, y.t.length = 32 → Bytes W (.slice au x.b.length cu) y.b → Calls Tryd.prog 11 #[pkV y (.slice au x.b.length cu)] W fun e w' => e = .returned (.int .i64 (chkP y)) ∧ Below W.heap.size W w') := Bx.mk fun W y h1 h2 => rcheck14 y _ W h1 h2
  have HCRx : Bx (∀ W, Bytes W (.slice au x.b.length cu) x.b → Calls Tryd.prog 11 #[pkV x (.slice au x.b.length cu)] W fun e w' => e = .returned (.int .i64 (chkP x)) ∧ Below W.heap.size W w') := Bx.mk fun W h => rcheck14 x _ W ht2 h
  have HOf : Bx (∀ W, Bytes W (.slice au x.b.length cu) x.b → Calls Tryd.prog 7 #[pkV x (.slice au x.b.length cu)] W fun e w' => e = .returned (pkV x (.slice au x.b.length cu)) ∧ Below W.heap.size W w') := Bx.mk fun W h => of14 x _ W ht2 h
  have HIt : Bx (((Tryd.prog.info? 33).map (·.size) = some (pkC x (.slice au x.b.length cu)).size ∧ (Tryd.prog.info? 29).map (·.size) = some (pkC x (.slice au x.b.length cu)).size) ∧ (pkC x (.slice au x.b.length cu)).size = zc.size ∧ (pkC x (.slice au x.b.length cu)).all (·.oneCell') = true) := Bx.mk ⟨⟨pk_infoW _ _ ht2, pk_infoR _ _ ht2⟩, by rw [HZ.out, pkC_size _ _ ht2], pkC_one _ _ _ _⟩
  have HPl : Bx (∀ W p, plainB x.k = true → Bytes W (.slice au x.b.length cu) x.b → Calls Tryd.prog 9 #[pkV x (.slice au x.b.length cu), .pointer (some ⟨p, 0, none⟩)] W fun e w' => e = .returned (.tuple #[pkV Pk.zero (.slice none 0 0), .int .i64 11]) ∧ Below W.heap.size W w') := Bx.mk fun W p hp h => tagged_plain x _ W ht2 h p hp
  have HBa : Bx (∀ W p, plainB x.k = false → chkP x ≠ 0 → Bytes W (.slice au x.b.length cu) x.b → Calls Tryd.prog 9 #[pkV x (.slice au x.b.length cu), .pointer (some ⟨p, 0, none⟩)] W fun e w' => e = .returned (.tuple #[pkV Pk.zero (.slice none 0 0), .int .i64 (chkP x)]) ∧ Below W.heap.size W w') := Bx.mk fun W p hp hc h => tagged_bad x _ W ht2 h p hp hc
  have HNi : Bx (∀ W, Bytes W (.slice au x.b.length cu) x.b → Calls Tryd.prog 9 #[pkV x (.slice au x.b.length cu), .pointer none] W fun e w' => e = .returned (.tuple #[pkV Pk.zero (.slice none 0 0), .int .i64 1]) ∧ Below W.heap.size W w') := Bx.mk fun W h => tagged_nil x _ W ht2 h
  have HOk : Bx (∀ W vk, plainB x.k = false → chkP x = 0 → Bytes W (.slice au x.b.length cu) x.b → IsKey W vk kb → Tab W → 1 < W.heap.size → Calls Tryd.prog 9 #[pkV x (.slice au x.b.length cu), vk] W fun e w' => ∃ u, e = .returned (.tuple #[pkV (tgP kb x) u, .int .i64 0]) ∧ OwnB w' W.heap.size u (tgP kb x).b ∧ Below W.heap.size W w') := Bx.mk fun W vk hp hc h h2 h3 h4 => tagged_ok x _ kb vk W ht2 h h2 (by rw [HML.out.1]; have := HML.out.2; omega) hp hc h3 h4
  have HHe : Bx (∀ W code q, code ≠ 0 → Bytes W (.slice au x.b.length cu) x.b → (∀ W1, Below W.heap.size W W1 → Calls Tryd.prog 9 #[pkV x (.slice au x.b.length cu), .pointer q] W1 fun e w' => e = .returned (.tuple #[pkV Pk.zero (.slice none 0 0), .int .i64 code]) ∧ Below W1.heap.size W1 w') → Calls Tryd.prog 12 #[pkV x (.slice au x.b.length cu), .pointer q] W fun e w' => e = .returned (.bool false) ∧ Below W.heap.size W w') := Bx.mk fun W code q hcode h hT => holds14_err x _ code q W ht2 h hcode hT
  have HHo : Bx (∀ W y u vk d, y.t.length = 32 → Bytes W u y.b → IsKey W vk kb → plainB y.k = false → chkP y = 0 → Tab W → 1 < W.heap.size → (d = true ↔ tagK kb y = y.t) → Calls Tryd.prog 12 #[pkV y u, vk] W fun e w' => e = .returned (.bool d) ∧ Below W.heap.size W w') := Bx.mk fun W y u vk d h1 h2 h3 h4 h5 h6 h7 h8 => holds14_ok y u kb vk W h1 h2 h3 (by rw [HML.out.1]; have := HML.out.2; omega) h4 h5 h6 h7 d h8
  have HT2 := Bx.mk ht2
  have HL2 := Bx.mk hl2
  unfold pkV at HOf HPl HBa HNi HOk HHe HCR HCRx
  rw [hzc] at HPl HBa HNi HHe
  obtain ⟨tk, htk⟩ : ∃ tk, pkC x (.slice au x.b.length cu) = tk := ⟨_, rfl⟩
  rw [htk] at HOf HIt HPl HBa HNi HOk HHe HCRx ⊢
  have HTK := Bx.mk htk
  have HZC := Bx.mk hzc
  clear ht2 hl2 htk hzc
  obtain ⟨A, hA⟩ : ∃ A, w1.heap.size = A := ⟨_, rfl⟩
  have HnA : Bx ((w1.alloc (.cells zc 33)).heap[A]? = some (.cells zc 33 (0, 0))) := Bx.mk (hnew _ _ _ hA.symm)
  go_wp2_with (first | (refine wpList_store_new rfl 33 _ _ rfl A tk zc _ (by rfl) (by rfl) HnA.out HIt.out.2.1 HIt.out.1.1 HIt.out.2.2 ?_; intro w2 hw8 hr8; have F2 := Bx.mk (K1.out.1.fresh hA (kb_ofP hw8) hr8); have K2 := Bx.mk (And.intro F2.out.1 (K1.out.2.later F2.out.2)); clear hw8 hr8 F2) | (refine wpList_load_row rfl 33 _ rfl A (by rfl) _ _ _ _ (K2.out.1.rows _ (.head _)) Tryd.underlying33 rfl HIt.out.1.1 ?_))
  clear K1 HnA hA
  refine (HOf.out w2 K2.out.2).mono ?_
  rintro e w3 ⟨rfl, hb3⟩
  have K3 := Bx.mk (And.intro (K2.out.1.later hb3) (K2.out.2.later hb3))
  clear hb3 K2
  obtain ⟨E, hE⟩ : ∃ E, w3.heap.size = E := ⟨_, rfl⟩
  have HnE : Bx ((w3.alloc (.cells zc 29)).heap[E]? = some (.cells zc 29 (0, 0))) := Bx.mk (hnew _ _ _ hE.symm)
  have HBE : Bx (B ≤ E ∧ 1 ≠ E) := Bx.mk ⟨by rw [← hE]; exact K3.out.1.le, by have := K3.out.1.le; have := HgB.out; omega⟩
  go_wp2_with (refine wpList_store_new rfl 29 _ _ rfl E tk zc _ (by rfl) (by rfl) HnE.out HIt.out.2.1 HIt.out.1.2 HIt.out.2.2 ?_; intro w4 hw8 hr8; have F4 := Bx.mk (K3.out.1.fresh hE (kb_ofP hw8) hr8); have K4 := Bx.mk (And.intro F4.out.1 (And.intro ((K3.out.2.asideN (Nat.le_of_eq hE)).grown (kb_below (some E) F4.out.2)) ((((HKy.out w3 K3.out.1.below).1.asideN (Nat.le_of_eq hE)).grown (kb_below (some E) F4.out.2))))); clear hw8 hr8 F4)
  have HE4 : Bx (E < w4.heap.size) := Bx.mk (K4.out.1.lt (.head _))
  clear K3 HnE hE
  refine (new_any kb _ w4 K4.out.2.2.1 (by rw [HML.out.1]; have := HML.out.2; omega)).mono ?_
  rintro e w5 ⟨vk, rfl, ho5, hb5⟩
  have K5 : Bx (KP w B [(E, .cells tk 29), (A, .cells tk 33), (B, .cells tX 29)] w5 ∧ FX E [((.slice au x.b.length cu), x.b), (.slice ak m ck, kb)] vk kb w5) := Bx.mk ⟨K4.out.1.later hb5, by
    have k5 := K4.out.1.later hb5
    obtain ⟨p, s, hv, hp, hr, hs⟩ := ho5
    have hE4 := HE4.out
    exact ⟨fun y hy => by
      simp only [List.mem_cons, List.not_mem_nil, or_false] at hy
      rcases hy with rfl | rfl
      · exact K4.out.2.1.grown (kb_below (some E) hb5)
      · exact K4.out.2.2.grown (kb_below (some E) hb5), ⟨p, s, hv, by omega, hr, hs.asideN hE4⟩, (HKy.out w5 k5.below).2.1, (HKy.out w5 k5.below).2.2, HBE.out.2⟩⟩
  obtain ⟨p, s0, rfl, -, -⟩ := ho5
  clear hb5 K4 HKy HE4 HgB
  cases hp : plainB x.k with
  | true =>
    go_wp2_with ((refine wpList_load_midP (by rfl) 33 _ rfl A 0 (by rfl) tk.toList _ (row_rngP (by rw [Array.toArray_toList]; exact K5.out.1.rows _ (.tail _ (.head _)))) Tryd.underlying33 rfl HIt.out.1.1 ?_; rw [Array.toArray_toList]))
    refine (HPl.out w5 p hp K5.out.2.at0).mono ?_
    rintro e w6 ⟨rfl, hb⟩
    have K6 := Bx.mk (And.intro (K5.out.1.later hb) (K5.out.2.later hb))
    clear hb K5
    obtain ⟨Z, hZ⟩ : ∃ Z, w6.heap.size = Z := ⟨_, rfl⟩
    have HnZ : Bx ((w6.alloc (.cells zc 33)).heap[Z]? = some (.cells zc 33 (0, 0))) := Bx.mk (hnew _ _ _ hZ.symm)
    have HOZ : Bx (E < Z) := Bx.mk (by rw [← hZ]; exact K6.out.1.lt (x := (E, _)) (.head _))
    go_wp2_with (first | (refine wpList_store_new rfl 33 _ _ rfl Z zc zc _ (by rfl) (by rfl) HnZ.out rfl HIc.out HOc.out ?_; intro w7 hw8 hr8; have F9 := Bx.mk (K6.out.1.fresh hZ (kb_ofP hw8) hr8); have K7 := Bx.mk (And.intro F9.out.1 (K6.out.2.later F9.out.2)); clear hw8 hr8 F9) | (refine wpList_load_midP (by rfl) 33 _ rfl A 0 (by rfl) tk.toList _ (row_rngP (by rw [Array.toArray_toList]; exact K7.out.1.rows _ (.tail _ (.tail _ (.head _))))) Tryd.underlying33 rfl HIt.out.1.1 ?_; rw [Array.toArray_toList]))
    clear K6 HnZ hZ
    refine (HNi.out w7 K7.out.2.at0).mono ?_
    rintro e w8 ⟨rfl, hb⟩
    have K8 := Bx.mk (And.intro (K7.out.1.later hb) (K7.out.2.later hb))
    clear hb K7
    obtain ⟨N, hN⟩ : ∃ N, w8.heap.size = N := ⟨_, rfl⟩
    have HnN : Bx ((w8.alloc (.cells zc 33)).heap[N]? = some (.cells zc 33 (0, 0))) := Bx.mk (hnew _ _ _ hN.symm)
    have HON : Bx (E < N) := Bx.mk (by rw [← hN]; exact K8.out.1.lt (x := (E, _)) (.tail _ (.head _)))
    go_wp2_with ((refine wpList_store_new rfl 33 _ _ rfl N zc zc _ (by rfl) (by rfl) HnN.out rfl HIc.out HOc.out ?_; intro w9 hw8 hr8; have F9 := Bx.mk (K8.out.1.fresh hN (kb_ofP hw8) hr8); have K9 := Bx.mk (And.intro F9.out.1 (K8.out.2.later F9.out.2)); clear hw8 hr8 F9))
    clear K8 HnN hN
    refine (make_any w9).mono ?_
    rintro e w10 ⟨rfl, hb⟩
    have K10 := Bx.mk (And.intro (K9.out.1.later hb) (K9.out.2.later hb))
    clear hb K9
    obtain ⟨tb, htb⟩ : ∃ tb : List Value, u32s (kTab ++ hTab) = tb.toArray := ⟨_, rfl⟩
    have HTB := Bx.mk htb
    have HTS : Bx ((Tryd.prog.info? 45).map (·.size) = some tb.toArray.size ∧ tb.toArray.size = zt.size ∧ tb.toArray.all (·.oneCell') = true) := Bx.mk ⟨tbl_size3 htb, by rw [← htb, ← HZT.out, u32s_size, u32s_size]; rfl, by rw [← htb]; exact one_u32s _⟩
    rw [htb]
    clear htb
    obtain ⟨T, hT⟩ : ∃ T, w10.heap.size = T := ⟨_, rfl⟩
    have HnT : Bx ((w10.alloc (.cells zt 45)).heap[T]? = some (.cells zt 45 (0, 0))) := Bx.mk (hnew _ _ _ hT.symm)
    have HOT : Bx (E < T) := Bx.mk (by rw [← hT]; exact K10.out.1.lt (x := (E, _)) (.tail _ (.tail _ (.head _))))
    go_wp2_with (first | (refine wpList_store_new rfl 45 _ _ rfl T tb.toArray zt _ (by rfl) (by rfl) HnT.out HTS.out.2.1 HTS.out.1 HTS.out.2.2 ?_; intro w11 hw8 hr8; have F9 := Bx.mk (K10.out.1.fresh hT (kb_ofP hw8) hr8); have K11 := Bx.mk (And.intro F9.out.1 (K10.out.2.later F9.out.2)); clear hw8 hr8 F9) | (refine wpList_load_midP (by rfl) 29 _ rfl E 0 (by rfl) tk.toList _ (row_rngP (by rw [Array.toArray_toList]; exact K11.out.1.rows _ (.tail _ (.tail _ (.tail _ (.head _)))))) Tryd.underlying29 rfl HIt.out.1.2 ?_; rw [Array.toArray_toList]))
    clear K10 HnT hT
    refine (HCRx.out w11 K11.out.2.at0).mono ?_
    rintro e w12 ⟨rfl, hb⟩
    have K12 := Bx.mk (And.intro (K11.out.1.later hb) (K11.out.2.later hb))
    clear hb K11
    have k0 : w12.cell? ⟨E, 0, none⟩ = some (.int .i64 x.k) := (pk_at (x := x) (v := (.slice au x.b.length cu)) (by rw [HTK.out]; exact K12.out.1.rows _ (.tail _ (.tail _ (.tail _ (.head _)))))).k
    have hk2 : ¬ (2 : Int) < x.k := by rcases (plainB_iff _).1 hp with h | h <;> omega
    obtain ⟨ck2, hck⟩ : ∃ c, chkP x = c := ⟨_, rfl⟩
    rw [hck]
    clear hck
    by_cases hcc : ck2 = 0
    · subst hcc
      go_wp2_with ((refine wpList_load_midP (by rfl) 33 _ rfl A 0 (by rfl) tk.toList _ (row_rngP (by rw [Array.toArray_toList]; exact K12.out.1.rows _ (.tail _ (.tail _ (.tail _ (.tail _ (.head _))))))) Tryd.underlying33 rfl HIt.out.1.1 ?_; rw [Array.toArray_toList]))
      refine (HHe.out w12 1 none (by decide) K12.out.2.at0 (fun W1 h1 => HNi.out W1 (K12.out.2.later h1).at0)).mono ?_
      rintro e w13 ⟨rfl, hb⟩
      have K13 := Bx.mk (And.intro (K12.out.1.later hb) (K12.out.2.later hb))
      clear hb K12
      clear k0
      have k0 : w13.cell? ⟨E, 0, none⟩ = some (.int .i64 x.k) := (pk_at (x := x) (v := (.slice au x.b.length cu)) (by rw [HTK.out]; exact K13.out.1.rows _ (.tail _ (.tail _ (.tail _ (.head _)))))).k
      go_wp2_with ((refine wpList_load_midP (by rfl) 33 _ rfl A 0 (by rfl) tk.toList _ (row_rngP (by rw [Array.toArray_toList]; exact K13.out.1.rows _ (.tail _ (.tail _ (.tail _ (.tail _ (.head _))))))) Tryd.underlying33 rfl HIt.out.1.1 ?_; rw [Array.toArray_toList]))
      refine (HHe.out w13 11 _ (by decide) K13.out.2.at0 (fun W1 h1 => HPl.out W1 p hp (K13.out.2.later h1).at0)).mono ?_
      rintro e w14 ⟨rfl, hb⟩
      have K14 := Bx.mk (And.intro (K13.out.1.later hb) (K13.out.2.later hb))
      clear hb K13
      clear k0
      have k0 : w14.cell? ⟨E, 0, none⟩ = some (.int .i64 x.k) := (pk_at (x := x) (v := (.slice au x.b.length cu)) (by rw [HTK.out]; exact K14.out.1.rows _ (.tail _ (.tail _ (.tail _ (.head _)))))).k
      rcases (plainB_iff _).1 hp with hk1 | hk1
      · rw [hk1] at k0 hk2
        go_wp2_with fail
        refine (known14_any w14).mono ?_
        rintro e w15 ⟨rfl, hb⟩
        have K15 := Bx.mk (And.intro (K14.out.1.later hb) (K14.out.2.later hb))
        clear hb K14
        go_wp2
        go_ret
        exact ⟨rfl, K15.out.1.below⟩
      · rw [hk1] at k0 hk2
        go_wp2_with fail
        refine (known14_any w14).mono ?_
        rintro e w15 ⟨rfl, hb⟩
        have K15 := Bx.mk (And.intro (K14.out.1.later hb) (K14.out.2.later hb))
        clear hb K14
        go_wp2
        go_ret
        exact ⟨rfl, K15.out.1.below⟩
    · go_wp2_with ((refine wpList_load_midP (by rfl) 33 _ rfl A 0 (by rfl) tk.toList _ (row_rngP (by rw [Array.toArray_toList]; exact K12.out.1.rows _ (.tail _ (.tail _ (.tail _ (.tail _ (.head _))))))) Tryd.underlying33 rfl HIt.out.1.1 ?_; rw [Array.toArray_toList]))
      refine (HHe.out w12 1 none (by decide) K12.out.2.at0 (fun W1 h1 => HNi.out W1 (K12.out.2.later h1).at0)).mono ?_
      rintro e w13 ⟨rfl, hb⟩
      have K13 := Bx.mk (And.intro (K12.out.1.later hb) (K12.out.2.later hb))
      clear hb K12
      clear k0
      have k0 : w13.cell? ⟨E, 0, none⟩ = some (.int .i64 x.k) := (pk_at (x := x) (v := (.slice au x.b.length cu)) (by rw [HTK.out]; exact K13.out.1.rows _ (.tail _ (.tail _ (.tail _ (.head _)))))).k
      go_wp2_with ((refine wpList_load_midP (by rfl) 33 _ rfl A 0 (by rfl) tk.toList _ (row_rngP (by rw [Array.toArray_toList]; exact K13.out.1.rows _ (.tail _ (.tail _ (.tail _ (.tail _ (.head _))))))) Tryd.underlying33 rfl HIt.out.1.1 ?_; rw [Array.toArray_toList]))
      refine (HHe.out w13 11 _ (by decide) K13.out.2.at0 (fun W1 h1 => HPl.out W1 p hp (K13.out.2.later h1).at0)).mono ?_
      rintro e w14 ⟨rfl, hb⟩
      have K14 := Bx.mk (And.intro (K13.out.1.later hb) (K13.out.2.later hb))
      clear hb K13
      clear k0
      have k0 : w14.cell? ⟨E, 0, none⟩ = some (.int .i64 x.k) := (pk_at (x := x) (v := (.slice au x.b.length cu)) (by rw [HTK.out]; exact K14.out.1.rows _ (.tail _ (.tail _ (.tail _ (.head _)))))).k
      rcases (plainB_iff _).1 hp with hk1 | hk1
      · rw [hk1] at k0 hk2
        go_wp2_with fail
        refine (known14_any w14).mono ?_
        rintro e w15 ⟨rfl, hb⟩
        have K15 := Bx.mk (And.intro (K14.out.1.later hb) (K14.out.2.later hb))
        clear hb K14
        go_wp2
        go_ret
        exact ⟨rfl, K15.out.1.below⟩
      · rw [hk1] at k0 hk2
        go_wp2_with fail
        refine (known14_any w14).mono ?_
        rintro e w15 ⟨rfl, hb⟩
        have K15 := Bx.mk (And.intro (K14.out.1.later hb) (K14.out.2.later hb))
        clear hb K14
        go_wp2
        go_ret
        exact ⟨rfl, K15.out.1.below⟩
  | false =>
    by_cases hc : chkP x = 0
    · skip -- MOK
      go_wp2_with ((refine wpList_load_midP (by rfl) 33 _ rfl A 0 (by rfl) tk.toList _ (row_rngP (by rw [Array.toArray_toList]; exact K5.out.1.rows _ (.tail _ (.head _)))) Tryd.underlying33 rfl HIt.out.1.1 ?_; rw [Array.toArray_toList]))
      refine (HOk.out w5 _ hp hc K5.out.2.at0 K5.out.2.isKey K5.out.2.tab K5.out.2.tg).mono ?_
      rintro e w6 ⟨uz, rfl, ho, hb⟩
      have K6 := Bx.mk (And.intro (K5.out.1.later hb) ((K5.out.2.later hb).cons (x := (uz, (tgP kb x).b)) (ho.asideN (K5.out.1.lt (x := (E, _)) (.head _)))))
      obtain ⟨az, cz, hv9⟩ := own_form ho
      subst hv9
      clear hb ho K5
      have HIy : Bx ((Tryd.prog.info? 33).map (·.size) = some (pkC (tgP kb x) (.slice az (tgP kb x).b.length cz)).size ∧ (pkC (tgP kb x) (.slice az (tgP kb x).b.length cz)).size = zc.size ∧ (pkC (tgP kb x) (.slice az (tgP kb x).b.length cz)).all (·.oneCell') = true) := Bx.mk ⟨pk_infoW _ _ (tagK_length _ _), by rw [HZ.out, pkC_size _ _ (tagK_length _ _)], pkC_one _ _ _ _⟩
      obtain ⟨tz, htz⟩ : ∃ tz, pkC (tgP kb x) (.slice az (tgP kb x).b.length cz) = tz := ⟨_, rfl⟩
      have HTZ := Bx.mk htz
      rw [htz] at HIy ⊢
      clear htz
      obtain ⟨Z, hZ⟩ : ∃ Z, w6.heap.size = Z := ⟨_, rfl⟩
      have HnZ : Bx ((w6.alloc (.cells zc 33)).heap[Z]? = some (.cells zc 33 (0, 0))) := Bx.mk (hnew _ _ _ hZ.symm)
      have HOZ : Bx (E < Z) := Bx.mk (by rw [← hZ]; exact K6.out.1.lt (x := (E, _)) (.head _))
      go_wp2_with (first | (refine wpList_store_new rfl 33 _ _ rfl Z tz zc _ (by rfl) (by rfl) HnZ.out HIy.out.2.1 HIy.out.1 HIy.out.2.2 ?_; intro w7 hw8 hr8; have F9 := Bx.mk (K6.out.1.fresh hZ (kb_ofP hw8) hr8); have K7 := Bx.mk (And.intro F9.out.1 (K6.out.2.later F9.out.2)); clear hw8 hr8 F9) | (refine wpList_load_midP (by rfl) 33 _ rfl A 0 (by rfl) tk.toList _ (row_rngP (by rw [Array.toArray_toList]; exact K7.out.1.rows _ (.tail _ (.tail _ (.head _))))) Tryd.underlying33 rfl HIt.out.1.1 ?_; rw [Array.toArray_toList]))
      clear K6 HnZ hZ
      refine (HNi.out w7 K7.out.2.at1).mono ?_
      rintro e w8 ⟨rfl, hb⟩
      have K8 := Bx.mk (And.intro (K7.out.1.later hb) (K7.out.2.later hb))
      clear hb K7
      obtain ⟨N, hN⟩ : ∃ N, w8.heap.size = N := ⟨_, rfl⟩
      have HnN : Bx ((w8.alloc (.cells zc 33)).heap[N]? = some (.cells zc 33 (0, 0))) := Bx.mk (hnew _ _ _ hN.symm)
      have HON : Bx (E < N) := Bx.mk (by rw [← hN]; exact K8.out.1.lt (x := (E, _)) (.tail _ (.head _)))
      go_wp2_with ((refine wpList_store_new rfl 33 _ _ rfl N zc zc _ (by rfl) (by rfl) HnN.out rfl HIc.out HOc.out ?_; intro w9 hw8 hr8; have F9 := Bx.mk (K8.out.1.fresh hN (kb_ofP hw8) hr8); have K9 := Bx.mk (And.intro F9.out.1 (K8.out.2.later F9.out.2)); clear hw8 hr8 F9))
      clear K8 HnN hN
      refine (make_any w9).mono ?_
      rintro e w10 ⟨rfl, hb⟩
      have K10 := Bx.mk (And.intro (K9.out.1.later hb) (K9.out.2.later hb))
      clear hb K9
      obtain ⟨tb, htb⟩ : ∃ tb : List Value, u32s (kTab ++ hTab) = tb.toArray := ⟨_, rfl⟩
      have HTB := Bx.mk htb
      have HTS : Bx ((Tryd.prog.info? 45).map (·.size) = some tb.toArray.size ∧ tb.toArray.size = zt.size ∧ tb.toArray.all (·.oneCell') = true) := Bx.mk ⟨tbl_size3 htb, by rw [← htb, ← HZT.out, u32s_size, u32s_size]; rfl, by rw [← htb]; exact one_u32s _⟩
      rw [htb]
      clear htb
      obtain ⟨T, hT⟩ : ∃ T, w10.heap.size = T := ⟨_, rfl⟩
      have HnT : Bx ((w10.alloc (.cells zt 45)).heap[T]? = some (.cells zt 45 (0, 0))) := Bx.mk (hnew _ _ _ hT.symm)
      have HOT : Bx (E < T) := Bx.mk (by rw [← hT]; exact K10.out.1.lt (x := (E, _)) (.tail _ (.tail _ (.head _))))
      go_wp2_with (first | (refine wpList_store_new rfl 45 _ _ rfl T tb.toArray zt _ (by rfl) (by rfl) HnT.out HTS.out.2.1 HTS.out.1 HTS.out.2.2 ?_; intro w11 hw8 hr8; have F9 := Bx.mk (K10.out.1.fresh hT (kb_ofP hw8) hr8); have K11 := Bx.mk (And.intro F9.out.1 (K10.out.2.later F9.out.2)); clear hw8 hr8 F9) | (refine wpList_load_midP (by rfl) 29 _ rfl E 0 (by rfl) tk.toList _ (row_rngP (by rw [Array.toArray_toList]; exact K11.out.1.rows _ (.tail _ (.tail _ (.tail _ (.head _)))))) Tryd.underlying29 rfl HIt.out.1.2 ?_; rw [Array.toArray_toList]))
      clear K10 HnT hT
      refine (HCRx.out w11 K11.out.2.at1).mono ?_
      rintro e w12 ⟨rfl, hb⟩
      have K12 := Bx.mk (And.intro (K11.out.1.later hb) (K11.out.2.later hb))
      clear hb K11
      have k0 : w12.cell? ⟨E, 0, none⟩ = some (.int .i64 x.k) := (pk_at (x := x) (v := (.slice au x.b.length cu)) (by rw [HTK.out]; exact K12.out.1.rows _ (.tail _ (.tail _ (.tail _ (.head _)))))).k
      rw [hc]
      have hk2 := plain_kind x hp hc
      have hk3d : (x.k == 1) = false := by simp; omega
      have hk4d : (x.k == 2) = false := by simp; omega
      have HTl := Bx.mk (tagK_length kb x)
      obtain ⟨tg, htg⟩ : ∃ tg, tagK kb x = tg := ⟨_, rfl⟩
      have HTG := Bx.mk htg
      have HTa : Bx (∀ W y, y.t.length = 32 → chkP y = 0 → tagK kb y = tg → Bytes W (.slice ak m ck) kb → Bytes W (.slice au x.b.length cu) y.b → Calls Tryd.prog 13 #[.agg tb.toArray, .slice ak m ck, .agg (pkC y (.slice au x.b.length cu))] W fun e w' => e = .returned (.agg (u8s tg)) ∧ Below W.heap.size W w') := Bx.mk fun W y h1 h2 h3 h4 h5 => by
        have := rtag14 tb HTB.out kb y _ _ W h4 (by rw [HML.out.1]; have := HML.out.2; omega) h1 h5 h2
        rw [h3] at this
        exact this
      have HTax := Bx.mk fun (W : World) => HTa.out W x HT2.out hc htg
      rw [HTK.out] at HTax
      rw [htg] at HTl
      obtain ⟨d, hd⟩ : ∃ d : Bool, (tg == x.t) = d := ⟨_, rfl⟩
      have HEq : Bx (∀ W : World, (Op.equalIn 10000 27 (.agg (u8s tg)) (.agg (u8s x.t))).run Tryd.prog W = .ok d W) := Bx.mk fun W => by
        rw [u8s_cell, u8s_cell, ← hd]
        exact Go.run_equalIn_bytes (P := Tryd.prog) W 9998 27 5 32 Tryd.underlying27 Tryd.underlying5 one_u8P tg x.t HTl.out HT2.out
      have HHd : Bx (∀ W q, Bytes W (.slice au x.b.length cu) x.b → IsKey W q kb → Tab W → 1 < W.heap.size → Calls Tryd.prog 12 #[.agg tk, q] W fun e w' => e = .returned (.bool d) ∧ Below W.heap.size W w') := Bx.mk fun W q h1 h2 h3 h4 => by
        have := HHo.out W x _ q d HT2.out h1 h2 hp hc h3 h4 (by rw [htg, ← hd]; simp)
        unfold pkV at this
        rw [HTK.out] at this
        exact this
      have HSk : Bx ((Tryd.prog.info? 27).map (·.size) = some (u8s tg).size ∧ (u8s tg).size = z1.size ∧ (u8s tg).all (·.oneCell') = true) := Bx.mk ⟨by rw [u8s_size, HTl.out]; kernel_rfl, by rw [← HZ1.out, u8s_size, u8s_size, HTl.out]; rfl, one_u8s _⟩
      clear hd htg
      go_wp2_with ((refine wpList_load_midP (by rfl) 33 _ rfl A 0 (by rfl) tk.toList _ (row_rngP (by rw [Array.toArray_toList]; exact K12.out.1.rows _ (.tail _ (.tail _ (.tail _ (.tail _ (.head _))))))) Tryd.underlying33 rfl HIt.out.1.1 ?_; rw [Array.toArray_toList]))
      refine (HHe.out w12 1 none (by decide) K12.out.2.at1 (fun W1 h1 => HNi.out W1 (K12.out.2.later h1).at1)).mono ?_
      rintro e w13 ⟨rfl, hb⟩
      have K13 := Bx.mk (And.intro (K12.out.1.later hb) (K12.out.2.later hb))
      clear hb K12
      clear k0
      go_wp2_with (first | (refine wpList_load_midP (by rfl) 45 _ rfl T 0 (by rfl) tb.toArray.toList _ (row_rngP (by rw [Array.toArray_toList]; exact K13.out.1.rows _ (.head _))) Tryd.underlying45 rfl HTS.out.1 ?_; rw [Array.toArray_toList]) | (refine wpList_load_midP (by rfl) 29 _ rfl E 0 (by rfl) tk.toList _ (row_rngP (by rw [Array.toArray_toList]; exact K13.out.1.rows _ (.tail _ (.tail _ (.tail _ (.head _)))))) Tryd.underlying29 rfl HIt.out.1.2 ?_; rw [Array.toArray_toList]))
      refine (HTax.out w13 K13.out.2.at2 K13.out.2.at1).mono ?_
      rintro e w14 ⟨rfl, hb⟩
      have K14 := Bx.mk (And.intro (K13.out.1.later hb) (K13.out.2.later hb))
      clear hb K13
      obtain ⟨Gb, hGb⟩ : ∃ Gb, w14.heap.size = Gb := ⟨_, rfl⟩
      have HnG : Bx ((w14.alloc (.cells z1 27)).heap[Gb]? = some (.cells z1 27 (0, 0))) := Bx.mk (hnew _ _ _ hGb.symm)
      go_upto_region 13 with (refine wpList_store_new rfl 27 _ _ rfl Gb (u8s tg) z1 _ (by rfl) (by rfl) HnG.out HSk.out.2.1 HSk.out.1 HSk.out.2.2 ?_; intro w15 hw8 hr8; have F9 := Bx.mk (K14.out.1.fresh hGb (kb_ofP hw8) hr8); have K15 := Bx.mk (And.intro F9.out.1 (K14.out.2.later F9.out.2)); clear hw8 hr8 F9)
      clear K14 HnG hGb
      have R0 := Bx.mk (And.intro (K15.out.1.later (Below.refl _ _).drew) (K15.out.2.later (Below.refl _ _).drew))
      clear K15
      obtain ⟨tkl, htkl⟩ : ∃ l, tk.toList = l := ⟨_, rfl⟩
      have HSS : Bx (∀ W, KP w B [(Gb, .cells (u8s tg) 27), (T, .cells tb.toArray 45), (N, .cells zc 33), (Z, .cells tz 33), (E, .cells tk 29), (A, .cells tk 33), (B, .cells tX 29)] W → W.rangeAt A 0 tkl ∧ W.rangeAt A 9 (u8s x.t).toList ∧ W.rangeAt Gb 0 (u8s tg).toList) := Bx.mk fun W h => ⟨row_rngP (by rw [← htkl, Array.toArray_toList]; exact h.rows _ (.tail _ (.tail _ (.tail _ (.tail _ (.tail _ (.head _))))))), (pk_at (x := x) (v := (.slice au x.b.length cu)) (by rw [HTK.out]; exact h.rows _ (.tail _ (.tail _ (.tail _ (.tail _ (.tail _ (.head _)))))))).t, row_rngP (by rw [Array.toArray_toList]; exact h.rows _ (.head _))⟩
      have HLn : Bx ((Tryd.prog.info? 33).map (·.size) = some tkl.length ∧ (Tryd.prog.info? 27).map (·.size) = some (u8s x.t).toList.length ∧ (Tryd.prog.info? 27).map (·.size) = some (u8s tg).toList.length) := Bx.mk ⟨by rw [← htkl]; exact HIt.out.1.1, u8_info x.t HT2.out, u8_info tg HTl.out⟩
      have htk2 : tkl.toArray = tk := by rw [← htkl, Array.toArray_toList]
      have HTK2 := Bx.mk htk2
      clear htkl htk2
      refine wp_region_noPanic ?_
      refine wp_region_held_drew (S := fun W => W.rangeAt A 0 tkl ∧ W.rangeAt A 9 (u8s x.t).toList ∧ W.rangeAt Gb 0 (u8s tg).toList) (by kernel_rfl) (HSS.out _ R0.out.1) (fun hHeld => ?_)
      generalize w15.drew = W0 at *
      refine takeL 0 rfl (by kernel_rfl) (by kernel_rfl) (by kernel_rfl) (fun _ _ _ h => h) (yieldsIf_load_mid (by rfl) _ _ rfl _ _ rfl _ _ (fun w hSw => hSw.1) Tryd.underlying33 rfl HLn.out.1) hHeld ?_
      try simp only [Act.put, List.setIfInBounds_toArray, List.set_cons_zero, List.set_cons_succ]
      refine takeL 1 (v := ?_) rfl (by kernel_rfl) (by kernel_rfl) (by kernel_rfl) (fun _ _ _ h => h) (Or.inl ⟨by rfl, ?_⟩) hHeld ?_
      rotate_left 1
      · (intro w hSw; go_simp; try with_reducible rfl)
      try simp only [Act.put, List.setIfInBounds_toArray, List.set_cons_zero, List.set_cons_succ]
      refine takeL 3 rfl (by kernel_rfl) (by kernel_rfl) (by kernel_rfl) (fun _ _ _ h => h) (yieldsIf_load_mid (by rfl) _ _ rfl _ _ rfl _ _ (fun w hSw => hSw.2.2) Tryd.underlying27 rfl HLn.out.2.2) hHeld ?_
      try simp only [Act.put, List.setIfInBounds_toArray, List.set_cons_zero, List.set_cons_succ]
      refine takeL 4 (v := ?_) rfl (by kernel_rfl) (by kernel_rfl) (by kernel_rfl) (fun _ _ _ h => h) (Or.inl ⟨by rfl, ?_⟩) hHeld ?_
      rotate_left 1
      · (intro w hSw; go_simp; try with_reducible rfl)
      try simp only [Act.put, List.setIfInBounds_toArray, List.set_cons_zero, List.set_cons_succ]
      refine takeL 5 rfl (by kernel_rfl) (by kernel_rfl) (by kernel_rfl) (fun _ _ _ h => h) (yieldsIf_load_mid (by rfl) _ _ rfl _ _ rfl _ _ (fun w hSw => hSw.2.1) Tryd.underlying27 rfl HLn.out.2.1) hHeld ?_
      try simp only [Act.put, List.setIfInBounds_toArray, List.set_cons_zero, List.set_cons_succ]
      refine takeL 6 (v := ?_) rfl (by kernel_rfl) (by kernel_rfl) (by kernel_rfl) (fun _ _ _ h => h) (Or.inl ⟨by rfl, ?_⟩) hHeld ?_
      rotate_left 1
      · (intro w hSw; have q := HEq.out w; clear hSw; go_simp; try with_reducible rfl)
      try simp only [Act.put, List.setIfInBounds_toArray, List.set_cons_zero, List.set_cons_succ]
      refine stepL 2 (by kernel_rfl) rfl (fun K hK => ?_)
      go_simp
      rw [HTK2.out]
      refine (HHd.out W0 _ R0.out.2.at1 R0.out.2.isKey R0.out.2.tab R0.out.2.tg).mono ?_
      rintro e W1 ⟨rfl, hb⟩
      show K _ _
      have R1 := Bx.mk (And.intro (R0.out.1.later hb) (R0.out.2.later hb))
      clear hb R0
      refine hK.out _ _ (HSS.out _ R1.out.1) (fun hHeld => ?_)
      clear hK K
      try simp only [Act.put, List.setIfInBounds_toArray, List.set_cons_zero, List.set_cons_succ]
      refine takeL 7 (v := ?_) rfl (by kernel_rfl) (by kernel_rfl) (by kernel_rfl) (fun _ _ _ h => h) (Or.inl ⟨by rfl, ?_⟩) hHeld ?_
      rotate_left 1
      · (intro w hSw; go_simp; try with_reducible rfl)
      try simp only [Act.put, List.setIfInBounds_toArray, List.set_cons_zero, List.set_cons_succ]
      refine wpAnyH_done (by kernel_rfl) ?_ _
      refine NoPanic.normal ?_
      clear hHeld
      generalize W1 = w15 at *
      have K15 := Bx.mk R1.out
      clear R1 HSS HLn
      have k0 : w15.cell? ⟨E, 0, none⟩ = some (.int .i64 x.k) := (pk_at (x := x) (v := (.slice au x.b.length cu)) (by rw [HTK.out]; exact K15.out.1.rows _ (.tail _ (.tail _ (.tail _ (.tail _ (.head _))))))).k
      clear HSk
      have HZ1v := Bx.mk hz1v
      clear hz1v
      have HOT2 := HOT
      have HOZ2 := HOZ
      have HEp := Bx.mk (show w15.heap[E]? = some (.cells tk 29 (0, 0)) from K15.out.1.rows _ (.tail _ (.tail _ (.tail _ (.tail _ (.head _))))))
      have HTh := Bx.mk (there_row HEp.out 9 (u8s z32P).size (by rw [HIt.out.2.1]; rw [HZ.out]; decide))
      have HStE : Bx ((w15.setCells E 9 (u8s z32P).toList).heap[E]? = some (.cells (pkC { x with t := z32P } (.slice au x.b.length cu)) 29 (0, 0))) := Bx.mk (by rw [heap_setCells_same E 29 _ 9 w15 _ HEp.out, ← HTK.out, pk_setT _ _ _ HT2.out rfl])
      obtain ⟨w16, hw9⟩ : ∃ W, w15.setCells E 9 (u8s z32P).toList = W := ⟨_, rfl⟩
      rw [hw9] at HStE
      have hg9 : w15.grownBy w16 (some E) := by rw [← hw9]; exact kb_setCells (b := E) _ _ _
      have K16 := Bx.mk (And.intro (K15.out.1.pick hg9 HStE.out HBE.out.1 [(T, .cells tb.toArray 45), (Z, .cells tz 33)] (by
        intro y hy
        simp only [List.mem_cons, List.not_mem_nil, or_false] at hy; rcases hy with rfl | rfl
        · exact ⟨(.tail _ (.head _)), by have := HOT.out; simp only; omega⟩
        · exact ⟨(.tail _ (.tail _ (.tail _ (.head _)))), by have := HOZ.out; simp only; omega⟩)) (K15.out.2.grown hg9))
      clear hg9 HEp HStE
      have HI0 : Bx ((Tryd.prog.info? 29).map (·.size) = some (pkC { x with t := z32P } (.slice au x.b.length cu)).size ∧ (pkC { x with t := z32P } (.slice au x.b.length cu)).size = 41) := Bx.mk ⟨pk_infoR _ _ rfl, pkC_size _ _ rfl⟩
      have HCR0 : Bx (∀ W, Bytes W (.slice au x.b.length cu) x.b → Calls Tryd.prog 11 #[.agg (pkC { x with t := z32P } (.slice au x.b.length cu))] W fun e w' => e = .returned (.int .i64 0) ∧ Below W.heap.size W w') := Bx.mk fun W h => by
        have := HCR.out W { x with t := z32P } rfl h
        rw [chkP_tag x z32P hp, hc] at this
        exact this
      have HTa0 := Bx.mk fun (W : World) => HTa.out W { x with t := z32P } rfl (by rw [chkP_tag x z32P hp]; exact hc) HTG.out
      have HP0 : Bx (spl (pkC { x with t := z32P } (.slice au x.b.length cu)) 9 (u8s tg).toList = pkC { x with t := tg } (.slice au x.b.length cu)) := Bx.mk (pk_setT _ _ _ rfl HTl.out)
      obtain ⟨t0, ht0⟩ : ∃ t0, pkC { x with t := z32P } (.slice au x.b.length cu) = t0 := ⟨_, rfl⟩
      rw [ht0] at HI0 HCR0 HTa0 HP0 K16
      have HT0 := Bx.mk ht0
      clear ht0
      rw [z32_is] at hw9 HTh
      have HSz : Bx ((Tryd.prog.info? 27).map (·.size) = some (u8s z32P).size ∧ (u8s z32P).all (·.oneCell') = true) := Bx.mk ⟨by kernel_rfl, one_u8s _⟩
      rw [z32_is] at HSz
      go_wp2_with (first | (refine wpList_store_mid rfl 27 _ _ rfl E 9 _ (by rfl) (by rfl) HTh.out HSz.out.1 HSz.out.2 ?_; rw [hw9]; clear K15 k0) | (refine wpList_load_midP (by rfl) 29 _ rfl E 0 (by rfl) t0.toList _ (row_rngP (by rw [Array.toArray_toList]; exact K16.out.1.rows _ (.head _))) Tryd.underlying29 rfl HI0.out.1 ?_; rw [Array.toArray_toList]))
      clear HTh hw9 HSz
      refine (HCR0.out w16 K16.out.2.at1).mono ?_
      rintro e w17 ⟨rfl, hb⟩
      have K17 := Bx.mk (And.intro (K16.out.1.later hb) (K16.out.2.later hb))
      clear hb K16
      go_wp2_with (first | (refine wpList_load_midP (by rfl) 45 _ rfl T 0 (by rfl) tb.toArray.toList _ (row_rngP (by rw [Array.toArray_toList]; exact K17.out.1.rows _ (.tail _ (.head _)))) Tryd.underlying45 rfl HTS.out.1 ?_; rw [Array.toArray_toList]) | (refine wpList_load_midP (by rfl) 29 _ rfl E 0 (by rfl) t0.toList _ (row_rngP (by rw [Array.toArray_toList]; exact K17.out.1.rows _ (.head _))) Tryd.underlying29 rfl HI0.out.1 ?_; rw [Array.toArray_toList]))
      refine (HTa0.out w17 K17.out.2.at2 K17.out.2.at1).mono ?_
      rintro e w18 ⟨rfl, hb⟩
      have K18 := Bx.mk (And.intro (K17.out.1.later hb) (K17.out.2.later hb))
      clear hb K17
      have hz1v := HZ1v.out
      have HSk : Bx ((Tryd.prog.info? 27).map (·.size) = some (u8s tg).size ∧ (u8s tg).size = z1.size ∧ (u8s tg).all (·.oneCell') = true) := Bx.mk ⟨by rw [u8s_size, HTl.out]; kernel_rfl, by rw [← HZ1.out, u8s_size, u8s_size, HTl.out]; rfl, one_u8s _⟩
      obtain ⟨Hb, hHb⟩ : ∃ Hb, w18.heap.size = Hb := ⟨_, rfl⟩
      have HnH : Bx ((w18.alloc (.cells z1 27)).heap[Hb]? = some (.cells z1 27 (0, 0))) := Bx.mk (hnew _ _ _ hHb.symm)
      go_upto_region 23 with (refine wpList_store_new rfl 27 _ _ rfl Hb (u8s tg) z1 _ (by rfl) (by rfl) HnH.out HSk.out.2.1 HSk.out.1 HSk.out.2.2 ?_; intro w19 hw8 hr8; have F9 := Bx.mk (K18.out.1.fresh hHb (kb_ofP hw8) hr8); have K19 := Bx.mk (And.intro F9.out.1 (K18.out.2.later F9.out.2)); clear hw8 hr8 F9)
      clear K18 HnH hHb
      have HRw : Bx (w19.heap[Hb]? = some (.cells (u8s tg) 27 (0, 0))) := Bx.mk (K19.out.1.rows _ (.head _))
      have HTlS : Bx ((u8s tg).size = 32) := Bx.mk (by rw [u8s_size, HTl.out])
      have HEp := Bx.mk (show w19.heap[E]? = some (.cells t0 29 (0, 0)) from K19.out.1.rows _ (.tail _ (.head _)))
      have HTh := Bx.mk (there_row HEp.out 9 (u8s tg).size (by rw [HI0.out.2]; rw [HTlS.out]; decide))
      have HStE : Bx ((w19.setCells E 9 (u8s tg).toList).heap[E]? = some (.cells (pkC { x with t := tg } (.slice au x.b.length cu)) 29 (0, 0))) := Bx.mk (by rw [heap_setCells_same E 29 _ 9 w19 _ HEp.out, HP0.out])
      obtain ⟨w20, hw9⟩ : ∃ W, w19.setCells E 9 (u8s tg).toList = W := ⟨_, rfl⟩
      rw [hw9] at HStE
      have hg9 : w19.grownBy w20 (some E) := by rw [← hw9]; exact kb_setCells (b := E) _ _ _
      have K20 := Bx.mk (And.intro (K19.out.1.pick hg9 HStE.out HBE.out.1 [(Z, .cells tz 33)] (by
        intro y hy
        simp only [List.mem_cons, List.not_mem_nil, or_false] at hy; obtain rfl := hy
        exact ⟨(.tail _ (.tail _ (.tail _ (.head _)))), by have := HOZ.out; simp only; omega⟩)) (K19.out.2.grown hg9))
      clear hg9 HEp HStE
      go_upto_region 24 with (first | (refine wpList_load_row rfl 27 _ rfl Hb (by rfl) _ _ _ _ HRw.out Tryd.underlying27 rfl HSk.out.1 ?_) | (refine wpList_store_mid rfl 27 _ _ rfl E 9 (u8s tg) (by rfl) (by rfl) HTh.out HSk.out.1 HSk.out.2.2 ?_; rw [hw9]))
      clear K19 HTh hw9 HRw
      have R0 := Bx.mk (And.intro (K20.out.1.later (Below.refl _ _).drew) (K20.out.2.later (Below.refl _ _).drew))
      clear K20
      obtain ⟨y, hy⟩ : ∃ y : Pk, y = { x with t := tg } := ⟨_, rfl⟩
      have HY : Bx (y.t.length = 32 ∧ y.b = x.b ∧ plainB y.k = false ∧ chkP y = 0 ∧ tagK kb y = y.t ∧ tgP kb x = y ∧ x.b.length ≤ 520) := Bx.mk (by rw [hy]; exact ⟨HTl.out, rfl, hp, by rw [chkP_tag x tg hp]; exact hc, HTG.out, by unfold tgP; rw [HTG.out], HL2.out⟩)
      rw [← hy] at R0
      clear hy
      rw [HY.out.2.2.2.2.2.1] at HTZ R0
      obtain ⟨ty, hty⟩ : ∃ ty, pkC y (.slice au x.b.length cu) = ty := ⟨_, rfl⟩
      rw [hty] at R0
      have HTY := Bx.mk hty
      clear hty
      obtain ⟨tzl, htzl⟩ : ∃ l, tz.toList = l := ⟨_, rfl⟩
      obtain ⟨tyl, htyl⟩ : ∃ l, ty.toList = l := ⟨_, rfl⟩
      have HE1 : Bx (tzl.toArray = tz ∧ tyl.toArray = ty) := Bx.mk ⟨by rw [← htzl, Array.toArray_toList], by rw [← htyl, Array.toArray_toList]⟩
      have HLn : Bx ((Tryd.prog.info? 33).map (·.size) = some tzl.length ∧ (Tryd.prog.info? 29).map (·.size) = some tyl.length) := Bx.mk ⟨by rw [← htzl]; exact HIy.out.1, by rw [← htyl, Array.length_toList, ← HTY.out]; exact pk_infoR _ _ HY.out.1⟩
      have HSS : Bx (∀ W, KP w B [(E, .cells ty 29), (Z, .cells tz 33)] W → W.rangeAt Z 0 tzl ∧ W.rangeAt E 0 tyl) := Bx.mk fun W h => ⟨row_rngP (by rw [HE1.out.1]; exact h.rows _ (.tail _ (.head _))), row_rngP (by rw [HE1.out.2]; exact h.rows _ (.head _))⟩
      have HCf : Bx (∀ W, Bytes W (.slice az y.b.length cz) y.b → Bytes W (.slice au x.b.length cu) x.b → IsKey W (.pointer (some ⟨p, 0, none⟩)) kb → Tab W → 1 < W.heap.size → (Calls Tryd.prog 7 #[.agg tz] W fun e w' => e = .returned (.agg tz) ∧ Below W.heap.size W w') ∧ (Calls Tryd.prog 15 #[.agg tz, .agg ty] W fun e w' => e = .returned (.bool true) ∧ Below W.heap.size W w') ∧ (Calls Tryd.prog 12 #[.agg tz, .pointer (some ⟨p, 0, none⟩)] W fun e w' => e = .returned (.bool true) ∧ Below W.heap.size W w')) := Bx.mk fun W h1 h2 h3 h4 h5 => by
        have a1 := of14 y _ W HY.out.1 h1
        have a2 := rsame14 y y _ (.slice au x.b.length cu) W HY.out.1 HY.out.1 h1 (by rw [HY.out.2.1]; exact h2) (by rw [HY.out.2.1]; have := HY.out.2.2.2.2.2.2; omega) (by rw [HY.out.2.1]; have := HY.out.2.2.2.2.2.2; omega) true (by simp)
        have a3 := HHo.out W y _ (.pointer (some ⟨p, 0, none⟩)) true HY.out.1 h1 h3 HY.out.2.2.1 HY.out.2.2.2.1 h4 h5 (by simp [HY.out.2.2.2.2.1])
        unfold pkV at a1 a2 a3
        rw [HTZ.out] at a1 a2 a3
        rw [HTY.out] at a2
        exact ⟨a1, a2, a3⟩
      have HUse := Bx.mk fun (W : World) (h : FX E [((.slice az y.b.length cz), y.b), ((.slice au x.b.length cu), x.b), (.slice ak m ck, kb)] (.pointer (some ⟨p, 0, none⟩)) kb W) => HCf.out W h.at0 h.at1 h.isKey h.tab h.tg
      clear htzl htyl
      refine wp_region_noPanic ?_
      refine wp_region_held_drew (S := fun W => W.rangeAt Z 0 tzl ∧ W.rangeAt E 0 tyl) (by kernel_rfl) (HSS.out _ R0.out.1) (fun hHeld => ?_)
      generalize w20.drew = W0 at *
      refine stepL 0 (by kernel_rfl) rfl (fun K hK => ?_)
      go_simp
      refine (known14_any W0).mono ?_
      rintro e W1 ⟨rfl, hb⟩
      show K _ _
      have R1 := Bx.mk (And.intro (R0.out.1.later hb) (R0.out.2.later hb))
      clear hb R0
      refine hK.out _ _ (HSS.out _ R1.out.1) (fun hHeld => ?_)
      clear hK K
      try simp only [Act.put, List.setIfInBounds_toArray, List.set_cons_zero, List.set_cons_succ]
      refine takeL 1 (v := ?_) rfl (by kernel_rfl) (by kernel_rfl) (by kernel_rfl) (fun _ _ _ h => h) (Or.inl ⟨by rfl, ?_⟩) hHeld ?_
      rotate_left 1
      · (intro w hSw; go_simp; try with_reducible rfl)
      try simp only [Act.put, List.setIfInBounds_toArray, List.set_cons_zero, List.set_cons_succ]
      refine takeL 2 (v := ?_) rfl (by kernel_rfl) (by kernel_rfl) (by kernel_rfl) (fun _ _ _ h => h) (Or.inl ⟨by rfl, ?_⟩) hHeld ?_
      rotate_left 1
      · (intro w hSw; go_simp; try with_reducible rfl)
      try simp only [Act.put, List.setIfInBounds_toArray, List.set_cons_zero, List.set_cons_succ]
      refine takeL 3 (v := ?_) rfl (by kernel_rfl) (by kernel_rfl) (by kernel_rfl) (fun _ _ _ h => h) (Or.inl ⟨by rfl, ?_⟩) hHeld ?_
      rotate_left 1
      · (intro w hSw; go_simp; try with_reducible rfl)
      try simp only [Act.put, List.setIfInBounds_toArray, List.set_cons_zero, List.set_cons_succ]
      refine takeL 4 (v := ?_) rfl (by kernel_rfl) (by kernel_rfl) (by kernel_rfl) (fun _ _ _ h => h) (Or.inl ⟨by rfl, ?_⟩) hHeld ?_
      rotate_left 1
      · (intro w hSw; go_simp; try with_reducible rfl)
      try simp only [Act.put, List.setIfInBounds_toArray, List.set_cons_zero, List.set_cons_succ]
      refine takeL 5 (v := ?_) rfl (by kernel_rfl) (by kernel_rfl) (by kernel_rfl) (fun _ _ _ h => h) (Or.inl ⟨by rfl, ?_⟩) hHeld ?_
      rotate_left 1
      · (intro w hSw; go_simp; try with_reducible rfl)
      try simp only [Act.put, List.setIfInBounds_toArray, List.set_cons_zero, List.set_cons_succ]
      refine takeL 6 rfl (by kernel_rfl) (by kernel_rfl) (by kernel_rfl) (fun _ _ _ h => h) (yieldsIf_load_mid (by rfl) _ _ rfl _ _ rfl _ _ (fun w hSw => hSw.1) Tryd.underlying33 rfl HLn.out.1) hHeld ?_
      try simp only [Act.put, List.setIfInBounds_toArray, List.set_cons_zero, List.set_cons_succ]
      refine takeL 8 rfl (by kernel_rfl) (by kernel_rfl) (by kernel_rfl) (fun _ _ _ h => h) (yieldsIf_load_mid (by rfl) _ _ rfl _ _ rfl _ _ (fun w hSw => hSw.2) Tryd.underlying29 rfl HLn.out.2) hHeld ?_
      try simp only [Act.put, List.setIfInBounds_toArray, List.set_cons_zero, List.set_cons_succ]
      refine stepL 7 (by kernel_rfl) rfl (fun K hK => ?_)
      go_simp
      try rw [HE1.out.1]
      refine ((HUse.out W1 R1.out.2).1).mono ?_
      rintro e W2 ⟨rfl, hb⟩
      show K _ _
      have R2 := Bx.mk (And.intro (R1.out.1.later hb) (R1.out.2.later hb))
      clear hb R1
      refine hK.out _ _ (HSS.out _ R2.out.1) (fun hHeld => ?_)
      clear hK K
      try simp only [Act.put, List.setIfInBounds_toArray, List.set_cons_zero, List.set_cons_succ]
      refine stepL 9 (by kernel_rfl) rfl (fun K hK => ?_)
      go_simp
      try rw [HE1.out.2]
      refine ((HUse.out W2 R2.out.2).2.1).mono ?_
      rintro e W3 ⟨rfl, hb⟩
      show K _ _
      have R3 := Bx.mk (And.intro (R2.out.1.later hb) (R2.out.2.later hb))
      clear hb R2
      refine hK.out _ _ (HSS.out _ R3.out.1) (fun hHeld => ?_)
      clear hK K
      try simp only [Act.put, List.setIfInBounds_toArray, List.set_cons_zero, List.set_cons_succ]
      refine takeL 10 (v := ?_) rfl (by kernel_rfl) (by kernel_rfl) (by kernel_rfl) (fun _ _ _ h => h) (Or.inl ⟨by rfl, ?_⟩) hHeld ?_
      rotate_left 1
      · (intro w hSw; go_simp; try with_reducible rfl)
      try simp only [Act.put, List.setIfInBounds_toArray, List.set_cons_zero, List.set_cons_succ]
      refine takeL 11 (v := ?_) rfl (by kernel_rfl) (by kernel_rfl) (by kernel_rfl) (fun _ _ _ h => h) (Or.inl ⟨by rfl, ?_⟩) hHeld ?_
      rotate_left 1
      · (intro w hSw; go_simp; try with_reducible rfl)
      try simp only [Act.put, List.setIfInBounds_toArray, List.set_cons_zero, List.set_cons_succ]
      refine takeL 12 rfl (by kernel_rfl) (by kernel_rfl) (by kernel_rfl) (fun _ _ _ h => h) (yieldsIf_load_mid (by rfl) _ _ rfl _ _ rfl _ _ (fun w hSw => hSw.1) Tryd.underlying33 rfl HLn.out.1) hHeld ?_
      try simp only [Act.put, List.setIfInBounds_toArray, List.set_cons_zero, List.set_cons_succ]
      refine takeL 13 (v := ?_) rfl (by kernel_rfl) (by kernel_rfl) (by kernel_rfl) (fun _ _ _ h => h) (Or.inl ⟨by rfl, ?_⟩) hHeld ?_
      rotate_left 1
      · (intro w hSw; go_simp; try with_reducible rfl)
      try simp only [Act.put, List.setIfInBounds_toArray, List.set_cons_zero, List.set_cons_succ]
      refine stepL 14 (by kernel_rfl) rfl (fun K hK => ?_)
      go_simp
      try rw [HE1.out.1]
      refine ((HUse.out W3 R3.out.2).2.2).mono ?_
      rintro e W4 ⟨rfl, hb⟩
      show K _ _
      have R4 := Bx.mk (And.intro (R3.out.1.later hb) (R3.out.2.later hb))
      clear hb R3
      refine hK.out _ _ (HSS.out _ R4.out.1) (fun hHeld => ?_)
      clear hK K
      try simp only [Act.put, List.setIfInBounds_toArray, List.set_cons_zero, List.set_cons_succ]
      refine takeL 15 (v := ?_) rfl (by kernel_rfl) (by kernel_rfl) (by kernel_rfl) (fun _ _ _ h => h) (Or.inl ⟨by rfl, ?_⟩) hHeld ?_
      rotate_left 1
      · (intro w hSw; go_simp; try with_reducible rfl)
      try simp only [Act.put, List.setIfInBounds_toArray, List.set_cons_zero, List.set_cons_succ]
      refine takeL 16 (v := ?_) rfl (by kernel_rfl) (by kernel_rfl) (by kernel_rfl) (fun _ _ _ h => h) (Or.inl ⟨by rfl, ?_⟩) hHeld ?_
      rotate_left 1
      · (intro w hSw; go_simp; try with_reducible rfl)
      try simp only [Act.put, List.setIfInBounds_toArray, List.set_cons_zero, List.set_cons_succ]
      refine wpAnyH_done (by kernel_rfl) ?_ _
      refine NoPanic.normal ?_
      clear hHeld
      try go_wp2
      go_ret
      exact ⟨rfl, R4.out.1.below⟩
    · skip -- MBAD
      go_wp2_with ((refine wpList_load_midP (by rfl) 33 _ rfl A 0 (by rfl) tk.toList _ (row_rngP (by rw [Array.toArray_toList]; exact K5.out.1.rows _ (.tail _ (.head _)))) Tryd.underlying33 rfl HIt.out.1.1 ?_; rw [Array.toArray_toList]))
      refine (HBa.out w5 p hp hc K5.out.2.at0).mono ?_
      rintro e w6 ⟨rfl, hb⟩
      have K6 := Bx.mk (And.intro (K5.out.1.later hb) (K5.out.2.later hb))
      clear hb K5
      obtain ⟨Z, hZ⟩ : ∃ Z, w6.heap.size = Z := ⟨_, rfl⟩
      have HnZ : Bx ((w6.alloc (.cells zc 33)).heap[Z]? = some (.cells zc 33 (0, 0))) := Bx.mk (hnew _ _ _ hZ.symm)
      have HOZ : Bx (E < Z) := Bx.mk (by rw [← hZ]; exact K6.out.1.lt (x := (E, _)) (.head _))
      go_wp2_with (first | (refine wpList_store_new rfl 33 _ _ rfl Z zc zc _ (by rfl) (by rfl) HnZ.out rfl HIc.out HOc.out ?_; intro w7 hw8 hr8; have F9 := Bx.mk (K6.out.1.fresh hZ (kb_ofP hw8) hr8); have K7 := Bx.mk (And.intro F9.out.1 (K6.out.2.later F9.out.2)); clear hw8 hr8 F9) | (refine wpList_load_midP (by rfl) 33 _ rfl A 0 (by rfl) tk.toList _ (row_rngP (by rw [Array.toArray_toList]; exact K7.out.1.rows _ (.tail _ (.tail _ (.head _))))) Tryd.underlying33 rfl HIt.out.1.1 ?_; rw [Array.toArray_toList]))
      clear K6 HnZ hZ
      refine (HNi.out w7 K7.out.2.at0).mono ?_
      rintro e w8 ⟨rfl, hb⟩
      have K8 := Bx.mk (And.intro (K7.out.1.later hb) (K7.out.2.later hb))
      clear hb K7
      obtain ⟨N, hN⟩ : ∃ N, w8.heap.size = N := ⟨_, rfl⟩
      have HnN : Bx ((w8.alloc (.cells zc 33)).heap[N]? = some (.cells zc 33 (0, 0))) := Bx.mk (hnew _ _ _ hN.symm)
      have HON : Bx (E < N) := Bx.mk (by rw [← hN]; exact K8.out.1.lt (x := (E, _)) (.tail _ (.head _)))
      go_wp2_with ((refine wpList_store_new rfl 33 _ _ rfl N zc zc _ (by rfl) (by rfl) HnN.out rfl HIc.out HOc.out ?_; intro w9 hw8 hr8; have F9 := Bx.mk (K8.out.1.fresh hN (kb_ofP hw8) hr8); have K9 := Bx.mk (And.intro F9.out.1 (K8.out.2.later F9.out.2)); clear hw8 hr8 F9))
      clear K8 HnN hN
      refine (make_any w9).mono ?_
      rintro e w10 ⟨rfl, hb⟩
      have K10 := Bx.mk (And.intro (K9.out.1.later hb) (K9.out.2.later hb))
      clear hb K9
      obtain ⟨tb, htb⟩ : ∃ tb : List Value, u32s (kTab ++ hTab) = tb.toArray := ⟨_, rfl⟩
      have HTB := Bx.mk htb
      have HTS : Bx ((Tryd.prog.info? 45).map (·.size) = some tb.toArray.size ∧ tb.toArray.size = zt.size ∧ tb.toArray.all (·.oneCell') = true) := Bx.mk ⟨tbl_size3 htb, by rw [← htb, ← HZT.out, u32s_size, u32s_size]; rfl, by rw [← htb]; exact one_u32s _⟩
      rw [htb]
      clear htb
      obtain ⟨T, hT⟩ : ∃ T, w10.heap.size = T := ⟨_, rfl⟩
      have HnT : Bx ((w10.alloc (.cells zt 45)).heap[T]? = some (.cells zt 45 (0, 0))) := Bx.mk (hnew _ _ _ hT.symm)
      have HOT : Bx (E < T) := Bx.mk (by rw [← hT]; exact K10.out.1.lt (x := (E, _)) (.tail _ (.tail _ (.head _))))
      go_wp2_with (first | (refine wpList_store_new rfl 45 _ _ rfl T tb.toArray zt _ (by rfl) (by rfl) HnT.out HTS.out.2.1 HTS.out.1 HTS.out.2.2 ?_; intro w11 hw8 hr8; have F9 := Bx.mk (K10.out.1.fresh hT (kb_ofP hw8) hr8); have K11 := Bx.mk (And.intro F9.out.1 (K10.out.2.later F9.out.2)); clear hw8 hr8 F9) | (refine wpList_load_midP (by rfl) 29 _ rfl E 0 (by rfl) tk.toList _ (row_rngP (by rw [Array.toArray_toList]; exact K11.out.1.rows _ (.tail _ (.tail _ (.tail _ (.head _)))))) Tryd.underlying29 rfl HIt.out.1.2 ?_; rw [Array.toArray_toList]))
      clear K10 HnT hT
      refine (HCRx.out w11 K11.out.2.at0).mono ?_
      rintro e w12 ⟨rfl, hb⟩
      have K12 := Bx.mk (And.intro (K11.out.1.later hb) (K11.out.2.later hb))
      clear hb K11
      have k0 : w12.cell? ⟨E, 0, none⟩ = some (.int .i64 x.k) := (pk_at (x := x) (v := (.slice au x.b.length cu)) (by rw [HTK.out]; exact K12.out.1.rows _ (.tail _ (.tail _ (.tail _ (.head _)))))).k
      have hcd : ¬ chkP x = 0 := hc
      have hk3 : ¬ x.k = 1 := fun e => by rw [(plainB_iff _).2 (.inl e)] at hp; cases hp
      have hk4 : ¬ x.k = 2 := fun e => by rw [(plainB_iff _).2 (.inr e)] at hp; cases hp
      have hk3d : (x.k == 1) = false := by simp [hk3]
      have hk4d : (x.k == 2) = false := by simp [hk4]
      have hcdd : (chkP x == 0) = false := by simp [hc]
      clear hk3 hk4
      go_wp2_with ((refine wpList_load_midP (by rfl) 33 _ rfl A 0 (by rfl) tk.toList _ (row_rngP (by rw [Array.toArray_toList]; exact K12.out.1.rows _ (.tail _ (.tail _ (.tail _ (.tail _ (.head _))))))) Tryd.underlying33 rfl HIt.out.1.1 ?_; rw [Array.toArray_toList]))
      refine (HHe.out w12 1 none (by decide) K12.out.2.at0 (fun W1 h1 => HNi.out W1 (K12.out.2.later h1).at0)).mono ?_
      rintro e w13 ⟨rfl, hb⟩
      have K13 := Bx.mk (And.intro (K12.out.1.later hb) (K12.out.2.later hb))
      clear hb K12
      clear k0
      have k0 : w13.cell? ⟨E, 0, none⟩ = some (.int .i64 x.k) := (pk_at (x := x) (v := (.slice au x.b.length cu)) (by rw [HTK.out]; exact K13.out.1.rows _ (.tail _ (.tail _ (.tail _ (.head _)))))).k
      go_wp2_with ((refine wpList_load_midP (by rfl) 33 _ rfl A 0 (by rfl) tk.toList _ (row_rngP (by rw [Array.toArray_toList]; exact K13.out.1.rows _ (.tail _ (.tail _ (.tail _ (.tail _ (.head _))))))) Tryd.underlying33 rfl HIt.out.1.1 ?_; rw [Array.toArray_toList]))
      refine (HHe.out w13 (chkP x) _ hc K13.out.2.at0 (fun W1 h1 => HBa.out W1 p hp hc (K13.out.2.later h1).at0)).mono ?_
      rintro e w14 ⟨rfl, hb⟩
      have K14 := Bx.mk (And.intro (K13.out.1.later hb) (K13.out.2.later hb))
      clear hb K13
      clear k0
      have k0 : w14.cell? ⟨E, 0, none⟩ = some (.int .i64 x.k) := (pk_at (x := x) (v := (.slice au x.b.length cu)) (by rw [HTK.out]; exact K14.out.1.rows _ (.tail _ (.tail _ (.tail _ (.head _)))))).k
      have HEq := Bx.mk (show pkC { x with t := z32P } (.slice au x.b.length cu) = pkC { x with t := z32P } (.slice au x.b.length cu) from rfl)
      clear HEq
      rw [HZ1.out.symm] at hz1v
      clear hz1v
      have HEp := Bx.mk (show w14.heap[E]? = some (.cells tk 29 (0, 0)) from K14.out.1.rows _ (.tail _ (.tail _ (.tail _ (.head _)))))
      have HTh := Bx.mk (there_row HEp.out 9 (u8s z32P).size (by rw [HIt.out.2.1]; rw [HZ.out]; decide))
      have HStE : Bx ((w14.setCells E 9 (u8s z32P).toList).heap[E]? = some (.cells (pkC { x with t := z32P } (.slice au x.b.length cu)) 29 (0, 0))) := Bx.mk (by rw [heap_setCells_same E 29 _ 9 w14 _ HEp.out, ← HTK.out, pk_setT _ _ _ HT2.out rfl])
      obtain ⟨w15, hw9⟩ : ∃ W, w14.setCells E 9 (u8s z32P).toList = W := ⟨_, rfl⟩
      rw [hw9] at HStE
      have hg9 : w14.grownBy w15 (some E) := by rw [← hw9]; exact kb_setCells (b := E) _ _ _
      have K15 := Bx.mk (And.intro (K14.out.1.pick hg9 HStE.out HBE.out.1 [] (by
        intro y hy
        cases hy
      )) (K14.out.2.grown hg9))
      clear hg9 HEp HStE
      have HI0 : Bx ((Tryd.prog.info? 29).map (·.size) = some (pkC { x with t := z32P } (.slice au x.b.length cu)).size) := Bx.mk (pk_infoR _ _ rfl)
      have HCR0 : Bx (∀ W, Bytes W (.slice au x.b.length cu) x.b → Calls Tryd.prog 11 #[.agg (pkC { x with t := z32P } (.slice au x.b.length cu))] W fun e w' => e = .returned (.int .i64 (chkP x)) ∧ Below W.heap.size W w') := Bx.mk fun W h => by
        have := HCR.out W { x with t := z32P } rfl h
        rw [chkP_tag x z32P hp] at this
        exact this
      obtain ⟨t0, ht0⟩ : ∃ t0, pkC { x with t := z32P } (.slice au x.b.length cu) = t0 := ⟨_, rfl⟩
      rw [ht0] at HI0 HCR0 K15
      clear ht0
      rw [z32_is] at hw9 HTh
      obtain ⟨zz, hzz⟩ : ∃ zz, zz = u8s z32P := ⟨_, rfl⟩
      have HSk : Bx ((Tryd.prog.info? 27).map (·.size) = some (u8s z32P).size ∧ (u8s z32P).all (·.oneCell') = true) := Bx.mk ⟨by kernel_rfl, one_u8s _⟩
      rw [z32_is] at HSk
      clear hzz zz
      go_wp2_with (first | (refine wpList_store_mid rfl 27 _ _ rfl E 9 _ (by rfl) (by rfl) HTh.out HSk.out.1 HSk.out.2 ?_; rw [hw9]; clear K14 k0) | (refine wpList_load_midP (by rfl) 29 _ rfl E 0 (by rfl) t0.toList _ (row_rngP (by rw [Array.toArray_toList]; exact K15.out.1.rows _ (.head _))) Tryd.underlying29 rfl HI0.out ?_; rw [Array.toArray_toList]))
      refine (HCR0.out w15 K15.out.2.at0).mono ?_
      rintro e w16 ⟨rfl, hb⟩
      have K16 := Bx.mk (And.intro (K15.out.1.later hb) (K15.out.2.later hb))
      clear hb K15
      go_wp2_with fail
      refine (known14_any w16).mono ?_
      rintro e w17 ⟨rfl, hb⟩
      have K17 := Bx.mk (And.intro (K16.out.1.later hb) (K16.out.2.later hb))
      clear hb K16
      go_wp2_with ((refine wpList_load_midP (by rfl) 29 _ rfl E 0 (by rfl) t0.toList _ (row_rngP (by rw [Array.toArray_toList]; exact K17.out.1.rows _ (.head _))) Tryd.underlying29 rfl HI0.out ?_; rw [Array.toArray_toList]))
      refine (HCR0.out w17 K17.out.2.at0).mono ?_
      rintro e w18 ⟨rfl, hb⟩
      have K18 := Bx.mk (And.intro (K17.out.1.later hb) (K17.out.2.later hb))
      clear hb K17
      go_wp2
      go_ret
      exact ⟨rfl, K18.out.1.below⟩
end Go.Proofs.YtaoekfomffebhaaDoor
namespace Go.Proofs.YtaoekfomffebhaaDoor
open Go Go.ChangeShapes Go.WideShapes Go.ChangeAt Go.RowKit
theorem gTab : Tryd.prog.globalNamed "vigil/digest.table" = some 1 := by kernel_rfl
theorem gTabType : (Tryd.prog.globals[1]?).map (·.type) = some 42 := by kernel_rfl
theorem cellsTab : Tryd.prog.cellsOf 42 = 64 := by kernel_rfl
theorem cellsWord : Tryd.prog.cellsOf 41 = 1 := by kernel_rfl
theorem laid_is : (Rows.laid_vigil_digest_table : DataW Unit) = Lib.tabData .u32 (kTab.map uv) := by kernel_rfl
/-- The listed variable's cells hold the table. -/
theorem tab_of {W : World} (h : laidMet Tryd.prog [("vigil/digest.table", Rows.laid_vigil_digest_table)] W) : Tab W := by
  rw [laid_is] at h
  have t := Lib.tabIs_of_head (rest := []) gTab gTabType Tryd.underlying42 Tryd.underlying41 cellsWord cellsTab h
  intro i hi
  rw [t.cell gTab i (by simpa [kTab] using hi)]
  congr 2
  have hk : i < kTab.length := hi
  simp [hk]
/-- A world for the witness: the settled one, the table holding what its initialiser lays. -/
noncomputable def laidWorld (os : Os) : World :=
  { World.holding Tryd.prog os ⟨#[], #[], []⟩ with heap := (World.holding Tryd.prog os ⟨#[], #[], []⟩).heap.modify 1 fun
      | .cells _ t frozen => .cells (u32s kTab) t frozen
      | o => o }
end Go.Proofs.YtaoekfomffebhaaDoor
namespace Go.Proofs.YtaoekfomffebhaaDoor
open Go Go.ChangeShapes Go.WideShapes Go.ChangeAt Go.RowKit
end Go.Proofs.YtaoekfomffebhaaDoor
