/-
  The walk of the document's digest.
-/
import Derived.Test.YtkfgpnigeknhmaaDoorRj
import Derived.Test.YtkfgpnigeknhmaaDoorRk
import Derived.Test.YtkfgpnigeknhmaaDoorWn
namespace Go.Proofs.YtkfgpnigeknhmaaDoor
open Go Go.RowKit
set_option maxRecDepth 100000 in
set_option maxHeartbeats 4000000 in
theorem rsum_any (bs : List UInt8) (v : Value) (w : World) (hv : Bytes w v bs) (hn : bs.length ≤ 1099511627776) :
    Calls Tryd.prog 12 #[.agg (u32s (kTab ++ hTab)), v] w fun e w' => e = .returned (.agg (u8s (sha bs))) ∧ Below w.heap.size w w' := by
  have HV := Bx.mk hv
  have HM := Bx.mk hn
  obtain ⟨a, cap, rfl, -⟩ := hv
  obtain ⟨n, hnn⟩ : ∃ n, bs.length = n := ⟨_, rfl⟩
  have HN := Bx.mk hnn
  rw [hnn] at HV hn ⊢
  have hn1 : (n : Int) ≤ 1099511627776 := by omega
  obtain ⟨tb, htb⟩ : ∃ tb, u32s (kTab ++ hTab) = tb := ⟨_, rfl⟩
  have HTb := Bx.mk htb
  rw [htb]
  obtain ⟨res, hres⟩ : ∃ res, sha bs = res := ⟨_, rfl⟩
  have HRes := Bx.mk hres
  rw [hres]
  clear hnn hn htb hres
  have H0 : Bx (Below w.heap.size w ((w.alloc (.cells tb 32)).alloc (.cells #[.int .u8 0, .int .u8 0, .int .u8 0, .int .u8 0, .int .u8 0, .int .u8 0, .int .u8 0, .int .u8 0, .int .u8 0, .int .u8 0, .int .u8 0, .int .u8 0, .int .u8 0, .int .u8 0, .int .u8 0, .int .u8 0, .int .u8 0, .int .u8 0, .int .u8 0, .int .u8 0, .int .u8 0, .int .u8 0, .int .u8 0, .int .u8 0, .int .u8 0, .int .u8 0, .int .u8 0, .int .u8 0, .int .u8 0, .int .u8 0, .int .u8 0, .int .u8 0] 26)) ∧ ((w.alloc (.cells tb 32)).alloc (.cells #[.int .u8 0, .int .u8 0, .int .u8 0, .int .u8 0, .int .u8 0, .int .u8 0, .int .u8 0, .int .u8 0, .int .u8 0, .int .u8 0, .int .u8 0, .int .u8 0, .int .u8 0, .int .u8 0, .int .u8 0, .int .u8 0, .int .u8 0, .int .u8 0, .int .u8 0, .int .u8 0, .int .u8 0, .int .u8 0, .int .u8 0, .int .u8 0, .int .u8 0, .int .u8 0, .int .u8 0, .int .u8 0, .int .u8 0, .int .u8 0, .int .u8 0, .int .u8 0] 26)).heap.size = w.heap.size + 2 ∧ ((w.alloc (.cells tb 32)).alloc (.cells #[.int .u8 0, .int .u8 0, .int .u8 0, .int .u8 0, .int .u8 0, .int .u8 0, .int .u8 0, .int .u8 0, .int .u8 0, .int .u8 0, .int .u8 0, .int .u8 0, .int .u8 0, .int .u8 0, .int .u8 0, .int .u8 0, .int .u8 0, .int .u8 0, .int .u8 0, .int .u8 0, .int .u8 0, .int .u8 0, .int .u8 0, .int .u8 0, .int .u8 0, .int .u8 0, .int .u8 0, .int .u8 0, .int .u8 0, .int .u8 0, .int .u8 0, .int .u8 0] 26)).heap[w.heap.size]? = some (.cells tb 32 (0, 0)) ∧ ((w.alloc (.cells tb 32)).alloc (.cells #[.int .u8 0, .int .u8 0, .int .u8 0, .int .u8 0, .int .u8 0, .int .u8 0, .int .u8 0, .int .u8 0, .int .u8 0, .int .u8 0, .int .u8 0, .int .u8 0, .int .u8 0, .int .u8 0, .int .u8 0, .int .u8 0, .int .u8 0, .int .u8 0, .int .u8 0, .int .u8 0, .int .u8 0, .int .u8 0, .int .u8 0, .int .u8 0, .int .u8 0, .int .u8 0, .int .u8 0, .int .u8 0, .int .u8 0, .int .u8 0, .int .u8 0, .int .u8 0] 26)).heap[w.heap.size + 1]? = some (.cells (u8s (List.replicate 32 0)) 26 (0, 0))) := Bx.mk ⟨((Below.refl _ _).alloc (Nat.le_refl _) _).alloc (by simp) _, by simp, by rw [hold _ _ _ (by simp), hnew _ _ _ rfl], by rw [hnew _ _ _ (by simp), zero32]⟩
  go_enter Tryd.func12, Tryd.ntmps12
  go_upto_region 1 with (fail)
  have HVb : Bx (∀ W : World, Below w.heap.size w W → Bytes W (.slice a n cap) bs) := Bx.mk (fun W h => HV.out.later h)
  generalize (w.alloc (.cells tb 32)).alloc (.cells #[.int .u8 0, .int .u8 0, .int .u8 0, .int .u8 0, .int .u8 0, .int .u8 0, .int .u8 0, .int .u8 0, .int .u8 0, .int .u8 0, .int .u8 0, .int .u8 0, .int .u8 0, .int .u8 0, .int .u8 0, .int .u8 0, .int .u8 0, .int .u8 0, .int .u8 0, .int .u8 0, .int .u8 0, .int .u8 0, .int .u8 0, .int .u8 0, .int .u8 0, .int .u8 0, .int .u8 0, .int .u8 0, .int .u8 0, .int .u8 0, .int .u8 0, .int .u8 0] 26) = w0 at *
  have H1 : Bx (RS w tb [] (.slice (some ⟨w0.heap.size, 0, none⟩) 0 0) (w0.alloc (.cells #[] 5))) := Bx.mk (by
    obtain ⟨q1, q2, q3, q4⟩ := H0.out
    exact ⟨q1.alloc q1.size _, by simp; omega, by rw [hold _ _ _ (by omega)]; exact q3, by rw [hold _ _ _ (by omega)]; exact q4, own_empty w0 _ (by omega)⟩)
  clear H0
  go_wp2_with (first | (refine wpList_ap (o := ⟨some 28, _, _, _, _, _⟩) rfl _ _ rfl (w.heap.size + 2) _ [] (by rfl) H1.out.own _ bs (by rfl) (HVb.out _ H1.out.below) (by rw [HN.out]; have := HM.out; have := HN.out; simp only [List.length_nil]; omega) H1.out.size ?_; intro v1 w1 h1 g1 _; have H2 : Bx (RS w tb bs v1 w1) := Bx.mk (H1.out.ap h1 g1); clear h1 g1) | (refine wpList_ap (o := ⟨some 30, _, _, _, _, _⟩) rfl _ _ rfl (w.heap.size + 2) _ bs (by rfl) (H2.out.alloc _).own _ [128] (by rfl) (one_128 _) (by have := HM.out; simp only [List.length_cons, List.length_nil]; omega) (H2.out.alloc _).size ?_; intro v2 w2 h1 g1 _; have H3 : Bx (RS w tb (bs ++ [128]) v2 w2) := Bx.mk ((H2.out.alloc _).ap h1 g1); clear h1 g1))
  clear H1 H2
  obtain ⟨a2, cap2, hv2⟩ := own_form H3.out.own
  have e2 : (bs ++ [128]).length = n + 1 := by rw [List.length_append, HN.out]; rfl
  rw [e2] at hv2
  subst hv2
  have H4 : Bx (∃ k : Nat, k ≤ zerosOf n ∧ RS w tb (bs ++ [128] ++ List.replicate k 0) (.slice a2 (n + 1) cap2) w2 ∧ n + 1 = n + 1 + k) := Bx.mk ⟨0, by omega, by rw [List.replicate_zero, List.append_nil]; exact H3.out, rfl⟩
  clear e2 H3
  go_loopw [5] (fun vv wr => ∃ (A : Option Addr) (L C : Nat), vv = .slice A L C ∧ Bx (∃ k : Nat, k ≤ zerosOf n ∧ RS w tb (bs ++ [128] ++ List.replicate k 0) (.slice A L C) wr ∧ L = n + 1 + k)) (fun vv _ => n + 66 - lenV vv)
  case atStart => exact ⟨a2, n + 1, cap2, rfl, H4⟩
  case round =>
    clear H4
    obtain ⟨A, L, C, rfl, HK⟩ := hrel
    obtain ⟨k, hk, hrs, hL⟩ := HK.out
    have HZ : Bx (zerosOf n < 64 ∧ (n + zerosOf n + 9) % 64 = 0) := Bx.mk ⟨Nat.mod_lt _ (by omega), pad_whole n⟩
    have hL1 : (L : Int) ≤ 1099511627900 := by have := HZ.out.1; omega
    by_cases hlt : k < zerosOf n
    · have t1 : ((L : Int) % 64 != 56) = true := by
        have := HZ.out
        simp only [bne_iff_ne, ne_eq]
        omega
      have HR := Bx.mk hrs
      have HL := Bx.mk hL
      clear hrs HK
      go_wp2_with (refine wpList_ap rfl _ _ rfl (w.heap.size + 2) _ (bs ++ [128] ++ List.replicate k 0) (by rfl) (HR.out.alloc _).own _ [0] (by rfl) (one_0 _) (by have := HM.out; have := HZ.out.1; simp only [List.length_append, List.length_replicate, List.length_cons, List.length_nil]; omega) (HR.out.alloc _).size ?_; intro v3 w3 h1 g1 _; have H3 : Bx (RS w tb (bs ++ [128] ++ List.replicate (k + 1) 0) v3 w3) := Bx.mk (by rw [List.replicate_succ', ← List.append_assoc]; exact (HR.out.alloc _).ap h1 g1); clear h1 g1)
      obtain ⟨A3, C3, hv3⟩ := own_form H3.out.own
      have e3 : (bs ++ [128] ++ List.replicate (k + 1) 0).length = n + 1 + (k + 1) := by simp only [List.length_append, List.length_replicate, List.length_cons, List.length_nil, HN.out]
      rw [e3] at hv3
      subst hv3
      clear e3 HR
      go_roundw
      case rel => exact ⟨A3, _, C3, rfl, Bx.mk ⟨k + 1, by omega, H3.out, rfl⟩⟩
      case measure => have := HL.out; have := HZ.out.1; simp only [lenV]; omega
    · have ek : k = zerosOf n := by omega
      have t1 : ((L : Int) % 64 != 56) = false := by
        have := HZ.out
        simp only [bne_eq_false_iff_eq]
        omega
      rw [ek] at hrs hL
      have HR := Bx.mk hrs
      have HL := Bx.mk hL
      clear hrs HK hL hk hlt ek
      obtain ⟨l1, hl1⟩ : ∃ l1, bs ++ [128] ++ List.replicate (zerosOf n) 0 = l1 := ⟨_, rfl⟩
      have HL1 := Bx.mk hl1
      have HLL : Bx (l1.length = n + 1 + zerosOf n) := Bx.mk (by rw [← hl1]; simp only [List.length_append, List.length_replicate, List.length_cons, List.length_nil, HN.out])
      rw [hl1] at HR
      clear hl1
      obtain ⟨wa, rfl⟩ : ∃ wa : World, wa = wr := ⟨_, rfl⟩
      go_wp2
      clear t1
      go_loopw [5, 7] (fun vv ii wr => ∃ (A : Option Addr) (L C i : Nat), i ≤ 8 ∧ vv = .slice A L C ∧ ii = .int .i64 (i : Int) ∧ Bx (RS w tb (l1 ++ (eight n).take i) (.slice A L C) wr ∧ L = n + 1 + zerosOf n + i)) (fun _ ii _ => 8 - (intOf ii).toNat)
      case atStart => exact ⟨A, L, C, 0, by omega, rfl, rfl, Bx.mk ⟨by rw [List.take_zero, List.append_nil]; exact HR.out, HL.out⟩⟩
      case round =>
        clear HR HL hL1
        obtain ⟨A, L, C, i, hi, rfl, rfl, HR⟩ := hrel
        by_cases hlt : i < 8
        · have hi1 : (i : Int) < 8 := by omega
          have p1 : 56 - 8 * (i : Int) = ((56 - 8 * i : Nat) : Int) := by omega
          have HE := Bx.mk (eight_at n i hlt)
          obtain ⟨P, hP⟩ : ∃ P, (2 : Nat) ^ (56 - 8 * i) = P := ⟨_, rfl⟩
          have pP : (2 : Int) ^ (56 - 8 * i) = (P : Int) := by rw [← hP]; simp
          have hP1 : 1 ≤ P := by rw [← hP]; exact Nat.one_le_two_pow
          have hP2 : P ≤ 2 ^ 56 := by rw [← hP]; exact Nat.pow_le_pow_right (by omega) (by omega)
          have p3 : ((56 - 8 * i : Nat) : Int) ≤ 56 := by omega
          rw [hP] at HE
          clear hP
          have p2 : 8 * (n : Int) / (P : Int) % 256 = ub ((eight n).getD i 0) := by
            unfold ub
            rw [← HE.out]
            simp
          obtain ⟨x, hx⟩ : ∃ x, (eight n).getD i 0 = x := ⟨_, rfl⟩
          have HX : Bx ((eight n).take (i + 1) = (eight n).take i ++ [x]) := Bx.mk (by rw [← hx]; exact eight_succ n i hlt)
          rw [hx] at p2
          clear hx HE
          have hP3 : (P : Int) ≤ 72057594037927936 := by omega
          go_wp2_with (refine wpList_ap rfl _ _ rfl (w.heap.size + 2) _ (l1 ++ (eight n).take i) (by rfl) (HR.out.1.alloc _).own _ [x] (by rfl) (built1 _ x) (by have := HM.out; have := HZ.out.1; rw [List.length_append, HLL.out, List.length_take, eight_length]; simp only [List.length_cons, List.length_nil]; omega) (HR.out.1.alloc _).size ?_; intro v3 w3 h1 g1 _; have H3 : Bx (RS w tb (l1 ++ (eight n).take (i + 1)) v3 w3) := Bx.mk (by rw [HX.out, ← List.append_assoc]; exact (HR.out.1.alloc _).ap h1 g1); clear h1 g1)
          obtain ⟨A3, C3, hv3⟩ := own_form H3.out.own
          have e3 : (l1 ++ (eight n).take (i + 1)).length = n + 1 + zerosOf n + (i + 1) := by rw [List.length_append, HLL.out, List.length_take, eight_length]; omega
          rw [e3] at hv3
          subst hv3
          clear e3 p1 pP p2 p3 hP1 hP2 hP3
          go_roundw
          case rel => exact ⟨A3, _, C3, i + 1, by omega, rfl, by go_num, Bx.mk ⟨H3.out, rfl⟩⟩
          case measure => simp [intOf]; omega
        · have ei : i = 8 := by omega
          obtain ⟨m, hm⟩ : ∃ m, bs ++ padOf n = m := ⟨_, rfl⟩
          have em : l1 ++ (eight n).take i = m := by
            rw [ei, List.take_of_length_le (by rw [eight_length]; omega), ← hm, pad_is, ← HL1.out]
            simp
          rw [em, ei] at HR
          have HML : Bx (m.length = L ∧ L % 64 = 0 ∧ 64 ≤ L ∧ L ≤ 1099511628000) := Bx.mk (by
            have h1 : m.length = n + (zerosOf n + 9) := by rw [← hm, List.length_append, pad_length, HN.out]
            have := HR.out.2
            have := HZ.out
            omega)
          have HSh : Bx (outOf (hs (L / 64) m) = res) := Bx.mk (by
            rw [← HRes.out]
            unfold sha
            have h1 := HR.out.2
            rw [HN.out, hm, show n + zerosOf n + 9 = L by omega])
          obtain ⟨G, hG, hGl⟩ := own_at HR.out.1.own (by have := HML.out; omega)
          subst hG
          have HR1 := Bx.mk HR.out.1
          have HGl := Bx.mk hGl
          clear HR em ei hm HL1 HLL hGl
          have HH8 : Bx (hTab.length = 8) := Bx.mk rfl
          have HRg : Bx (wr.rangeAt w.heap.size 64 (u32s hTab).toList) := Bx.mk (tab_range HR1.out.tab HTb.out)
          have HH0 : Bx (hs 0 m = hTab) := Bx.mk rfl
          generalize hht : hTab = ht at *
          have HHt := Bx.mk hht
          clear hht
          have HJ : Bx ((Tryd.prog.info? 30).map (·.size) = some (u32s ht).toList.length) := Bx.mk (by rw [Array.length_toList, u32s_size, HH8.out]; kernel_rfl)
          have HI8 : Bx ((Tryd.prog.info? 30).map (·.size) = some (u32s ht).size) := Bx.mk (by rw [u32s_size, HH8.out]; kernel_rfl)
          have HN8 : Bx ((wr.alloc (.cells #[.int .u32 0, .int .u32 0, .int .u32 0, .int .u32 0, .int .u32 0, .int .u32 0, .int .u32 0, .int .u32 0] 30)).heap[wr.heap.size]? = some (.cells (u32s (List.replicate 8 0)) 30 (0, 0))) := Bx.mk (by rw [hnew _ _ _ rfl, zero8])
          have HT8 : Bx ((wr.alloc (.cells #[.int .u32 0, .int .u32 0, .int .u32 0, .int .u32 0, .int .u32 0, .int .u32 0, .int .u32 0, .int .u32 0] 30)).there wr.heap.size 0 (u32s ht).size) := Bx.mk (there_row HN8.out 0 _ (by rw [u32s_size, u32s_size, HH8.out]; simp))
          have H9 : Bx (RE w tb m G L C wr.heap.size (hs 0 m) ((wr.alloc (.cells #[.int .u32 0, .int .u32 0, .int .u32 0, .int .u32 0, .int .u32 0, .int .u32 0, .int .u32 0, .int .u32 0] 30)).setCells wr.heap.size 0 (u32s ht).toList)) := Bx.mk (by
            rw [HH0.out]
            have hne : G ≠ wr.heap.size := by have := HGl.out; omega
            exact ⟨RS.sets _ HR1.out.size (by intro e; injection e with e; exact hne e) _ _ _ (HR1.out.alloc _), HR1.out.size, hne, by rw [size_setCells]; simp, heap_setCells_all HN8.out (by rw [u32s_size, u32s_size, HH8.out]; simp)⟩)
          obtain ⟨wb, rfl⟩ : ∃ wb : World, wb = wr := ⟨_, rfl⟩
          go_wp2_with (first | (refine wpList_load_mid rfl 30 _ rfl w.heap.size 64 (by rfl) (u32s ht).toList _ HRg.out Tryd.underlying30 rfl HJ.out ?_; rw [back_u32s]) | (refine wpList_store_mid rfl 30 _ _ rfl wb.heap.size 0 _ (by rfl) (by rfl) HT8.out HI8.out (one_u32s _) ?_))
          clear HRg HH0 HH8 HJ HI8 HN8 HT8 HR1 HGl HZ
          generalize (wb.alloc (.cells #[.int .u32 0, .int .u32 0, .int .u32 0, .int .u32 0, .int .u32 0, .int .u32 0, .int .u32 0, .int .u32 0] 30)).setCells wb.heap.size 0 (u32s ht).toList = w4 at *
          generalize wb.heap.size = Hb at *
          clear hlt hi
          generalize decide ((i : Int) < 8) = dead at *
          have HM64 := Bx.mk HML.out.2.1
          refine loop3 w tb m G L C Hb _ (by rw [HHt.out]; exact HTb.out) HML.out.1 HML.out.2.2.2 HM64.out _ _ ⟨⟨⟨rfl, rfl⟩, rfl, rfl, rfl, rfl, rfl⟩, H9.out⟩ ?_
          intro a' w9 h
          clear H9
          have H9 := Bx.mk h.re
          have HS := Bx.mk (hs_length (L / 64) m)
          obtain ⟨x, rfl, hx⟩ := open266 h.lv.fr
          have e2 := (hx 2).symm.trans h.lv.s2
          have e4 := (hx 4).symm.trans h.lv.s4
          have e5 := (hx 5).symm.trans h.lv.s5
          have e8 := (hx 8).symm.trans h.lv.s8
          have e9 := (hx 9).symm.trans h.lv.s9
          clear h hx
          rw [e2, e4, e5, e8, e9]
          clear e2 e4 e5 e8 e9
          generalize hs (L / 64) m = hl at *
          have HI32 : Bx ((Tryd.prog.info? 26).map (·.size) = some (u8s (List.replicate 32 0)).size) := Bx.mk (by kernel_rfl)
          have HVw : Bx (w.heap.size + 2 ≤ w9.heap.size ∧ Hb ≠ w9.heap.size) := Bx.mk ⟨H9.out.rs.size, by have := H9.out.lt; omega⟩
          go_wp2_with (refine wpList_store_new rfl 26 _ _ rfl w9.heap.size (u8s (List.replicate 32 0)) _ _ (by rfl) (by rfl) (hnew _ _ _ rfl) (by kernel_rfl) HI32.out (one_u8s _) ?_; intro w10 hw10 hr10; have H10 : Bx (RE w tb m G L C Hb hl w10 ∧ w10.heap[w9.heap.size]? = some (.cells (u8s (List.replicate 32 0)) 26 (0, 0))) := Bx.mk ⟨by rw [hw10]; exact RE.sets _ HVw.out.1 (by have := (H9.out.rs.own.lt G rfl).1; omega) HVw.out.2 _ _ _ (H9.out.alloc _), hr10⟩; clear hw10 hr10)
          have HG : Bx (G ≠ w9.heap.size) := Bx.mk (by have := (H9.out.rs.own.lt G rfl).1; omega)
          clear H9 HI32
          generalize w9.heap.size = Ob at *
          refine loop8 (.pointer (some ⟨w.heap.size, 0, none⟩)) (.pointer (some ⟨w.heap.size + 1, 0, none⟩)) (.slice (some ⟨G, 0, none⟩) L C) _ Hb Ob w10 hl _ (fun i hi => cell_u32 H10.out.1.row i (by rw [HS.out]; exact hi)) HVw.out.2 _ _ ⟨⟨⟨rfl, rfl⟩, rfl, rfl, rfl, rfl, rfl⟩, rfl, rfl, H10.out.2, kb_refl _ _⟩ ?_
          intro a' w11 h
          have H11 : Bx (RE w tb m G L C Hb hl w11 ∧ w11.heap[Ob]? = some (.cells (u8s res) 26 (0, 0))) := Bx.mk ⟨H10.out.1.kept h.kept HVw.out.1 HG.out HVw.out.2, by rw [← HSh.out, ← outB_all hl HS.out]; exact h.row⟩
          have HRL : Bx (res.length = 32) := Bx.mk (by rw [← HSh.out, ← outB_all hl HS.out, outB_length])
          clear H10
          obtain ⟨x, rfl, hx⟩ := open266 h.lv.fr
          have e2 := (hx 2).symm.trans h.lv.s2
          have e4 := (hx 4).symm.trans h.lv.s4
          have e5 := (hx 5).symm.trans h.lv.s5
          have e8 := (hx 8).symm.trans h.lv.s8
          have e9 := (hx 9).symm.trans h.lv.s9
          have e24 := (hx 24).symm.trans h.s24
          clear h hx
          rw [e2, e4, e5, e8, e9, e24]
          clear e2 e4 e5 e8 e9 e24
          
          have HI : Bx ((Tryd.prog.info? 26).map (·.size) = some (u8s res).size) := Bx.mk (by rw [u8s_size, HRL.out]; kernel_rfl)
          have HZ : Bx ((u8s res).size = (u8s (List.replicate 32 0)).size) := Bx.mk (by rw [u8s_size, u8s_size, HRL.out]; rfl)
          go_wp2_with (first | (refine wpList_load_row rfl 26 _ rfl Ob (by rfl) _ _ _ _ H11.out.2 Tryd.underlying26 rfl HI.out ?_) | (refine wpList_store_new rfl 26 _ _ rfl (w.heap.size + 1) (u8s res) _ _ (by rfl) (by rfl) H11.out.1.rs.res HZ.out HI.out (one_u8s _) ?_; intro w12 hw12 hr12; have H12 : Bx (Below w.heap.size w w12 ∧ w12.heap[w.heap.size + 1]? = some (.cells (u8s res) 26 (0, 0))) := Bx.mk ⟨by rw [hw12]; exact below_setCells (by omega) _ _ _ _ H11.out.1.rs.below, hr12⟩; clear hw12 hr12))
          refine bodyPost_ret (results_cell_row rfl _ _ (w.heap.size + 1) _ (u8s res) _ _ rfl H12.out.2 Tryd.underlying26 rfl HI.out) rfl ?_
          exact ⟨rfl, H12.out.1⟩
end Go.Proofs.YtkfgpnigeknhmaaDoor
