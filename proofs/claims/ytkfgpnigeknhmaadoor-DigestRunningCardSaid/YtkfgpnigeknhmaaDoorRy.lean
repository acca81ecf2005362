/-
  The walk of the statement on running digests.
-/
import Derived.Test.YtkfgpnigeknhmaaDoorRx
namespace Go.Proofs.YtkfgpnigeknhmaaDoor
open Go Go.RowKit
theorem zero_took (W : World) (zc : Array Value) (hz : stC (List.replicate 8 0) (List.replicate 64 0) 0 = zc) : Took (W.alloc (.cells zc 42)) W.heap.size 42 [] (W.alloc (.cells zc 42)) :=
  ⟨_, _, by rw [hnew _ _ _ rfl, ← hz]; rfl, StIs.zero, kb_refl _ _⟩
set_option maxRecDepth 100000 in
set_option maxHeartbeats 2000000 in
theorem running_any (pss : List (List UInt8)) (v : Value) (at0 : Int) (w : World) (hv : Parts w v pss) (hn : pss.length ≤ 9223372036854775807) (hp : ∀ p ∈ pss, p.length ≤ 9223372036854775807) (hTab : Tab w) (hg : 0 < w.heap.size) :
    Calls Tryd.prog 4 #[v, .int .i64 at0] w fun e w' => e = .returned (.bool true) ∧ Below w.heap.size w w' := by
  have HV := Bx.mk (And.intro hv (And.intro hn hp))
  have HA := Bx.mk hTab
  clear hv hn hp hTab
  obtain ⟨zc, hzc⟩ : ∃ zc, stC (List.replicate 8 0) (List.replicate 64 0) 0 = zc := ⟨_, rfl⟩
  have hzv : ∀ W : World, (zeroValue 42).run Tryd.prog W = .ok (.agg zc) W := fun W => by rw [← hzc, zero73]; kernel_rfl
  have HZC := Bx.mk hzc
  clear hzc
  go_enter Tryd.func4, Tryd.ntmps4
  go_wp2_with fail
  refine (few_any pss v w HV.out.1 HV.out.2.1 HV.out.2.2).mono ?_
  rintro e w1 ⟨vo, va, xs, rfl, hvals, hop, hob, hbel⟩
  have H1 : Bx (Parts w1 vo (cutP pss) ∧ Bytes w1 va (cutP pss).flatten ∧ Tab w1 ∧ Below w.heap.size w w1) := Bx.mk ⟨own_parts hop (hvals.later hbel), hob.bytes, HA.out.later hbel hg, hbel⟩
  have HC := Bx.mk (cut_total pss)
  obtain ⟨A6, C6, hva, -, -⟩ := bytes_form hob.bytes
  obtain ⟨N6, hnn⟩ : ∃ nn, (cutP pss).flatten.length = nn := ⟨_, rfl⟩
  rw [hnn] at hva
  clear hnn hob
  subst hva
  obtain ⟨A5, C5, hvo, -⟩ := H1.out.1
  obtain ⟨N5, hn5⟩ : ∃ nn, (cutP pss).length = nn := ⟨_, rfl⟩
  rw [hn5] at hvo
  clear hn5
  subst hvo
  generalize cutP pss = qs at *
  clear hvals hop hbel HA HV
  go_wp2_with fail
  refine (make_any w1).mono ?_
  rintro e w2 ⟨rfl, hb2⟩
  have H2 : Bx (Parts w2 (.slice A5 N5 C5) qs ∧ Bytes w2 (.slice A6 N6 C6) qs.flatten ∧ Tab w2 ∧ Below w.heap.size w w2) := Bx.mk ⟨H1.out.1.later hb2, H1.out.2.1.later hb2, H1.out.2.2.1.later hb2 (Nat.lt_of_lt_of_le hg H1.out.2.2.2.size), H1.out.2.2.2.trans (hb2.mono H1.out.2.2.2.size)⟩
  clear hb2 H1
  obtain ⟨tbl, htb⟩ : ∃ tbl : List Value, u32s (kTab ++ hTab) = tbl.toArray := ⟨(u32s (kTab ++ hTab)).toList, by simp⟩
  have HTB := Bx.mk htb
  have HTL : Bx (tbl.toArray.size = 72) := Bx.mk (by rw [← htb, u32s_size]; rfl)
  have HTO : Bx (tbl.toArray.all (·.oneCell') = true) := Bx.mk (by rw [← htb]; exact one_u32s _)
  have HI : Bx ((Tryd.prog.info? 32).map (·.size) = some tbl.toArray.size) := Bx.mk (by have h := tbl_size htb; rw [h]; simp)
  rw [htb]
  clear htb
  obtain ⟨tz, htz⟩ : ∃ tz, u32s (List.replicate 72 0) = tz := ⟨_, rfl⟩
  have htv : ∀ W : World, (zeroValue 32).run Tryd.prog W = .ok (.agg tz) W := fun W => by rw [← htz]; kernel_rfl
  have HTZ : Bx (tbl.toArray.size = tz.size) := Bx.mk (by rw [HTL.out, ← htz, u32s_size]; rfl)
  clear htz
  go_wp2_with (refine wpList_store_var rfl 32 _ _ rfl w2 _ _ rfl (by rfl) tbl.toArray (by rfl) HTZ.out HI.out HTO.out ?_; intro w3 hb3 hr3 hl3)
  have HST : Bx (Stt w3 w2.heap.size tbl (.slice A5 N5 C5) (.slice A6 N6 C6) qs) := Bx.mk ⟨H2.out.1.later hb3, H2.out.2.1.later hb3, H2.out.2.2.1.later hb3 (Nat.lt_of_lt_of_le hg H2.out.2.2.2.size), Nat.lt_of_lt_of_le hg (Nat.le_trans H2.out.2.2.2.size hb3.size), hr3, hl3, HTB.out, HC.out⟩
  have HB3 : Bx (Below w.heap.size w w3) := Bx.mk (H2.out.2.2.2.trans (hb3.mono H2.out.2.2.2.size))
  clear hb3 hr3 hl3 H2 HTZ HTO HTL HI htv hzv
  generalize w2.heap.size = Tb at *
  refine loopR w3 Tb tbl A5 A6 N5 C5 N6 C6 qs at0 HST.out _ _ _ ⟨⟨rfl, rfl⟩, rfl, rfl, rfl, rfl, rfl, rfl, rfl, none, rfl, rfl, (fun p hp => by cases hp), ⟨(Below.refl _ _).alloc (Nat.le_refl _) _, zero_took w3 zc HZC.out, fun p hp => by cases hp⟩⟩ ?_
  intro a' W hI
  obtain ⟨c, hc9, hc11, hcm, hdy⟩ := hI.c
  rw [List.take_length] at hdy
  have HD := Bx.mk hdy
  have HCM := Bx.mk hcm
  clear hdy hcm HZC
  obtain ⟨x, rfl, hx⟩ := open125 hI.fr
  have e6 := (hx 6).symm.trans hI.s6
  have e7 := (hx 7).symm.trans hI.s7
  have e8 := (hx 8).symm.trans hI.s8
  have e9 := (hx 9).symm.trans hc9
  have e11 := (hx 11).symm.trans hc11
  clear hI hx hc9 hc11
  rw [e6, e7, e8, e9, e11]
  clear e6 e7 e8 e9 e11
  obtain ⟨vc, hvc⟩ : ∃ vc, cptr c = vc := ⟨_, rfl⟩
  obtain ⟨k0, hk0⟩ : ∃ k0, clen c = k0 := ⟨_, rfl⟩
  rw [hvc, hk0]
  have HVC := Bx.mk (And.intro hvc hk0)
  clear hvc hk0
  go_wp2
  refine reg15 w3 Tb tbl A5 A6 N5 C5 N6 C6 qs HST.out _ qs.flatten c vc k0 _ _ ⟨⟨rfl, rfl⟩, rfl, rfl, rfl, rfl, rfl⟩ rfl HD.out ?_
  intro a' W1 hL h80 hd1
  clear HD
  have HD := Bx.mk hd1
  clear hd1
  obtain ⟨x, rfl, hx⟩ := open125 hL.fr
  have e6 := (hx 6).symm.trans hL.s6
  have e7 := (hx 7).symm.trans hL.s7
  have e8 := (hx 8).symm.trans hL.s8
  have e9 := (hx 9).symm.trans hL.s9
  have e11 := (hx 11).symm.trans hL.s11
  have e80 := (hx 80).symm.trans h80
  clear hL hx h80
  rw [e6, e7, e8, e9, e11, e80]
  clear e6 e7 e8 e9 e11 e80
  match c, HVC, HD, HCM with
  | none, HVC, HD, HCM =>
    obtain rfl : vc = .pointer none := HVC.out.1.symm
    clear HVC HCM
    go_wp2_with fail
    refine (HST.out.known HD.out.below).mono ?_
    rintro e W2 ⟨rfl, hb⟩
    have HF : Bx (Below w.heap.size w W2) := Bx.mk ((HB3.out.trans (HD.out.below.mono HB3.out.size)).trans (hb.mono (Nat.le_trans HB3.out.size HD.out.below.size)))
    clear hb
    go_wp2
    go_ret
    exact ⟨rfl, HF.out⟩
  | some (Cb, cs), HVC, HD, HCM =>
    obtain rfl : vc = .pointer (some ⟨Cb, 0, none⟩) := HVC.out.1.symm
    have HK : Bx (cs.length = k0) := Bx.mk HVC.out.2
    obtain ⟨m, hm⟩ := HCM.out _ rfl
    have HM : Bx (cs = (qs.take m).flatten) := Bx.mk hm
    clear HVC HCM hm
    go_wp2
    refine reg19 w3 Tb tbl A5 A6 N5 C5 N6 C6 qs HST.out _ Cb qs.flatten cs k0 m rfl HM.out HK.out.symm _ _ ⟨⟨rfl, rfl⟩, rfl, rfl, rfl, rfl, rfl⟩ HD.out ?_
    intro a' W2 hF h4 hb
    have HF : Bx (Below w.heap.size w W2) := Bx.mk (HB3.out.trans (hb.mono HB3.out.size))
    clear hb HD
    obtain ⟨x, rfl, hx⟩ := open125 hF
    have e4 := (hx 4).symm.trans h4
    clear hF hx h4
    rw [e4]
    clear e4
    go_wp2
    go_ret
    exact ⟨rfl, HF.out⟩
end Go.Proofs.YtkfgpnigeknhmaaDoor
