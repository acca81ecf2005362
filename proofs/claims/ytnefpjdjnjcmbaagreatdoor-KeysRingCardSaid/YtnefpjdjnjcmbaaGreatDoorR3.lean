/-
  A code's parts: what lies behind a region, and the part that holds it.
-/
import Derived.Test.YtnefpjdjnjcmbaaGreatDoorGa
import Derived.Test.YtnefpjdjnjcmbaaGreatDoorYz
import Derived.Test.YtnefpjdjnjcmbaaGreatDoorYb
namespace Go.Proofs.YtnefpjdjnjcmbaaGreatDoor
open Go Go.RowKit
def restOf9 (n : Nat) : Code → Code
  | .seq a b => if (regAt n a).isSome then b else restOf9 n b
  | c => c
def restAt9 (c : Option Code) (n : Nat) : Code := restOf9 n (c.getD .skip)
def partOf9 (n : Nat) : Code → Code
  | .seq a b => if (regAt n a).isSome then a else partOf9 n b
  | c => c
def partAt9 (c : Option Code) (n : Nat) : Code := partOf9 n (c.getD .skip)
end Go.Proofs.YtnefpjdjnjcmbaaGreatDoor
namespace Go.Proofs.YtnefpjdjnjcmbaaGreatDoor
open Go Go.RowKit
/-- A block's code. -/
def blkOf (n : Nat) : Code → Option Code
  | .block m c => if m == n then some c else blkOf n c
  | .seq a b => match blkOf n a with
    | some c => some c
    | none => blkOf n b
  | .cond _ a b => match blkOf n a with
    | some c => some c
    | none => blkOf n b
  | .loop c => blkOf n c
  | .scope c => blkOf n c
  | _ => none
/-- What lies behind a region in a block; the part that holds it. -/
def restIn (c : Option Code) (m n : Nat) : Code := restOf9 n ((c.bind (blkOf m)).getD .skip)
def partIn (c : Option Code) (m n : Nat) : Code := partOf9 n ((c.bind (blkOf m)).getD .skip)
/-- The frame behind the head of a round. -/
structure RG (v2 v3 v4 v11 v12 v14 v15 v16 v17 v18 v19 v20 : Value) (a : Act) : Prop where
  fr : Fr 351 a
  s2 : a.eval (.tmp 2) = v2
  s3 : a.eval (.tmp 3) = v3
  s4 : a.eval (.tmp 4) = v4
  s11 : a.eval (.tmp 11) = v11
  s12 : a.eval (.tmp 12) = v12
  s14 : a.eval (.tmp 14) = v14
  s15 : a.eval (.tmp 15) = v15
  s16 : a.eval (.tmp 16) = v16
  s17 : a.eval (.tmp 17) = v17
  s18 : a.eval (.tmp 18) = v18
  s19 : a.eval (.tmp 19) = v19
  s20 : a.eval (.tmp 20) = v20
/-- The frame behind what is called. -/
structure RM (v2 v3 v4 v11 v12 v14 v15 v16 : Value) (a : Act) : Prop where
  fr : Fr 351 a
  s2 : a.eval (.tmp 2) = v2
  s3 : a.eval (.tmp 3) = v3
  s4 : a.eval (.tmp 4) = v4
  s11 : a.eval (.tmp 11) = v11
  s12 : a.eval (.tmp 12) = v12
  s14 : a.eval (.tmp 14) = v14
  s15 : a.eval (.tmp 15) = v15
  s16 : a.eval (.tmp 16) = v16
/-- What holds behind what is called. -/
def MO (R L B : Nat) (tk : List Value) (ws : World) (v2 v3 v4 v11 : Value) (i : Nat) (a : Act) (w : World) : Prop :=
  ∃ va n c mv lb l m ls, RM v2 v3 v4 v11 (.pointer (some ⟨R, 0, none⟩)) (.slice va n c) (.pointer (some ⟨L, 0, none⟩)) (.int .i64 (i : Int)) a ∧ RSt R L B tk mv lb l (.slice va n c) m ls w ∧ KP R L B ws w
/-- What holds between two rounds. -/
def IO (R L B : Nat) (tk : List Value) (ws : World) (v2 v3 v4 v11 : Value) (i : Nat) (a : Act) (w : World) : Prop := MO R L B tk ws v2 v3 v4 v11 i a w
theorem splitR13 : restIn Tryz.f3.body 1 13 = .seq (partIn Tryz.f3.body 1 14) (restIn Tryz.f3.body 1 14) := by kernel_rfl
set_option maxRecDepth 100000 in
set_option maxHeartbeats 4000000 in
theorem ring_tail (R L B : Nat) (tk : List Value) (ws : World) (v2 v3 v4 v11 : Value) (i : Nat) (a : Act) (w : World) (h : MO R L B tk ws v2 v3 v4 v11 i a w) :
    Code.wp Tryz.prog (restIn Tryz.f3.body 1 14) (fun x a' w' => x = .normal ∧ MO R L B tk ws v2 v3 v4 v11 i a' w') a w := by
  obtain ⟨va, n, c, mv, lb, l, m, ls, hF, hS, hkp⟩ := h
  have HS3 := Bx.mk (And.intro hS hkp)
  clear hS hkp
  obtain ⟨x, rfl, hx⟩ := open351 hF.fr
  have e2 := (hx 2).symm.trans hF.s2
  have e3 := (hx 3).symm.trans hF.s3
  have e4 := (hx 4).symm.trans hF.s4
  have e11 := (hx 11).symm.trans hF.s11
  have e12 := (hx 12).symm.trans hF.s12
  have e14 := (hx 14).symm.trans hF.s14
  have e15 := (hx 15).symm.trans hF.s15
  have e16 := (hx 16).symm.trans hF.s16
  clear hF hx
  rw [e2, e3, e4, e11, e12, e14, e15, e16]
  clear e2 e3 e4 e11 e12 e14 e15 e16
  conv => arg 2; whnf
  go_wp2_with fail
  refine (ring_known R B tk mv lb l w HS3.out.1.ring HS3.out.1.map (by have h1 := congrArg List.length HS3.out.1.srt; have h2 := HS3.out.1.few; rw [List.length_map, sortC_length, List.length_map] at h1; omega)).mono ?_
  rintro e w4 ⟨vk, rfl, hrow, hb⟩
  rw [← HS3.out.1.srt] at hrow
  have HS4 := Bx.mk (And.intro (HS3.out.1.later hb) (And.intro (HS3.out.2.trans (KP.below hb)) hrow))
  obtain ⟨gk, ck, hvk⟩ : ∃ g c, vk = .slice g m.length c := by
    rcases hrow with ⟨h0, h1⟩ | ⟨g, cap, h1, -⟩
    · have h2 := congrArg List.length h0
      rw [List.length_map] at h2
      exact ⟨none, 0, by rw [h1, h2]; rfl⟩
    · exact ⟨_, cap, by rw [h1, List.length_map]⟩
  subst hvk
  have hnm : n = m.length := by
    obtain ⟨a, c2, h⟩ := HS4.out.1.own.form
    injection h
  subst hnm
  clear hb hrow HS3
  go_wp2_with fail
  refine loopK w4 B m va gk m.length m.length c ck v2 v3 v4 v11 (.pointer (some ⟨R, 0, none⟩)) (.pointer (some ⟨L, 0, none⟩)) (.int .i64 (i : Int)) HS4.out.1.own HS4.out.2.2 rfl HS4.out.1.few _ _ ⟨⟨rfl, rfl⟩, rfl, rfl, rfl, rfl, rfl, rfl, rfl, rfl, rfl⟩ rfl ?_
  intro a5 w5 hF5 hb5
  have HS5 := Bx.mk (And.intro (HS4.out.1.later hb5) (HS4.out.2.1.trans (KP.below hb5)))
  clear hb5 HS4
  obtain ⟨y, rfl, hy⟩ := open351 hF5.fr
  have f2 := (hy 2).symm.trans hF5.s2
  have f3 := (hy 3).symm.trans hF5.s3
  have f4 := (hy 4).symm.trans hF5.s4
  have f11 := (hy 11).symm.trans hF5.s11
  have f12 := (hy 12).symm.trans hF5.s12
  have f14 := (hy 14).symm.trans hF5.s14
  have f15 := (hy 15).symm.trans hF5.s15
  have f16 := (hy 16).symm.trans hF5.s16
  clear hF5 hy
  rw [f2, f3, f4, f11, f12, f14, f15, f16]
  clear f2 f3 f4 f11 f12 f14 f15 f16
  go_wp2
  exact ⟨va, m.length, c, mv, lb, l, m, ls, ⟨⟨rfl, rfl⟩, rfl, rfl, rfl, rfl, rfl, rfl, rfl, rfl⟩, HS5.out⟩
end Go.Proofs.YtnefpjdjnjcmbaaGreatDoor
namespace Go.Proofs.YtnefpjdjnjcmbaaGreatDoor
open Go Go.RowKit
/-- The frame ahead of region 13. -/
structure RH (v2 v3 v4 v11 v12 v14 v15 v16 v17 v18 v19 : Value) (a : Act) : Prop where
  fr : Fr 351 a
  s2 : a.eval (.tmp 2) = v2
  s3 : a.eval (.tmp 3) = v3
  s4 : a.eval (.tmp 4) = v4
  s11 : a.eval (.tmp 11) = v11
  s12 : a.eval (.tmp 12) = v12
  s14 : a.eval (.tmp 14) = v14
  s15 : a.eval (.tmp 15) = v15
  s16 : a.eval (.tmp 16) = v16
  s17 : a.eval (.tmp 17) = v17
  s18 : a.eval (.tmp 18) = v18
  s19 : a.eval (.tmp 19) = v19
set_option maxRecDepth 100000 in
set_option maxHeartbeats 4000000 in
theorem reg13R (v2 v3 v4 v11 v12 v14 v15 v16 v18 v19 : Value) (X : Nat) (ro : Int) (a : Act) (w : World) (h : RH v2 v3 v4 v11 v12 v14 v15 v16 (.pointer (some ⟨X, 0, none⟩)) v18 v19 a) (hc : w.cell? ⟨X, 1, none⟩ = some (.int .i64 ro)) :
    Code.wp Tryz.prog (regionAt Tryz.f3.body 13) (fun x a' w' => x = .normal ∧ RG v2 v3 v4 v11 v12 v14 v15 v16 (.pointer (some ⟨X, 0, none⟩)) v18 v19 (.bool (decide (0 ≤ ro ∧ ro < 8))) a' ∧ w' = w) a w := by
  obtain ⟨x, rfl, hx⟩ := open351 h.fr
  have e2 := (hx 2).symm.trans h.s2
  have e3 := (hx 3).symm.trans h.s3
  have e4 := (hx 4).symm.trans h.s4
  have e11 := (hx 11).symm.trans h.s11
  have e12 := (hx 12).symm.trans h.s12
  have e14 := (hx 14).symm.trans h.s14
  have e15 := (hx 15).symm.trans h.s15
  have e16 := (hx 16).symm.trans h.s16
  have e17 := (hx 17).symm.trans h.s17
  have e18 := (hx 18).symm.trans h.s18
  have e19 := (hx 19).symm.trans h.s19
  clear h hx
  rw [e2, e3, e4, e11, e12, e14, e15, e16, e17, e18, e19]
  clear e2 e3 e4 e11 e12 e14 e15 e16 e17 e18 e19
  have hro : ro < 0 ∨ (0 ≤ ro ∧ ¬ ro < 8) ∨ (0 ≤ ro ∧ ro < 8) := by omega
  rcases hro with r1 | ⟨r1, r2⟩ | ⟨r1, r2⟩
  · have r0 : True := trivial
    have r3 : ¬ (0 : Int) ≤ ro := by omega
    have q : decide (0 ≤ ro ∧ ro < 8) = false := decide_eq_false (by omega)
    rw [q]
    clear q r0
    conv => arg 2; whnf
    go_wp2
    exact ⟨⟨rfl, rfl⟩, rfl, rfl, rfl, rfl, rfl, rfl, rfl, rfl, rfl, rfl, rfl, rfl⟩
  · have r0 : True := trivial
    have r5 : decide (ro < 8) = false := decide_eq_false r2
    have q : decide (0 ≤ ro ∧ ro < 8) = false := decide_eq_false (by omega)
    rw [q]
    clear q r0
    conv => arg 2; whnf
    go_wp2
    exact ⟨⟨rfl, rfl⟩, rfl, rfl, rfl, rfl, rfl, rfl, rfl, rfl, rfl, rfl, rfl, rfl⟩
  · have r0 : True := trivial
    have r5 : decide (ro < 8) = true := decide_eq_true r2
    have q : decide (0 ≤ ro ∧ ro < 8) = true := decide_eq_true ⟨r1, r2⟩
    rw [q]
    clear q r0
    conv => arg 2; whnf
    go_wp2
    exact ⟨⟨rfl, rfl⟩, rfl, rfl, rfl, rfl, rfl, rfl, rfl, rfl, rfl, rfl, rfl, rfl⟩
set_option maxRecDepth 100000 in
set_option maxHeartbeats 4000000 in
theorem ring_round (w0 ws : World) (R L B : Nat) (tk : List Value) (acs : List Ac) (aa : Option Addr) (nl cl : Nat) (v3 v4 v11 : Value) (hA : Acts w0 (.slice aa nl cl) acs) (hnl : acs.length = nl) (hb0 : Below w0.heap.size w0 ws) (hR0 : w0.heap.size ≤ R) (hL0 : w0.heap.size ≤ L) (hn9 : nl ≤ 9223372036854775807)
    (Q : Exit → Act → World → Prop) (i : Nat) (a : Act) (wr : World) (hi : i < nl) (hi30 : i < 30) (h : IO R L B tk ws (.slice aa nl cl) v3 v4 v11 i a wr)
    (hq : ∀ (va : Option Addr) (n c : Nat) (mv : Value) (lb : List Value) (l : List (Cl × Nat)) (m : List (Cl × Value)) (ls : List Value) (X : Nat) (at' : Int) (ab a1 : Option Addr) (nb cb c1 kn : Nat) (a' : Act) (w' : World), RG (.slice aa nl cl) v3 v4 v11 (.pointer (some ⟨R, 0, none⟩)) (.slice va n c) (.pointer (some ⟨L, 0, none⟩)) (.int .i64 (i : Int)) (.pointer (some ⟨X, 0, none⟩)) (.slice a1 kn c1) (.int .i64 at') (.bool (decide (0 ≤ (acs.getD i Ac.zero).ro ∧ (acs.getD i Ac.zero).ro < 8))) a' → FindQ m (acs.getD i Ac.zero).c (.returned (.int .i64 at')) → w'.heap[X]? = some (.cells #[.int .i64 (acs.getD i Ac.zero).kd, .int .i64 (acs.getD i Ac.zero).ro, .int .i64 (acs.getD i Ac.zero).c.id, .int .i64 (acs.getD i Ac.zero).c.ro, .int .i64 (acs.getD i Ac.zero).c.ex, .int .i64 (acs.getD i Ac.zero).c.se, .slice ab nb cb] 40 (0, 0)) → X ≠ R → X ≠ L → (acs.getD i Ac.zero).fit → FB R L w' (.slice a1 kn c1) ((acs.getD i Ac.zero).k.take 40) → RSt R L B tk mv lb l (.slice va n c) m ls w' → KP R L B ws w' → Code.wp Tryz.prog (partIn Tryz.f3.body 1 14) (fun x a w => x = .normal ∧ MO R L B tk ws (.slice aa nl cl) v3 v4 v11 i a w) a' w') :
    Code.wp Tryz.prog (loopAt (Tryz.f3.body) 0) (Exit.then (fun a' w' => IO R L B tk ws (.slice aa nl cl) v3 v4 v11 (i + 1) a' w') Q) a wr := by
  obtain ⟨va, n, c, mv, lb, l, m, ls, hF, hS, hkp⟩ := h
  have HQ := Bx.mk (hq va n c mv lb l m ls)
  have HN := Bx.mk (show acs.length = nl from hnl)
  obtain ⟨a', cap', hv', -, -, hr'⟩ := hA
  injection hv' with p1 p2 p3
  obtain ⟨b, o, ha, hcell⟩ := hr' (by omega)
  subst p1
  subst ha
  obtain ⟨vb, hrg, hby, hfit⟩ := hcell i (by omega)
  clear hq hcell
  generalize acs.getD i Ac.zero = ac at *
  obtain ⟨kd, ro, ⟨ci, cr, cx, cq⟩, ks⟩ := ac
  simp only at hrg hby hfit HQ
  have HFit := Bx.mk hfit
  have HBy := Bx.mk hby
  have hbw : b < w0.heap.size := World.block_lt_of_cell? _ _ (hrg 0 _ rfl)
  have hrw : wr.rangeAt b (o + i * 7) [.int .i64 kd, .int .i64 ro, .int .i64 ci, .int .i64 cr, .int .i64 cx, .int .i64 cq, vb] := fun j u hj => hkp.cell (range_acts hrg hb0 j u hj) (by omega) (by omega)
  have HKb : Bx (∀ v' : Value, Bytes w0 v' (ks.take 40) → FB R L wr v' (ks.take 40)) := Bx.mk fun v' h => (FB.of h hb0 hR0 hL0).keep hkp
  have HBw : Bx (Bytes wr vb ks) := Bx.mk ((FB.of hby hb0 hR0 hL0).keep hkp).1
  have HS := Bx.mk hS
  have HKP := Bx.mk hkp
  have HRL : Bx (R < wr.heap.size ∧ L < wr.heap.size) := ⟨⟨hS.ring.lt, (Array.getElem?_eq_some_iff.1 hS.row.1).1⟩⟩
  obtain ⟨ab, nb, cb, hvb⟩ : ∃ a n c, vb = .slice a n c := by
    obtain ⟨a, c, h, -⟩ := hby
    exact ⟨a, _, c, h⟩
  subst hvb
  have g0 := hrw 0 _ rfl
  have g1 := hrw 1 _ rfl
  have g2 := hrw 2 _ rfl
  have g3 := hrw 3 _ rfl
  have g4 := hrw 4 _ rfl
  have g5 := hrw 5 _ rfl
  have g6 := hrw 6 _ rfl
  simp only [Nat.add_zero] at g0
  have hi1 : (i : Int) < (nl : Int) := by omega
  have hi2 : (i : Int) < 30 := by omega
  have hi0 : (0 : Int) ≤ (i : Int) := by omega
  have hn1 : (nl : Int) ≤ 9223372036854775807 := by omega
  clear hS hkp hr' hrg hby hfit hbw hrw hnl p2 p3 hb0 hR0 hL0 hn9
  obtain ⟨x, rfl, hx⟩ := open351 hF.fr
  have e2 := (hx 2).symm.trans hF.s2
  have e3 := (hx 3).symm.trans hF.s3
  have e4 := (hx 4).symm.trans hF.s4
  have e11 := (hx 11).symm.trans hF.s11
  have e12 := (hx 12).symm.trans hF.s12
  have e14 := (hx 14).symm.trans hF.s14
  have e15 := (hx 15).symm.trans hF.s15
  have e16 := (hx 16).symm.trans hF.s16
  clear hF hx
  rw [e2, e3, e4, e11, e12, e14, e15, e16]
  clear e2 e3 e4 e11 e12 e14 e15 e16
  conv => arg 2; whnf
  go_wp2_with fail
  generalize hwa : wr.alloc _ = wa
  have HA : Bx (Below wr.heap.size wr wa ∧ wa.heap[wr.heap.size]? = some (.cells #[.int .i64 kd, .int .i64 ro, .int .i64 ci, .int .i64 cr, .int .i64 cx, .int .i64 cq, .slice ab nb cb] 40 (0, 0))) := Bx.mk (by
    rw [← hwa]
    exact ⟨below_a _, hnew _ _ _ rfl⟩)
  generalize hX : wr.heap.size = X at *
  clear hwa g0 g1 g2 g3 g4 g5 g6
  have k0 : wa.cell? ⟨X, 0, none⟩ = some (.int .i64 kd) := by rw [cell_of_row _ _ _ _ _ _ (HA.out.2)]; rfl
  have k1 : wa.cell? ⟨X, 1, none⟩ = some (.int .i64 ro) := by rw [cell_of_row _ _ _ _ _ _ (HA.out.2)]; rfl
  have k2 : wa.cell? ⟨X, 2, none⟩ = some (.int .i64 ci) := by rw [cell_of_row _ _ _ _ _ _ (HA.out.2)]; rfl
  have k3 : wa.cell? ⟨X, 3, none⟩ = some (.int .i64 cr) := by rw [cell_of_row _ _ _ _ _ _ (HA.out.2)]; rfl
  have k4 : wa.cell? ⟨X, 4, none⟩ = some (.int .i64 cx) := by rw [cell_of_row _ _ _ _ _ _ (HA.out.2)]; rfl
  have k5 : wa.cell? ⟨X, 5, none⟩ = some (.int .i64 cq) := by rw [cell_of_row _ _ _ _ _ _ (HA.out.2)]; rfl
  have k6 : wa.cell? ⟨X, 6, none⟩ = some (.slice ab nb cb) := by rw [cell_of_row _ _ _ _ _ _ (HA.out.2)]; rfl
  refine (cut7_any ks 40 _ _ (HBw.out.later (by rw [hX]; exact HA.out.1)) HFit.out.2.2.2 (by decide)).mono ?_
  rintro e w1 ⟨v1, rfl, hb1, rfl⟩
  have hfb := HKb.out v1 (hb1 _ HBy.out)
  obtain ⟨a1, c1, hv1, -⟩ := hb1 _ HBw.out
  obtain ⟨kn, hkn⟩ : ∃ kn, (ks.take 40).length = kn := ⟨_, rfl⟩
  rw [hkn] at hv1
  subst hv1
  clear hkn
  have HB1 := Bx.mk hfb
  clear hb1 hfb HKb
  go_wp2_with fail
  refine (find_any B _ m ⟨ci, cr, cx, cq⟩ _ (HS.out.own.later (by rw [hX]; exact HA.out.1)) (by have := HS.out.few; omega)).mono ?_
  rintro e w2 ⟨hq, hb2⟩
  obtain ⟨at', hat⟩ : ∃ z, e = .returned (.int .i64 z) := by
    rcases hq with ⟨k, -, h, -⟩ | ⟨h, -⟩
    · exact ⟨_, h⟩
    · exact ⟨_, h⟩
  subst hat
  have HQf := Bx.mk hq
  have hrow2 : w2.heap[X]? = some (.cells #[.int .i64 kd, .int .i64 ro, .int .i64 ci, .int .i64 cr, .int .i64 cx, .int .i64 cq, .slice ab nb cb] 40 (0, 0)) := by rw [hb2.block X (Array.getElem?_eq_some_iff.1 HA.out.2).1]; exact HA.out.2
  have HRow := Bx.mk hrow2
  have b2 : Below wr.heap.size wr w2 := by rw [hX]; exact HA.out.1.trans (hb2.mono (by rw [← hX]; exact HA.out.1.size))
  have HS2 : Bx (RSt R L B tk mv lb l (.slice va n c) m ls w2 ∧ KP R L B ws w2 ∧ FB R L w2 (.slice a1 kn c1) (ks.take 40)) := Bx.mk ⟨HS.out.later b2, HKP.out.trans (KP.below b2), HB1.out.keep (B := B) (KP.below b2)⟩
  have k1' : w2.cell? ⟨X, 1, none⟩ = some (.int .i64 ro) := by rw [cell_of_row _ _ _ _ _ _ hrow2]; rfl
  have HK1 := Bx.mk k1'
  clear hq hb2 k0 k1 k2 k3 k4 k5 k6 hrow2 b2 k1' HA HS HKP HB1 HBy HBw
  go_upto_region 13 with fail
  rename_i Q9 K9 hK9 K1 hK1
  refine wp_mono (reg13R _ _ _ _ _ _ _ _ _ _ X ro _ w2 ⟨⟨rfl, rfl⟩, rfl, rfl, rfl, rfl, rfl, rfl, rfl, rfl, rfl, rfl, rfl⟩ HK1.out) ?_
  rintro x3 a3 w3 ⟨rfl, hp, rfl⟩
  refine hK1 _ _ ?_
  clear hK1
  show Code.wp Tryz.prog (restIn Tryz.f3.body 1 13) _ a3 _
  rw [splitR13]
  refine wp_seq (wp_mono (HQ.out X at' ab a1 nb cb c1 kn a3 _ hp HQf.out HRow.out (by have := HRL.out; omega) (by have := HRL.out; omega) HFit.out HS2.out.2.2 HS2.out.1 HS2.out.2.1) ?_)
  rintro x4 a4 w4 ⟨rfl, h4⟩
  show Code.wp Tryz.prog (restIn Tryz.f3.body 1 14) _ a4 w4
  refine wp_mono (ring_tail R L B tk ws _ v3 v4 v11 i a4 w4 h4) ?_
  rintro x5 a5 w5 ⟨rfl, h5⟩
  show K9 a5 w5
  refine hK9 _ _ ?_
  clear hK9 h4 hp HQ HQf HRow HS2 HFit HRL
  obtain ⟨va5, n5, c5, mv5, lb5, l5, m5, ls5, hF5, hS5, hkp5⟩ := h5
  have HS5 := Bx.mk (And.intro hS5 hkp5)
  clear hS5 hkp5
  obtain ⟨z, rfl, hz⟩ := open351 hF5.fr
  have f2 := (hz 2).symm.trans hF5.s2
  have f3 := (hz 3).symm.trans hF5.s3
  have f4 := (hz 4).symm.trans hF5.s4
  have f11 := (hz 11).symm.trans hF5.s11
  have f12 := (hz 12).symm.trans hF5.s12
  have f14 := (hz 14).symm.trans hF5.s14
  have f15 := (hz 15).symm.trans hF5.s15
  have f16 := (hz 16).symm.trans hF5.s16
  clear hF5 hz
  rw [f2, f3, f4, f11, f12, f14, f15, f16]
  clear f2 f3 f4 f11 f12 f14 f15 f16
  go_wp2
  exact ⟨va5, n5, c5, mv5, lb5, l5, m5, ls5, ⟨⟨rfl, rfl⟩, rfl, rfl, rfl, rfl, rfl, rfl, rfl, by first | rfl | go_num⟩, HS5.out⟩
end Go.Proofs.YtnefpjdjnjcmbaaGreatDoor
namespace Go.Proofs.YtnefpjdjnjcmbaaGreatDoor
open Go Go.RowKit
/-- What holds while something is called. -/
structure MS (R L B X : Nat) (tk : List Value) (ws : World) (mv : Value) (lb : List Value) (l : List (Cl × Nat)) (vm : Value) (m : List (Cl × Value)) (ls : List Value) (kd ro ci cr cx cq : Int) (ab : Option Addr) (nb cb : Nat) (kv : Value) (kb : List UInt8) (W : World) : Prop where
  st : RSt R L B tk mv lb l vm m ls W
  kp : KP R L B ws W
  row : W.heap[X]? = some (.cells #[.int .i64 kd, .int .i64 ro, .int .i64 ci, .int .i64 cr, .int .i64 cx, .int .i64 cq, .slice ab nb cb] 40 (0, 0))
  key : FB R L W kv kb
theorem MS.later {R L B X : Nat} {tk : List Value} {ws : World} {mv : Value} {lb : List Value} {l : List (Cl × Nat)} {vm : Value} {m : List (Cl × Value)} {ls : List Value} {kd ro ci cr cx cq : Int} {ab : Option Addr} {nb cb : Nat} {kv : Value} {kb : List UInt8} {W W1 : World} (h : MS R L B X tk ws mv lb l vm m ls kd ro ci cr cx cq ab nb cb kv kb W) (hb : Below W.heap.size W W1) : MS R L B X tk ws mv lb l vm m ls kd ro ci cr cx cq ab nb cb kv kb W1 :=
  ⟨h.st.later hb, h.kp.trans (KP.below hb), by rw [hb.block X (Array.getElem?_eq_some_iff.1 h.row).1]; exact h.row, h.key.keep (B := B) (KP.below hb)⟩
theorem find_yes {l : List (Cl × Nat)} {m : List (Cl × Value)} (hs : m.map (·.1) = sortC (l.map (·.1))) {c : Cl} {z : Int} (hf : FindQ m c (.returned (.int .i64 z))) {p : Nat} (ha : atC l c = some p) : ∃ k, k < m.length ∧ z = (k : Int) ∧ (m.getD k e0).1 = c := by
  rcases hf with ⟨k, hk, h1, h2⟩ | ⟨-, h⟩
  · injection h1 with h1
    injection h1 with h1 h1
    exact ⟨k, hk, h1, h2⟩
  · rw [find_at hs c h] at ha
    cases ha
theorem find_no {l : List (Cl × Nat)} {m : List (Cl × Value)} (nd : l.Pairwise (fun x y => x.1 ≠ y.1)) (hs : m.map (·.1) = sortC (l.map (·.1))) {c : Cl} {z : Int} (hf : FindQ m c (.returned (.int .i64 z))) (ha : atC l c = none) : z = -1 := by
  rcases hf with ⟨k, hk, h1, h2⟩ | ⟨h, -⟩
  · obtain ⟨p, -, h3⟩ := known_at nd hs hk
    rw [h2, ha] at h3
    cases h3
  · injection h with h
    injection h
set_option maxRecDepth 100000 in
set_option maxHeartbeats 4000000 in
/-- Label of what is no role. -/
theorem mid_label_out (R L B : Nat) (tk : List Value) (ws : World) (v2 v3 v4 v11 : Value) (i : Nat) (va : Option Addr) (n c : Nat) (mv : Value) (lb : List Value) (l : List (Cl × Nat)) (m : List (Cl × Value)) (ls : List Value) (X : Nat) (at' : Int) (ab a1 : Option Addr) (nb cb c1 kn : Nat) (kd ro ci cr cx cq : Int) (ks : List UInt8) (a : Act) (w : World)
    (hG : RG v2 v3 v4 v11 (.pointer (some ⟨R, 0, none⟩)) (.slice va n c) (.pointer (some ⟨L, 0, none⟩)) (.int .i64 (i : Int)) (.pointer (some ⟨X, 0, none⟩)) (.slice a1 kn c1) (.int .i64 at') (.bool (decide (0 ≤ ro ∧ ro < 8))) a) (hf : FindQ m ⟨ci, cr, cx, cq⟩ (.returned (.int .i64 at'))) (hrow : w.heap[X]? = some (.cells #[.int .i64 kd, .int .i64 ro, .int .i64 ci, .int .i64 cr, .int .i64 cx, .int .i64 cq, .slice ab nb cb] 40 (0, 0))) (hXR : X ≠ R) (hXL : X ≠ L) (hfit : (⟨kd, ro, ⟨ci, cr, cx, cq⟩, ks⟩ : Ac).fit) (hfb : FB R L w (.slice a1 kn c1) (ks.take 40)) (hS : RSt R L B tk mv lb l (.slice va n c) m ls w) (hkp : KP R L B ws w)
    (hkd : (IntKind.u64.wrap kd).tmod 5 = 4) (hro : ro < 0 ∨ 8 ≤ ro) :
    Code.wp Tryz.prog (partIn Tryz.f3.body 1 14) (fun x a w => x = .normal ∧ MO R L B tk ws v2 v3 v4 v11 i a w) a w := by
  have S0 := Bx.mk (MS.mk (ab := ab) (nb := nb) (cb := cb) hS hkp hrow hfb)
  have HX := Bx.mk (And.intro hXR hXL)
  have HFt := Bx.mk hfit
  have q : decide (0 ≤ ro ∧ ro < 8) = false := decide_eq_false (by omega)
  rw [q] at hG
  clear q hf
  clear hS hkp hrow hfb hXR hXL hfit
  obtain ⟨x, rfl, hx⟩ := open351 hG.fr
  have e2 := (hx 2).symm.trans hG.s2
  have e3 := (hx 3).symm.trans hG.s3
  have e4 := (hx 4).symm.trans hG.s4
  have e11 := (hx 11).symm.trans hG.s11
  have e12 := (hx 12).symm.trans hG.s12
  have e14 := (hx 14).symm.trans hG.s14
  have e15 := (hx 15).symm.trans hG.s15
  have e16 := (hx 16).symm.trans hG.s16
  have e17 := (hx 17).symm.trans hG.s17
  have e18 := (hx 18).symm.trans hG.s18
  have e19 := (hx 19).symm.trans hG.s19
  have e20 := (hx 20).symm.trans hG.s20
  clear hG hx
  rw [e2, e3, e4, e11, e12, e14, e15, e16, e17, e18, e19, e20]
  clear e2 e3 e4 e11 e12 e14 e15 e16 e17 e18 e19 e20
  have k0 : w.cell? ⟨X, 0, none⟩ = some (.int .i64 kd) := by rw [cell_of_row _ _ _ _ _ _ (S0.out.row)]; rfl
  have k1 : w.cell? ⟨X, 1, none⟩ = some (.int .i64 ro) := by rw [cell_of_row _ _ _ _ _ _ (S0.out.row)]; rfl
  have k2 : w.cell? ⟨X, 2, none⟩ = some (.int .i64 ci) := by rw [cell_of_row _ _ _ _ _ _ (S0.out.row)]; rfl
  have k3 : w.cell? ⟨X, 3, none⟩ = some (.int .i64 cr) := by rw [cell_of_row _ _ _ _ _ _ (S0.out.row)]; rfl
  have k4 : w.cell? ⟨X, 4, none⟩ = some (.int .i64 cx) := by rw [cell_of_row _ _ _ _ _ _ (S0.out.row)]; rfl
  have k5 : w.cell? ⟨X, 5, none⟩ = some (.int .i64 cq) := by rw [cell_of_row _ _ _ _ _ _ (S0.out.row)]; rfl
  have k6 : w.cell? ⟨X, 6, none⟩ = some (.slice ab nb cb) := by rw [cell_of_row _ _ _ _ _ _ (S0.out.row)]; rfl
  conv => arg 2; whnf
  have HLb := Bx.mk fun (W : World) => label_out R ro W hro
  clear hro
  go_wp2_with fail
  refine (HLb.out w).mono ?_
  rintro e w1 ⟨rfl, hb⟩
  have S1 := Bx.mk (S0.out.later hb)
  clear hb HLb S0 k0 k1 k2 k3 k4 k5 k6
  go_wp2
  have h1 := S1.out.st
  have h2 := S1.out.kp
  clear S1
  refine ⟨va, n, c, mv, lb, l, m, ls, ?_, h1, h2⟩
  exact ⟨⟨rfl, rfl⟩, rfl, rfl, rfl, rfl, rfl, rfl, rfl, rfl⟩
set_option maxRecDepth 100000 in
set_option maxHeartbeats 4000000 in
/-- Label of a role whose key is not known. -/
theorem mid_label_none (R L B : Nat) (tk : List Value) (ws : World) (v2 v3 v4 v11 : Value) (i : Nat) (va : Option Addr) (n c : Nat) (mv : Value) (lb : List Value) (l : List (Cl × Nat)) (m : List (Cl × Value)) (ls : List Value) (X : Nat) (at' : Int) (ab a1 : Option Addr) (nb cb c1 kn : Nat) (kd ro ci cr cx cq : Int) (ks : List UInt8) (a : Act) (w : World)
    (hG : RG v2 v3 v4 v11 (.pointer (some ⟨R, 0, none⟩)) (.slice va n c) (.pointer (some ⟨L, 0, none⟩)) (.int .i64 (i : Int)) (.pointer (some ⟨X, 0, none⟩)) (.slice a1 kn c1) (.int .i64 at') (.bool (decide (0 ≤ ro ∧ ro < 8))) a) (hf : FindQ m ⟨ci, cr, cx, cq⟩ (.returned (.int .i64 at'))) (hrow : w.heap[X]? = some (.cells #[.int .i64 kd, .int .i64 ro, .int .i64 ci, .int .i64 cr, .int .i64 cx, .int .i64 cq, .slice ab nb cb] 40 (0, 0))) (hXR : X ≠ R) (hXL : X ≠ L) (hfit : (⟨kd, ro, ⟨ci, cr, cx, cq⟩, ks⟩ : Ac).fit) (hfb : FB R L w (.slice a1 kn c1) (ks.take 40)) (hS : RSt R L B tk mv lb l (.slice va n c) m ls w) (hkp : KP R L B ws w)
    (hkd : (IntKind.u64.wrap kd).tmod 5 = 4) (r : Nat) (hr8 : r < 8) (hro : ro = (r : Int)) (hno : lb.getD r undef = .pointer none) :
    Code.wp Tryz.prog (partIn Tryz.f3.body 1 14) (fun x a w => x = .normal ∧ MO R L B tk ws v2 v3 v4 v11 i a w) a w := by
  have S0 := Bx.mk (MS.mk (ab := ab) (nb := nb) (cb := cb) hS hkp hrow hfb)
  have HX := Bx.mk (And.intro hXR hXL)
  have HFt := Bx.mk hfit
  subst hro
  have q : decide (0 ≤ (r : Int) ∧ (r : Int) < 8) = true := decide_eq_true ⟨by omega, by omega⟩
  rw [q] at hG
  have q0 : (0 : Int) ≤ (r : Int) := by omega
  have q8 : (r : Int) < 8 := by omega
  clear q hf
  have HNo := Bx.mk hno
  have HLs : Bx (ls.getD r undef = .slice none 0 0) := ⟨by
    rcases hS.labs r hr8 with h | ⟨p, bs, h, -⟩
    · exact h.2
    · rw [hno] at h
      cases h⟩
  clear hno
  clear hS hkp hrow hfb hXR hXL hfit
  obtain ⟨x, rfl, hx⟩ := open351 hG.fr
  have e2 := (hx 2).symm.trans hG.s2
  have e3 := (hx 3).symm.trans hG.s3
  have e4 := (hx 4).symm.trans hG.s4
  have e11 := (hx 11).symm.trans hG.s11
  have e12 := (hx 12).symm.trans hG.s12
  have e14 := (hx 14).symm.trans hG.s14
  have e15 := (hx 15).symm.trans hG.s15
  have e16 := (hx 16).symm.trans hG.s16
  have e17 := (hx 17).symm.trans hG.s17
  have e18 := (hx 18).symm.trans hG.s18
  have e19 := (hx 19).symm.trans hG.s19
  have e20 := (hx 20).symm.trans hG.s20
  clear hG hx
  rw [e2, e3, e4, e11, e12, e14, e15, e16, e17, e18, e19, e20]
  clear e2 e3 e4 e11 e12 e14 e15 e16 e17 e18 e19 e20
  have k0 : w.cell? ⟨X, 0, none⟩ = some (.int .i64 kd) := by rw [cell_of_row _ _ _ _ _ _ (S0.out.row)]; rfl
  have k1 : w.cell? ⟨X, 1, none⟩ = some (.int .i64 (r : Int)) := by rw [cell_of_row _ _ _ _ _ _ (S0.out.row)]; rfl
  have k2 : w.cell? ⟨X, 2, none⟩ = some (.int .i64 ci) := by rw [cell_of_row _ _ _ _ _ _ (S0.out.row)]; rfl
  have k3 : w.cell? ⟨X, 3, none⟩ = some (.int .i64 cr) := by rw [cell_of_row _ _ _ _ _ _ (S0.out.row)]; rfl
  have k4 : w.cell? ⟨X, 4, none⟩ = some (.int .i64 cx) := by rw [cell_of_row _ _ _ _ _ _ (S0.out.row)]; rfl
  have k5 : w.cell? ⟨X, 5, none⟩ = some (.int .i64 cq) := by rw [cell_of_row _ _ _ _ _ _ (S0.out.row)]; rfl
  have k6 : w.cell? ⟨X, 6, none⟩ = some (.slice ab nb cb) := by rw [cell_of_row _ _ _ _ _ _ (S0.out.row)]; rfl
  conv => arg 2; whnf
  have HLb := Bx.mk (label_none R r tk mv lb w S0.out.st.ring hr8 HNo.out)
  have hnil := nil_nil
  go_wp2_with fail
  refine HLb.out.mono ?_
  rintro e w1 ⟨rfl, hb⟩
  have S1 := Bx.mk (S0.out.later hb)
  have jL : w1.cell? ⟨L, r, none⟩ = some (.slice none 0 0) := by
    have h1 := S1.out.st.row
    rw [cell_of_row _ _ _ _ _ _ h1.1, List.getElem?_toArray, ← HLs.out]
    have h2 : r < ls.length := by rw [h1.2]; exact hr8
    simp [List.getD_eq_getElem?_getD, h2]
  clear hb HLb S0 k0 k1 k2 k3 k4 k5 k6
  have k0 : w1.cell? ⟨X, 0, none⟩ = some (.int .i64 kd) := by rw [cell_of_row _ _ _ _ _ _ (S1.out.row)]; rfl
  have k1 : w1.cell? ⟨X, 1, none⟩ = some (.int .i64 (r : Int)) := by rw [cell_of_row _ _ _ _ _ _ (S1.out.row)]; rfl
  have k2 : w1.cell? ⟨X, 2, none⟩ = some (.int .i64 ci) := by rw [cell_of_row _ _ _ _ _ _ (S1.out.row)]; rfl
  have k3 : w1.cell? ⟨X, 3, none⟩ = some (.int .i64 cr) := by rw [cell_of_row _ _ _ _ _ _ (S1.out.row)]; rfl
  have k4 : w1.cell? ⟨X, 4, none⟩ = some (.int .i64 cx) := by rw [cell_of_row _ _ _ _ _ _ (S1.out.row)]; rfl
  have k5 : w1.cell? ⟨X, 5, none⟩ = some (.int .i64 cq) := by rw [cell_of_row _ _ _ _ _ _ (S1.out.row)]; rfl
  have k6 : w1.cell? ⟨X, 6, none⟩ = some (.slice ab nb cb) := by rw [cell_of_row _ _ _ _ _ _ (S1.out.row)]; rfl
  go_wp2
  have h1 := S1.out.st
  have h2 := S1.out.kp
  clear S1
  refine ⟨va, n, c, mv, lb, l, m, ls, ?_, h1, h2⟩
  exact ⟨⟨rfl, rfl⟩, rfl, rfl, rfl, rfl, rfl, rfl, rfl, rfl⟩
set_option maxRecDepth 100000 in
set_option maxHeartbeats 4000000 in
/-- From of claims without a key. -/
theorem mid_from_none (R L B : Nat) (tk : List Value) (ws : World) (v2 v3 v4 v11 : Value) (i : Nat) (va : Option Addr) (n c : Nat) (mv : Value) (lb : List Value) (l : List (Cl × Nat)) (m : List (Cl × Value)) (ls : List Value) (X : Nat) (at' : Int) (ab a1 : Option Addr) (nb cb c1 kn : Nat) (kd ro ci cr cx cq : Int) (ks : List UInt8) (a : Act) (w : World)
    (hG : RG v2 v3 v4 v11 (.pointer (some ⟨R, 0, none⟩)) (.slice va n c) (.pointer (some ⟨L, 0, none⟩)) (.int .i64 (i : Int)) (.pointer (some ⟨X, 0, none⟩)) (.slice a1 kn c1) (.int .i64 at') (.bool (decide (0 ≤ ro ∧ ro < 8))) a) (hf : FindQ m ⟨ci, cr, cx, cq⟩ (.returned (.int .i64 at'))) (hrow : w.heap[X]? = some (.cells #[.int .i64 kd, .int .i64 ro, .int .i64 ci, .int .i64 cr, .int .i64 cx, .int .i64 cq, .slice ab nb cb] 40 (0, 0))) (hXR : X ≠ R) (hXL : X ≠ L) (hfit : (⟨kd, ro, ⟨ci, cr, cx, cq⟩, ks⟩ : Ac).fit) (hfb : FB R L w (.slice a1 kn c1) (ks.take 40)) (hS : RSt R L B tk mv lb l (.slice va n c) m ls w) (hkp : KP R L B ws w)
    (hkd : (IntKind.u64.wrap kd).tmod 5 = 2) (ha : atC l ⟨ci, cr, cx, cq⟩ = none) :
    Code.wp Tryz.prog (partIn Tryz.f3.body 1 14) (fun x a w => x = .normal ∧ MO R L B tk ws v2 v3 v4 v11 i a w) a w := by
  have S0 := Bx.mk (MS.mk (ab := ab) (nb := nb) (cb := cb) hS hkp hrow hfb)
  have HX := Bx.mk (And.intro hXR hXL)
  have HFt := Bx.mk hfit
  obtain rfl : at' = -1 := find_no hS.map.nd hS.srt hf ha
  clear hf
  clear hS hkp hrow hfb hXR hXL hfit
  obtain ⟨x, rfl, hx⟩ := open351 hG.fr
  have e2 := (hx 2).symm.trans hG.s2
  have e3 := (hx 3).symm.trans hG.s3
  have e4 := (hx 4).symm.trans hG.s4
  have e11 := (hx 11).symm.trans hG.s11
  have e12 := (hx 12).symm.trans hG.s12
  have e14 := (hx 14).symm.trans hG.s14
  have e15 := (hx 15).symm.trans hG.s15
  have e16 := (hx 16).symm.trans hG.s16
  have e17 := (hx 17).symm.trans hG.s17
  have e18 := (hx 18).symm.trans hG.s18
  have e19 := (hx 19).symm.trans hG.s19
  have e20 := (hx 20).symm.trans hG.s20
  clear hG hx
  rw [e2, e3, e4, e11, e12, e14, e15, e16, e17, e18, e19, e20]
  clear e2 e3 e4 e11 e12 e14 e15 e16 e17 e18 e19 e20
  have k0 : w.cell? ⟨X, 0, none⟩ = some (.int .i64 kd) := by rw [cell_of_row _ _ _ _ _ _ (S0.out.row)]; rfl
  have k1 : w.cell? ⟨X, 1, none⟩ = some (.int .i64 ro) := by rw [cell_of_row _ _ _ _ _ _ (S0.out.row)]; rfl
  have k2 : w.cell? ⟨X, 2, none⟩ = some (.int .i64 ci) := by rw [cell_of_row _ _ _ _ _ _ (S0.out.row)]; rfl
  have k3 : w.cell? ⟨X, 3, none⟩ = some (.int .i64 cr) := by rw [cell_of_row _ _ _ _ _ _ (S0.out.row)]; rfl
  have k4 : w.cell? ⟨X, 4, none⟩ = some (.int .i64 cx) := by rw [cell_of_row _ _ _ _ _ _ (S0.out.row)]; rfl
  have k5 : w.cell? ⟨X, 5, none⟩ = some (.int .i64 cq) := by rw [cell_of_row _ _ _ _ _ _ (S0.out.row)]; rfl
  have k6 : w.cell? ⟨X, 6, none⟩ = some (.slice ab nb cb) := by rw [cell_of_row _ _ _ _ _ _ (S0.out.row)]; rfl
  conv => arg 2; whnf
  have HFr := Bx.mk fun (W : World) (h : MS R L B X tk ws mv lb l (.slice va n c) m ls kd ro ci cr cx cq ab nb cb (.slice a1 kn c1) (ks.take 40) W) => ring_from_none R B tk mv lb l ⟨ci, cr, cx, cq⟩ W h.st.ring h.st.map HFt.out.2.2.1 ha
  clear ha
  go_wp2_with fail
  refine (cto_any ⟨ci, cr, cx, cq⟩ w).mono ?_
  rintro e w1 ⟨rfl, hb⟩
  have S1 := Bx.mk (S0.out.later hb)
  clear hb S0 k0 k1 k2 k3 k4 k5 k6
  go_wp2_with fail
  refine (HFr.out w1 S1.out).mono ?_
  rintro e w2 ⟨rfl, hb⟩
  have S2 := Bx.mk (S1.out.later hb)
  clear hb S1 HFr
  go_upto_region 45 with fail
  have S3 := Bx.mk (S2.out.later (Below.refl _ _).drew)
  clear S2
  refine wp_region_noPanic ?_
  refine wp_region_held_drew (S := fun W => True ∧ Bx (MS R L B X tk ws mv lb l (.slice va n c) m ls kd ro ci cr cx cq ab nb cb (.slice a1 kn c1) (ks.take 40) W)) (by kernel_rfl) (⟨trivial, S3⟩) (fun hHeld => ?_)
  clear S3
  refine takeL 0 (v := ?_) rfl (by kernel_rfl) (by kernel_rfl) (by kernel_rfl) (fun _ _ _ h => h) (Or.inl ⟨by rfl, ?_⟩) hHeld ?_
  rotate_left 1
  · (intro w hSw; go_simp; try with_reducible rfl)
  try simp only [Act.put, List.setIfInBounds_toArray, List.set_cons_zero, List.set_cons_succ]
  refine takeL 1 (v := ?_) rfl (by kernel_rfl) (by kernel_rfl) (by kernel_rfl) (fun _ _ _ h => h) (Or.inl ⟨by rfl, ?_⟩) hHeld ?_
  rotate_left 1
  · (intro w hSw; go_simp; try with_reducible rfl)
  try simp only [Act.put, List.setIfInBounds_toArray, List.set_cons_zero, List.set_cons_succ]
  refine takeL 2 (v := ?_) rfl (by kernel_rfl) (by kernel_rfl) (by kernel_rfl) (fun _ _ _ h => h) (Or.inl ⟨by rfl, ?_⟩) hHeld ?_
  rotate_left 1
  · (intro w hSw; go_simp; try with_reducible rfl)
  try simp only [Act.put, List.setIfInBounds_toArray, List.set_cons_zero, List.set_cons_succ]
  refine takeL 3 (v := ?_) rfl (by kernel_rfl) (by kernel_rfl) (by kernel_rfl) (fun _ _ _ h => h) (Or.inl ⟨by rfl, ?_⟩) hHeld ?_
  rotate_left 1
  · (intro w hSw; go_simp; try with_reducible rfl)
  try simp only [Act.put, List.setIfInBounds_toArray, List.set_cons_zero, List.set_cons_succ]
  refine takeL 4 (v := ?_) rfl (by kernel_rfl) (by kernel_rfl) (by kernel_rfl) (fun _ _ _ h => h) (Or.inl ⟨by rfl, ?_⟩) hHeld ?_
  rotate_left 1
  · (intro w hSw; go_simp; try with_reducible rfl)
  try simp only [Act.put, List.setIfInBounds_toArray, List.set_cons_zero, List.set_cons_succ]
  refine takeL 5 (v := ?_) rfl (by kernel_rfl) (by kernel_rfl) (by kernel_rfl) (fun _ _ _ h => h) (Or.inl ⟨by rfl, ?_⟩) hHeld ?_
  rotate_left 1
  · (intro w hSw; go_simp; try with_reducible rfl)
  try simp only [Act.put, List.setIfInBounds_toArray, List.set_cons_zero, List.set_cons_succ]
  refine takeL 6 (v := ?_) rfl (by kernel_rfl) (by kernel_rfl) (by kernel_rfl) (fun _ _ _ h => h) (Or.inl ⟨by rfl, ?_⟩) hHeld ?_
  rotate_left 1
  · (intro w hSw; go_simp; try with_reducible rfl)
  try simp only [Act.put, List.setIfInBounds_toArray, List.set_cons_zero, List.set_cons_succ]
  refine takeL 7 (v := ?_) rfl (by kernel_rfl) (by kernel_rfl) (by kernel_rfl) (fun _ _ _ h => h) (Or.inl ⟨by rfl, ?_⟩) hHeld ?_
  rotate_left 1
  · (intro w hSw; go_simp; try with_reducible rfl)
  try simp only [Act.put, List.setIfInBounds_toArray, List.set_cons_zero, List.set_cons_succ]
  refine takeL 8 (v := ?_) rfl (by kernel_rfl) (by kernel_rfl) (by kernel_rfl) (fun _ _ _ h => h) (Or.inl ⟨by rfl, ?_⟩) hHeld ?_
  rotate_left 1
  · (intro w hSw; go_simp; try with_reducible rfl)
  try simp only [Act.put, List.setIfInBounds_toArray, List.set_cons_zero, List.set_cons_succ]
  refine takeL 9 (v := ?_) rfl (by kernel_rfl) (by kernel_rfl) (by kernel_rfl) (fun _ _ _ h => h) (Or.inl ⟨by rfl, ?_⟩) hHeld ?_
  rotate_left 1
  · (intro w hSw; go_simp; try with_reducible rfl)
  try simp only [Act.put, List.setIfInBounds_toArray, List.set_cons_zero, List.set_cons_succ]
  refine takeL 10 (v := undef) rfl (by kernel_rfl) (by kernel_rfl) (by kernel_rfl) (fun _ _ _ h => h) (Or.inr ⟨by rfl, rfl⟩) hHeld ?_
  try simp only [Act.put, List.setIfInBounds_toArray, List.set_cons_zero, List.set_cons_succ]
  refine takeL 11 (v := undef) rfl (by kernel_rfl) (by kernel_rfl) (by kernel_rfl) (fun _ _ _ h => h) (Or.inr ⟨by rfl, rfl⟩) hHeld ?_
  try simp only [Act.put, List.setIfInBounds_toArray, List.set_cons_zero, List.set_cons_succ]
  refine takeL 12 (v := undef) rfl (by kernel_rfl) (by kernel_rfl) (by kernel_rfl) (fun _ _ _ h => h) (Or.inr ⟨by rfl, rfl⟩) hHeld ?_
  try simp only [Act.put, List.setIfInBounds_toArray, List.set_cons_zero, List.set_cons_succ]
  refine takeL 13 (v := undef) rfl (by kernel_rfl) (by kernel_rfl) (by kernel_rfl) (fun _ _ _ h => h) (Or.inr ⟨by rfl, rfl⟩) hHeld ?_
  try simp only [Act.put, List.setIfInBounds_toArray, List.set_cons_zero, List.set_cons_succ]
  refine takeL 14 (v := undef) rfl (by kernel_rfl) (by kernel_rfl) (by kernel_rfl) (fun _ _ _ h => h) (Or.inr ⟨by rfl, rfl⟩) hHeld ?_
  try simp only [Act.put, List.setIfInBounds_toArray, List.set_cons_zero, List.set_cons_succ]
  refine takeL 15 (v := undef) rfl (by kernel_rfl) (by kernel_rfl) (by kernel_rfl) (fun _ _ _ h => h) (Or.inr ⟨by rfl, rfl⟩) hHeld ?_
  try simp only [Act.put, List.setIfInBounds_toArray, List.set_cons_zero, List.set_cons_succ]
  refine takeL 16 (v := undef) rfl (by kernel_rfl) (by kernel_rfl) (by kernel_rfl) (fun _ _ _ h => h) (Or.inr ⟨by rfl, rfl⟩) hHeld ?_
  try simp only [Act.put, List.setIfInBounds_toArray, List.set_cons_zero, List.set_cons_succ]
  refine takeL 17 (v := undef) rfl (by kernel_rfl) (by kernel_rfl) (by kernel_rfl) (fun _ _ _ h => h) (Or.inr ⟨by rfl, rfl⟩) hHeld ?_
  try simp only [Act.put, List.setIfInBounds_toArray, List.set_cons_zero, List.set_cons_succ]
  refine takeL 18 (v := undef) rfl (by kernel_rfl) (by kernel_rfl) (by kernel_rfl) (fun _ _ _ h => h) (Or.inr ⟨by rfl, rfl⟩) hHeld ?_
  try simp only [Act.put, List.setIfInBounds_toArray, List.set_cons_zero, List.set_cons_succ]
  refine takeL 19 (v := undef) rfl (by kernel_rfl) (by kernel_rfl) (by kernel_rfl) (fun _ _ _ h => h) (Or.inr ⟨by rfl, rfl⟩) hHeld ?_
  try simp only [Act.put, List.setIfInBounds_toArray, List.set_cons_zero, List.set_cons_succ]
  refine takeL 20 (v := undef) rfl (by kernel_rfl) (by kernel_rfl) (by kernel_rfl) (fun _ _ _ h => h) (Or.inr ⟨by rfl, rfl⟩) hHeld ?_
  try simp only [Act.put, List.setIfInBounds_toArray, List.set_cons_zero, List.set_cons_succ]
  refine takeL 21 (v := undef) rfl (by kernel_rfl) (by kernel_rfl) (by kernel_rfl) (fun _ _ _ h => h) (Or.inr ⟨by rfl, rfl⟩) hHeld ?_
  try simp only [Act.put, List.setIfInBounds_toArray, List.set_cons_zero, List.set_cons_succ]
  refine takeL 22 (v := undef) rfl (by kernel_rfl) (by kernel_rfl) (by kernel_rfl) (fun _ _ _ h => h) (Or.inr ⟨by rfl, rfl⟩) hHeld ?_
  try simp only [Act.put, List.setIfInBounds_toArray, List.set_cons_zero, List.set_cons_succ]
  refine takeL 23 (v := ?_) rfl (by kernel_rfl) (by kernel_rfl) (by kernel_rfl) (fun _ _ _ h => h) (Or.inl ⟨by rfl, ?_⟩) hHeld ?_
  rotate_left 1
  · (intro w hSw; go_simp; try with_reducible rfl)
  try simp only [Act.put, List.setIfInBounds_toArray, List.set_cons_zero, List.set_cons_succ]
  refine takeL 24 (v := ?_) rfl (by kernel_rfl) (by kernel_rfl) (by kernel_rfl) (fun _ _ _ h => h) (Or.inl ⟨by rfl, ?_⟩) hHeld ?_
  rotate_left 1
  · (intro w hSw; go_simp; try with_reducible rfl)
  try simp only [Act.put, List.setIfInBounds_toArray, List.set_cons_zero, List.set_cons_succ]
  refine wpAnyH_done (by kernel_rfl) ?_ _
  refine NoPanic.normal ?_
  have S4 := Bx.mk (hHeld.2.out)
  clear hHeld
  go_wp2
  have h1 := S4.out.st
  have h2 := S4.out.kp
  clear S4
  refine ⟨va, n, c, mv, lb, l, m, ls, ?_, h1, h2⟩
  exact ⟨⟨rfl, rfl⟩, rfl, rfl, rfl, rfl, rfl, rfl, rfl, rfl⟩
end Go.Proofs.YtnefpjdjnjcmbaaGreatDoor
