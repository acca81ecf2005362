/-
  What is called in a round of KeysRing: Add that is refused.
-/
import Derived.Test.YtnefpjdjnjcmbaaGreatDoorR10
namespace Go.Proofs.YtnefpjdjnjcmbaaGreatDoor
open Go Go.RowKit
theorem map_len {l : List (Cl × Nat)} {m : List (Cl × Value)} (h : m.map (·.1) = sortC (l.map (·.1))) : l.length = m.length := by
  have h1 := congrArg List.length h
  rw [List.length_map, sortC_length, List.length_map] at h1
  exact h1.symm
set_option maxRecDepth 100000 in
set_option maxHeartbeats 4000000 in
/-- Add of claims that are not right. -/
theorem mid_add_bad (R L B : Nat) (tk : List Value) (ws : World) (v2 v3 v4 v11 : Value) (i : Nat) (va : Option Addr) (n c : Nat) (mv : Value) (lb : List Value) (l : List (Cl × Nat)) (m : List (Cl × Value)) (ls : List Value) (X : Nat) (at' : Int) (ab a1 : Option Addr) (nb cb c1 kn : Nat) (kd ro ci cr cx cq : Int) (ks : List UInt8) (a : Act) (w : World)
    (hG : RG v2 v3 v4 v11 (.pointer (some ⟨R, 0, none⟩)) (.slice va n c) (.pointer (some ⟨L, 0, none⟩)) (.int .i64 (i : Int)) (.pointer (some ⟨X, 0, none⟩)) (.slice a1 kn c1) (.int .i64 at') (.bool (decide (0 ≤ ro ∧ ro < 8))) a) (hf : FindQ m ⟨ci, cr, cx, cq⟩ (.returned (.int .i64 at'))) (hrow : w.heap[X]? = some (.cells #[.int .i64 kd, .int .i64 ro, .int .i64 ci, .int .i64 cr, .int .i64 cx, .int .i64 cq, .slice ab nb cb] 40 (0, 0))) (hXR : X ≠ R) (hXL : X ≠ L) (hfit : (⟨kd, ro, ⟨ci, cr, cx, cq⟩, ks⟩ : Ac).fit) (hfb : FB R L w (.slice a1 kn c1) (ks.take 40)) (hS : RSt R L B tk mv lb l (.slice va n c) m ls w) (hkp : KP R L B ws w)
    (hkd : (IntKind.u64.wrap kd).tmod 5 = 0) (hok : okC ⟨ci, cr, cx, cq⟩ = false) :
    Code.wp Tryz.prog (partIn Tryz.f3.body 1 14) (fun x a w => x = .normal ∧ MO R L B tk ws v2 v3 v4 v11 i a w) a w := by
  have S0 := Bx.mk (MS.mk (ab := ab) (nb := nb) (cb := cb) hS hkp hrow hfb)
  have HX := Bx.mk (And.intro hXR hXL)
  have HFt := Bx.mk hfit
  have hn : n = m.length := by
    obtain ⟨a, c2, h⟩ := hS.own.form
    injection h
  subst hn
  have hat : at' = -1 ∨ ∃ k : Nat, at' = (k : Int) := by
    rcases hf with ⟨k, -, h, -⟩ | ⟨h, -⟩
    · injection h with h
      injection h with h h'
      exact .inr ⟨k, by assumption⟩
    · injection h with h
      injection h with h h'
      exact .inl (by assumption)
  clear hf
  have HTo := Bx.mk fun (W : World) => cto_any ⟨ci, cr, cx, cq⟩ W
  have HRi := Bx.mk fun (W : World) => cright_any ⟨ci, cr, cx, cq⟩ W
  have HAd := Bx.mk fun (v : Value) (W : World) => ring_add_bad R ⟨ci, cr, cx, cq⟩ v W hok
  clear hS hkp hrow hfb hXR hXL hfit
  obtain ⟨x, rfl, hx⟩ := open351 hG.fr
  have e2 := (hx 2).symm.trans hG.s2
  have e3 := (hx 3).symm.trans hG.s3
  have e4 := (hx 4).symm.trans hG.s4
  have e11 := (hx 11).symm.trans hG.s11
  have e12 := (hx 12).symm.trans hG.s12
  have e14 := (hx 14).symm.trans hG.s14
  have e15 := (hx 15).symm.trans hG.s15
  have e16 := (hx 16).symm.trans hG.s16
  have e17 := (hx 17).symm.trans hG.s17
  have e18 := (hx 18).symm.trans hG.s18
  have e19 := (hx 19).symm.trans hG.s19
  have e20 := (hx 20).symm.trans hG.s20
  clear hG hx
  rw [e2, e3, e4, e11, e12, e14, e15, e16, e17, e18, e19, e20]
  clear e2 e3 e4 e11 e12 e14 e15 e16 e17 e18 e19 e20
  have k0 : w.cell? ⟨X, 0, none⟩ = some (.int .i64 kd) := by rw [cell_of_row _ _ _ _ _ _ (S0.out.row)]; rfl
  have k1 : w.cell? ⟨X, 1, none⟩ = some (.int .i64 ro) := by rw [cell_of_row _ _ _ _ _ _ (S0.out.row)]; rfl
  have k2 : w.cell? ⟨X, 2, none⟩ = some (.int .i64 ci) := by rw [cell_of_row _ _ _ _ _ _ (S0.out.row)]; rfl
  have k3 : w.cell? ⟨X, 3, none⟩ = some (.int .i64 cr) := by rw [cell_of_row _ _ _ _ _ _ (S0.out.row)]; rfl
  have k4 : w.cell? ⟨X, 4, none⟩ = some (.int .i64 cx) := by rw [cell_of_row _ _ _ _ _ _ (S0.out.row)]; rfl
  have k5 : w.cell? ⟨X, 5, none⟩ = some (.int .i64 cq) := by rw [cell_of_row _ _ _ _ _ _ (S0.out.row)]; rfl
  have k6 : w.cell? ⟨X, 6, none⟩ = some (.slice ab nb cb) := by rw [cell_of_row _ _ _ _ _ _ (S0.out.row)]; rfl
  conv => arg 2; whnf
  rcases hat with rfl | ⟨k, rfl⟩
  · have hk0 : True := trivial
    by_cases h16 : m.length = 16
    · have h17 : (m.length : Int) = 16 := by omega
      clear h16
      go_wp2_with fail
      refine (HTo.out w).mono ?_
      rintro e w1 ⟨rfl, hb⟩
      have S1 := Bx.mk (S0.out.later hb)
      clear hb S0 k0 k1 k2 k3 k4 k5 k6
      go_wp2_with fail
      refine (new_any (ks.take 40) _ w1 S1.out.key.1 (by rw [List.length_take]; omega)).mono ?_
      rintro e w2 ⟨v', rfl, hk', hb⟩
      obtain ⟨pk, sk, hpk, -⟩ := id hk'
      subst hpk
      have S2 := Bx.mk (And.intro (S1.out.later hb) (And.intro hk' S1.out.st.low.2.2.2))
      clear hk' hb S1
      go_wp2_with fail
      refine (HAd.out _ w2).mono ?_
      rintro e w3 ⟨rfl, hb⟩
      have S3 := Bx.mk (S2.out.1.later hb)
      clear hb S2 HAd
      have k0 : w3.cell? ⟨X, 0, none⟩ = some (.int .i64 kd) := by rw [cell_of_row _ _ _ _ _ _ (S3.out.row)]; rfl
      have k1 : w3.cell? ⟨X, 1, none⟩ = some (.int .i64 ro) := by rw [cell_of_row _ _ _ _ _ _ (S3.out.row)]; rfl
      have k2 : w3.cell? ⟨X, 2, none⟩ = some (.int .i64 ci) := by rw [cell_of_row _ _ _ _ _ _ (S3.out.row)]; rfl
      have k3 : w3.cell? ⟨X, 3, none⟩ = some (.int .i64 cr) := by rw [cell_of_row _ _ _ _ _ _ (S3.out.row)]; rfl
      have k4 : w3.cell? ⟨X, 4, none⟩ = some (.int .i64 cx) := by rw [cell_of_row _ _ _ _ _ _ (S3.out.row)]; rfl
      have k5 : w3.cell? ⟨X, 5, none⟩ = some (.int .i64 cq) := by rw [cell_of_row _ _ _ _ _ _ (S3.out.row)]; rfl
      have k6 : w3.cell? ⟨X, 6, none⟩ = some (.slice ab nb cb) := by rw [cell_of_row _ _ _ _ _ _ (S3.out.row)]; rfl
      go_wp2_with fail
      refine (HRi.out w3).mono ?_
      rintro e w4 ⟨rfl, hb⟩
      rw [hok]
      have S4 := Bx.mk (S3.out.later hb)
      clear hb S3 k0 k1 k2 k3 k4 k5 k6
      go_wp2
      have h1 := S4.out.st
      have h2 := S4.out.kp
      clear S4
      refine ⟨va, m.length, c, mv, lb, l, m, ls, ?_, h1, h2⟩
      exact ⟨⟨rfl, rfl⟩, rfl, rfl, rfl, rfl, rfl, rfl, rfl, rfl⟩
    · have h17 : ¬ (m.length : Int) = 16 := by omega
      clear h16
      go_wp2_with fail
      refine (HTo.out w).mono ?_
      rintro e w1 ⟨rfl, hb⟩
      have S1 := Bx.mk (S0.out.later hb)
      clear hb S0 k0 k1 k2 k3 k4 k5 k6
      go_wp2_with fail
      refine (new_any (ks.take 40) _ w1 S1.out.key.1 (by rw [List.length_take]; omega)).mono ?_
      rintro e w2 ⟨v', rfl, hk', hb⟩
      obtain ⟨pk, sk, hpk, -⟩ := id hk'
      subst hpk
      have S2 := Bx.mk (And.intro (S1.out.later hb) (And.intro hk' S1.out.st.low.2.2.2))
      clear hk' hb S1
      go_wp2_with fail
      refine (HAd.out _ w2).mono ?_
      rintro e w3 ⟨rfl, hb⟩
      have S3 := Bx.mk (S2.out.1.later hb)
      clear hb S2 HAd
      have k0 : w3.cell? ⟨X, 0, none⟩ = some (.int .i64 kd) := by rw [cell_of_row _ _ _ _ _ _ (S3.out.row)]; rfl
      have k1 : w3.cell? ⟨X, 1, none⟩ = some (.int .i64 ro) := by rw [cell_of_row _ _ _ _ _ _ (S3.out.row)]; rfl
      have k2 : w3.cell? ⟨X, 2, none⟩ = some (.int .i64 ci) := by rw [cell_of_row _ _ _ _ _ _ (S3.out.row)]; rfl
      have k3 : w3.cell? ⟨X, 3, none⟩ = some (.int .i64 cr) := by rw [cell_of_row _ _ _ _ _ _ (S3.out.row)]; rfl
      have k4 : w3.cell? ⟨X, 4, none⟩ = some (.int .i64 cx) := by rw [cell_of_row _ _ _ _ _ _ (S3.out.row)]; rfl
      have k5 : w3.cell? ⟨X, 5, none⟩ = some (.int .i64 cq) := by rw [cell_of_row _ _ _ _ _ _ (S3.out.row)]; rfl
      have k6 : w3.cell? ⟨X, 6, none⟩ = some (.slice ab nb cb) := by rw [cell_of_row _ _ _ _ _ _ (S3.out.row)]; rfl
      go_wp2_with fail
      refine (HRi.out w3).mono ?_
      rintro e w4 ⟨rfl, hb⟩
      rw [hok]
      have S4 := Bx.mk (S3.out.later hb)
      clear hb S3 k0 k1 k2 k3 k4 k5 k6
      go_wp2
      have h1 := S4.out.st
      have h2 := S4.out.kp
      clear S4
      refine ⟨va, m.length, c, mv, lb, l, m, ls, ?_, h1, h2⟩
      exact ⟨⟨rfl, rfl⟩, rfl, rfl, rfl, rfl, rfl, rfl, rfl, rfl⟩
  · have hk0 : (0 : Int) ≤ (k : Int) := by omega
    by_cases h16 : m.length = 16
    · have h17 : (m.length : Int) = 16 := by omega
      clear h16
      go_wp2_with fail
      refine (HTo.out w).mono ?_
      rintro e w1 ⟨rfl, hb⟩
      have S1 := Bx.mk (S0.out.later hb)
      clear hb S0 k0 k1 k2 k3 k4 k5 k6
      go_wp2_with fail
      refine (new_any (ks.take 40) _ w1 S1.out.key.1 (by rw [List.length_take]; omega)).mono ?_
      rintro e w2 ⟨v', rfl, hk', hb⟩
      obtain ⟨pk, sk, hpk, -⟩ := id hk'
      subst hpk
      have S2 := Bx.mk (And.intro (S1.out.later hb) (And.intro hk' S1.out.st.low.2.2.2))
      clear hk' hb S1
      go_wp2_with fail
      refine (HAd.out _ w2).mono ?_
      rintro e w3 ⟨rfl, hb⟩
      have S3 := Bx.mk (S2.out.1.later hb)
      clear hb S2 HAd
      have k0 : w3.cell? ⟨X, 0, none⟩ = some (.int .i64 kd) := by rw [cell_of_row _ _ _ _ _ _ (S3.out.row)]; rfl
      have k1 : w3.cell? ⟨X, 1, none⟩ = some (.int .i64 ro) := by rw [cell_of_row _ _ _ _ _ _ (S3.out.row)]; rfl
      have k2 : w3.cell? ⟨X, 2, none⟩ = some (.int .i64 ci) := by rw [cell_of_row _ _ _ _ _ _ (S3.out.row)]; rfl
      have k3 : w3.cell? ⟨X, 3, none⟩ = some (.int .i64 cr) := by rw [cell_of_row _ _ _ _ _ _ (S3.out.row)]; rfl
      have k4 : w3.cell? ⟨X, 4, none⟩ = some (.int .i64 cx) := by rw [cell_of_row _ _ _ _ _ _ (S3.out.row)]; rfl
      have k5 : w3.cell? ⟨X, 5, none⟩ = some (.int .i64 cq) := by rw [cell_of_row _ _ _ _ _ _ (S3.out.row)]; rfl
      have k6 : w3.cell? ⟨X, 6, none⟩ = some (.slice ab nb cb) := by rw [cell_of_row _ _ _ _ _ _ (S3.out.row)]; rfl
      go_wp2_with fail
      refine (HRi.out w3).mono ?_
      rintro e w4 ⟨rfl, hb⟩
      rw [hok]
      have S4 := Bx.mk (S3.out.later hb)
      clear hb S3 k0 k1 k2 k3 k4 k5 k6
      go_wp2
      have h1 := S4.out.st
      have h2 := S4.out.kp
      clear S4
      refine ⟨va, m.length, c, mv, lb, l, m, ls, ?_, h1, h2⟩
      exact ⟨⟨rfl, rfl⟩, rfl, rfl, rfl, rfl, rfl, rfl, rfl, rfl⟩
    · have h17 : ¬ (m.length : Int) = 16 := by omega
      clear h16
      go_wp2_with fail
      refine (HTo.out w).mono ?_
      rintro e w1 ⟨rfl, hb⟩
      have S1 := Bx.mk (S0.out.later hb)
      clear hb S0 k0 k1 k2 k3 k4 k5 k6
      go_wp2_with fail
      refine (new_any (ks.take 40) _ w1 S1.out.key.1 (by rw [List.length_take]; omega)).mono ?_
      rintro e w2 ⟨v', rfl, hk', hb⟩
      obtain ⟨pk, sk, hpk, -⟩ := id hk'
      subst hpk
      have S2 := Bx.mk (And.intro (S1.out.later hb) (And.intro hk' S1.out.st.low.2.2.2))
      clear hk' hb S1
      go_wp2_with fail
      refine (HAd.out _ w2).mono ?_
      rintro e w3 ⟨rfl, hb⟩
      have S3 := Bx.mk (S2.out.1.later hb)
      clear hb S2 HAd
      have k0 : w3.cell? ⟨X, 0, none⟩ = some (.int .i64 kd) := by rw [cell_of_row _ _ _ _ _ _ (S3.out.row)]; rfl
      have k1 : w3.cell? ⟨X, 1, none⟩ = some (.int .i64 ro) := by rw [cell_of_row _ _ _ _ _ _ (S3.out.row)]; rfl
      have k2 : w3.cell? ⟨X, 2, none⟩ = some (.int .i64 ci) := by rw [cell_of_row _ _ _ _ _ _ (S3.out.row)]; rfl
      have k3 : w3.cell? ⟨X, 3, none⟩ = some (.int .i64 cr) := by rw [cell_of_row _ _ _ _ _ _ (S3.out.row)]; rfl
      have k4 : w3.cell? ⟨X, 4, none⟩ = some (.int .i64 cx) := by rw [cell_of_row _ _ _ _ _ _ (S3.out.row)]; rfl
      have k5 : w3.cell? ⟨X, 5, none⟩ = some (.int .i64 cq) := by rw [cell_of_row _ _ _ _ _ _ (S3.out.row)]; rfl
      have k6 : w3.cell? ⟨X, 6, none⟩ = some (.slice ab nb cb) := by rw [cell_of_row _ _ _ _ _ _ (S3.out.row)]; rfl
      go_wp2_with fail
      refine (HRi.out w3).mono ?_
      rintro e w4 ⟨rfl, hb⟩
      rw [hok]
      have S4 := Bx.mk (S3.out.later hb)
      clear hb S3 k0 k1 k2 k3 k4 k5 k6
      go_wp2
      have h1 := S4.out.st
      have h2 := S4.out.kp
      clear S4
      refine ⟨va, m.length, c, mv, lb, l, m, ls, ?_, h1, h2⟩
      exact ⟨⟨rfl, rfl⟩, rfl, rfl, rfl, rfl, rfl, rfl, rfl, rfl⟩
set_option maxRecDepth 100000 in
set_option maxHeartbeats 4000000 in
/-- Add of claims that have a key. -/
theorem mid_add_twice (R L B : Nat) (tk : List Value) (ws : World) (v2 v3 v4 v11 : Value) (i : Nat) (va : Option Addr) (n c : Nat) (mv : Value) (lb : List Value) (l : List (Cl × Nat)) (m : List (Cl × Value)) (ls : List Value) (X : Nat) (at' : Int) (ab a1 : Option Addr) (nb cb c1 kn : Nat) (kd ro ci cr cx cq : Int) (ks : List UInt8) (a : Act) (w : World)
    (hG : RG v2 v3 v4 v11 (.pointer (some ⟨R, 0, none⟩)) (.slice va n c) (.pointer (some ⟨L, 0, none⟩)) (.int .i64 (i : Int)) (.pointer (some ⟨X, 0, none⟩)) (.slice a1 kn c1) (.int .i64 at') (.bool (decide (0 ≤ ro ∧ ro < 8))) a) (hf : FindQ m ⟨ci, cr, cx, cq⟩ (.returned (.int .i64 at'))) (hrow : w.heap[X]? = some (.cells #[.int .i64 kd, .int .i64 ro, .int .i64 ci, .int .i64 cr, .int .i64 cx, .int .i64 cq, .slice ab nb cb] 40 (0, 0))) (hXR : X ≠ R) (hXL : X ≠ L) (hfit : (⟨kd, ro, ⟨ci, cr, cx, cq⟩, ks⟩ : Ac).fit) (hfb : FB R L w (.slice a1 kn c1) (ks.take 40)) (hS : RSt R L B tk mv lb l (.slice va n c) m ls w) (hkp : KP R L B ws w)
    (hkd : (IntKind.u64.wrap kd).tmod 5 = 0) (hok : okC ⟨ci, cr, cx, cq⟩ = true) (p : Nat) (ha : atC l ⟨ci, cr, cx, cq⟩ = some p) :
    Code.wp Tryz.prog (partIn Tryz.f3.body 1 14) (fun x a w => x = .normal ∧ MO R L B tk ws v2 v3 v4 v11 i a w) a w := by
  have S0 := Bx.mk (MS.mk (ab := ab) (nb := nb) (cb := cb) hS hkp hrow hfb)
  have HX := Bx.mk (And.intro hXR hXL)
  have HFt := Bx.mk hfit
  obtain ⟨k, hk, rfl, hkc⟩ := find_yes hS.srt hf ha
  have hn : n = m.length := by
    obtain ⟨a, c2, h⟩ := hS.own.form
    injection h
  subst hn
  have HTo := Bx.mk fun (W : World) => cto_any ⟨ci, cr, cx, cq⟩ W
  have HRi := Bx.mk fun (W : World) => cright_any ⟨ci, cr, cx, cq⟩ W
  have HAd := Bx.mk fun (pk : Nat) (W : World) (h : MS R L B X tk ws mv lb l (.slice va m.length c) m ls kd ro ci cr cx cq ab nb cb (.slice a1 kn c1) (ks.take 40) W) => ring_add_twice R B tk mv lb l ⟨ci, cr, cx, cq⟩ pk W h.st.ring h.st.map hfit.2.2.1 hok p ha
  have hk0 : (0 : Int) ≤ (k : Int) := by omega
  clear hf ha hkc hk
  clear hS hkp hrow hfb hXR hXL hfit
  obtain ⟨x, rfl, hx⟩ := open351 hG.fr
  have e2 := (hx 2).symm.trans hG.s2
  have e3 := (hx 3).symm.trans hG.s3
  have e4 := (hx 4).symm.trans hG.s4
  have e11 := (hx 11).symm.trans hG.s11
  have e12 := (hx 12).symm.trans hG.s12
  have e14 := (hx 14).symm.trans hG.s14
  have e15 := (hx 15).symm.trans hG.s15
  have e16 := (hx 16).symm.trans hG.s16
  have e17 := (hx 17).symm.trans hG.s17
  have e18 := (hx 18).symm.trans hG.s18
  have e19 := (hx 19).symm.trans hG.s19
  have e20 := (hx 20).symm.trans hG.s20
  clear hG hx
  rw [e2, e3, e4, e11, e12, e14, e15, e16, e17, e18, e19, e20]
  clear e2 e3 e4 e11 e12 e14 e15 e16 e17 e18 e19 e20
  have k0 : w.cell? ⟨X, 0, none⟩ = some (.int .i64 kd) := by rw [cell_of_row _ _ _ _ _ _ (S0.out.row)]; rfl
  have k1 : w.cell? ⟨X, 1, none⟩ = some (.int .i64 ro) := by rw [cell_of_row _ _ _ _ _ _ (S0.out.row)]; rfl
  have k2 : w.cell? ⟨X, 2, none⟩ = some (.int .i64 ci) := by rw [cell_of_row _ _ _ _ _ _ (S0.out.row)]; rfl
  have k3 : w.cell? ⟨X, 3, none⟩ = some (.int .i64 cr) := by rw [cell_of_row _ _ _ _ _ _ (S0.out.row)]; rfl
  have k4 : w.cell? ⟨X, 4, none⟩ = some (.int .i64 cx) := by rw [cell_of_row _ _ _ _ _ _ (S0.out.row)]; rfl
  have k5 : w.cell? ⟨X, 5, none⟩ = some (.int .i64 cq) := by rw [cell_of_row _ _ _ _ _ _ (S0.out.row)]; rfl
  have k6 : w.cell? ⟨X, 6, none⟩ = some (.slice ab nb cb) := by rw [cell_of_row _ _ _ _ _ _ (S0.out.row)]; rfl
  conv => arg 2; whnf
  by_cases h16 : m.length = 16
  · have h17 : (m.length : Int) = 16 := by omega
    clear h16
    go_wp2_with fail
    refine (HTo.out w).mono ?_
    rintro e w1 ⟨rfl, hb⟩
    have S1 := Bx.mk (S0.out.later hb)
    clear hb S0 k0 k1 k2 k3 k4 k5 k6
    go_wp2_with fail
    refine (new_any (ks.take 40) _ w1 S1.out.key.1 (by rw [List.length_take]; omega)).mono ?_
    rintro e w2 ⟨v', rfl, hk', hb⟩
    obtain ⟨pk, sk, hpk, -⟩ := id hk'
    subst hpk
    have S2 := Bx.mk (And.intro (S1.out.later hb) (And.intro hk' S1.out.st.low.2.2.2))
    clear hk' hb S1
    go_wp2_with fail
    refine (HAd.out pk w2 S2.out.1).mono ?_
    rintro e w3 ⟨rfl, hb⟩
    have S3 := Bx.mk (S2.out.1.later hb)
    clear hb S2 HAd
    have k0 : w3.cell? ⟨X, 0, none⟩ = some (.int .i64 kd) := by rw [cell_of_row _ _ _ _ _ _ (S3.out.row)]; rfl
    have k1 : w3.cell? ⟨X, 1, none⟩ = some (.int .i64 ro) := by rw [cell_of_row _ _ _ _ _ _ (S3.out.row)]; rfl
    have k2 : w3.cell? ⟨X, 2, none⟩ = some (.int .i64 ci) := by rw [cell_of_row _ _ _ _ _ _ (S3.out.row)]; rfl
    have k3 : w3.cell? ⟨X, 3, none⟩ = some (.int .i64 cr) := by rw [cell_of_row _ _ _ _ _ _ (S3.out.row)]; rfl
    have k4 : w3.cell? ⟨X, 4, none⟩ = some (.int .i64 cx) := by rw [cell_of_row _ _ _ _ _ _ (S3.out.row)]; rfl
    have k5 : w3.cell? ⟨X, 5, none⟩ = some (.int .i64 cq) := by rw [cell_of_row _ _ _ _ _ _ (S3.out.row)]; rfl
    have k6 : w3.cell? ⟨X, 6, none⟩ = some (.slice ab nb cb) := by rw [cell_of_row _ _ _ _ _ _ (S3.out.row)]; rfl
    go_wp2_with fail
    refine (HRi.out w3).mono ?_
    rintro e w4 ⟨rfl, hb⟩
    rw [hok]
    have S4 := Bx.mk (S3.out.later hb)
    clear hb S3 k0 k1 k2 k3 k4 k5 k6
    go_wp2
    have h1 := S4.out.st
    have h2 := S4.out.kp
    clear S4
    refine ⟨va, m.length, c, mv, lb, l, m, ls, ?_, h1, h2⟩
    exact ⟨⟨rfl, rfl⟩, rfl, rfl, rfl, rfl, rfl, rfl, rfl, rfl⟩
  · have h17 : ¬ (m.length : Int) = 16 := by omega
    clear h16
    go_wp2_with fail
    refine (HTo.out w).mono ?_
    rintro e w1 ⟨rfl, hb⟩
    have S1 := Bx.mk (S0.out.later hb)
    clear hb S0 k0 k1 k2 k3 k4 k5 k6
    go_wp2_with fail
    refine (new_any (ks.take 40) _ w1 S1.out.key.1 (by rw [List.length_take]; omega)).mono ?_
    rintro e w2 ⟨v', rfl, hk', hb⟩
    obtain ⟨pk, sk, hpk, -⟩ := id hk'
    subst hpk
    have S2 := Bx.mk (And.intro (S1.out.later hb) (And.intro hk' S1.out.st.low.2.2.2))
    clear hk' hb S1
    go_wp2_with fail
    refine (HAd.out pk w2 S2.out.1).mono ?_
    rintro e w3 ⟨rfl, hb⟩
    have S3 := Bx.mk (S2.out.1.later hb)
    clear hb S2 HAd
    have k0 : w3.cell? ⟨X, 0, none⟩ = some (.int .i64 kd) := by rw [cell_of_row _ _ _ _ _ _ (S3.out.row)]; rfl
    have k1 : w3.cell? ⟨X, 1, none⟩ = some (.int .i64 ro) := by rw [cell_of_row _ _ _ _ _ _ (S3.out.row)]; rfl
    have k2 : w3.cell? ⟨X, 2, none⟩ = some (.int .i64 ci) := by rw [cell_of_row _ _ _ _ _ _ (S3.out.row)]; rfl
    have k3 : w3.cell? ⟨X, 3, none⟩ = some (.int .i64 cr) := by rw [cell_of_row _ _ _ _ _ _ (S3.out.row)]; rfl
    have k4 : w3.cell? ⟨X, 4, none⟩ = some (.int .i64 cx) := by rw [cell_of_row _ _ _ _ _ _ (S3.out.row)]; rfl
    have k5 : w3.cell? ⟨X, 5, none⟩ = some (.int .i64 cq) := by rw [cell_of_row _ _ _ _ _ _ (S3.out.row)]; rfl
    have k6 : w3.cell? ⟨X, 6, none⟩ = some (.slice ab nb cb) := by rw [cell_of_row _ _ _ _ _ _ (S3.out.row)]; rfl
    go_wp2_with fail
    refine (HRi.out w3).mono ?_
    rintro e w4 ⟨rfl, hb⟩
    rw [hok]
    have S4 := Bx.mk (S3.out.later hb)
    clear hb S3 k0 k1 k2 k3 k4 k5 k6
    go_wp2
    have h1 := S4.out.st
    have h2 := S4.out.kp
    clear S4
    refine ⟨va, m.length, c, mv, lb, l, m, ls, ?_, h1, h2⟩
    exact ⟨⟨rfl, rfl⟩, rfl, rfl, rfl, rfl, rfl, rfl, rfl, rfl⟩
set_option maxRecDepth 100000 in
set_option maxHeartbeats 4000000 in
/-- Add to a ring that is full. -/
theorem mid_add_full (R L B : Nat) (tk : List Value) (ws : World) (v2 v3 v4 v11 : Value) (i : Nat) (va : Option Addr) (n c : Nat) (mv : Value) (lb : List Value) (l : List (Cl × Nat)) (m : List (Cl × Value)) (ls : List Value) (X : Nat) (at' : Int) (ab a1 : Option Addr) (nb cb c1 kn : Nat) (kd ro ci cr cx cq : Int) (ks : List UInt8) (a : Act) (w : World)
    (hG : RG v2 v3 v4 v11 (.pointer (some ⟨R, 0, none⟩)) (.slice va n c) (.pointer (some ⟨L, 0, none⟩)) (.int .i64 (i : Int)) (.pointer (some ⟨X, 0, none⟩)) (.slice a1 kn c1) (.int .i64 at') (.bool (decide (0 ≤ ro ∧ ro < 8))) a) (hf : FindQ m ⟨ci, cr, cx, cq⟩ (.returned (.int .i64 at'))) (hrow : w.heap[X]? = some (.cells #[.int .i64 kd, .int .i64 ro, .int .i64 ci, .int .i64 cr, .int .i64 cx, .int .i64 cq, .slice ab nb cb] 40 (0, 0))) (hXR : X ≠ R) (hXL : X ≠ L) (hfit : (⟨kd, ro, ⟨ci, cr, cx, cq⟩, ks⟩ : Ac).fit) (hfb : FB R L w (.slice a1 kn c1) (ks.take 40)) (hS : RSt R L B tk mv lb l (.slice va n c) m ls w) (hkp : KP R L B ws w)
    (hkd : (IntKind.u64.wrap kd).tmod 5 = 0) (hok : okC ⟨ci, cr, cx, cq⟩ = true) (ha : atC l ⟨ci, cr, cx, cq⟩ = none) (h16 : m.length = 16) :
    Code.wp Tryz.prog (partIn Tryz.f3.body 1 14) (fun x a w => x = .normal ∧ MO R L B tk ws v2 v3 v4 v11 i a w) a w := by
  have S0 := Bx.mk (MS.mk (ab := ab) (nb := nb) (cb := cb) hS hkp hrow hfb)
  have HX := Bx.mk (And.intro hXR hXL)
  have HFt := Bx.mk hfit
  obtain rfl : at' = -1 := find_no hS.map.nd hS.srt hf ha
  have hn : n = m.length := by
    obtain ⟨a, c2, h⟩ := hS.own.form
    injection h
  subst hn
  have HTo := Bx.mk fun (W : World) => cto_any ⟨ci, cr, cx, cq⟩ W
  have HRi := Bx.mk fun (W : World) => cright_any ⟨ci, cr, cx, cq⟩ W
  have HAd := Bx.mk fun (pk : Nat) (W : World) (h : MS R L B X tk ws mv lb l (.slice va m.length c) m ls kd ro ci cr cx cq ab nb cb (.slice a1 kn c1) (ks.take 40) W) => ring_add_full R B tk mv lb l ⟨ci, cr, cx, cq⟩ pk W h.st.ring h.st.map hfit.2.2.1 hok ha (by rw [map_len h.st.srt, h16]; exact Nat.le_refl _)
  have h17 : (m.length : Int) = 16 := by omega
  clear hf ha h16
  clear hS hkp hrow hfb hXR hXL hfit
  obtain ⟨x, rfl, hx⟩ := open351 hG.fr
  have e2 := (hx 2).symm.trans hG.s2
  have e3 := (hx 3).symm.trans hG.s3
  have e4 := (hx 4).symm.trans hG.s4
  have e11 := (hx 11).symm.trans hG.s11
  have e12 := (hx 12).symm.trans hG.s12
  have e14 := (hx 14).symm.trans hG.s14
  have e15 := (hx 15).symm.trans hG.s15
  have e16 := (hx 16).symm.trans hG.s16
  have e17 := (hx 17).symm.trans hG.s17
  have e18 := (hx 18).symm.trans hG.s18
  have e19 := (hx 19).symm.trans hG.s19
  have e20 := (hx 20).symm.trans hG.s20
  clear hG hx
  rw [e2, e3, e4, e11, e12, e14, e15, e16, e17, e18, e19, e20]
  clear e2 e3 e4 e11 e12 e14 e15 e16 e17 e18 e19 e20
  have k0 : w.cell? ⟨X, 0, none⟩ = some (.int .i64 kd) := by rw [cell_of_row _ _ _ _ _ _ (S0.out.row)]; rfl
  have k1 : w.cell? ⟨X, 1, none⟩ = some (.int .i64 ro) := by rw [cell_of_row _ _ _ _ _ _ (S0.out.row)]; rfl
  have k2 : w.cell? ⟨X, 2, none⟩ = some (.int .i64 ci) := by rw [cell_of_row _ _ _ _ _ _ (S0.out.row)]; rfl
  have k3 : w.cell? ⟨X, 3, none⟩ = some (.int .i64 cr) := by rw [cell_of_row _ _ _ _ _ _ (S0.out.row)]; rfl
  have k4 : w.cell? ⟨X, 4, none⟩ = some (.int .i64 cx) := by rw [cell_of_row _ _ _ _ _ _ (S0.out.row)]; rfl
  have k5 : w.cell? ⟨X, 5, none⟩ = some (.int .i64 cq) := by rw [cell_of_row _ _ _ _ _ _ (S0.out.row)]; rfl
  have k6 : w.cell? ⟨X, 6, none⟩ = some (.slice ab nb cb) := by rw [cell_of_row _ _ _ _ _ _ (S0.out.row)]; rfl
  conv => arg 2; whnf
  go_wp2_with fail
  refine (HTo.out w).mono ?_
  rintro e w1 ⟨rfl, hb⟩
  have S1 := Bx.mk (S0.out.later hb)
  clear hb S0 k0 k1 k2 k3 k4 k5 k6
  go_wp2_with fail
  refine (new_any (ks.take 40) _ w1 S1.out.key.1 (by rw [List.length_take]; omega)).mono ?_
  rintro e w2 ⟨v', rfl, hk', hb⟩
  obtain ⟨pk, sk, hpk, -⟩ := id hk'
  subst hpk
  have S2 := Bx.mk (And.intro (S1.out.later hb) (And.intro hk' S1.out.st.low.2.2.2))
  clear hk' hb S1
  go_wp2_with fail
  refine (HAd.out pk w2 S2.out.1).mono ?_
  rintro e w3 ⟨rfl, hb⟩
  have S3 := Bx.mk (S2.out.1.later hb)
  clear hb S2 HAd
  have k0 : w3.cell? ⟨X, 0, none⟩ = some (.int .i64 kd) := by rw [cell_of_row _ _ _ _ _ _ (S3.out.row)]; rfl
  have k1 : w3.cell? ⟨X, 1, none⟩ = some (.int .i64 ro) := by rw [cell_of_row _ _ _ _ _ _ (S3.out.row)]; rfl
  have k2 : w3.cell? ⟨X, 2, none⟩ = some (.int .i64 ci) := by rw [cell_of_row _ _ _ _ _ _ (S3.out.row)]; rfl
  have k3 : w3.cell? ⟨X, 3, none⟩ = some (.int .i64 cr) := by rw [cell_of_row _ _ _ _ _ _ (S3.out.row)]; rfl
  have k4 : w3.cell? ⟨X, 4, none⟩ = some (.int .i64 cx) := by rw [cell_of_row _ _ _ _ _ _ (S3.out.row)]; rfl
  have k5 : w3.cell? ⟨X, 5, none⟩ = some (.int .i64 cq) := by rw [cell_of_row _ _ _ _ _ _ (S3.out.row)]; rfl
  have k6 : w3.cell? ⟨X, 6, none⟩ = some (.slice ab nb cb) := by rw [cell_of_row _ _ _ _ _ _ (S3.out.row)]; rfl
  go_wp2_with fail
  refine (HRi.out w3).mono ?_
  rintro e w4 ⟨rfl, hb⟩
  rw [hok]
  have S4 := Bx.mk (S3.out.later hb)
  clear hb S3 k0 k1 k2 k3 k4 k5 k6
  go_wp2
  have h1 := S4.out.st
  have h2 := S4.out.kp
  clear S4
  refine ⟨va, m.length, c, mv, lb, l, m, ls, ?_, h1, h2⟩
  exact ⟨⟨rfl, rfl⟩, rfl, rfl, rfl, rfl, rfl, rfl, rfl, rfl⟩
end Go.Proofs.YtnefpjdjnjcmbaaGreatDoor
namespace Go.Proofs.YtnefpjdjnjcmbaaGreatDoor
open Go Go.RowKit
set_option maxRecDepth 100000 in
set_option maxHeartbeats 4000000 in
/-- Add. -/
theorem mid_add_ok (R L B : Nat) (tk : List Value) (ws : World) (v2 v3 v4 v11 : Value) (i : Nat) (va : Option Addr) (n c : Nat) (mv : Value) (lb : List Value) (l : List (Cl × Nat)) (m : List (Cl × Value)) (ls : List Value) (X : Nat) (at' : Int) (ab a1 : Option Addr) (nb cb c1 kn : Nat) (kd ro ci cr cx cq : Int) (ks : List UInt8) (a : Act) (w : World)
    (hG : RG v2 v3 v4 v11 (.pointer (some ⟨R, 0, none⟩)) (.slice va n c) (.pointer (some ⟨L, 0, none⟩)) (.int .i64 (i : Int)) (.pointer (some ⟨X, 0, none⟩)) (.slice a1 kn c1) (.int .i64 at') (.bool (decide (0 ≤ ro ∧ ro < 8))) a) (hf : FindQ m ⟨ci, cr, cx, cq⟩ (.returned (.int .i64 at'))) (hrow : w.heap[X]? = some (.cells #[.int .i64 kd, .int .i64 ro, .int .i64 ci, .int .i64 cr, .int .i64 cx, .int .i64 cq, .slice ab nb cb] 40 (0, 0))) (hXR : X ≠ R) (hXL : X ≠ L) (hfit : (⟨kd, ro, ⟨ci, cr, cx, cq⟩, ks⟩ : Ac).fit) (hfb : FB R L w (.slice a1 kn c1) (ks.take 40)) (hS : RSt R L B tk mv lb l (.slice va n c) m ls w) (hkp : KP R L B ws w)
    (hkd : (IntKind.u64.wrap kd).tmod 5 = 0) (hok : okC ⟨ci, cr, cx, cq⟩ = true) (ha : atC l ⟨ci, cr, cx, cq⟩ = none) (hl16 : m.length < 16) :
    Code.wp Tryz.prog (partIn Tryz.f3.body 1 14) (fun x a w => x = .normal ∧ MO R L B tk ws v2 v3 v4 v11 i a w) a w := by
  have S0 := Bx.mk (MS.mk (ab := ab) (nb := nb) (cb := cb) hS hkp hrow hfb)
  have HX := Bx.mk (And.intro hXR hXL)
  have HFt := Bx.mk hfit
  obtain rfl : at' = -1 := find_no hS.map.nd hS.srt hf ha
  have hn : n = m.length := by
    obtain ⟨a, c2, h⟩ := hS.own.form
    injection h
  subst hn
  have HTo := Bx.mk fun (W : World) => cto_any ⟨ci, cr, cx, cq⟩ W
  have HRi := Bx.mk fun (W : World) => cright_any ⟨ci, cr, cx, cq⟩ W
  have HAd := Bx.mk fun (v : Value) (W : World) (h : MS R L B X tk ws mv lb l (.slice va m.length c) m ls kd ro ci cr cx cq ab nb cb (.slice a1 kn c1) (ks.take 40) W) (hk : KeyO W B v (ks.take 40)) => ring_add_ok R B tk mv lb l ⟨ci, cr, cx, cq⟩ (ks.take 40) v W h.st.ring h.st.map h.st.low.1 h.st.low.2.2.2 hfit.2.2.1 hk (by rw [List.length_take]; omega) hok ha (by rw [map_len h.st.srt]; exact hl16)
  have hOne : Bx (∀ y ∈ m, y.2.oneCell' = true) := ⟨fun y hy => by
    obtain ⟨p, bs, -, -, h, -⟩ := hS.keys y hy
    obtain ⟨a, c, h1, -⟩ := h.1
    rw [h1]
    rfl⟩
  have h17 : ¬ (m.length : Int) = 16 := by omega
  clear hf ha
  clear hS hkp hrow hfb hXR hXL hfit
  obtain ⟨x, rfl, hx⟩ := open351 hG.fr
  have e2 := (hx 2).symm.trans hG.s2
  have e3 := (hx 3).symm.trans hG.s3
  have e4 := (hx 4).symm.trans hG.s4
  have e11 := (hx 11).symm.trans hG.s11
  have e12 := (hx 12).symm.trans hG.s12
  have e14 := (hx 14).symm.trans hG.s14
  have e15 := (hx 15).symm.trans hG.s15
  have e16 := (hx 16).symm.trans hG.s16
  have e17 := (hx 17).symm.trans hG.s17
  have e18 := (hx 18).symm.trans hG.s18
  have e19 := (hx 19).symm.trans hG.s19
  have e20 := (hx 20).symm.trans hG.s20
  clear hG hx
  rw [e2, e3, e4, e11, e12, e14, e15, e16, e17, e18, e19, e20]
  clear e2 e3 e4 e11 e12 e14 e15 e16 e17 e18 e19 e20
  have k0 : w.cell? ⟨X, 0, none⟩ = some (.int .i64 kd) := by rw [cell_of_row _ _ _ _ _ _ (S0.out.row)]; rfl
  have k1 : w.cell? ⟨X, 1, none⟩ = some (.int .i64 ro) := by rw [cell_of_row _ _ _ _ _ _ (S0.out.row)]; rfl
  have k2 : w.cell? ⟨X, 2, none⟩ = some (.int .i64 ci) := by rw [cell_of_row _ _ _ _ _ _ (S0.out.row)]; rfl
  have k3 : w.cell? ⟨X, 3, none⟩ = some (.int .i64 cr) := by rw [cell_of_row _ _ _ _ _ _ (S0.out.row)]; rfl
  have k4 : w.cell? ⟨X, 4, none⟩ = some (.int .i64 cx) := by rw [cell_of_row _ _ _ _ _ _ (S0.out.row)]; rfl
  have k5 : w.cell? ⟨X, 5, none⟩ = some (.int .i64 cq) := by rw [cell_of_row _ _ _ _ _ _ (S0.out.row)]; rfl
  have k6 : w.cell? ⟨X, 6, none⟩ = some (.slice ab nb cb) := by rw [cell_of_row _ _ _ _ _ _ (S0.out.row)]; rfl
  conv => arg 2; whnf
  go_wp2_with fail
  refine (HTo.out w).mono ?_
  rintro e w1 ⟨rfl, hb⟩
  have S1 := Bx.mk (S0.out.later hb)
  clear hb S0 k0 k1 k2 k3 k4 k5 k6
  go_wp2_with fail
  refine (new_any (ks.take 40) _ w1 S1.out.key.1 (by rw [List.length_take]; omega)).mono ?_
  rintro e w2 ⟨v', rfl, hk', hb⟩
  obtain ⟨pk, sk, hpk, -⟩ := id hk'
  subst hpk
  have S2 := Bx.mk (And.intro (S1.out.later hb) (And.intro hk' S1.out.st.low.2.2.2))
  clear hk' hb S1
  go_wp2_with fail
  refine (HAd.out _ w2 S2.out.1 (S2.out.2.1.weak S2.out.2.2)).mono ?_
  rintro e w3 ⟨rfl, hkp⟩
  obtain ⟨M9, p9, hr9, hM9, hm9, hko9, kp9⟩ := id hkp
  have HKp := Bx.mk hkp
  have HP3 : Bx (KP R L B w2 w3) := ⟨kp9.weaken⟩
  have HRow3 : Bx (w3.heap[X]? = some (.cells #[.int .i64 kd, .int .i64 ro, .int .i64 ci, .int .i64 cr, .int .i64 cx, .int .i64 cq, .slice ab nb cb] 40 (0, 0))) := ⟨HP3.out.block X _ S2.out.1.row HX.out.1 HX.out.2 (.inr rfl)⟩
  have HOw3 : Bx (OwnE w3 B (.slice va m.length c) m) := ⟨S2.out.1.st.own.keep HP3.out S2.out.1.st.low.1 S2.out.1.st.low.2.1⟩
  clear hr9 hM9 hm9 hko9 kp9 hkp HAd
  have k0 : w3.cell? ⟨X, 0, none⟩ = some (.int .i64 kd) := by rw [cell_of_row _ _ _ _ _ _ (HRow3.out)]; rfl
  have k1 : w3.cell? ⟨X, 1, none⟩ = some (.int .i64 ro) := by rw [cell_of_row _ _ _ _ _ _ (HRow3.out)]; rfl
  have k2 : w3.cell? ⟨X, 2, none⟩ = some (.int .i64 ci) := by rw [cell_of_row _ _ _ _ _ _ (HRow3.out)]; rfl
  have k3 : w3.cell? ⟨X, 3, none⟩ = some (.int .i64 cr) := by rw [cell_of_row _ _ _ _ _ _ (HRow3.out)]; rfl
  have k4 : w3.cell? ⟨X, 4, none⟩ = some (.int .i64 cx) := by rw [cell_of_row _ _ _ _ _ _ (HRow3.out)]; rfl
  have k5 : w3.cell? ⟨X, 5, none⟩ = some (.int .i64 cq) := by rw [cell_of_row _ _ _ _ _ _ (HRow3.out)]; rfl
  have k6 : w3.cell? ⟨X, 6, none⟩ = some (.slice ab nb cb) := by rw [cell_of_row _ _ _ _ _ _ (HRow3.out)]; rfl
  go_wp2_with fail
  refine (HRi.out w3).mono ?_
  rintro e w4 ⟨rfl, hb⟩
  rw [hok]
  have HB4 := Bx.mk hb
  have HRow4 : Bx (w4.heap[X]? = some (.cells #[.int .i64 kd, .int .i64 ro, .int .i64 ci, .int .i64 cr, .int .i64 cx, .int .i64 cq, .slice ab nb cb] 40 (0, 0))) := ⟨by rw [hb.block X (Array.getElem?_eq_some_iff.1 HRow3.out).1]; exact HRow3.out⟩
  have HOw4 := Bx.mk (HOw3.out.later hb)
  clear hb k0 k1 k2 k3 k4 k5 k6 HRow3 HOw3
  have k0 : w4.cell? ⟨X, 0, none⟩ = some (.int .i64 kd) := by rw [cell_of_row _ _ _ _ _ _ (HRow4.out)]; rfl
  have k1 : w4.cell? ⟨X, 1, none⟩ = some (.int .i64 ro) := by rw [cell_of_row _ _ _ _ _ _ (HRow4.out)]; rfl
  have k2 : w4.cell? ⟨X, 2, none⟩ = some (.int .i64 ci) := by rw [cell_of_row _ _ _ _ _ _ (HRow4.out)]; rfl
  have k3 : w4.cell? ⟨X, 3, none⟩ = some (.int .i64 cr) := by rw [cell_of_row _ _ _ _ _ _ (HRow4.out)]; rfl
  have k4 : w4.cell? ⟨X, 4, none⟩ = some (.int .i64 cx) := by rw [cell_of_row _ _ _ _ _ _ (HRow4.out)]; rfl
  have k5 : w4.cell? ⟨X, 5, none⟩ = some (.int .i64 cq) := by rw [cell_of_row _ _ _ _ _ _ (HRow4.out)]; rfl
  have k6 : w4.cell? ⟨X, 6, none⟩ = some (.slice ab nb cb) := by rw [cell_of_row _ _ _ _ _ _ (HRow4.out)]; rfl
  go_wp2_with fail
  refine (eadd_any B _ m ci cr cx cq (.slice a1 kn c1) w4 HOw4.out (by omega) rfl hOne.out).mono ?_
  rintro e w5 ⟨v5, rfl, ho5, hb⟩
  obtain ⟨a5, c5, hv5⟩ := ho5.form
  obtain ⟨mv9, l9, hst9⟩ := S2.out.1.st.add HKp.out (HB4.out.trans (hb.mono HB4.out.size)) (ho5.weak HB4.out.size) S2.out.1.key (by rw [List.length_take]; omega) hl16
  have hkp9 := S2.out.1.kp.trans (HP3.out.trans (KP.below (HB4.out.trans (hb.mono HB4.out.size))))
  subst hv5
  have Z1 := Bx.mk hst9
  have Z2 := Bx.mk hkp9
  clear hst9 hkp9 ho5 hb HKp HP3 HRow4 HOw4 HB4 S2 k0 k1 k2 k3 k4 k5 k6
  go_wp2
  refine ⟨_, _, _, mv9, lb, l9, _, ls, ?_, Z1.out, Z2.out⟩
  exact ⟨⟨rfl, rfl⟩, rfl, rfl, rfl, rfl, rfl, rfl, rfl, rfl⟩
end Go.Proofs.YtnefpjdjnjcmbaaGreatDoor
namespace Go.Proofs.YtnefpjdjnjcmbaaGreatDoor
open Go Go.RowKit
theorem kind5 (x : Int) : (IntKind.u64.wrap x).tmod 5 = 0 ∨ (IntKind.u64.wrap x).tmod 5 = 1 ∨ (IntKind.u64.wrap x).tmod 5 = 2 ∨ (IntKind.u64.wrap x).tmod 5 = 3 ∨ (IntKind.u64.wrap x).tmod 5 = 4 := by
  have h1 : 0 ≤ IntKind.u64.wrap x := by rw [IntKind.wrap_u64]; omega
  rw [Int.tmod_eq_emod_of_nonneg h1]
  omega
theorem ring_mid (R L B : Nat) (tk : List Value) (ws : World) (v2 v3 v4 : Value) (i : Nat) (G0 xt : Nat) (i0 ex0 s0 : Int) (sec : List Value) (htk : tk = .int .i64 i0 :: .int .i64 (xt : Int) :: .int .i64 ex0 :: .int .i64 s0 :: sec) (hG0 : ws.cell? ⟨G0, 1, none⟩ = some (.int .i64 (xt : Int))) (hGR : G0 ≠ R) (hGL : G0 ≠ L) (hx8 : xt < 256)
    (va : Option Addr) (n c : Nat) (mv : Value) (lb : List Value) (l : List (Cl × Nat)) (m : List (Cl × Value)) (ls : List Value) (X : Nat) (at' : Int) (ab a1 : Option Addr) (nb cb c1 kn : Nat) (ac : Ac) (a : Act) (w : World)
    (hG : RG v2 v3 v4 (.pointer (some ⟨G0, 0, none⟩)) (.pointer (some ⟨R, 0, none⟩)) (.slice va n c) (.pointer (some ⟨L, 0, none⟩)) (.int .i64 (i : Int)) (.pointer (some ⟨X, 0, none⟩)) (.slice a1 kn c1) (.int .i64 at') (.bool (decide (0 ≤ ac.ro ∧ ac.ro < 8))) a) (hf : FindQ m ac.c (.returned (.int .i64 at'))) (hrow : w.heap[X]? = some (.cells #[.int .i64 ac.kd, .int .i64 ac.ro, .int .i64 ac.c.id, .int .i64 ac.c.ro, .int .i64 ac.c.ex, .int .i64 ac.c.se, .slice ab nb cb] 40 (0, 0))) (hXR : X ≠ R) (hXL : X ≠ L) (hfit : ac.fit) (hfb : FB R L w (.slice a1 kn c1) (ac.k.take 40)) (hS : RSt R L B tk mv lb l (.slice va n c) m ls w) (hkp : KP R L B ws w) :
    Code.wp Tryz.prog (partIn Tryz.f3.body 1 14) (fun x a w => x = .normal ∧ MO R L B tk ws v2 v3 v4 (.pointer (some ⟨G0, 0, none⟩)) i a w) a w := by
  obtain ⟨kd, ro, ⟨ci, cr, cx, cq⟩, ks⟩ := ac
  simp only at hG hf hrow hfb
  rcases kind5 kd with hk | hk | hk | hk | hk
  · cases hok : okC ⟨ci, cr, cx, cq⟩ with
    | false => exact mid_add_bad R L B tk ws v2 v3 v4 (.pointer (some ⟨G0, 0, none⟩)) i va n c mv lb l m ls X at' ab a1 nb cb c1 kn kd ro ci cr cx cq ks a w hG hf hrow hXR hXL hfit hfb hS hkp hk hok
    | true =>
      cases ha : atC l ⟨ci, cr, cx, cq⟩ with
      | some p => exact mid_add_twice R L B tk ws v2 v3 v4 (.pointer (some ⟨G0, 0, none⟩)) i va n c mv lb l m ls X at' ab a1 nb cb c1 kn kd ro ci cr cx cq ks a w hG hf hrow hXR hXL hfit hfb hS hkp hk hok p ha
      | none =>
        by_cases h16 : m.length = 16
        · exact mid_add_full R L B tk ws v2 v3 v4 (.pointer (some ⟨G0, 0, none⟩)) i va n c mv lb l m ls X at' ab a1 nb cb c1 kn kd ro ci cr cx cq ks a w hG hf hrow hXR hXL hfit hfb hS hkp hk hok ha h16
        · exact mid_add_ok R L B tk ws v2 v3 v4 (.pointer (some ⟨G0, 0, none⟩)) i va n c mv lb l m ls X at' ab a1 nb cb c1 kn kd ro ci cr cx cq ks a w hG hf hrow hXR hXL hfit hfb hS hkp hk hok ha (by have := hS.few; omega)
  · cases ha : atC l ⟨ci, cr, cx, cq⟩ with
    | some p => exact mid_drop_some R L B tk ws v2 v3 v4 (.pointer (some ⟨G0, 0, none⟩)) i va n c mv lb l m ls X at' ab a1 nb cb c1 kn kd ro ci cr cx cq ks a w hG hf hrow hXR hXL hfit hfb hS hkp hk p ha
    | none => exact mid_drop_none R L B tk ws v2 v3 v4 (.pointer (some ⟨G0, 0, none⟩)) i va n c mv lb l m ls X at' ab a1 nb cb c1 kn kd ro ci cr cx cq ks a w hG hf hrow hXR hXL hfit hfb hS hkp hk ha
  · cases ha : atC l ⟨ci, cr, cx, cq⟩ with
    | some p => exact mid_from_some R L B tk ws v2 v3 v4 (.pointer (some ⟨G0, 0, none⟩)) i va n c mv lb l m ls X at' ab a1 nb cb c1 kn kd ro ci cr cx cq ks a w hG hf hrow hXR hXL hfit hfb hS hkp hk p ha
    | none => exact mid_from_none R L B tk ws v2 v3 v4 (.pointer (some ⟨G0, 0, none⟩)) i va n c mv lb l m ls X at' ab a1 nb cb c1 kn kd ro ci cr cx cq ks a w hG hf hrow hXR hXL hfit hfb hS hkp hk ha
  · by_cases hr : 0 ≤ ro ∧ ro < 8
    · obtain ⟨r, hro⟩ : ∃ r : Nat, ro = r := ⟨ro.toNat, by omega⟩
      cases hb : bitN xt r with
      | false => exact mid_learn_role R L B tk ws v2 v3 v4 (.pointer (some ⟨G0, 0, none⟩)) i va n c mv lb l m ls X at' ab a1 nb cb c1 kn kd ro ci cr cx cq ks a w hG hf hrow hXR hXL hfit hfb hS hkp hk r (by omega) hro G0 xt i0 ex0 s0 sec htk rfl hG0 hGR hGL hx8 hb
      | true => exact mid_learn_ok R L B tk ws v2 v3 v4 (.pointer (some ⟨G0, 0, none⟩)) i va n c mv lb l m ls X at' ab a1 nb cb c1 kn kd ro ci cr cx cq ks a w hG hf hrow hXR hXL hfit hfb hS hkp hk r (by omega) hro G0 xt i0 ex0 s0 sec htk rfl hG0 hGR hGL hx8 hb
    · exact mid_learn_out R L B tk ws v2 v3 v4 (.pointer (some ⟨G0, 0, none⟩)) i va n c mv lb l m ls X at' ab a1 nb cb c1 kn kd ro ci cr cx cq ks a w hG hf hrow hXR hXL hfit hfb hS hkp hk (by omega)
  · by_cases hr : 0 ≤ ro ∧ ro < 8
    · obtain ⟨r, hro⟩ : ∃ r : Nat, ro = r := ⟨ro.toNat, by omega⟩
      rcases hS.labs r (by omega) with h | ⟨p, bs, h, -⟩
      · exact mid_label_none R L B tk ws v2 v3 v4 (.pointer (some ⟨G0, 0, none⟩)) i va n c mv lb l m ls X at' ab a1 nb cb c1 kn kd ro ci cr cx cq ks a w hG hf hrow hXR hXL hfit hfb hS hkp hk r (by omega) hro h.1
      · exact mid_label_ok R L B tk ws v2 v3 v4 (.pointer (some ⟨G0, 0, none⟩)) i va n c mv lb l m ls X at' ab a1 nb cb c1 kn kd ro ci cr cx cq ks a w hG hf hrow hXR hXL hfit hfb hS hkp hk r (by omega) hro p h
    · exact mid_label_out R L B tk ws v2 v3 v4 (.pointer (some ⟨G0, 0, none⟩)) i va n c mv lb l m ls X at' ab a1 nb cb c1 kn kd ro ci cr cx cq ks a w hG hf hrow hXR hXL hfit hfb hS hkp hk (by omega)
set_option maxRecDepth 100000 in
set_option maxHeartbeats 4000000 in
theorem ring_last (R L B : Nat) (tk : List Value) (ws : World) (aa : Option Addr) (nl cl : Nat) (v3 v4 v11 : Value) (hn9 : nl ≤ 9223372036854775807) (Q : Exit → Act → World → Prop) (N : Act → World → Prop) (k : Nat) (hk : k = min nl 30) (a : Act) (w : World) (h : IO R L B tk ws (.slice aa nl cl) v3 v4 v11 k a w) (hq : ∀ a' w', IO R L B tk ws (.slice aa nl cl) v3 v4 v11 k a' w' → Q (.exit 0) a' w') :
    Code.wp Tryz.prog (loopAt (Tryz.f3.body) 0) (Exit.then N Q) a w := by
  obtain ⟨va, n, c, mv, lb, l, m, ls, hF, hS, hkp⟩ := h
  have HS := Bx.mk (And.intro hS hkp)
  have HQ := Bx.mk hq
  have hn1 : (nl : Int) ≤ 9223372036854775807 := by omega
  have hk3 : (k : Int) ≤ 30 := by omega
  have hc : k = nl ∨ (k = 30 ∧ 30 < nl) := by omega
  clear hS hkp hq hk hn9
  obtain ⟨x, rfl, hx⟩ := open351 hF.fr
  have e2 := (hx 2).symm.trans hF.s2
  have e3 := (hx 3).symm.trans hF.s3
  have e4 := (hx 4).symm.trans hF.s4
  have e11 := (hx 11).symm.trans hF.s11
  have e12 := (hx 12).symm.trans hF.s12
  have e14 := (hx 14).symm.trans hF.s14
  have e15 := (hx 15).symm.trans hF.s15
  have e16 := (hx 16).symm.trans hF.s16
  clear hF hx
  rw [e2, e3, e4, e11, e12, e14, e15, e16]
  clear e2 e3 e4 e11 e12 e14 e15 e16
  rcases hc with rfl | ⟨rfl, hlt⟩
  · conv => arg 2; whnf
    go_wp2
    exact HQ.out _ _ ⟨va, n, c, mv, lb, l, m, ls, ⟨⟨rfl, rfl⟩, rfl, rfl, rfl, rfl, rfl, rfl, rfl, rfl⟩, HS.out⟩
  · have hlt1 : (30 : Int) < (nl : Int) := by omega
    conv => arg 2; whnf
    go_wp2
    exact HQ.out _ _ ⟨va, n, c, mv, lb, l, m, ls, ⟨⟨rfl, rfl⟩, rfl, rfl, rfl, rfl, rfl, rfl, rfl, rfl⟩, HS.out⟩
theorem ring_loop (w0 ws : World) (R L B : Nat) (tk : List Value) (acs : List Ac) (aa : Option Addr) (nl cl : Nat) (v3 v4 : Value) (G0 xt : Nat) (i0 ex0 s0 : Int) (sec : List Value) (htk : tk = .int .i64 i0 :: .int .i64 (xt : Int) :: .int .i64 ex0 :: .int .i64 s0 :: sec) (hG0 : ws.cell? ⟨G0, 1, none⟩ = some (.int .i64 (xt : Int))) (hGR : G0 ≠ R) (hGL : G0 ≠ L) (hx8 : xt < 256) (hA : Acts w0 (.slice aa nl cl) acs) (hnl : acs.length = nl) (hb0 : Below w0.heap.size w0 ws) (hR0 : w0.heap.size ≤ R) (hL0 : w0.heap.size ≤ L) (hn9 : nl ≤ 9223372036854775807)
    (Q : Exit → Act → World → Prop) (a : Act) (w : World) (h : IO R L B tk ws (.slice aa nl cl) v3 v4 (.pointer (some ⟨G0, 0, none⟩)) 0 a w) (hq : ∀ k a' w', IO R L B tk ws (.slice aa nl cl) v3 v4 (.pointer (some ⟨G0, 0, none⟩)) k a' w' → Q (.exit 0) a' w') :
    Code.wp Tryz.prog (.loop (loopAt (Tryz.f3.body) 0)) Q a w :=
  wp_count (min nl 30) (fun k a w' => IO R L B tk ws (.slice aa nl cl) v3 v4 (.pointer (some ⟨G0, 0, none⟩)) k a w') 0 (Nat.zero_le _) h (fun k a w' hk hI =>
    ring_round w0 ws R L B tk acs aa nl cl v3 v4 (.pointer (some ⟨G0, 0, none⟩)) hA hnl hb0 hR0 hL0 hn9 Q k a w' (by omega) (by omega) hI (fun va n c mv lb l m ls X at' ab a1 nb cb c1 kn a' w' hG hf hrow hXR hXL hfit hfb hS hkp =>
      ring_mid R L B tk ws _ v3 v4 k G0 xt i0 ex0 s0 sec htk hG0 hGR hGL hx8 va n c mv lb l m ls X at' ab a1 nb cb c1 kn _ a' w' hG hf hrow hXR hXL hfit hfb hS hkp))
    (fun a w' hI => ring_last R L B tk ws aa nl cl v3 v4 _ hn9 Q _ (min nl 30) rfl a w' hI (fun a' w'' h1 => hq _ a' w'' h1))
end Go.Proofs.YtnefpjdjnjcmbaaGreatDoor
