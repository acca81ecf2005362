/-
  The loop of KeysRing.
-/
import Derived.Test.YtnefpjdjnjcmbaaGreatDoorR12
namespace Go.Proofs.YtnefpjdjnjcmbaaGreatDoor
open Go Go.RowKit
theorem kind5 (x : Int) : (IntKind.u64.wrap x).tmod 5 = 0 ∨ (IntKind.u64.wrap x).tmod 5 = 1 ∨ (IntKind.u64.wrap x).tmod 5 = 2 ∨ (IntKind.u64.wrap x).tmod 5 = 3 ∨ (IntKind.u64.wrap x).tmod 5 = 4 := by
  have h1 : 0 ≤ IntKind.u64.wrap x := by rw [IntKind.wrap_u64]; omega
  rw [Int.tmod_eq_emod_of_nonneg h1]
  omega
theorem ring_mid (R L B : Nat) (tk : List Value) (ws : World) (v2 v3 v4 : Value) (i : Nat) (G0 xt : Nat) (i0 ex0 s0 : Int) (sec : List Value) (htk : tk = .int .i64 i0 :: .int .i64 (xt : Int) :: .int .i64 ex0 :: .int .i64 s0 :: sec) (hG0 : ws.cell? ⟨G0, 1, none⟩ = some (.int .i64 (xt : Int))) (hGR : G0 ≠ R) (hGL : G0 ≠ L) (hx8 : xt < 256)
    (va : Option Addr) (n c : Nat) (mv : Value) (lb : List Value) (l : List (Cl × Nat)) (m : List (Cl × Value)) (ls : List Value) (X : Nat) (at' : Int) (ab a1 : Option Addr) (nb cb c1 kn : Nat) (ac : Ac) (a : Act) (w : World)
    (hG : RG v2 v3 v4 (.pointer (some ⟨G0, 0, none⟩)) (.pointer (some ⟨R, 0, none⟩)) (.slice va n c) (.pointer (some ⟨L, 0, none⟩)) (.int .i64 (i : Int)) (.pointer (some ⟨X, 0, none⟩)) (.slice a1 kn c1) (.int .i64 at') (.bool (decide (0 ≤ ac.ro ∧ ac.ro < 8))) a) (hf : FindQ m ac.c (.returned (.int .i64 at'))) (hrow : w.heap[X]? = some (.cells #[.int .i64 ac.kd, .int .i64 ac.ro, .int .i64 ac.c.id, .int .i64 ac.c.ro, .int .i64 ac.c.ex, .int .i64 ac.c.se, .slice ab nb cb] 40 (0, 0))) (hXR : X ≠ R) (hXL : X ≠ L) (hfit : ac.fit) (hfb : FB R L w (.slice a1 kn c1) (ac.k.take 40)) (hS : RSt R L B tk mv lb l (.slice va n c) m ls w) (hkp : KP R L B ws w) :
    Code.wp Tryz.prog (partIn Tryz.f3.body 1 14) (fun x a w => x = .normal ∧ MO R L B tk ws v2 v3 v4 (.pointer (some ⟨G0, 0, none⟩)) i a w) a w := by
  obtain ⟨kd, ro, ⟨ci, cr, cx, cq⟩, ks⟩ := ac
  simp only at hG hf hrow hfb
  rcases kind5 kd with hk | hk | hk | hk | hk
  · cases hok : okC ⟨ci, cr, cx, cq⟩ with
    | false => exact mid_add_bad R L B tk ws v2 v3 v4 (.pointer (some ⟨G0, 0, none⟩)) i va n c mv lb l m ls X at' ab a1 nb cb c1 kn kd ro ci cr cx cq ks a w hG hf hrow hXR hXL hfit hfb hS hkp hk hok
    | true =>
      cases ha : atC l ⟨ci, cr, cx, cq⟩ with
      | some p => exact mid_add_twice R L B tk ws v2 v3 v4 (.pointer (some ⟨G0, 0, none⟩)) i va n c mv lb l m ls X at' ab a1 nb cb c1 kn kd ro ci cr cx cq ks a w hG hf hrow hXR hXL hfit hfb hS hkp hk hok p ha
      | none =>
        by_cases h16 : m.length = 16
        · exact mid_add_full R L B tk ws v2 v3 v4 (.pointer (some ⟨G0, 0, none⟩)) i va n c mv lb l m ls X at' ab a1 nb cb c1 kn kd ro ci cr cx cq ks a w hG hf hrow hXR hXL hfit hfb hS hkp hk hok ha h16
        · exact mid_add_ok R L B tk ws v2 v3 v4 (.pointer (some ⟨G0, 0, none⟩)) i va n c mv lb l m ls X at' ab a1 nb cb c1 kn kd ro ci cr cx cq ks a w hG hf hrow hXR hXL hfit hfb hS hkp hk hok ha (by have := hS.few; omega)
  · cases ha : atC l ⟨ci, cr, cx, cq⟩ with
    | some p => exact mid_drop_some R L B tk ws v2 v3 v4 (.pointer (some ⟨G0, 0, none⟩)) i va n c mv lb l m ls X at' ab a1 nb cb c1 kn kd ro ci cr cx cq ks a w hG hf hrow hXR hXL hfit hfb hS hkp hk p ha
    | none => exact mid_drop_none R L B tk ws v2 v3 v4 (.pointer (some ⟨G0, 0, none⟩)) i va n c mv lb l m ls X at' ab a1 nb cb c1 kn kd ro ci cr cx cq ks a w hG hf hrow hXR hXL hfit hfb hS hkp hk ha
  · cases ha : atC l ⟨ci, cr, cx, cq⟩ with
    | some p => exact mid_from_some R L B tk ws v2 v3 v4 (.pointer (some ⟨G0, 0, none⟩)) i va n c mv lb l m ls X at' ab a1 nb cb c1 kn kd ro ci cr cx cq ks a w hG hf hrow hXR hXL hfit hfb hS hkp hk p ha
    | none => exact mid_from_none R L B tk ws v2 v3 v4 (.pointer (some ⟨G0, 0, none⟩)) i va n c mv lb l m ls X at' ab a1 nb cb c1 kn kd ro ci cr cx cq ks a w hG hf hrow hXR hXL hfit hfb hS hkp hk ha
  · by_cases hr : 0 ≤ ro ∧ ro < 8
    · obtain ⟨r, hro⟩ : ∃ r : Nat, ro = r := ⟨ro.toNat, by omega⟩
      cases hb : bitN xt r with
      | false => exact mid_learn_role R L B tk ws v2 v3 v4 (.pointer (some ⟨G0, 0, none⟩)) i va n c mv lb l m ls X at' ab a1 nb cb c1 kn kd ro ci cr cx cq ks a w hG hf hrow hXR hXL hfit hfb hS hkp hk r (by omega) hro G0 xt i0 ex0 s0 sec htk rfl hG0 hGR hGL hx8 hb
      | true => exact mid_learn_ok R L B tk ws v2 v3 v4 (.pointer (some ⟨G0, 0, none⟩)) i va n c mv lb l m ls X at' ab a1 nb cb c1 kn kd ro ci cr cx cq ks a w hG hf hrow hXR hXL hfit hfb hS hkp hk r (by omega) hro G0 xt i0 ex0 s0 sec htk rfl hG0 hGR hGL hx8 hb
    · exact mid_learn_out R L B tk ws v2 v3 v4 (.pointer (some ⟨G0, 0, none⟩)) i va n c mv lb l m ls X at' ab a1 nb cb c1 kn kd ro ci cr cx cq ks a w hG hf hrow hXR hXL hfit hfb hS hkp hk (by omega)
  · by_cases hr : 0 ≤ ro ∧ ro < 8
    · obtain ⟨r, hro⟩ : ∃ r : Nat, ro = r := ⟨ro.toNat, by omega⟩
      rcases hS.labs r (by omega) with h | ⟨p, bs, h, -⟩
      · exact mid_label_none R L B tk ws v2 v3 v4 (.pointer (some ⟨G0, 0, none⟩)) i va n c mv lb l m ls X at' ab a1 nb cb c1 kn kd ro ci cr cx cq ks a w hG hf hrow hXR hXL hfit hfb hS hkp hk r (by omega) hro h.1
      · exact mid_label_ok R L B tk ws v2 v3 v4 (.pointer (some ⟨G0, 0, none⟩)) i va n c mv lb l m ls X at' ab a1 nb cb c1 kn kd ro ci cr cx cq ks a w hG hf hrow hXR hXL hfit hfb hS hkp hk r (by omega) hro p h
    · exact mid_label_out R L B tk ws v2 v3 v4 (.pointer (some ⟨G0, 0, none⟩)) i va n c mv lb l m ls X at' ab a1 nb cb c1 kn kd ro ci cr cx cq ks a w hG hf hrow hXR hXL hfit hfb hS hkp hk (by omega)
set_option maxRecDepth 100000 in
set_option maxHeartbeats 4000000 in
theorem ring_last (R L B : Nat) (tk : List Value) (ws : World) (aa : Option Addr) (nl cl : Nat) (v3 v4 v11 : Value) (hn9 : nl ≤ 9223372036854775807) (Q : Exit → Act → World → Prop) (N : Act → World → Prop) (k : Nat) (hk : k = min nl 30) (a : Act) (w : World) (h : IO R L B tk ws (.slice aa nl cl) v3 v4 v11 k a w) (hq : ∀ a' w', IO R L B tk ws (.slice aa nl cl) v3 v4 v11 k a' w' → Q (.exit 0) a' w') :
    Code.wp Tryz.prog (loopAt (Tryz.f3.body) 0) (Exit.then N Q) a w := by
  obtain ⟨va, n, c, mv, lb, l, m, ls, hF, hS, hkp⟩ := h
  have HS := Bx.mk (And.intro hS hkp)
  have HQ := Bx.mk hq
  have hn1 : (nl : Int) ≤ 9223372036854775807 := by omega
  have hk3 : (k : Int) ≤ 30 := by omega
  have hc : k = nl ∨ (k = 30 ∧ 30 < nl) := by omega
  clear hS hkp hq hk hn9
  obtain ⟨x, rfl, hx⟩ := open351 hF.fr
  have e2 := (hx 2).symm.trans hF.s2
  have e3 := (hx 3).symm.trans hF.s3
  have e4 := (hx 4).symm.trans hF.s4
  have e11 := (hx 11).symm.trans hF.s11
  have e12 := (hx 12).symm.trans hF.s12
  have e14 := (hx 14).symm.trans hF.s14
  have e15 := (hx 15).symm.trans hF.s15
  have e16 := (hx 16).symm.trans hF.s16
  clear hF hx
  rw [e2, e3, e4, e11, e12, e14, e15, e16]
  clear e2 e3 e4 e11 e12 e14 e15 e16
  rcases hc with rfl | ⟨rfl, hlt⟩
  · conv => arg 2; whnf
    go_wp2
    exact HQ.out _ _ ⟨va, n, c, mv, lb, l, m, ls, ⟨⟨rfl, rfl⟩, rfl, rfl, rfl, rfl, rfl, rfl, rfl, rfl⟩, HS.out⟩
  · have hlt1 : (30 : Int) < (nl : Int) := by omega
    conv => arg 2; whnf
    go_wp2
    exact HQ.out _ _ ⟨va, n, c, mv, lb, l, m, ls, ⟨⟨rfl, rfl⟩, rfl, rfl, rfl, rfl, rfl, rfl, rfl, rfl⟩, HS.out⟩
theorem ring_loop (w0 ws : World) (R L B : Nat) (tk : List Value) (acs : List Ac) (aa : Option Addr) (nl cl : Nat) (v3 v4 : Value) (G0 xt : Nat) (i0 ex0 s0 : Int) (sec : List Value) (htk : tk = .int .i64 i0 :: .int .i64 (xt : Int) :: .int .i64 ex0 :: .int .i64 s0 :: sec) (hG0 : ws.cell? ⟨G0, 1, none⟩ = some (.int .i64 (xt : Int))) (hGR : G0 ≠ R) (hGL : G0 ≠ L) (hx8 : xt < 256) (hA : Acts w0 (.slice aa nl cl) acs) (hnl : acs.length = nl) (hb0 : Below w0.heap.size w0 ws) (hR0 : w0.heap.size ≤ R) (hL0 : w0.heap.size ≤ L) (hn9 : nl ≤ 9223372036854775807)
    (Q : Exit → Act → World → Prop) (a : Act) (w : World) (h : IO R L B tk ws (.slice aa nl cl) v3 v4 (.pointer (some ⟨G0, 0, none⟩)) 0 a w) (hq : ∀ k a' w', IO R L B tk ws (.slice aa nl cl) v3 v4 (.pointer (some ⟨G0, 0, none⟩)) k a' w' → Q (.exit 0) a' w') :
    Code.wp Tryz.prog (.loop (loopAt (Tryz.f3.body) 0)) Q a w :=
  wp_count (min nl 30) (fun k a w' => IO R L B tk ws (.slice aa nl cl) v3 v4 (.pointer (some ⟨G0, 0, none⟩)) k a w') 0 (Nat.zero_le _) h (fun k a w' hk hI =>
    ring_round w0 ws R L B tk acs aa nl cl v3 v4 (.pointer (some ⟨G0, 0, none⟩)) hA hnl hb0 hR0 hL0 hn9 Q k a w' (by omega) (by omega) hI (fun va n c mv lb l m ls X at' ab a1 nb cb c1 kn a' w' hG hf hrow hXR hXL hfit hfb hS hkp =>
      ring_mid R L B tk ws _ v3 v4 k G0 xt i0 ex0 s0 sec htk hG0 hGR hGL hx8 va n c mv lb l m ls X at' ab a1 nb cb c1 kn _ a' w' hG hf hrow hXR hXL hfit hfb hS hkp))
    (fun a w' hI => ring_last R L B tk ws aa nl cl v3 v4 _ hn9 Q _ (min nl 30) rfl a w' hI (fun a' w'' h1 => hq _ a' w'' h1))
end Go.Proofs.YtnefpjdjnjcmbaaGreatDoor
