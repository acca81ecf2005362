/-
  A window in a world that goes on; the chapter's example.
-/
import Derived.Test.YtoohcjdjmafliaaW10
import Derived.Test.YtoohcjdjmafliaaW3
namespace Go.Proofs.Ytoohcjdjmafliaa
open Go Go.RowKit
/-- A window that was made behind a world. -/
structure WP (w : World) (q : Nat) (s : Ws) (W : World) : Prop where
  below : Below w.heap.size w W
  win : WinB W q s
  ge : w.heap.size ≤ q
  ok : s.ok
theorem WP.later {w : World} {q : Nat} {s : Ws} {W W1 : World} (h : WP w q s W) (hb : Below W.heap.size W W1) : WP w q s W1 := ⟨h.below.trans (hb.mono h.below.size), h.win.later hb, h.ge, h.ok⟩
theorem WP.aside {w : World} {q p : Nat} {s : Ws} {W W1 : World} (h : WP w q s W) (hg : W.grownBy W1 (some p)) (hp : w.heap.size ≤ p) (hne : q ≠ p) : WP w q s W1 := ⟨h.below.trans (grown_belowW hg hp h.below.size), h.win.aside hg hne, h.ge, h.ok⟩
theorem WP.start (w : World) : WP w w.heap.size Ws.zero (w.alloc (.cells #[.int .i64 0, .int .i64 0, .int .u64 0] 27)) := ⟨below_a _, winB_new w, Nat.le_refl _, zero_ok⟩
theorem WP.take {w : World} {q : Nat} {s : Ws} {W : World} (h : WP w q s W) (n : Nn) : Calls Try.prog 12 #[.pointer (some ⟨q, 0, none⟩), nv n] W fun e W' => e = .returned (.int .i64 (lookW s n)) ∧ WP w q (takeW s n) W' ∧ W.grownBy W' (some q) := by
  refine (take_any12 q s n W h.win h.ok).mono ?_
  rintro e W' ⟨h1, h2, h3⟩
  exact ⟨h1, ⟨h.below.trans (grown_belowW h3 h.ge h.below.size), h2, h.ge, takeW_ok h.ok⟩, h3⟩
theorem WP.look {w : World} {q : Nat} {s : Ws} {W : World} (h : WP w q s W) (n : Nn) : Calls Try.prog 10 #[.pointer (some ⟨q, 0, none⟩), nv n] W fun e W' => e = .returned (.int .i64 (lookW s n)) ∧ WP w q s W' ∧ Below W.heap.size W W' := by
  refine (look_any q s n W h.win h.ok).mono ?_
  rintro e W' ⟨h1, h2⟩
  exact ⟨h1, h.later h2, h2⟩
theorem known12_facts : lookW Ws.zero ⟨1, 5⟩ = 0 ∧ lookW (takeW Ws.zero ⟨1, 5⟩) ⟨1, 3⟩ = 0 ∧ lookW (takeW (takeW Ws.zero ⟨1, 5⟩) ⟨1, 3⟩) ⟨1, 5⟩ = 8 ∧ lookW (takeW (takeW (takeW Ws.zero ⟨1, 5⟩) ⟨1, 3⟩) ⟨1, 5⟩) ⟨1, 70⟩ = 0 ∧ lookW (takeW (takeW (takeW (takeW Ws.zero ⟨1, 5⟩) ⟨1, 3⟩) ⟨1, 5⟩) ⟨1, 70⟩) ⟨1, 6⟩ = 9 := by decide +kernel
set_option maxRecDepth 100000 in
set_option maxHeartbeats 4000000 in
theorem known12_any (w : World) : Calls Try.prog 16 #[] w fun e w' => e = .returned (.bool true) ∧ Below w.heap.size w w' := by
  have HK := Bx.mk known12_facts
  have R0 := Bx.mk (WP.start w)
  go_enter Try.func16, Try.ntmps16
  go_wp2_with fail
  have T0 := R0.out.take ⟨1, 5⟩
  rw [HK.out.1] at T0
  refine T0.mono ?_
  rintro e w1 ⟨rfl, hw, -⟩
  have R1 := Bx.mk hw
  clear hw T0 R0
  go_wp2_with fail
  have T1 := R1.out.take ⟨1, 3⟩
  rw [HK.out.2.1] at T1
  refine T1.mono ?_
  rintro e w2 ⟨rfl, hw, -⟩
  have R2 := Bx.mk hw
  clear hw T1 R1
  go_wp2_with fail
  have T2 := R2.out.take ⟨1, 5⟩
  rw [HK.out.2.2.1] at T2
  refine T2.mono ?_
  rintro e w3 ⟨rfl, hw, -⟩
  have R3 := Bx.mk hw
  clear hw T2 R2
  go_wp2_with fail
  have T3 := R3.out.take ⟨1, 70⟩
  rw [HK.out.2.2.2.1] at T3
  refine T3.mono ?_
  rintro e w4 ⟨rfl, hw, -⟩
  have R4 := Bx.mk hw
  clear hw T3 R3
  go_wp2_with fail
  have T4 := R4.out.take ⟨1, 6⟩
  rw [HK.out.2.2.2.2] at T4
  refine T4.mono ?_
  rintro e w5 ⟨rfl, hw, -⟩
  have R5 := Bx.mk hw
  clear hw T4 R4
  go_wp2
  go_ret
  exact ⟨rfl, R5.out.below⟩
end Go.Proofs.Ytoohcjdjmafliaa
namespace Go.Proofs.Ytoohcjdjmafliaa
open Go Go.RowKit
set_option maxRecDepth 100000 in
theorem open95 {a : Act} (h : Fr 95 a) : ∃ x : Nat → Value, a = ⟨List.toArray (x 0 :: x 1 :: x 2 :: x 3 :: x 4 :: x 5 :: x 6 :: x 7 :: x 8 :: x 9 :: x 10 :: x 11 :: x 12 :: x 13 :: x 14 :: x 15 :: x 16 :: x 17 :: x 18 :: x 19 :: x 20 :: x 21 :: x 22 :: x 23 :: x 24 :: x 25 :: x 26 :: x 27 :: x 28 :: x 29 :: x 30 :: x 31 :: x 32 :: x 33 :: x 34 :: x 35 :: x 36 :: x 37 :: x 38 :: x 39 :: x 40 :: x 41 :: x 42 :: x 43 :: x 44 :: x 45 :: x 46 :: x 47 :: x 48 :: x 49 :: x 50 :: x 51 :: x 52 :: x 53 :: x 54 :: x 55 :: x 56 :: x 57 :: x 58 :: x 59 :: x 60 :: x 61 :: x 62 :: x 63 :: x 64 :: x 65 :: x 66 :: x 67 :: x 68 :: x 69 :: x 70 :: x 71 :: x 72 :: x 73 :: x 74 :: x 75 :: x 76 :: x 77 :: x 78 :: x 79 :: x 80 :: x 81 :: x 82 :: x 83 :: x 84 :: x 85 :: x 86 :: x 87 :: x 88 :: x 89 :: x 90 :: x 91 :: x 92 :: x 93 :: x 94 :: []), []⟩ ∧ ∀ i, a.eval (.tmp i) = x i := ⟨fun i => a.tmps.getD i undef, h.form, fun _ => rfl⟩
theorem lowC (a : Int) (m : Nat) (hm : 0 < m) (hm2 : m ≤ 1000000) : ∃ x : Nat, x < m ∧ wrap64 ((IntKind.u64.wrap a).tmod (m : Int)) = (x : Int) := by
  have h0 : 0 ≤ IntKind.u64.wrap a := by rw [IntKind.wrap_u64]; omega
  rw [Int.tmod_eq_emod_of_nonneg h0]
  generalize IntKind.u64.wrap a = z at h0
  have h1 := Int.emod_lt_of_pos z (show (0 : Int) < (m : Int) by omega)
  have h2 := Int.emod_nonneg z (show (m : Int) ≠ 0 by omega)
  refine ⟨(z % (m : Int)).toNat, by omega, ?_⟩
  rw [IntWalk.wrap64_in _ (by omega)]
  omega
/-- A window and a counter. -/
structure BC (w : World) (p q : Nat) (s : Ws) (n : Nn) (W : World) : Prop where
  wp : WP w q s W
  co : CouB W p n
  ge : w.heap.size ≤ p
  ne : p ≠ q
theorem BC.later {w : World} {p q : Nat} {s : Ws} {n : Nn} {W W1 : World} (h : BC w p q s n W) (hb : Below W.heap.size W W1) : BC w p q s n W1 := ⟨h.wp.later hb, h.co.later hb, h.ge, h.ne⟩
theorem BC.take {w : World} {p q : Nat} {s s1 : Ws} {n : Nn} {W W1 : World} (h : BC w p q s n W) (hw : WP w q s1 W1) (hg : W.grownBy W1 (some q)) : BC w p q s1 n W1 := ⟨hw, h.co.aside hg h.ne, h.ge, h.ne⟩
theorem BC.next {w : World} {p q : Nat} {s : Ws} {n n1 : Nn} {W W1 : World} (h : BC w p q s n W) (hc : CouB W1 p n1) (hg : W.grownBy W1 (some p)) : BC w p q s n1 W1 := ⟨h.wp.aside hg h.ge (fun e => h.ne e.symm), hc, h.ge, h.ne⟩
/-- What is known of a window: only lesser boots were taken. -/
def LowW (s : Ws) (boot : Int) : Prop := ∃ m, RelW m s ∧ s.n.b < boot
theorem LowW.take {s : Ws} {boot : Int} (h : LowW s boot) {x : Nn} (hx : x.b < boot) : LowW (takeW s x) boot := by
  obtain ⟨m, hr, hb⟩ := h
  by_cases h0 : lookW s x = 0
  · have h1 := hr.take h0
    refine ⟨m ++ [x], h1, ?_⟩
    rw [h1.lat, latN_snoc]
    split
    · exact hx
    · rw [← hr.lat]; exact hb
  · rw [hr.keep h0]; exact ⟨m, hr, hb⟩
/-- What is known of a window: nothing from a nonce on was taken. -/
def UpW (s : Ws) (n : Nn) : Prop := ∃ m, RelW m s ∧ lessN s.n n = true
theorem UpW.start {s : Ws} {boot c : Int} (h : LowW s boot) : UpW s ⟨boot, c⟩ := by
  obtain ⟨m, hr, hb⟩ := h
  exact ⟨m, hr, (lessN_iff _ _).2 (.inl hb)⟩
theorem UpW.take {s : Ws} {n n1 : Nn} (h : UpW s n) (hok : okN n = true) (hl : lessN n n1 = true) : lookW s n = 0 ∧ UpW (takeW s n) n1 := by
  obtain ⟨m, hr, hb⟩ := h
  have h0 := hr.up hok hb
  have h1 := hr.take h0
  refine ⟨h0, m ++ [n], h1, ?_⟩
  rw [h1.lat, latN_snoc, ← hr.lat, hb, if_pos rfl]
  exact hl
/-- What stays in the frame. -/
structure FC (boot n : Int) (v2 : Value) (p q : Nat) (a : Act) : Prop where
  fr : Fr 95 a
  s0 : a.eval (.tmp 0) = .int .i64 boot
  s1 : a.eval (.tmp 1) = .int .i64 n
  s2 : a.eval (.tmp 2) = v2
  s7 : a.eval (.tmp 7) = .pointer (some ⟨p, 0, none⟩)
  s9 : a.eval (.tmp 9) = .pointer (some ⟨q, 0, none⟩)
/-- Between two rounds of the first loop. -/
structure IC1 (w : World) (boot n : Int) (v2 : Value) (p q : Nat) (k : Nat) (a : Act) (W : World) : Prop where
  fc : FC boot n v2 p q a
  s10 : a.eval (.tmp 10) = .int .i64 (k : Int)
  st : ∃ s, BC w p q s ⟨boot, 0⟩ W ∧ LowW s boot
/-- Between two rounds of the second loop. -/
structure IC2 (w : World) (boot n : Int) (p q : Nat) (k : Nat) (a : Act) (W : World) : Prop where
  fc : ∃ v2, FC boot n v2 p q a
  s11 : a.eval (.tmp 11) = .int .i64 (k : Int)
  st : ∃ s, BC w p q s ⟨boot, (k : Int)⟩ W ∧ UpW s ⟨boot, (k : Int) + 1⟩
set_option maxRecDepth 100000 in
set_option maxHeartbeats 4000000 in
theorem roundC1 (w : World) (l : List Nn) (boot n : Int) (v2 : Value) (p q : Nat) (hv : NnsF w v2 l) (hn : l.length ≤ 9223372036854775807)
    (Q : Exit → Act → World → Prop) (k : Nat) (a : Act) (wr : World) (hk : k < l.length) (hk6 : k < 20) (h : IC1 w boot n v2 p q k a wr) :
    Code.wp Try.prog (loopAt (Try.f5.body) 0) (Exit.then (fun a' w' => IC1 w boot n v2 p q (k + 1) a' w') Q) a wr := by
  obtain ⟨hf, s10, s, hB, hL⟩ := h
  obtain ⟨b, o, cap, rfl⟩ := hv.1.start (by omega)
  have HD := Bx.mk (hv.1.cells k hk)
  obtain ⟨na, hna⟩ : ∃ na, l.length = na := ⟨_, rfl⟩
  rw [hna] at hk hn hf ⊢
  generalize l.getD k Nn.zero = x at *
  have HTo := Bx.mk fun (W : World) => to12_any x W
  have HTk := Bx.mk fun (W : World) (h : BC w p q s ⟨boot, 0⟩ W) => h.wp.take x
  have HLw := Bx.mk hL
  have R0 := Bx.mk hB
  have k1 : (k : Int) < 20 := by omega
  have k2 : (k : Int) < (na : Int) := by omega
  have k0 : (0 : Int) ≤ (k : Int) := by omega
  have m1 : (na : Int) ≤ 9223372036854775807 := by omega
  have hwk : IntKind.i64.wrap ((k : Int) + 1) = (k : Int) + 1 := by simp [IntKind.wrap_i64]; omega
  obtain ⟨y, rfl, hy⟩ := open95 hf.fr
  have e0 := (hy 0).symm.trans hf.s0
  have e1 := (hy 1).symm.trans hf.s1
  have e2 := (hy 2).symm.trans hf.s2
  have e7 := (hy 7).symm.trans hf.s7
  have e9 := (hy 9).symm.trans hf.s9
  have e10 := (hy 10).symm.trans s10
  clear hf hy s10 hk hk6 hn hna hB hL hv
  rw [e0, e1, e2, e7, e9, e10]
  clear e0 e1 e2 e7 e9 e10
  have c0 := (R0.out.wp.below.cell (p := ⟨b, o + k * 2, none⟩) (World.block_lt_of_cell? _ _ HD.out.1)).trans HD.out.1
  have c1 := (R0.out.wp.below.cell (p := ⟨b, o + k * 2 + 1, none⟩) (World.block_lt_of_cell? _ _ HD.out.2)).trans HD.out.2
  conv => arg 2; whnf
  obtain ⟨xb, xc⟩ := x
  unfold nv at HTo HTk
  simp only at HD c0 c1
  by_cases hx : xb < boot
  · have HX : Bx (LowW (takeW s ⟨xb, xc⟩) boot) := Bx.mk (HLw.out.take hx)
    go_wp2_with fail
    refine (HTo.out _).mono ?_
    rintro e w1 ⟨rfl, hb⟩
    have R1 := Bx.mk (R0.out.later hb)
    clear hb R0 c0 c1
    go_wp2_with fail
    refine (HTk.out _ R1.out).mono ?_
    rintro e w2 ⟨rfl, hw, hg⟩
    have R2 := Bx.mk (R1.out.take hw hg)
    clear hw hg R1
    go_wp2
    exact ⟨⟨⟨rfl, rfl⟩, rfl, rfl, rfl, rfl, rfl⟩, by first | rfl | go_num, _, R2.out, HX.out⟩
  · go_wp2
    exact ⟨⟨⟨rfl, rfl⟩, rfl, rfl, rfl, rfl, rfl⟩, by first | rfl | go_num, _, R0.out, HLw.out⟩
set_option maxRecDepth 100000 in
set_option maxHeartbeats 4000000 in
theorem lastC1 (w : World) (l : List Nn) (boot n : Int) (v2 : Value) (p q : Nat) (hv : NnsF w v2 l) (hn : l.length ≤ 9223372036854775807) (k : Nat) (hk : k ≤ l.length) (hk6 : k ≤ 20) (hend : l.length ≤ k ∨ k = 20)
    (Q : Exit → Act → World → Prop) (N : Act → World → Prop) (hq : ∀ a' w' s, FC boot n v2 p q a' → BC w p q s ⟨boot, 0⟩ w' → LowW s boot → Q (.exit 0) a' w') (a : Act) (wr : World) (h : IC1 w boot n v2 p q k a wr) :
    Code.wp Try.prog (loopAt (Try.f5.body) 0) (Exit.then N Q) a wr := by
  obtain ⟨hf, s10, s, hB, hL⟩ := h
  have HB := Bx.mk (And.intro hB hL)
  have HQ := Bx.mk hq
  obtain ⟨a0, cap, rfl⟩ := hv.1.form
  obtain ⟨na, hna⟩ : ∃ m, l.length = m := ⟨_, rfl⟩
  rw [hna] at hk hn hf hend HQ
  have k0 : (0 : Int) ≤ (k : Int) := by omega
  have m1 : (na : Int) ≤ 9223372036854775807 := by omega
  obtain ⟨y, rfl, hy⟩ := open95 hf.fr
  have e0 := (hy 0).symm.trans hf.s0
  have e1 := (hy 1).symm.trans hf.s1
  have e2 := (hy 2).symm.trans hf.s2
  have e7 := (hy 7).symm.trans hf.s7
  have e9 := (hy 9).symm.trans hf.s9
  have e10 := (hy 10).symm.trans s10
  clear hf hy s10 hB hL hq hv hna
  rw [e0, e1, e2, e7, e9, e10]
  clear e0 e1 e2 e7 e9 e10
  conv => arg 2; whnf
  by_cases hlt : k < na
  · have h1 : (k : Int) < (na : Int) := by omega
    have h2 : ¬ (k : Int) < 20 := by omega
    clear hend hlt hk hk6 hn
    go_wp2
    exact HQ.out _ _ s ⟨⟨rfl, rfl⟩, rfl, rfl, rfl, rfl, rfl⟩ HB.out.1 HB.out.2
  · have h1 : ¬ (k : Int) < (na : Int) := by omega
    clear hend hlt hk hk6 hn
    go_wp2
    exact HQ.out _ _ s ⟨⟨rfl, rfl⟩, rfl, rfl, rfl, rfl, rfl⟩ HB.out.1 HB.out.2
theorem loopC1 (w : World) (l : List Nn) (boot n : Int) (v2 : Value) (p q : Nat) (hv : NnsF w v2 l) (hn : l.length ≤ 9223372036854775807)
    (Q : Exit → Act → World → Prop) (a : Act) (wr : World) (h : IC1 w boot n v2 p q 0 a wr) (hq : ∀ a' w' s, FC boot n v2 p q a' → BC w p q s ⟨boot, 0⟩ w' → LowW s boot → Q (.exit 0) a' w') :
    Code.wp Try.prog (.loop (loopAt (Try.f5.body) 0)) Q a wr :=
  wp_count (min l.length 20) (fun k a w' => IC1 w boot n v2 p q k a w') 0 (Nat.zero_le _) h (fun k a w' hk hI => roundC1 w l boot n v2 p q hv hn Q k a w' (by omega) (by omega) hI) (fun a w' hI => lastC1 w l boot n v2 p q hv hn _ (by omega) (by omega) (by omega) Q _ hq a w' hI)
set_option maxRecDepth 100000 in
set_option maxHeartbeats 4000000 in
theorem roundC2 (w : World) (boot : Int) (nn : Nat) (p q : Nat) (hb : bootN boot = true) (hnn : nn < 20)
    (Q : Exit → Act → World → Prop) (k : Nat) (a : Act) (wr : World) (hk : k < nn) (h : IC2 w boot (nn : Int) p q k a wr) :
    Code.wp Try.prog (loopAt (Try.f5.body) 1) (Exit.then (fun a' w' => IC2 w boot (nn : Int) p q (k + 1) a' w') Q) a wr := by
  obtain ⟨⟨v2, hf⟩, s11, s, hB, hU⟩ := h
  have hb2 : 1 ≤ boot ∧ boot ≤ 65535 := of_decide_eq_true hb
  obtain ⟨hl0, hU2⟩ := hU.take (n1 := ⟨boot, ((k + 1 : Nat) : Int) + 1⟩) ((okN_iff _).2 ⟨hb2.1, hb2.2, by show 1 ≤ (k : Int) + 1; omega, by show (k : Int) + 1 ≤ 2147483647; omega⟩) ((lessN_iff _ _).2 (.inr ⟨rfl, by show (k : Int) + 1 < ((k + 1 : Nat) : Int) + 1; omega⟩))
  have HU2 := Bx.mk hU2
  have HNx := Bx.mk fun (W : World) (h : BC w p q s ⟨boot, (k : Int)⟩ W) => next_ok12 p ⟨boot, (k : Int)⟩ W h.co hb (by show (0 : Int) ≤ (k : Int); omega) (by show (k : Int) < 2147483647; omega)
  have HTk := Bx.mk fun (W : World) (h : BC w p q s ⟨boot, (k : Int) + 1⟩ W) => h.wp.take ⟨boot, (k : Int) + 1⟩
  rw [hl0] at HTk
  have HC : Bx (((k + 1 : Nat) : Int) = (k : Int) + 1) := Bx.mk (by omega)
  have R0 := Bx.mk hB
  have k2 : (k : Int) < (nn : Int) := by omega
  have k0 : (0 : Int) ≤ (k : Int) := by omega
  have hwk : IntKind.i64.wrap ((k : Int) + 1) = (k : Int) + 1 := by simp [IntKind.wrap_i64]; omega
  obtain ⟨y, rfl, hy⟩ := open95 hf.fr
  have e0 := (hy 0).symm.trans hf.s0
  have e1 := (hy 1).symm.trans hf.s1
  have e2 := (hy 2).symm.trans hf.s2
  have e7 := (hy 7).symm.trans hf.s7
  have e9 := (hy 9).symm.trans hf.s9
  have e11 := (hy 11).symm.trans s11
  clear hf hy s11 hk hnn hB hU hU2 hb hb2 hl0
  rw [e0, e1, e2, e7, e9, e11]
  clear e0 e1 e2 e7 e9 e11
  conv => arg 2; whnf
  unfold nv at HNx HTk
  simp only at HNx HTk
  go_wp2_with fail
  refine (HNx.out _ R0.out).mono ?_
  rintro e w1 ⟨rfl, hc, hg⟩
  have R1 : Bx (BC w p q s ⟨boot, (k : Int) + 1⟩ (w1.alloc (.cells #[.int .i64 boot, .int .i64 ((k : Int) + 1)] 24)) ∧ BoxN 24 w1.heap.size ⟨boot, (k : Int) + 1⟩ (w1.alloc (.cells #[.int .i64 boot, .int .i64 ((k : Int) + 1)] 24))) := Bx.mk ⟨(R0.out.next hc hg).later (below_a _), hnew _ _ _ rfl⟩
  clear hc hg R0
  skip -- M1
  go_wp2_with fail
  skip -- M2
  refine (HTk.out _ R1.out.1).mono ?_
  rintro e w2 ⟨rfl, hw, hg⟩
  have R2 := Bx.mk (R1.out.1.take hw hg)
  clear hw hg R1
  go_wp2
  exact ⟨⟨v2, ⟨⟨rfl, rfl⟩, rfl, rfl, rfl, rfl, rfl⟩⟩, by first | rfl | go_num, _, by rw [HC.out]; exact R2.out, HU2.out⟩
set_option maxRecDepth 100000 in
set_option maxHeartbeats 4000000 in
theorem loopC2 (w : World) (boot : Int) (nn : Nat) (p q : Nat) (hb : bootN boot = true) (hnn : nn < 20)
    (Q : Exit → Act → World → Prop) (a : Act) (wr : World) (h : IC2 w boot (nn : Int) p q 0 a wr) (hq : ∀ a' w', Fr 95 a' → Below w.heap.size w w' → Q (.exit 2) a' w') :
    Code.wp Try.prog (.loop (loopAt (Try.f5.body) 1)) Q a wr := by
  refine wp_count nn (fun k a w' => IC2 w boot (nn : Int) p q k a w') 0 (Nat.zero_le _) h (fun k a w' hk hI => roundC2 w boot nn p q hb hnn Q k a w' hk hI) (fun a w' hI => ?_)
  obtain ⟨⟨v2, hf⟩, s11, s, hB, hU⟩ := hI
  have HB := Bx.mk hB.wp.below
  have HQ := Bx.mk hq
  obtain ⟨y, rfl, hy⟩ := open95 hf.fr
  have e0 := (hy 0).symm.trans hf.s0
  have e1 := (hy 1).symm.trans hf.s1
  have e2 := (hy 2).symm.trans hf.s2
  have e7 := (hy 7).symm.trans hf.s7
  have e9 := (hy 9).symm.trans hf.s9
  have e11 := (hy 11).symm.trans s11
  clear hf hy s11 hB hU hq hb
  rw [e0, e1, e2, e7, e9, e11]
  clear e0 e1 e2 e7 e9 e11
  conv => arg 2; whnf
  go_wp2
  exact HQ.out _ _ ⟨rfl, rfl⟩ HB.out
end Go.Proofs.Ytoohcjdjmafliaa
namespace Go.Proofs.Ytoohcjdjmafliaa
open Go Go.RowKit
set_option maxRecDepth 100000 in
set_option maxHeartbeats 4000000 in
theorem wcounts_bad (boot n : Int) (v2 : Value) (w : World) (hb : bootN boot = false) :
    Calls Try.prog 5 #[.int .i64 boot, .int .i64 n, v2] w fun e w' => e = .returned (.bool true) ∧ Below w.heap.size w w' := by
  have HSt := Bx.mk fun (W : World) => start_bad boot W hb
  have HKn := Bx.mk fun (W : World) => known12_any W
  have hb2 : ¬ (1 ≤ boot ∧ boot ≤ 65535) := of_decide_eq_false hb
  by_cases h1 : boot < 1
  · clear hb hb2
    go_enter Try.func5, Try.ntmps5
    go_wp2_with fail
    refine (HSt.out _).mono ?_
    rintro e w1 ⟨rfl, rfl⟩
    go_wp2_with fail
    refine (HKn.out _).mono ?_
    rintro e w2 ⟨rfl, hb⟩
    have HB := Bx.mk hb
    clear hb
    go_wp2
    go_ret
    exact ⟨rfl, HB.out⟩
  · have h2 : 65535 < boot := by omega
    clear hb hb2
    go_enter Try.func5, Try.ntmps5
    go_wp2_with fail
    refine (HSt.out _).mono ?_
    rintro e w1 ⟨rfl, rfl⟩
    go_wp2_with fail
    refine (HKn.out _).mono ?_
    rintro e w2 ⟨rfl, hb⟩
    have HB := Bx.mk hb
    clear hb
    go_wp2
    go_ret
    exact ⟨rfl, HB.out⟩
theorem wcounts_ok (l : List Nn) (boot n : Int) (v2 : Value) (w : World) (hv : NnsF w v2 l) (hn : l.length ≤ 9223372036854775807) (hb : bootN boot = true) :
    Calls Try.prog 5 #[.int .i64 boot, .int .i64 n, v2] w fun e w' => e = .returned (.bool true) ∧ Below w.heap.size w w' := by
  obtain ⟨x, hx, ex⟩ := lowC n 20 (by omega) (by omega)
  have ex' : wrap64 ((IntKind.u64.wrap n).tmod 20) = (x : Int) := ex
  have HSt := Bx.mk fun (W : World) => start_ok boot W hb
  have HBo := Bx.mk fun (p : Nat) (W : World) (h : CouB W p ⟨boot, 0⟩) => cboot_any p ⟨boot, 0⟩ W h
  have HKn := Bx.mk fun (W : World) => known12_any W
  have H1 := Bx.mk fun (p q : Nat) (Q : Exit → Act → World → Prop) (a : Act) (wr : World) => loopC1 w l boot n v2 p q hv hn Q a wr
  have H2 := Bx.mk fun (p q : Nat) (Q : Exit → Act → World → Prop) (a : Act) (wr : World) => loopC2 w boot x p q hb hx Q a wr
  have HB0 := Bx.mk hb
  have hb2 : 1 ≤ boot ∧ boot ≤ 65535 := of_decide_eq_true hb
  have h1 : ¬ boot < 1 := by omega
  have h2 : ¬ 65535 < boot := by omega
  clear hv hn hb ex hx hb2
  go_enter Try.func5, Try.ntmps5
  go_wp2_with fail
  refine (HSt.out _).mono ?_
  rintro e w1 ⟨rfl, hc, hb⟩
  have R1 := Bx.mk (And.intro hc hb)
  clear hc hb HSt
  go_wp2_with fail
  refine (HBo.out _ _ R1.out.1).mono ?_
  rintro e w2 ⟨rfl, rfl⟩
  have R2 : Bx (BC w w.heap.size w1.heap.size Ws.zero ⟨boot, 0⟩ (w1.alloc (.cells #[.int .i64 0, .int .i64 0, .int .u64 0] 27))) := Bx.mk (by
    have h1 := R1.out.2.size
    have h2 := R1.out.1.lt
    exact ⟨⟨R1.out.2.trans ((below_a _).mono h1), winB_new w1, h1, zero_ok⟩, R1.out.1.later (below_a _), Nat.le_refl _, by omega⟩)
  have HLo : Bx (LowW Ws.zero boot) := Bx.mk ⟨[], RelW.start, by show (0 : Int) < boot; omega⟩
  clear R1 HBo
  go_wp2
  skip -- M1
  refine H1.out w.heap.size w1.heap.size _ _ _ ⟨⟨⟨rfl, rfl⟩, rfl, rfl, rfl, rfl, rfl⟩, rfl, _, R2.out, HLo.out⟩ ?_
  intro a6 w6 s hf hB hL
  have R6 := Bx.mk (And.intro hB hL)
  obtain ⟨y, rfl, hy⟩ := open95 hf.fr
  have e0 := (hy 0).symm.trans hf.s0
  have e1 := (hy 1).symm.trans hf.s1
  have e2 := (hy 2).symm.trans hf.s2
  have e7 := (hy 7).symm.trans hf.s7
  have e9 := (hy 9).symm.trans hf.s9
  clear hf hy hB hL R2 HLo H1
  rw [e0, e1, e2, e7, e9]
  clear e0 e1 e2 e7 e9
  go_wp2
  rw [ex']
  skip -- M2
  refine H2.out w.heap.size w1.heap.size _ _ _ ⟨⟨_, ⟨⟨rfl, rfl⟩, rfl, rfl, rfl, rfl, rfl⟩⟩, rfl, s, R6.out.1, UpW.start R6.out.2⟩ ?_
  intro a7 w7 hf hb
  have HB := Bx.mk hb
  clear hb H2 R6
  obtain ⟨y, rfl, hx⟩ := open95 hf
  clear hf hx
  go_wp2_with fail
  refine (HKn.out w7).mono ?_
  rintro e w8 ⟨rfl, hb⟩
  have HB8 := Bx.mk (HB.out.trans (hb.mono HB.out.size))
  clear hb HB
  go_wp2
  go_ret
  exact ⟨rfl, HB8.out⟩
theorem wcounts_all (l : List Nn) (boot n : Int) (v2 : Value) (w : World) (hv : NnsF w v2 l) (hn : l.length ≤ 9223372036854775807) :
    Calls Try.prog 5 #[.int .i64 boot, .int .i64 n, v2] w fun e w' => e = .returned (.bool true) ∧ Below w.heap.size w w' := by
  cases hb : bootN boot with
  | false => exact wcounts_bad boot n v2 w hb
  | true => exact wcounts_ok l boot n v2 w hv hn hb
end Go.Proofs.Ytoohcjdjmafliaa
namespace Go.Proofs.Ytoohcjdjmafliaa
open Go
/-- A world to begin with. -/
noncomputable def laidWorld (os : Os) : World := World.holding Try.prog os ⟨#[], #[], []⟩
end Go.Proofs.Ytoohcjdjmafliaa
