/-
  WindowPlays: what it carries; a round of its first loop.
-/
import Derived.Test.YtoohcjdjmafliaaW11
import Derived.Test.YtoohcjdjmafliaaW2
namespace Go.Proofs.Ytoohcjdjmafliaa
open Go Go.RowKit
set_option maxRecDepth 100000 in
theorem open104 {a : Act} (h : Fr 104 a) : ∃ x : Nat → Value, a = ⟨List.toArray (x 0 :: x 1 :: x 2 :: x 3 :: x 4 :: x 5 :: x 6 :: x 7 :: x 8 :: x 9 :: x 10 :: x 11 :: x 12 :: x 13 :: x 14 :: x 15 :: x 16 :: x 17 :: x 18 :: x 19 :: x 20 :: x 21 :: x 22 :: x 23 :: x 24 :: x 25 :: x 26 :: x 27 :: x 28 :: x 29 :: x 30 :: x 31 :: x 32 :: x 33 :: x 34 :: x 35 :: x 36 :: x 37 :: x 38 :: x 39 :: x 40 :: x 41 :: x 42 :: x 43 :: x 44 :: x 45 :: x 46 :: x 47 :: x 48 :: x 49 :: x 50 :: x 51 :: x 52 :: x 53 :: x 54 :: x 55 :: x 56 :: x 57 :: x 58 :: x 59 :: x 60 :: x 61 :: x 62 :: x 63 :: x 64 :: x 65 :: x 66 :: x 67 :: x 68 :: x 69 :: x 70 :: x 71 :: x 72 :: x 73 :: x 74 :: x 75 :: x 76 :: x 77 :: x 78 :: x 79 :: x 80 :: x 81 :: x 82 :: x 83 :: x 84 :: x 85 :: x 86 :: x 87 :: x 88 :: x 89 :: x 90 :: x 91 :: x 92 :: x 93 :: x 94 :: x 95 :: x 96 :: x 97 :: x 98 :: x 99 :: x 100 :: x 101 :: x 102 :: x 103 :: []), []⟩ ∧ ∀ i, a.eval (.tmp i) = x i := ⟨fun i => a.tmps.getD i undef, h.form, fun _ => rfl⟩
/-- A window, and a row of what was taken. -/
structure BPl (w : World) (q : Nat) (s : Ws) (vm : Value) (m : List Nn) (W : World) : Prop where
  wp : WP w q s W
  own : OwnN 29 W w.heap.size vm m
  rel : RelW m s
theorem BPl.later {w : World} {q : Nat} {s : Ws} {vm : Value} {m : List Nn} {W W1 : World} (h : BPl w q s vm m W) (hb : Below W.heap.size W W1) : BPl w q s vm m W1 := ⟨h.wp.later hb, h.own.later hb, h.rel⟩
theorem kindRW : 29 ≠ 27 := by decide
theorem kindWW : 24 ≠ 27 := by decide
theorem kindRN : 29 ≠ 24 := by decide
theorem BPl.yes {w : World} {q : Nat} {s : Ws} {vm : Value} {m : List Nn} {W W1 : World} {n : Nn} (h : BPl w q s vm m W) (hw : WP w q (takeW s n) W1) (hg : W.grownBy W1 (some q)) : WP w q (takeW s n) W1 ∧ OwnN 29 W1 w.heap.size vm m := ⟨hw, h.own.aside (h.wp.win.kind kindRW) hg⟩
/-- What stays in the frame. -/
structure FP (v0 v1 : Value) (q : Nat) (a : Act) : Prop where
  fr : Fr 104 a
  s0 : a.eval (.tmp 0) = v0
  s1 : a.eval (.tmp 1) = v1
  s5 : a.eval (.tmp 5) = .pointer (some ⟨q, 0, none⟩)
/-- Between two rounds of the first loop. -/
structure IP (w : World) (q : Nat) (v0 v1 : Value) (k : Nat) (a : Act) (W : World) : Prop where
  fp : FP v0 v1 q a
  s7 : a.eval (.tmp 7) = .int .i64 (k : Int)
  st : ∃ vm s m, a.eval (.tmp 6) = vm ∧ BPl w q s vm m W ∧ m.length ≤ k
theorem latV {m : List Nn} {s : Ws} (h : RelW m s) : ∃ y : Nn, s.n = y ∧ latN m = y := ⟨s.n, rfl, h.lat.symm⟩
set_option maxRecDepth 100000 in
set_option maxHeartbeats 4000000 in
theorem roundP_yes (w : World) (l : List Nn) (q : Nat) (v0 v1 : Value) (hv : NnsF w v0 l) (hn : l.length ≤ 9223372036854775807)
    (Q : Exit → Act → World → Prop) (k : Nat) (a : Act) (wr : World) (hk : k < l.length) (hk6 : k < 60) (hf : FP v0 v1 q a) (s7 : a.eval (.tmp 7) = .int .i64 (k : Int)) (vm : Value) (s : Ws) (m : List Nn) (s6 : a.eval (.tmp 6) = vm) (hB : BPl w q s vm m wr) (hm : m.length ≤ k) (hz : dlookN m (l.getD k Nn.zero) = 0) :
    Code.wp Try.prog (loopAt (Try.f3.body) 0) (Exit.then (fun a' w' => IP w q v0 v1 (k + 1) a' w') Q) a wr := by
  have hfit := hv.fit k hk
  obtain ⟨b, o, cap, rfl⟩ := hv.1.start (by omega)
  obtain ⟨d0, d1⟩ := hv.1.cells k hk
  obtain ⟨na, hna⟩ : ∃ na, l.length = na := ⟨_, rfl⟩
  rw [hna] at hk hn hf ⊢
  generalize l.getD k Nn.zero = x at *
  have hm60 : m.length ≤ 1000 := by omega
  have HRl := Bx.mk fun (W : World) (h : BPl w q s vm m W) => rlook12_any m vm x W h.own.reads hm60 h.rel.ok hfit
  have HTo := Bx.mk fun (W : World) => to12_any x W
  have HLk := Bx.mk fun (W : World) (h : BPl w q s vm m W) => h.wp.look x
  have HTk := Bx.mk fun (W : World) (h : BPl w q s vm m W) => h.wp.take x
  have hrel := hB.rel.look x
  rw [hrel] at HLk HTk
  obtain ⟨y0, hl1, hl2⟩ := latV (hB.rel.take (hrel.trans hz))
  have HLa := Bx.mk fun (W : World) (h : WP w q (takeW s x) W) => latest_any q (takeW s x) W h.win
  have HRa := Bx.mk fun (v : Value) (W : World) (h : OwnN 29 W w.heap.size v (m ++ [x])) => rlatest_any (m ++ [x]) v W h.reads (by rw [List.length_append, List.length_singleton]; omega)
  rw [hl1] at HLa
  rw [hl2] at HRa
  have HOf := Bx.mk fun (W : World) => of12_any y0 W
  have HRn := Bx.mk (hB.rel.take (hrel.trans hz))
  have HLq : Bx ((m ++ [x]).length ≤ k + 1) := Bx.mk (by rw [List.length_append, List.length_singleton]; omega)
  have HL10 := Bx.mk hm60
  rw [hz] at HRl HLk HTk
  clear hz hrel hl1 hl2 hm60
  have R0 := Bx.mk hB
  have HM := Bx.mk hm
  have k1 : (k : Int) < 60 := by omega
  have k2 : (k : Int) < (na : Int) := by omega
  have k0 : (0 : Int) ≤ (k : Int) := by omega
  have m1 : (na : Int) ≤ 9223372036854775807 := by omega
  have hwk : IntKind.i64.wrap ((k : Int) + 1) = (k : Int) + 1 := by simp [IntKind.wrap_i64]; omega
  obtain ⟨ma, mc, hvm, -, -⟩ := hB.own.form
  obtain ⟨mn, hmn⟩ : ∃ mn, m.length = mn := ⟨_, rfl⟩
  rw [hmn] at hvm
  subst hvm
  obtain ⟨y, rfl, hy⟩ := open104 hf.fr
  have e0 := (hy 0).symm.trans hf.s0
  have e1 := (hy 1).symm.trans hf.s1
  have e5 := (hy 5).symm.trans hf.s5
  have e6 := (hy 6).symm.trans s6
  have e7 := (hy 7).symm.trans s7
  clear hf hy s6 s7 hk hk6 hn hna hB hm hv hfit hmn
  rw [e0, e1, e5, e6, e7]
  clear e0 e1 e5 e6 e7
  have c0 := (R0.out.wp.below.cell (p := ⟨b, o + k * 2, none⟩) (World.block_lt_of_cell? _ _ d0)).trans d0
  have c1 := (R0.out.wp.below.cell (p := ⟨b, o + k * 2 + 1, none⟩) (World.block_lt_of_cell? _ _ d1)).trans d1
  conv => arg 2; whnf
  obtain ⟨xb, xc⟩ := x
  obtain ⟨yb, yc⟩ := y0
  unfold nv at HRl HTo HLk HTk HLa HOf
  go_wp2_with fail
  refine (HRl.out _ R0.out).mono ?_
  rintro e w1 ⟨rfl, hb⟩
  have R1 := Bx.mk (R0.out.later hb)
  clear hb R0 c0 c1
  have c0 := (R1.out.wp.below.cell (p := ⟨b, o + k * 2, none⟩) (World.block_lt_of_cell? _ _ d0)).trans d0
  have c1 := (R1.out.wp.below.cell (p := ⟨b, o + k * 2 + 1, none⟩) (World.block_lt_of_cell? _ _ d1)).trans d1
  go_wp2_with fail
  refine (HTo.out _).mono ?_
  rintro e w2 ⟨rfl, hb⟩
  have R2 := Bx.mk (R1.out.later hb)
  clear hb R1 c0 c1
  have c0 := (R2.out.wp.below.cell (p := ⟨b, o + k * 2, none⟩) (World.block_lt_of_cell? _ _ d0)).trans d0
  have c1 := (R2.out.wp.below.cell (p := ⟨b, o + k * 2 + 1, none⟩) (World.block_lt_of_cell? _ _ d1)).trans d1
  go_wp2_with fail
  refine (HLk.out _ R2.out).mono ?_
  rintro e w3 ⟨rfl, -, hb⟩
  have R3 := Bx.mk (R2.out.later hb)
  clear hb R2 c0 c1
  have c0 := (R3.out.wp.below.cell (p := ⟨b, o + k * 2, none⟩) (World.block_lt_of_cell? _ _ d0)).trans d0
  have c1 := (R3.out.wp.below.cell (p := ⟨b, o + k * 2 + 1, none⟩) (World.block_lt_of_cell? _ _ d1)).trans d1
  go_wp2_with fail
  refine (HTo.out _).mono ?_
  rintro e w4 ⟨rfl, hb⟩
  have R4 := Bx.mk (R3.out.later hb)
  clear hb R3 c0 c1
  have c0 := (R4.out.wp.below.cell (p := ⟨b, o + k * 2, none⟩) (World.block_lt_of_cell? _ _ d0)).trans d0
  have c1 := (R4.out.wp.below.cell (p := ⟨b, o + k * 2 + 1, none⟩) (World.block_lt_of_cell? _ _ d1)).trans d1
  go_wp2_with fail
  refine (HTk.out _ R4.out).mono ?_
  rintro e w5 ⟨rfl, hw, hg⟩
  have R5 : Bx (WP w q (takeW s ⟨xb, xc⟩) w5 ∧ OwnN 29 w5 w.heap.size (.slice ma mn mc) m) := Bx.mk (R4.out.yes hw hg)
  clear hw hg R4 c0 c1
  have c0 := (R5.out.1.below.cell (p := ⟨b, o + k * 2, none⟩) (World.block_lt_of_cell? _ _ d0)).trans d0
  have c1 := (R5.out.1.below.cell (p := ⟨b, o + k * 2 + 1, none⟩) (World.block_lt_of_cell? _ _ d1)).trans d1
  skip -- M1
  have R6 : Bx (WP w q (takeW s ⟨xb, xc⟩) (w5.alloc (.cells #[.int .i64 xb, .int .i64 xc] 29)) ∧ OwnN 29 (w5.alloc (.cells #[.int .i64 xb, .int .i64 xc] 29)) w.heap.size (.slice ma mn mc) m ∧ (w5.alloc (.cells #[.int .i64 xb, .int .i64 xc] 29)).rangeAt w5.heap.size 0 (nnc ⟨xb, xc⟩)) := Bx.mk ⟨R5.out.1.later (below_a _), R5.out.2.later (below_a _), nnc_new w5 ⟨xb, xc⟩ _⟩
  clear R5
  go_wp2_with (refine wpList_ap12R rfl _ _ rfl w.heap.size _ m (by rfl) R6.out.2.1 w5.heap.size 0 ⟨xb, xc⟩ 1 (by rfl) R6.out.2.2 HL10.out R6.out.1.below.size ?_; intro v7 w7 ho hg)
  skip -- M2
  have R7 : Bx (WP w q (takeW s ⟨xb, xc⟩) w7 ∧ OwnN 29 w7 w.heap.size v7 (m ++ [⟨xb, xc⟩])) := Bx.mk ⟨R6.out.1.row kindRW R6.out.2.1 hg, ho⟩
  obtain ⟨va, vc, hv7, -, -⟩ := ho.form
  obtain ⟨vn, hvn⟩ : ∃ vn, (m ++ [(⟨xb, xc⟩ : Nn)]).length = vn := ⟨_, rfl⟩
  rw [hvn] at hv7
  subst hv7
  clear ho hg R6 c0 c1 hvn
  go_wp2_with fail
  refine (HLa.out _ R7.out.1).mono ?_
  rintro e w8 ⟨rfl, hb⟩
  have R8 := Bx.mk (And.intro (R7.out.1.later hb) (R7.out.2.later hb))
  clear hb R7
  go_wp2_with fail
  refine (HOf.out _).mono ?_
  rintro e w9 ⟨rfl, hb⟩
  have R9 := Bx.mk (And.intro (R8.out.1.later hb) (R8.out.2.later hb))
  clear hb R8
  go_wp2_with fail
  refine (HRa.out _ _ R9.out.2).mono ?_
  rintro e w10 ⟨rfl, hb⟩
  have R10 := Bx.mk (And.intro (R9.out.1.later hb) (R9.out.2.later hb))
  clear hb R9
  unfold nv
  go_wp2
  skip -- M3
  exact ⟨⟨⟨rfl, rfl⟩, rfl, rfl, rfl⟩, by first | rfl | go_num, .slice va vn vc, takeW s ⟨xb, xc⟩, m ++ [⟨xb, xc⟩], rfl, ⟨R10.out.1, R10.out.2, HRn.out⟩, HLq.out⟩
set_option maxRecDepth 100000 in
set_option maxHeartbeats 4000000 in
theorem roundP_no (w : World) (l : List Nn) (q : Nat) (v0 v1 : Value) (hv : NnsF w v0 l) (hn : l.length ≤ 9223372036854775807)
    (Q : Exit → Act → World → Prop) (k : Nat) (a : Act) (wr : World) (hk : k < l.length) (hk6 : k < 60) (hf : FP v0 v1 q a) (s7 : a.eval (.tmp 7) = .int .i64 (k : Int)) (vm : Value) (s : Ws) (m : List Nn) (s6 : a.eval (.tmp 6) = vm) (hB : BPl w q s vm m wr) (hm : m.length ≤ k) (hz : dlookN m (l.getD k Nn.zero) ≠ 0) :
    Code.wp Try.prog (loopAt (Try.f3.body) 0) (Exit.then (fun a' w' => IP w q v0 v1 (k + 1) a' w') Q) a wr := by
  have hfit := hv.fit k hk
  obtain ⟨b, o, cap, rfl⟩ := hv.1.start (by omega)
  obtain ⟨d0, d1⟩ := hv.1.cells k hk
  obtain ⟨na, hna⟩ : ∃ na, l.length = na := ⟨_, rfl⟩
  rw [hna] at hk hn hf ⊢
  generalize l.getD k Nn.zero = x at *
  have hm60 : m.length ≤ 1000 := by omega
  have HRl := Bx.mk fun (W : World) (h : BPl w q s vm m W) => rlook12_any m vm x W h.own.reads hm60 h.rel.ok hfit
  have HTo := Bx.mk fun (W : World) => to12_any x W
  have HLk := Bx.mk fun (W : World) (h : BPl w q s vm m W) => h.wp.look x
  have HTk := Bx.mk fun (W : World) (h : BPl w q s vm m W) => h.wp.take x
  have hrel := hB.rel.look x
  rw [hrel] at HLk HTk
  obtain ⟨y0, hl1, hl2⟩ := latV hB.rel
  have HLa := Bx.mk fun (W : World) (h : WP w q s W) => latest_any q s W h.win
  have HRa := Bx.mk fun (v : Value) (W : World) (h : OwnN 29 W w.heap.size v m) => rlatest_any m v W h.reads hm60
  rw [hl1] at HLa
  rw [hl2] at HRa
  have HOf := Bx.mk fun (W : World) => of12_any y0 W
  have HKp : Bx (takeW s x = s) := Bx.mk (hB.rel.keep (by rw [hrel]; exact hz))
  obtain ⟨z, hzz⟩ : ∃ z, dlookN m x = z := ⟨_, rfl⟩
  rw [hzz] at hz HRl HLk HTk
  clear hrel hl1 hl2 hm60 hzz
  have R0 := Bx.mk hB
  have HM := Bx.mk hm
  have k1 : (k : Int) < 60 := by omega
  have k2 : (k : Int) < (na : Int) := by omega
  have k0 : (0 : Int) ≤ (k : Int) := by omega
  have m1 : (na : Int) ≤ 9223372036854775807 := by omega
  have hwk : IntKind.i64.wrap ((k : Int) + 1) = (k : Int) + 1 := by simp [IntKind.wrap_i64]; omega
  obtain ⟨ma, mc, hvm, -, -⟩ := hB.own.form
  obtain ⟨mn, hmn⟩ : ∃ mn, m.length = mn := ⟨_, rfl⟩
  rw [hmn] at hvm
  subst hvm
  obtain ⟨y, rfl, hy⟩ := open104 hf.fr
  have e0 := (hy 0).symm.trans hf.s0
  have e1 := (hy 1).symm.trans hf.s1
  have e5 := (hy 5).symm.trans hf.s5
  have e6 := (hy 6).symm.trans s6
  have e7 := (hy 7).symm.trans s7
  clear hf hy s6 s7 hk hk6 hn hna hB hm hv hfit hmn
  rw [e0, e1, e5, e6, e7]
  clear e0 e1 e5 e6 e7
  have c0 := (R0.out.wp.below.cell (p := ⟨b, o + k * 2, none⟩) (World.block_lt_of_cell? _ _ d0)).trans d0
  have c1 := (R0.out.wp.below.cell (p := ⟨b, o + k * 2 + 1, none⟩) (World.block_lt_of_cell? _ _ d1)).trans d1
  conv => arg 2; whnf
  obtain ⟨xb, xc⟩ := x
  obtain ⟨yb, yc⟩ := y0
  unfold nv at HRl HTo HLk HTk HLa HOf
  go_wp2_with fail
  refine (HRl.out _ R0.out).mono ?_
  rintro e w1 ⟨rfl, hb⟩
  have R1 := Bx.mk (R0.out.later hb)
  clear hb R0 c0 c1
  have c0 := (R1.out.wp.below.cell (p := ⟨b, o + k * 2, none⟩) (World.block_lt_of_cell? _ _ d0)).trans d0
  have c1 := (R1.out.wp.below.cell (p := ⟨b, o + k * 2 + 1, none⟩) (World.block_lt_of_cell? _ _ d1)).trans d1
  go_wp2_with fail
  refine (HTo.out _).mono ?_
  rintro e w2 ⟨rfl, hb⟩
  have R2 := Bx.mk (R1.out.later hb)
  clear hb R1 c0 c1
  have c0 := (R2.out.wp.below.cell (p := ⟨b, o + k * 2, none⟩) (World.block_lt_of_cell? _ _ d0)).trans d0
  have c1 := (R2.out.wp.below.cell (p := ⟨b, o + k * 2 + 1, none⟩) (World.block_lt_of_cell? _ _ d1)).trans d1
  go_wp2_with fail
  refine (HLk.out _ R2.out).mono ?_
  rintro e w3 ⟨rfl, -, hb⟩
  have R3 := Bx.mk (R2.out.later hb)
  clear hb R2 c0 c1
  have c0 := (R3.out.wp.below.cell (p := ⟨b, o + k * 2, none⟩) (World.block_lt_of_cell? _ _ d0)).trans d0
  have c1 := (R3.out.wp.below.cell (p := ⟨b, o + k * 2 + 1, none⟩) (World.block_lt_of_cell? _ _ d1)).trans d1
  go_wp2_with fail
  refine (HTo.out _).mono ?_
  rintro e w4 ⟨rfl, hb⟩
  have R4 := Bx.mk (R3.out.later hb)
  clear hb R3 c0 c1
  have c0 := (R4.out.wp.below.cell (p := ⟨b, o + k * 2, none⟩) (World.block_lt_of_cell? _ _ d0)).trans d0
  have c1 := (R4.out.wp.below.cell (p := ⟨b, o + k * 2 + 1, none⟩) (World.block_lt_of_cell? _ _ d1)).trans d1
  go_wp2_with fail
  refine (HTk.out _ R4.out).mono ?_
  rintro e w5 ⟨rfl, hw, hg⟩
  rw [HKp.out] at hw
  have R5 : Bx (BPl w q s (.slice ma mn mc) m w5) := Bx.mk ⟨hw, R4.out.own.aside (R4.out.wp.win.kind kindRW) hg, R4.out.rel⟩
  clear hw hg R4 c0 c1
  have c0 := (R5.out.wp.below.cell (p := ⟨b, o + k * 2, none⟩) (World.block_lt_of_cell? _ _ d0)).trans d0
  have c1 := (R5.out.wp.below.cell (p := ⟨b, o + k * 2 + 1, none⟩) (World.block_lt_of_cell? _ _ d1)).trans d1
  clear c0 c1
  go_wp2_with fail
  refine (HLa.out _ R5.out.wp).mono ?_
  rintro e w8 ⟨rfl, hb⟩
  have R8 := Bx.mk (R5.out.later hb)
  clear hb R5
  go_wp2_with fail
  refine (HOf.out _).mono ?_
  rintro e w9 ⟨rfl, hb⟩
  have R9 := Bx.mk (R8.out.later hb)
  clear hb R8
  go_wp2_with fail
  refine (HRa.out _ _ R9.out.own).mono ?_
  rintro e w10 ⟨rfl, hb⟩
  have R10 := Bx.mk (R9.out.later hb)
  clear hb R9
  unfold nv
  go_wp2
  exact ⟨⟨⟨rfl, rfl⟩, rfl, rfl, rfl⟩, by first | rfl | go_num, .slice ma mn mc, s, m, rfl, R10.out, by have := HM.out; omega⟩
end Go.Proofs.Ytoohcjdjmafliaa
namespace Go.Proofs.Ytoohcjdjmafliaa
open Go Go.RowKit
theorem roundP (w : World) (l : List Nn) (q : Nat) (v0 v1 : Value) (hv : NnsF w v0 l) (hn : l.length ≤ 9223372036854775807)
    (Q : Exit → Act → World → Prop) (k : Nat) (a : Act) (wr : World) (hk : k < l.length) (hk6 : k < 60) (h : IP w q v0 v1 k a wr) :
    Code.wp Try.prog (loopAt (Try.f3.body) 0) (Exit.then (fun a' w' => IP w q v0 v1 (k + 1) a' w') Q) a wr := by
  obtain ⟨hf, s7, vm, s, m, s6, hB, hm⟩ := h
  by_cases hz : dlookN m (l.getD k Nn.zero) = 0
  · exact roundP_yes w l q v0 v1 hv hn Q k a wr hk hk6 hf s7 vm s m s6 hB hm hz
  · exact roundP_no w l q v0 v1 hv hn Q k a wr hk hk6 hf s7 vm s m s6 hB hm hz
set_option maxRecDepth 100000 in
set_option maxHeartbeats 4000000 in
theorem lastP (w : World) (l : List Nn) (q : Nat) (v0 v1 : Value) (hv : NnsF w v0 l) (hn : l.length ≤ 9223372036854775807) (k : Nat) (hk : k ≤ l.length) (hk6 : k ≤ 60) (hend : l.length ≤ k ∨ k = 60)
    (Q : Exit → Act → World → Prop) (N : Act → World → Prop) (hq : ∀ a' w' vm s m, FP v0 v1 q a' → a'.eval (.tmp 6) = vm → BPl w q s vm m w' → m.length ≤ 60 → Q (.exit 0) a' w') (a : Act) (wr : World) (h : IP w q v0 v1 k a wr) :
    Code.wp Try.prog (loopAt (Try.f3.body) 0) (Exit.then N Q) a wr := by
  obtain ⟨hf, s7, vm, s, m, s6, hB, hm⟩ := h
  have HB := Bx.mk (And.intro hB (show m.length ≤ 60 by omega))
  have HQ := Bx.mk hq
  obtain ⟨a0, cap, rfl⟩ := hv.1.form
  obtain ⟨na, hna⟩ : ∃ m, l.length = m := ⟨_, rfl⟩
  rw [hna] at hk hn hf hend HQ
  have k0 : (0 : Int) ≤ (k : Int) := by omega
  have m1 : (na : Int) ≤ 9223372036854775807 := by omega
  obtain ⟨y, rfl, hy⟩ := open104 hf.fr
  have e0 := (hy 0).symm.trans hf.s0
  have e1 := (hy 1).symm.trans hf.s1
  have e5 := (hy 5).symm.trans hf.s5
  have e6 := (hy 6).symm.trans s6
  have e7 := (hy 7).symm.trans s7
  clear hf hy s6 s7 hB hm hq hv hna
  rw [e0, e1, e5, e6, e7]
  clear e0 e1 e5 e6 e7
  conv => arg 2; whnf
  by_cases hlt : k < na
  · have h1 : (k : Int) < (na : Int) := by omega
    have h2 : ¬ (k : Int) < 60 := by omega
    clear hend hlt hk hk6 hn
    go_wp2
    exact HQ.out _ _ vm s m ⟨⟨rfl, rfl⟩, rfl, rfl, rfl⟩ rfl HB.out.1 HB.out.2
  · have h1 : ¬ (k : Int) < (na : Int) := by omega
    clear hend hlt hk hk6 hn
    go_wp2
    exact HQ.out _ _ vm s m ⟨⟨rfl, rfl⟩, rfl, rfl, rfl⟩ rfl HB.out.1 HB.out.2
theorem loopP (w : World) (l : List Nn) (q : Nat) (v0 v1 : Value) (hv : NnsF w v0 l) (hn : l.length ≤ 9223372036854775807)
    (Q : Exit → Act → World → Prop) (a : Act) (wr : World) (h : IP w q v0 v1 0 a wr) (hq : ∀ a' w' vm s m, FP v0 v1 q a' → a'.eval (.tmp 6) = vm → BPl w q s vm m w' → m.length ≤ 60 → Q (.exit 0) a' w') :
    Code.wp Try.prog (.loop (loopAt (Try.f3.body) 0)) Q a wr :=
  wp_count (min l.length 60) (fun k a w' => IP w q v0 v1 k a w') 0 (Nat.zero_le _) h (fun k a w' hk hI => roundP w l q v0 v1 hv hn Q k a w' (by omega) (by omega) hI) (fun a w' hI => lastP w l q v0 v1 hv hn _ (by omega) (by omega) (by omega) Q _ hq a w' hI)
/-- How many are told to be taken. -/
def cntL (s : Ws) (l : List Nn) : Nat := l.countP fun n => decide (lookW s n = 8)
theorem cntL_succ (s : Ws) (l : List Nn) (k : Nat) (h : k < l.length) : cntL s (l.take (k + 1)) = cntL s (l.take k) + if lookW s (l.getD k Nn.zero) = 8 then 1 else 0 := by
  unfold cntL
  rw [takeN_succ l k h, List.countP_append, List.countP_singleton]
  simp
theorem cntL_le (s : Ws) (l : List Nn) : cntL s l ≤ l.length := List.countP_le_length
/-- A window, what was taken, and a row of nonces. -/
structure BQl (w : World) (q : Nat) (s : Ws) (vm : Value) (m : List Nn) (va : Value) (ls : List Nn) (W : World) : Prop where
  bp : BPl w q s vm m W
  all : OwnN 24 W w.heap.size va ls
theorem BQl.later {w : World} {q : Nat} {s : Ws} {vm va : Value} {m ls : List Nn} {W W1 : World} (h : BQl w q s vm m va ls W) (hb : Below W.heap.size W W1) : BQl w q s vm m va ls W1 := ⟨h.bp.later hb, h.all.later hb⟩
theorem BQl.app {w : World} {q : Nat} {s : Ws} {vm va vb : Value} {m ls ls' : List Nn} {W W1 : World} (h : BQl w q s vm m va ls W) (ho : OwnN 24 W1 w.heap.size vb ls') (hg : W.grownBy W1 va.ownBlock) : BQl w q s vm m vb ls' W1 :=
  ⟨⟨h.bp.wp.row kindWW h.all hg, h.bp.own.asideN (fun M cs fr e hh => by
    obtain ⟨cs2, fr2, hk⟩ := h.all.kind M e
    rw [hh] at hk
    injection hk with hk
    injection hk with _ e2
    exact absurd e2 kindRN) hg, h.bp.rel⟩, ho⟩
/-- What stays in the frame. -/
structure FQl (v1 vm : Value) (q : Nat) (a : Act) : Prop where
  fr : Fr 104 a
  s1 : a.eval (.tmp 1) = v1
  s5 : a.eval (.tmp 5) = .pointer (some ⟨q, 0, none⟩)
  s6 : a.eval (.tmp 6) = vm
/-- Between two rounds of the second loop. -/
structure IQl (w : World) (q : Nat) (s : Ws) (vm : Value) (m : List Nn) (v1 : Value) (l : List Nn) (k : Nat) (a : Act) (W : World) : Prop where
  fq : FQl v1 vm q a
  s9 : a.eval (.tmp 9) = .int .i64 ((cntL s (l.take k) : Nat) : Int)
  s11 : a.eval (.tmp 11) = .int .i64 (k : Int)
  st : ∃ va, a.eval (.tmp 10) = va ∧ BQl w q s vm m va (l.take k) W
set_option maxRecDepth 100000 in
set_option maxHeartbeats 4000000 in
theorem roundQ_in (w : World) (l : List Nn) (q : Nat) (v1 : Value) (s : Ws) (vm : Value) (m : List Nn) (hv : NnsF w v1 l) (hn : l.length ≤ 9223372036854775807) (hm : m.length ≤ 60)
    (Q : Exit → Act → World → Prop) (k : Nat) (a : Act) (wr : World) (hk : k < l.length) (hk2 : k < 20) (hf : FQl v1 vm q a) (s9 : a.eval (.tmp 9) = .int .i64 ((cntL s (l.take k) : Nat) : Int)) (s11 : a.eval (.tmp 11) = .int .i64 (k : Int)) (va : Value) (s10 : a.eval (.tmp 10) = va) (hB : BQl w q s vm m va (l.take k) wr) (hz : lookW s (l.getD k Nn.zero) = 8) :
    Code.wp Try.prog (loopAt (Try.f3.body) 1) (Exit.then (fun a' w' => IQl w q s vm m v1 l (k + 1) a' w') Q) a wr := by
  have hfit := hv.fit k hk
  obtain ⟨b, o, cap, rfl⟩ := hv.1.start (by omega)
  obtain ⟨d0, d1⟩ := hv.1.cells k hk
  have HCn := Bx.mk (cntL_succ s l k hk)
  have HTk := Bx.mk (takeN_succ l k hk)
  have HLl : Bx ((l.take k).length ≤ 1000) := Bx.mk (by rw [List.length_take]; omega)
  have hcl := cntL_le s (l.take k)
  rw [List.length_take] at hcl
  have hcl2 : cntL s (l.take k) ≤ 20 := by omega
  obtain ⟨na, hna⟩ : ∃ na, l.length = na := ⟨_, rfl⟩
  rw [hna] at hk hn hf ⊢
  generalize l.getD k Nn.zero = x at *
  have hm60 : m.length ≤ 1000 := by omega
  have hrel := hB.bp.rel.look x
  have HRl := Bx.mk fun (W : World) (h : BPl w q s vm m W) => rlook12_any m vm x W h.own.reads hm60 h.rel.ok hfit
  have HTo := Bx.mk fun (W : World) => to12_any x W
  have HLk := Bx.mk fun (W : World) (h : BPl w q s vm m W) => h.wp.look x
  rw [← hrel] at HRl
  rw [hz] at HRl HLk
  rw [if_pos hz] at HCn
  clear hz
  have R0 := Bx.mk hB
  have k1 : (k : Int) < 20 := by omega
  have k2 : (k : Int) < (na : Int) := by omega
  have k0 : (0 : Int) ≤ (k : Int) := by omega
  have m1 : (na : Int) ≤ 9223372036854775807 := by omega
  have hwk : IntKind.i64.wrap ((k : Int) + 1) = (k : Int) + 1 := by simp [IntKind.wrap_i64]; omega
  obtain ⟨ma, mc, hvm, -, -⟩ := hB.bp.own.form
  obtain ⟨mn, hmn⟩ : ∃ mn, m.length = mn := ⟨_, rfl⟩
  rw [hmn] at hvm
  subst hvm
  obtain ⟨aa, ac, hva, -, -⟩ := hB.all.form
  obtain ⟨an, han⟩ : ∃ an, (l.take k).length = an := ⟨_, rfl⟩
  rw [han] at hva
  subst hva
  generalize cntL s (l.take k) = cn at *
  have hwc : IntKind.i64.wrap ((cn : Int) + 1) = (cn : Int) + 1 := by simp [IntKind.wrap_i64]; omega
  obtain ⟨y, rfl, hy⟩ := open104 hf.fr
  have e1 := (hy 1).symm.trans hf.s1
  have e5 := (hy 5).symm.trans hf.s5
  have e6 := (hy 6).symm.trans hf.s6
  have e9 := (hy 9).symm.trans s9
  have e10 := (hy 10).symm.trans s10
  have e11 := (hy 11).symm.trans s11
  clear hf hy s9 s10 s11 hk hk2 hn hna hB hm hm60 hv hfit hmn han hrel hcl hcl2
  rw [e1, e5, e6, e9, e10, e11]
  clear e1 e5 e6 e9 e10 e11
  have c0 := (R0.out.bp.wp.below.cell (p := ⟨b, o + k * 2, none⟩) (World.block_lt_of_cell? _ _ d0)).trans d0
  have c1 := (R0.out.bp.wp.below.cell (p := ⟨b, o + k * 2 + 1, none⟩) (World.block_lt_of_cell? _ _ d1)).trans d1
  conv => arg 2; whnf
  obtain ⟨xb, xc⟩ := x
  unfold nv at HRl HTo HLk
  go_wp2_with fail
  refine (HRl.out _ R0.out.bp).mono ?_
  rintro e w1 ⟨rfl, hb⟩
  have R1 := Bx.mk (R0.out.later hb)
  clear hb R0 c0 c1
  have c0 := (R1.out.bp.wp.below.cell (p := ⟨b, o + k * 2, none⟩) (World.block_lt_of_cell? _ _ d0)).trans d0
  have c1 := (R1.out.bp.wp.below.cell (p := ⟨b, o + k * 2 + 1, none⟩) (World.block_lt_of_cell? _ _ d1)).trans d1
  go_wp2_with fail
  refine (HTo.out _).mono ?_
  rintro e w2 ⟨rfl, hb⟩
  have R2 := Bx.mk (R1.out.later hb)
  clear hb R1 c0 c1
  have c0 := (R2.out.bp.wp.below.cell (p := ⟨b, o + k * 2, none⟩) (World.block_lt_of_cell? _ _ d0)).trans d0
  have c1 := (R2.out.bp.wp.below.cell (p := ⟨b, o + k * 2 + 1, none⟩) (World.block_lt_of_cell? _ _ d1)).trans d1
  go_wp2_with fail
  refine (HLk.out _ R2.out.bp).mono ?_
  rintro e w3 ⟨rfl, -, hb⟩
  have R3 := Bx.mk (R2.out.later hb)
  clear hb R2 c0 c1
  have c0 := (R3.out.bp.wp.below.cell (p := ⟨b, o + k * 2, none⟩) (World.block_lt_of_cell? _ _ d0)).trans d0
  have c1 := (R3.out.bp.wp.below.cell (p := ⟨b, o + k * 2 + 1, none⟩) (World.block_lt_of_cell? _ _ d1)).trans d1
  go_wp2_with fail
  refine (HTo.out _).mono ?_
  rintro e w4 ⟨rfl, hb⟩
  have R5 : Bx (BQl w q s (.slice ma mn mc) m (.slice aa an ac) (l.take k) (w4.alloc (.cells #[.int .i64 xb, .int .i64 xc] 24)) ∧ (w4.alloc (.cells #[.int .i64 xb, .int .i64 xc] 24)).rangeAt w4.heap.size 0 (nnc ⟨xb, xc⟩)) := Bx.mk ⟨(R3.out.later hb).later (below_a _), nnc_new w4 ⟨xb, xc⟩ _⟩
  clear hb R3 c0 c1
  skip -- M1
  go_wp2_with (refine wpList_ap12W rfl _ _ rfl w.heap.size _ (l.take k) (by rfl) R5.out.1.all w4.heap.size 0 ⟨xb, xc⟩ 1 (by rfl) R5.out.2 HLl.out R5.out.1.bp.wp.below.size ?_; intro v7 w7 ho hg)
  skip -- M2
  have R7 := Bx.mk (R5.out.1.app ho hg)
  clear ho hg R5
  go_wp2
  exact ⟨⟨⟨rfl, rfl⟩, rfl, rfl, rfl⟩, by rw [HCn.out]; rfl, by first | rfl | go_num, v7, rfl, by rw [HTk.out]; exact R7.out⟩
set_option maxRecDepth 100000 in
set_option maxHeartbeats 4000000 in
theorem roundQ_out (w : World) (l : List Nn) (q : Nat) (v1 : Value) (s : Ws) (vm : Value) (m : List Nn) (hv : NnsF w v1 l) (hn : l.length ≤ 9223372036854775807) (hm : m.length ≤ 60)
    (Q : Exit → Act → World → Prop) (k : Nat) (a : Act) (wr : World) (hk : k < l.length) (hk2 : k < 20) (hf : FQl v1 vm q a) (s9 : a.eval (.tmp 9) = .int .i64 ((cntL s (l.take k) : Nat) : Int)) (s11 : a.eval (.tmp 11) = .int .i64 (k : Int)) (va : Value) (s10 : a.eval (.tmp 10) = va) (hB : BQl w q s vm m va (l.take k) wr) (hz : lookW s (l.getD k Nn.zero) ≠ 8) :
    Code.wp Try.prog (loopAt (Try.f3.body) 1) (Exit.then (fun a' w' => IQl w q s vm m v1 l (k + 1) a' w') Q) a wr := by
  have hfit := hv.fit k hk
  obtain ⟨b, o, cap, rfl⟩ := hv.1.start (by omega)
  obtain ⟨d0, d1⟩ := hv.1.cells k hk
  have HCn := Bx.mk (cntL_succ s l k hk)
  have HTk := Bx.mk (takeN_succ l k hk)
  have HLl : Bx ((l.take k).length ≤ 1000) := Bx.mk (by rw [List.length_take]; omega)
  have hcl := cntL_le s (l.take k)
  rw [List.length_take] at hcl
  have hcl2 : cntL s (l.take k) ≤ 20 := by omega
  obtain ⟨na, hna⟩ : ∃ na, l.length = na := ⟨_, rfl⟩
  rw [hna] at hk hn hf ⊢
  generalize l.getD k Nn.zero = x at *
  have hm60 : m.length ≤ 1000 := by omega
  have hrel := hB.bp.rel.look x
  have HRl := Bx.mk fun (W : World) (h : BPl w q s vm m W) => rlook12_any m vm x W h.own.reads hm60 h.rel.ok hfit
  have HTo := Bx.mk fun (W : World) => to12_any x W
  have HLk := Bx.mk fun (W : World) (h : BPl w q s vm m W) => h.wp.look x
  rw [← hrel] at HRl
  obtain ⟨z, hzz⟩ : ∃ z, lookW s x = z := ⟨_, rfl⟩
  rw [if_neg hz] at HCn
  rw [hzz] at hz HRl HLk; clear hzz
  have R0 := Bx.mk hB
  have k1 : (k : Int) < 20 := by omega
  have k2 : (k : Int) < (na : Int) := by omega
  have k0 : (0 : Int) ≤ (k : Int) := by omega
  have m1 : (na : Int) ≤ 9223372036854775807 := by omega
  have hwk : IntKind.i64.wrap ((k : Int) + 1) = (k : Int) + 1 := by simp [IntKind.wrap_i64]; omega
  obtain ⟨ma, mc, hvm, -, -⟩ := hB.bp.own.form
  obtain ⟨mn, hmn⟩ : ∃ mn, m.length = mn := ⟨_, rfl⟩
  rw [hmn] at hvm
  subst hvm
  obtain ⟨aa, ac, hva, -, -⟩ := hB.all.form
  obtain ⟨an, han⟩ : ∃ an, (l.take k).length = an := ⟨_, rfl⟩
  rw [han] at hva
  subst hva
  generalize cntL s (l.take k) = cn at *
  have hwc : IntKind.i64.wrap ((cn : Int) + 1) = (cn : Int) + 1 := by simp [IntKind.wrap_i64]; omega
  obtain ⟨y, rfl, hy⟩ := open104 hf.fr
  have e1 := (hy 1).symm.trans hf.s1
  have e5 := (hy 5).symm.trans hf.s5
  have e6 := (hy 6).symm.trans hf.s6
  have e9 := (hy 9).symm.trans s9
  have e10 := (hy 10).symm.trans s10
  have e11 := (hy 11).symm.trans s11
  clear hf hy s9 s10 s11 hk hk2 hn hna hB hm hm60 hv hfit hmn han hrel hcl hcl2
  rw [e1, e5, e6, e9, e10, e11]
  clear e1 e5 e6 e9 e10 e11
  have c0 := (R0.out.bp.wp.below.cell (p := ⟨b, o + k * 2, none⟩) (World.block_lt_of_cell? _ _ d0)).trans d0
  have c1 := (R0.out.bp.wp.below.cell (p := ⟨b, o + k * 2 + 1, none⟩) (World.block_lt_of_cell? _ _ d1)).trans d1
  conv => arg 2; whnf
  obtain ⟨xb, xc⟩ := x
  unfold nv at HRl HTo HLk
  go_wp2_with fail
  refine (HRl.out _ R0.out.bp).mono ?_
  rintro e w1 ⟨rfl, hb⟩
  have R1 := Bx.mk (R0.out.later hb)
  clear hb R0 c0 c1
  have c0 := (R1.out.bp.wp.below.cell (p := ⟨b, o + k * 2, none⟩) (World.block_lt_of_cell? _ _ d0)).trans d0
  have c1 := (R1.out.bp.wp.below.cell (p := ⟨b, o + k * 2 + 1, none⟩) (World.block_lt_of_cell? _ _ d1)).trans d1
  go_wp2_with fail
  refine (HTo.out _).mono ?_
  rintro e w2 ⟨rfl, hb⟩
  have R2 := Bx.mk (R1.out.later hb)
  clear hb R1 c0 c1
  have c0 := (R2.out.bp.wp.below.cell (p := ⟨b, o + k * 2, none⟩) (World.block_lt_of_cell? _ _ d0)).trans d0
  have c1 := (R2.out.bp.wp.below.cell (p := ⟨b, o + k * 2 + 1, none⟩) (World.block_lt_of_cell? _ _ d1)).trans d1
  go_wp2_with fail
  refine (HLk.out _ R2.out.bp).mono ?_
  rintro e w3 ⟨rfl, -, hb⟩
  have R3 := Bx.mk (R2.out.later hb)
  clear hb R2 c0 c1
  have c0 := (R3.out.bp.wp.below.cell (p := ⟨b, o + k * 2, none⟩) (World.block_lt_of_cell? _ _ d0)).trans d0
  have c1 := (R3.out.bp.wp.below.cell (p := ⟨b, o + k * 2 + 1, none⟩) (World.block_lt_of_cell? _ _ d1)).trans d1
  go_wp2_with fail
  refine (HTo.out _).mono ?_
  rintro e w4 ⟨rfl, hb⟩
  have R5 : Bx (BQl w q s (.slice ma mn mc) m (.slice aa an ac) (l.take k) (w4.alloc (.cells #[.int .i64 xb, .int .i64 xc] 24)) ∧ (w4.alloc (.cells #[.int .i64 xb, .int .i64 xc] 24)).rangeAt w4.heap.size 0 (nnc ⟨xb, xc⟩)) := Bx.mk ⟨(R3.out.later hb).later (below_a _), nnc_new w4 ⟨xb, xc⟩ _⟩
  clear hb R3 c0 c1
  skip -- M1
  go_wp2_with (refine wpList_ap12W rfl _ _ rfl w.heap.size _ (l.take k) (by rfl) R5.out.1.all w4.heap.size 0 ⟨xb, xc⟩ 1 (by rfl) R5.out.2 HLl.out R5.out.1.bp.wp.below.size ?_; intro v7 w7 ho hg)
  skip -- M2
  have R7 := Bx.mk (R5.out.1.app ho hg)
  clear ho hg R5
  go_wp2
  exact ⟨⟨⟨rfl, rfl⟩, rfl, rfl, rfl⟩, by rw [HCn.out]; rfl, by first | rfl | go_num, v7, rfl, by rw [HTk.out]; exact R7.out⟩
set_option maxRecDepth 100000 in
set_option maxHeartbeats 4000000 in
theorem lastQ (w : World) (l : List Nn) (q : Nat) (v1 : Value) (s : Ws) (vm : Value) (m : List Nn) (hv : NnsF w v1 l) (hn : l.length ≤ 9223372036854775807) (k : Nat) (hk : k ≤ l.length) (hk6 : k ≤ 20) (hend : l.length ≤ k ∨ k = 20)
    (Q : Exit → Act → World → Prop) (N : Act → World → Prop) (hq : ∀ a' w' va, FQl v1 vm q a' → a'.eval (.tmp 9) = .int .i64 ((cntL s (l.take k) : Nat) : Int) → a'.eval (.tmp 10) = va → BQl w q s vm m va (l.take k) w' → Q (.exit 2) a' w') (a : Act) (wr : World) (h : IQl w q s vm m v1 l k a wr) :
    Code.wp Try.prog (loopAt (Try.f3.body) 1) (Exit.then N Q) a wr := by
  obtain ⟨hf, s9, s11, va, s10, hB⟩ := h
  have HB := Bx.mk hB
  have HQ := Bx.mk hq
  obtain ⟨a0, cap, rfl⟩ := hv.1.form
  obtain ⟨cn, hcn⟩ : ∃ c, cntL s (l.take k) = c := ⟨_, rfl⟩
  rw [hcn] at s9 HQ
  obtain ⟨na, hna⟩ : ∃ m, l.length = m := ⟨_, rfl⟩
  rw [hna] at hk hn hf hend HQ
  have k0 : (0 : Int) ≤ (k : Int) := by omega
  have m1 : (na : Int) ≤ 9223372036854775807 := by omega
  obtain ⟨y, rfl, hy⟩ := open104 hf.fr
  have e1 := (hy 1).symm.trans hf.s1
  have e5 := (hy 5).symm.trans hf.s5
  have e6 := (hy 6).symm.trans hf.s6
  have e9 := (hy 9).symm.trans s9
  have e10 := (hy 10).symm.trans s10
  have e11 := (hy 11).symm.trans s11
  clear hf hy s9 s10 s11 hB hq hv hna hcn
  rw [e1, e5, e6, e9, e10, e11]
  clear e1 e5 e6 e9 e10 e11
  conv => arg 2; whnf
  by_cases hlt : k < na
  · have h1 : (k : Int) < (na : Int) := by omega
    have h2 : ¬ (k : Int) < 20 := by omega
    clear hend hlt hk hk6 hn
    go_wp2
    exact HQ.out _ _ va ⟨⟨rfl, rfl⟩, rfl, rfl, rfl⟩ rfl rfl HB.out
  · have h1 : ¬ (k : Int) < (na : Int) := by omega
    clear hend hlt hk hk6 hn
    go_wp2
    exact HQ.out _ _ va ⟨⟨rfl, rfl⟩, rfl, rfl, rfl⟩ rfl rfl HB.out
theorem loopQ (w : World) (l : List Nn) (q : Nat) (v1 : Value) (s : Ws) (vm : Value) (m : List Nn) (hv : NnsF w v1 l) (hn : l.length ≤ 9223372036854775807) (hm : m.length ≤ 60)
    (Q : Exit → Act → World → Prop) (a : Act) (wr : World) (h : IQl w q s vm m v1 l 0 a wr) (hq : ∀ a' w' va, FQl v1 vm q a' → a'.eval (.tmp 9) = .int .i64 ((cntL s (l.take (min l.length 20)) : Nat) : Int) → a'.eval (.tmp 10) = va → BQl w q s vm m va (l.take (min l.length 20)) w' → Q (.exit 2) a' w') :
    Code.wp Try.prog (.loop (loopAt (Try.f3.body) 1)) Q a wr :=
  wp_count (min l.length 20) (fun k a w' => IQl w q s vm m v1 l k a w') 0 (Nat.zero_le _) h (fun k a w' hk hI => by
    obtain ⟨hf, s9, s11, va, s10, hB⟩ := hI
    by_cases hz : lookW s (l.getD k Nn.zero) = 8
    · exact roundQ_in w l q v1 s vm m hv hn hm Q k a w' (by omega) (by omega) hf s9 s11 va s10 hB hz
    · exact roundQ_out w l q v1 s vm m hv hn hm Q k a w' (by omega) (by omega) hf s9 s11 va s10 hB hz) (fun a w' hI => lastQ w l q v1 s vm m hv hn _ (by omega) (by omega) (by omega) Q _ hq a w' hI)
end Go.Proofs.Ytoohcjdjmafliaa
namespace Go.Proofs.Ytoohcjdjmafliaa
open Go Go.RowKit
set_option maxRecDepth 100000 in
set_option maxHeartbeats 4000000 in
theorem wplays_all (l looks : List Nn) (v0 v1 : Value) (w : World) (h0 : NnsF w v0 l) (h0n : l.length ≤ 9223372036854775807) (h1 : NnsF w v1 looks) (h1n : looks.length ≤ 9223372036854775807) :
    Calls Try.prog 3 #[v0, v1] w fun e w' => e = .returned (.bool true) ∧ Below w.heap.size w w' := by
  have HP := Bx.mk fun (q : Nat) (Q : Exit → Act → World → Prop) (a : Act) (wr : World) => loopP w l q v0 v1 h0 h0n Q a wr
  have HQ := Bx.mk fun (q : Nat) (s : Ws) (vm : Value) (m : List Nn) (hm : m.length ≤ 60) (Q : Exit → Act → World → Prop) (a : Act) (wr : World) => loopQ w looks q v1 s vm m h1 h1n hm Q a wr
  have HKn := Bx.mk fun (W : World) => known12_any W
  have R0 := Bx.mk (WP.start w)
  have HN := Bx.mk (OwnN.nil 29 (w.alloc (.cells #[.int .i64 0, .int .i64 0, .int .u64 0] 27)) w.heap.size)
  have HLl : Bx ((looks.take (min looks.length 20)).length ≤ 1000) := Bx.mk (by rw [List.length_take]; omega)
  clear h0 h0n h1 h1n
  go_enter Try.func3, Try.ntmps3
  go_wp2
  skip -- M1
  refine HP.out w.heap.size _ _ _ ⟨⟨⟨rfl, rfl⟩, rfl, rfl, rfl⟩, rfl, _, _, [], rfl, ⟨R0.out, HN.out, RelW.start⟩, by simp⟩ ?_
  intro a6 w6 vm s m hf hvm hB hm
  obtain ⟨ma, mc, hvm2, -, -⟩ := hB.own.form
  have HB := Bx.mk hB
  have HM := Bx.mk hm
  have HNw : Bx (OwnN 24 w6 w.heap.size (.slice none 0 0) []) := Bx.mk (OwnN.nil _ _ _)
  obtain ⟨y, rfl, hx⟩ := open104 hf.fr
  have e0 := (hx 0).symm.trans hf.s0
  have e1 := (hx 1).symm.trans hf.s1
  have e5 := (hx 5).symm.trans hf.s5
  have e6 := (hx 6).symm.trans hvm
  clear hf hx hB hm hvm hvm2 HP R0 HN
  rw [e0, e1, e5, e6]
  clear e0 e1 e5 e6
  go_wp2
  skip -- M2
  refine HQ.out w.heap.size s vm m HM.out _ _ _ ⟨⟨⟨rfl, rfl⟩, rfl, rfl, rfl⟩, rfl, rfl, _, rfl, ⟨HB.out, HNw.out⟩⟩ ?_
  intro a7 w7 va hf h9 h10 hB7
  have HB7 := Bx.mk hB7
  obtain ⟨y, rfl, hx⟩ := open104 hf.fr
  have e5 := (hx 5).symm.trans hf.s5
  have e9 := (hx 9).symm.trans h9
  have e10 := (hx 10).symm.trans h10
  clear hf hx h9 h10 hB7 HQ HB HM HNw
  rw [e5, e9, e10]
  clear e5 e9 e10
  have HTa := Bx.mk fun (W : World) (h : BQl w w.heap.size s vm m va (looks.take (min looks.length 20)) W) => taken_any12 (.pointer (some ⟨w.heap.size, 0, none⟩)) (lookW s) va _ W h.all.reads HLl.out (fun W2 n hb => (h.bp.wp.later hb).look n |>.mono fun e W3 ⟨h1, _, h3⟩ => ⟨h1, h3⟩)
  unfold cntL
  generalize (looks.take (min looks.length 20)).countP (fun n => decide (lookW s n = 8)) = cn at *
  go_wp2_with fail
  refine (HKn.out _).mono ?_
  rintro e w8 ⟨rfl, hb⟩
  have R8 := Bx.mk (HB7.out.later hb)
  clear hb HB7
  go_wp2_with fail
  refine (HTa.out _ R8.out).mono ?_
  rintro e w9 ⟨rfl, hb⟩
  have R9 := Bx.mk (R8.out.later hb)
  clear hb R8 HTa
  go_wp2
  go_ret
  exact ⟨rfl, R9.out.bp.wp.below⟩
end Go.Proofs.Ytoohcjdjmafliaa
namespace Go.Proofs.Ytoohcjdjmafliaa
open Go
/-- A world to begin with. -/
noncomputable def laidWorld (os : Os) : World := World.holding Try.prog os ⟨#[], #[], []⟩
end Go.Proofs.Ytoohcjdjmafliaa
