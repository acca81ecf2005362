/-
  DropsJoin: what joins count, and what it carries.
-/
import Derived.Test.YtfommmkkdgdmfaaCu
namespace Go.Proofs.Ytfommmkkdgdmfaa
open Go Go.RowKit
theorem lowJ (a : Int) (m : Nat) (hm : 0 < m) (hm2 : m ≤ 1000000) : ∃ x : Nat, x < m ∧ wrap64 ((IntKind.u64.wrap a).tmod (m : Int)) = (x : Int) := by
  have h0 : 0 ≤ IntKind.u64.wrap a := by rw [IntKind.wrap_u64]; omega
  rw [Int.tmod_eq_emod_of_nonneg h0]
  generalize IntKind.u64.wrap a = z at h0
  have h1 := Int.emod_lt_of_pos z (show (0 : Int) < (m : Int) by omega)
  have h2 := Int.emod_nonneg z (show (m : Int) ≠ 0 by omega)
  refine ⟨(z % (m : Int)).toNat, by omega, ?_⟩
  rw [IntWalk.wrap64_in _ (by omega)]
  omega
theorem foldD_min (top e : Int) (h1 : 1 ≤ e) (h2 : e ≤ 15) (l : List Int) : ∀ c : Int, c ≤ top → l.foldl (stepD top e) c = min top (c + (l.countP (fun x => decide (x = e)) : Nat)) := by
  induction l with
  | nil => intro c hc; simp; omega
  | cons x l ih =>
    intro c hc
    rw [List.foldl_cons, List.countP_cons]
    unfold stepD
    by_cases hx : x = e
    · rw [if_pos (decide_eq_true hx)]
      by_cases hcl : c < top
      · rw [if_pos ⟨hx, h1, h2, hcl⟩]
        have := ih (c + 1) (by omega)
        unfold stepD at this
        rw [this]
        omega
      · rw [if_neg (fun h => hcl h.2.2.2)]
        have := ih c hc
        unfold stepD at this
        rw [this]
        omega
    · rw [if_neg (fun h => hx h.1)]
      have := ih c hc
      unfold stepD at this
      rw [this, decide_eq_false hx]
      simp
theorem foldD_zero (top : Int) (l : List Int) (c : Int) : l.foldl (stepD top 0) c = c := by
  induction l generalizing c with
  | nil => rfl
  | cons x l ih =>
    rw [List.foldl_cons, show stepD top 0 c x = c by unfold stepD; rw [if_neg (fun h => by omega)]]
    exact ih c
/-- Both together are what one would count of both lists. -/
theorem join_is {top : Int} (h1 : 1 ≤ top) (h2 : top ≤ 2147483647) (xs zs : List Int) (k : Nat) (hk : k < 16) : cntD top (xs ++ zs) (k : Int) = (jnC top (cntC top z16 zs) (cntC top z16 xs) 15).getD k 0 := by
  have C0 := Cts.start h1 h2
  rw [jnC_get (cntC_cts C0 xs) (cntC_cts C0 zs) 15 k (by omega), cntC_z16 h1 h2 xs k hk, cntC_z16 h1 h2 zs k hk]
  unfold cntD
  by_cases h0 : 1 ≤ k
  · rw [if_pos ⟨h0, by omega⟩, foldD_min top k (by omega) (by omega) _ 0 (by omega), foldD_min top k (by omega) (by omega) _ 0 (by omega), foldD_min top k (by omega) (by omega) _ 0 (by omega), List.countP_append]
    omega
  · obtain rfl : k = 0 := by omega
    rw [if_neg (by omega)]
    rw [show ((0 : Nat) : Int) = 0 from rfl, foldD_zero, foldD_zero]
theorem ext_getDI {a b : List Int} (hl : a.length = b.length) (h : ∀ i, i < a.length → a.getD i 0 = b.getD i 0) : a = b := by
  apply List.ext_getElem hl
  intro i h1 h2
  have := h i h1
  simpa [h1, h2] using this
theorem join_comm {top : Int} {cs os : List Int} (h : Cts top cs) (ho : Cts top os) : jnC top os cs 15 = jnC top cs os 15 := by
  refine ext_getDI (by rw [(jnC_cts h ho 15).len, (jnC_cts ho h 15).len]) (fun k hk => ?_)
  rw [(jnC_cts h ho 15).len] at hk
  rw [jnC_get h ho 15 k (by omega), jnC_get ho h 15 k (by omega)]
  by_cases h0 : 1 ≤ k
  · rw [if_pos ⟨h0, by omega⟩, if_pos ⟨h0, by omega⟩]
    omega
  · obtain rfl : k = 0 := by omega
    rw [if_neg (by omega), if_neg (by omega), h.zero, ho.zero]
/-- At the list of a plain region's operations, behind a guard. -/
theorem wpList_apIg {w : World} {ops : Array Oper} {rest : List Oper} {o : Oper} {a : Act} {Q : Exit → Act → World → Prop} (hw : Region.wanted o (yielded ops a.tmps) = true) (s x : Operand)
    (ho : o.op = .call { callee := .builtin .append, args := #[s, x], argTypes := #[29, 29] }) (base : Nat) (v : Value) (l : List Int) (hs : a.eval s = v) (hown : OwnI w base v l) (xv : Value) (ps : List Int) (hx : a.eval x = xv) (hb : Ints w xv ps)
    (hn : l.length + ps.length ≤ 10000) (hbase : base ≤ w.heap.size)
    (h : ∀ v' w', OwnI w' base v' (l ++ ps) → w.grownBy w' v.ownBlock → wpList Try.prog ops Q rest (a.put o.dst v') w') : wpList Try.prog ops Q (o :: rest) a w := by
  refine wpList_step fun K hK => ?_
  rw [if_pos hw]
  obtain ⟨v', w', hrun, h1, h2⟩ := run_apI w base v l hown xv ps hb hn hbase o.type
  unfold Oper.wp
  simp [execOp, ho, resolve, invoke, builtin, hs, hx, hrun, Result.andThen]
  exact hK _ _ (h v' w' h1 h2)
theorem own_made0 (W : World) (base : Nat) (hb : base ≤ W.heap.size) : OwnI (W.alloc (.cells #[] 3)) base (.slice (some ⟨W.heap.size, 0, none⟩) 0 0) [] :=
  ⟨rfl, .inr ⟨W.heap.size, 0, #[], rfl, hb, hnew _ _ _ rfl, Nat.le_refl _, by simp only [maxLen]; omega, rfl, rfl⟩⟩
/-- Two drops, and the rows that they count. -/
structure JAs (w : World) (qa qb : Nat) (tp ot : Int) (ca cb : List Int) (x y z v : Value) (xs zs : List Int) (W : World) : Prop where
  a : DB W qa tp ca
  b : DB W qb ot cb
  x : OwnE W w.heap.size x xs
  y : OwnI W w.heap.size y xs
  z : OwnE W w.heap.size z zs
  v : OwnI W w.heap.size v zs
  below : Below w.heap.size w W
  ab : qa ≠ qb
  aw : w.heap.size ≤ qa
  bw : w.heap.size ≤ qb
theorem JAs.later {w : World} {qa qb : Nat} {tp ot : Int} {ca cb : List Int} {x y z v : Value} {xs zs : List Int} {W W1 : World} (h : JAs w qa qb tp ot ca cb x y z v xs zs W) (hb : Below W.heap.size W W1) : JAs w qa qb tp ot ca cb x y z v xs zs W1 :=
  ⟨h.a.later hb, h.b.later hb, h.x.later hb (fun g hg => (h.x.lt g hg).1), h.y.later hb (fun g hg => (h.y.lt g hg).1), h.z.later hb (fun g hg => (h.z.lt g hg).1), h.v.later hb (fun g hg => (h.v.lt g hg).1), h.below.trans (hb.mono h.below.size), h.ab, h.aw, h.bw⟩
theorem kED : 24 ≠ 46 := by decide
theorem kID : 3 ≠ 46 := by decide
theorem JAs.cntA {w : World} {qa qb : Nat} {tp ot : Int} {ca ca' cb : List Int} {x y z v : Value} {xs zs : List Int} {W W1 : World} (h : JAs w qa qb tp ot ca cb x y z v xs zs W) (hd : DB W1 qa tp ca') (hg : W.grownBy W1 (some qa)) : JAs w qa qb tp ot ca' cb x y z v xs zs W1 :=
  ⟨hd, h.b.aside hg (fun e => h.ab e.symm), own_aside13 h.x (h.a.kind kED) hg, own_aside13 h.y (h.a.kind kID) hg, own_aside13 h.z (h.a.kind kED) hg, own_aside13 h.v (h.a.kind kID) hg, h.below.trans (grown_belowD hg h.aw h.below.size), h.ab, h.aw, h.bw⟩
theorem JAs.cntB {w : World} {qa qb : Nat} {tp ot : Int} {ca cb' cb : List Int} {x y z v : Value} {xs zs : List Int} {W W1 : World} (h : JAs w qa qb tp ot ca cb x y z v xs zs W) (hd : DB W1 qb ot cb') (hg : W.grownBy W1 (some qb)) : JAs w qa qb tp ot ca cb' x y z v xs zs W1 :=
  ⟨h.a.aside hg h.ab, hd, own_aside13 h.x (h.b.kind kED) hg, own_aside13 h.y (h.b.kind kID) hg, own_aside13 h.z (h.b.kind kED) hg, own_aside13 h.v (h.b.kind kID) hg, h.below.trans (grown_belowD hg h.bw h.below.size), h.ab, h.aw, h.bw⟩
/-- And their copies. -/
structure JCs (w : World) (qa qb qc qd : Nat) (tp ot : Int) (ca cb cc cd : List Int) (y v : Value) (xs zs : List Int) (W : World) : Prop where
  a : DB W qa tp ca
  b : DB W qb ot cb
  c : DB W qc tp cc
  d : DB W qd ot cd
  y : OwnI W w.heap.size y xs
  v : OwnI W w.heap.size v zs
  below : Below w.heap.size w W
  ac : qa ≠ qc
  ad : qa ≠ qd
  bc : qb ≠ qc
  bd : qb ≠ qd
  cd' : qc ≠ qd
  cw : w.heap.size ≤ qc
  dw : w.heap.size ≤ qd
theorem JCs.later {w : World} {qa qb qc qd : Nat} {tp ot : Int} {ca cb cc cd : List Int} {y v : Value} {xs zs : List Int} {W W1 : World} (h : JCs w qa qb qc qd tp ot ca cb cc cd y v xs zs W) (hb : Below W.heap.size W W1) : JCs w qa qb qc qd tp ot ca cb cc cd y v xs zs W1 :=
  ⟨h.a.later hb, h.b.later hb, h.c.later hb, h.d.later hb, h.y.later hb (fun g hg => (h.y.lt g hg).1), h.v.later hb (fun g hg => (h.v.lt g hg).1), h.below.trans (hb.mono h.below.size), h.ac, h.ad, h.bc, h.bd, h.cd', h.cw, h.dw⟩
theorem JCs.jnC {w : World} {qa qb qc qd : Nat} {tp ot : Int} {ca cb cc cc' cd : List Int} {y v : Value} {xs zs : List Int} {W W1 : World} (h : JCs w qa qb qc qd tp ot ca cb cc cd y v xs zs W) (hd : DB W1 qc tp cc') (hg : W.grownBy W1 (some qc)) : JCs w qa qb qc qd tp ot ca cb cc' cd y v xs zs W1 :=
  ⟨h.a.aside hg h.ac, h.b.aside hg h.bc, hd, h.d.aside hg (fun e => h.cd' e.symm), own_aside13 h.y (h.c.kind kID) hg, own_aside13 h.v (h.c.kind kID) hg, h.below.trans (grown_belowD hg h.cw h.below.size), h.ac, h.ad, h.bc, h.bd, h.cd', h.cw, h.dw⟩
theorem JCs.jnD {w : World} {qa qb qc qd : Nat} {tp ot : Int} {ca cb cc cd' cd : List Int} {y v : Value} {xs zs : List Int} {W W1 : World} (h : JCs w qa qb qc qd tp ot ca cb cc cd y v xs zs W) (hd : DB W1 qd ot cd') (hg : W.grownBy W1 (some qd)) : JCs w qa qb qc qd tp ot ca cb cc cd' y v xs zs W1 :=
  ⟨h.a.aside hg h.ad, h.b.aside hg h.bd, h.c.aside hg h.cd', hd, own_aside13 h.y (h.d.kind kID) hg, own_aside13 h.v (h.d.kind kID) hg, h.below.trans (grown_belowD hg h.dw h.below.size), h.ac, h.ad, h.bc, h.bd, h.cd', h.cw, h.dw⟩
theorem JCs.cpy {w : World} {qa qb : Nat} {tp ot : Int} {ca cb : List Int} {x y z v : Value} {xs zs : List Int} {W W1 W2 : World} (h : JAs w qa qb tp ot ca cb x y z v xs zs W) (hc : DB W1 W.heap.size tp ca) (hb : Below W.heap.size W W1) (hd : DB W2 W1.heap.size ot cb) (hb2 : Below W1.heap.size W1 W2) : JCs w qa qb W.heap.size W1.heap.size tp ot ca cb ca cb y v xs zs W2 := by
  have h1 := h.later hb
  have h2 := h1.later hb2
  have l1 := h.a.lt
  have l2 := h.b.lt
  have l3 := h1.a.lt
  have l4 := h1.b.lt
  have l5 := hc.lt
  have l6 := h.below.size
  have l7 := hb.size
  exact ⟨h2.a, h2.b, hc.later hb2, hd, h2.y, h2.v, h2.below, by omega, by omega, by omega, by omega, by omega, l6, Nat.le_trans l6 l7⟩
end Go.Proofs.Ytfommmkkdgdmfaa
namespace Go.Proofs.Ytfommmkkdgdmfaa
open Go Go.RowKit
set_option maxRecDepth 100000 in
set_option maxHeartbeats 4000000 in
theorem djoin_other (n0 n1 : Int) (l o : List Int) (v2 v3 : Value) (w : World) (h0 : Ints w v2 l) (h0n : l.length ≤ 9223372036854775807) (h1 : Ints w v3 o) (h1n : o.length ≤ 9223372036854775807) (x1 x2 : Nat) (hx1 : x1 < 9) (hx2 : x2 < 9) (ex1 : wrap64 ((IntKind.u64.wrap n0).tmod 9) = (x1 : Int)) (ex2 : wrap64 ((IntKind.u64.wrap n1).tmod 9) = (x2 : Int)) (hne : x1 ≠ x2) :
    Calls Try.prog 4 #[.int .i64 n0, .int .i64 n1, v2, v3] w fun e w' => e = .returned (.bool true) ∧ Below w.heap.size w w' := by
  have EX : Bx (wrap64 ((IntKind.u64.wrap n0).tmod 9) = (x1 : Int) ∧ wrap64 ((IntKind.u64.wrap n1).tmod 9) = (x2 : Int)) := Bx.mk ⟨ex1, ex2⟩
  have EW : Bx (wrap64 (1 + (x1 : Int)) = 1 + (x1 : Int) ∧ wrap64 (1 + (x2 : Int)) = 1 + (x2 : Int)) := Bx.mk (by unfold wrap64; omega)
  obtain ⟨tp, htp⟩ : ∃ tp, 1 + (x1 : Int) = tp := ⟨_, rfl⟩
  obtain ⟨ot, hot⟩ : ∃ ot, 1 + (x2 : Int) = ot := ⟨_, rfl⟩
  have t1 : 1 ≤ tp := by omega
  have t2 : tp ≤ 2147483647 := by omega
  have o1 : 1 ≤ ot := by omega
  have o2 : ot ≤ 2147483647 := by omega
  have hto : tp ≠ ot := by omega
  have HTP := Bx.mk (And.intro htp hot)
  have HTO := Bx.mk hto
  have CA := Bx.mk (Cts.start t1 t2)
  have CB := Bx.mk (Cts.start o1 o2)
  have HTT := Bx.mk (And.intro t1 (And.intro t2 (And.intro o1 o2)))
  have HT := Bx.mk fun (W : World) (h : Below w.heap.size w W) => to13_any l v2 W (h0.later h) h0n
  have HT2 := Bx.mk fun (W : World) (h : Below w.heap.size w W) => to13_any o v3 W (h1.later h) h1n
  have HKn := Bx.mk fun (W : World) => known13_any W
  have HL1 : Bx ((l.take 20).length ≤ 20) := Bx.mk (by rw [List.length_take]; omega)
  have HL2 : Bx ((o.take 20).length ≤ 20) := Bx.mk (by rw [List.length_take]; omega)
  generalize l.take 20 = xs at *
  generalize o.take 20 = zs at *
  obtain ⟨a2, c2, hv2⟩ : ∃ a c, v2 = .slice a l.length c := by obtain ⟨a, c, h, _⟩ := h0; exact ⟨a, c, h⟩
  obtain ⟨a3, c3, hv3⟩ : ∃ a c, v3 = .slice a o.length c := by obtain ⟨a, c, h, _⟩ := h1; exact ⟨a, c, h⟩
  generalize l.length = n2 at *
  generalize o.length = n3 at *
  subst hv2 hv3
  clear h0 h0n h1 h1n hx1 hx2 ex1 ex2 hne htp hot t1 t2 o1 o2 hto
  go_enter Try.func4, Try.ntmps4
  go_upto_region 2 with fail
  rw [EX.out.1, EX.out.2, EW.out.1, EW.out.2, HTP.out.1, HTP.out.2]
  clear EX EW HTP
  skip -- M1
  go_wp2_with fail
  refine (dnew_ok tp w HTT.out.1 HTT.out.2.1).mono ?_
  rintro e w1 ⟨rfl, hd, hb⟩
  have R1 := Bx.mk (And.intro hd hb)
  clear hd hb
  go_wp2_with fail
  refine (dnew_ok ot w1 HTT.out.2.2.1 HTT.out.2.2.2).mono ?_
  rintro e w2 ⟨rfl, hd, hb⟩
  have R2 : Bx (DB w2 w.heap.size tp z16 ∧ DB w2 w1.heap.size ot z16 ∧ Below w.heap.size w w2 ∧ w.heap.size < w1.heap.size) := Bx.mk ⟨R1.out.1.later hb, hd, R1.out.2.trans (hb.mono R1.out.2.size), R1.out.1.lt⟩
  clear hd hb R1
  generalize w1.heap.size = qb at *
  clear w1
  skip -- M2
  go_wp2_with fail
  refine (HT.out _ R2.out.2.2.1).mono ?_
  rintro e w3 ⟨x, y, rfl, hx, hy, hb⟩
  have R3 : Bx (DB w3 w.heap.size tp z16 ∧ DB w3 qb ot z16 ∧ Below w.heap.size w w3 ∧ w.heap.size < qb ∧ OwnE w3 w.heap.size x xs ∧ OwnI w3 w.heap.size y xs) := Bx.mk ⟨R2.out.1.later hb, R2.out.2.1.later hb, R2.out.2.2.1.trans (hb.mono R2.out.2.2.1.size), R2.out.2.2.2, hx.weak R2.out.2.2.1.size, hy.weak R2.out.2.2.1.size⟩
  obtain ⟨xa, xc, hxf⟩ := hx.form
  obtain ⟨ya, yc, hyf⟩ := hy.form
  obtain ⟨xn, hxn⟩ : ∃ n, xs.length = n := ⟨_, rfl⟩
  rw [hxn] at hxf hyf
  subst hxf hyf
  clear hx hy hb R2 HT hxn
  go_wp2_with fail
  refine (HT2.out _ R3.out.2.2.1).mono ?_
  rintro e w4 ⟨z, v, rfl, hx, hy, hb⟩
  have R4 : Bx (JAs w w.heap.size qb tp ot z16 z16 (.slice xa xn xc) (.slice ya xn yc) z v xs zs w4) := Bx.mk ⟨R3.out.1.later hb, R3.out.2.1.later hb, R3.out.2.2.2.2.1.later hb (fun g hg => (R3.out.2.2.2.2.1.lt g hg).1), R3.out.2.2.2.2.2.later hb (fun g hg => (R3.out.2.2.2.2.2.lt g hg).1), hx.weak R3.out.2.2.1.size, hy.weak R3.out.2.2.1.size, R3.out.2.2.1.trans (hb.mono R3.out.2.2.1.size), by have := R3.out.2.2.2.1; omega, Nat.le_refl _, by have := R3.out.2.2.2.1; omega⟩
  obtain ⟨za, zc, hzf⟩ := hx.form
  obtain ⟨va, vc, hvf⟩ := hy.form
  obtain ⟨zn, hzn⟩ : ∃ n, zs.length = n := ⟨_, rfl⟩
  rw [hzn] at hzf hvf
  subst hzf hvf
  clear hx hy hb R3 HT2 hzn
  skip -- M3
  go_wp2_with fail
  refine (count_any13 w.heap.size tp z16 xs (.slice xa xn xc) w4 R4.out.a CA.out R4.out.x.ints (by have := HL1.out; omega) (fun W' hg => OwnE.ints (own_aside13 R4.out.x (R4.out.a.kind kED) hg))).mono ?_
  rintro e w5 ⟨rfl, hd, hg⟩
  have R5 := Bx.mk (R4.out.cntA hd hg)
  clear hd hg R4
  go_wp2_with fail
  refine (count_any13 qb ot z16 zs (.slice za zn zc) w5 R5.out.b CB.out R5.out.z.ints (by have := HL2.out; omega) (fun W' hg => OwnE.ints (own_aside13 R5.out.z (R5.out.b.kind kED) hg))).mono ?_
  rintro e w6 ⟨rfl, hd, hg⟩
  have R6 := Bx.mk (R5.out.cntB hd hg)
  clear hd hg R5
  have DA := Bx.mk (cntC_cts CA.out xs)
  have DBd := Bx.mk (cntC_cts CB.out zs)
  obtain ⟨ca, hca⟩ : ∃ ca, cntC tp z16 xs = ca := ⟨_, rfl⟩
  obtain ⟨cb, hcb⟩ : ∃ cb, cntC ot z16 zs = cb := ⟨_, rfl⟩
  have HCA := Bx.mk (And.intro hca hcb)
  rw [hca, hcb] at R6
  rw [hca] at DA
  rw [hcb] at DBd
  clear hca hcb
  skip -- M4
  go_wp2_with fail
  refine (copy_any13 w.heap.size tp ca w6 R6.out.a DA.out.len).mono ?_
  rintro e w7 ⟨rfl, hc, hb⟩
  have R7 := Bx.mk (And.intro (R6.out.later hb) (And.intro hc hb))
  clear hc hb
  go_wp2_with fail
  refine (copy_any13 qb ot cb w7 R7.out.1.b DBd.out.len).mono ?_
  rintro e w8 ⟨rfl, hd, hb⟩
  have R8 := Bx.mk (JCs.cpy R6.out R7.out.2.1 R7.out.2.2 hd hb)
  clear hd hb R6 R7
  generalize w6.heap.size = qc at *
  generalize w7.heap.size = qd at *
  clear w6 w7
  skip -- M5
  go_wp2_with fail
  refine (join_top13 qc qb tp ot ca cb w8 R8.out.c R8.out.b HTT.out.1 HTO.out).mono ?_
  rintro e w9 ⟨rfl, hb⟩
  have R9 := Bx.mk (R8.out.later hb)
  clear hb R8
  go_wp2_with fail
  refine (join_top13 qd w.heap.size ot tp cb ca w9 R9.out.d R9.out.a HTT.out.2.2.1 (fun e => HTO.out e.symm)).mono ?_
  rintro e w10 ⟨rfl, hb⟩
  have R10 := Bx.mk (R9.out.later hb)
  clear hb R9
  skip -- M6
  go_wp2_with fail
  have RAI : Bx (JCs w w.heap.size qb qc qd tp ot ca cb ca cb (.slice ya xn yc) (.slice va zn vc) xs zs (w10.alloc (.cells #[.int .i64 tp, .slice ya xn yc] 31)) ∧ RefB (w10.alloc (.cells #[.int .i64 tp, .slice ya xn yc] 31)) w10.heap.size tp (.slice ya xn yc)) := Bx.mk ⟨R10.out.later (below_a _), hnew _ _ _ rfl⟩
  refine (tells_any w.heap.size w10.heap.size tp ca (.slice ya xn yc) xs _ RAI.out.1.a DA.out RAI.out.2 RAI.out.1.y.ints (by have := HL1.out; omega) (fun k hk => by rw [← HCA.out.1]; exact (cntC_z16 HTT.out.1 HTT.out.2.1 xs k hk).symm)).mono ?_
  rintro e w11 ⟨rfl, hb⟩
  have R11 := Bx.mk (RAI.out.1.later hb)
  clear hb R10 RAI
  skip -- M7
  go_wp2_with fail
  have RAI : Bx (JCs w w.heap.size qb qc qd tp ot ca cb ca cb (.slice ya xn yc) (.slice va zn vc) xs zs (w11.alloc (.cells #[.int .i64 ot, .slice va zn vc] 31)) ∧ RefB (w11.alloc (.cells #[.int .i64 ot, .slice va zn vc] 31)) w11.heap.size ot (.slice va zn vc)) := Bx.mk ⟨R11.out.later (below_a _), hnew _ _ _ rfl⟩
  refine (tells_any qb w11.heap.size ot cb (.slice va zn vc) zs _ RAI.out.1.b DBd.out RAI.out.2 RAI.out.1.v.ints (by have := HL2.out; omega) (fun k hk => by rw [← HCA.out.2]; exact (cntC_z16 HTT.out.2.2.1 HTT.out.2.2.2 zs k hk).symm)).mono ?_
  rintro e w12 ⟨rfl, hb⟩
  have R12 := Bx.mk (RAI.out.1.later hb)
  clear hb R11 RAI
  go_wp2_with fail
  refine (join_arg13 w.heap.size tp ca w12 R12.out.a HTT.out.1).mono ?_
  rintro e w13 ⟨rfl, hw⟩
  obtain rfl : w12 = w13 := hw.symm
  clear hw
  skip -- M8
  have hto : ¬ tp = ot := HTO.out
  go_wp2_with fail
  refine (HKn.out _).mono ?_
  rintro e w13 ⟨rfl, hb⟩
  have R13 := Bx.mk (R12.out.later hb)
  clear hb R12
  skip -- M9
  go_wp2_with fail
  refine (same_any13 w.heap.size qc tp tp ca ca w13 R13.out.a R13.out.c DA.out.len DA.out.len).mono ?_
  rintro e w14 ⟨rfl, hb⟩
  have R14 := Bx.mk (R13.out.later hb)
  clear hb R13
  rw [decide_eq_true (rfl : tp = tp), Bool.true_and, beq_self_eq_true]
  go_wp2_with fail
  refine (same_any13 w.heap.size qb tp ot ca cb w14 R14.out.a R14.out.b DA.out.len DBd.out.len).mono ?_
  rintro e w15 ⟨rfl, hb⟩
  have R15 := Bx.mk (R14.out.later hb)
  clear hb R14
  rw [decide_eq_false HTO.out, Bool.false_and]
  go_wp2
  go_ret
  exact ⟨rfl, R15.out.below⟩
end Go.Proofs.Ytfommmkkdgdmfaa
namespace Go.Proofs.Ytfommmkkdgdmfaa
open Go Go.RowKit
set_option maxRecDepth 100000 in
set_option maxHeartbeats 4000000 in
theorem djoin_like (n0 n1 : Int) (l o : List Int) (v2 v3 : Value) (w : World) (h0 : Ints w v2 l) (h0n : l.length ≤ 9223372036854775807) (h1 : Ints w v3 o) (h1n : o.length ≤ 9223372036854775807) (x1 x2 : Nat) (hx1 : x1 < 9) (hx2 : x2 < 9) (ex1 : wrap64 ((IntKind.u64.wrap n0).tmod 9) = (x1 : Int)) (ex2 : wrap64 ((IntKind.u64.wrap n1).tmod 9) = (x2 : Int)) (hne : x1 = x2) :
    Calls Try.prog 4 #[.int .i64 n0, .int .i64 n1, v2, v3] w fun e w' => e = .returned (.bool true) ∧ Below w.heap.size w w' := by
  have EX : Bx (wrap64 ((IntKind.u64.wrap n0).tmod 9) = (x1 : Int) ∧ wrap64 ((IntKind.u64.wrap n1).tmod 9) = (x2 : Int)) := Bx.mk ⟨ex1, ex2⟩
  have EW : Bx (wrap64 (1 + (x1 : Int)) = 1 + (x1 : Int) ∧ wrap64 (1 + (x2 : Int)) = 1 + (x2 : Int)) := Bx.mk (by unfold wrap64; omega)
  obtain ⟨tp, htp⟩ : ∃ tp, 1 + (x1 : Int) = tp := ⟨_, rfl⟩
  obtain ⟨ot, hot⟩ : ∃ ot, 1 + (x2 : Int) = ot := ⟨_, rfl⟩
  have t1 : 1 ≤ tp := by omega
  have t2 : tp ≤ 2147483647 := by omega
  have o1 : 1 ≤ ot := by omega
  have o2 : ot ≤ 2147483647 := by omega
  have hto : tp = ot := by omega
  have HTP := Bx.mk (And.intro htp hot)
  have HTO := Bx.mk hto
  have CA := Bx.mk (Cts.start t1 t2)
  have CB := Bx.mk (Cts.start o1 o2)
  have HTT := Bx.mk (And.intro t1 (And.intro t2 (And.intro o1 o2)))
  have HT := Bx.mk fun (W : World) (h : Below w.heap.size w W) => to13_any l v2 W (h0.later h) h0n
  have HT2 := Bx.mk fun (W : World) (h : Below w.heap.size w W) => to13_any o v3 W (h1.later h) h1n
  have HKn := Bx.mk fun (W : World) => known13_any W
  have HL1 : Bx ((l.take 20).length ≤ 20) := Bx.mk (by rw [List.length_take]; omega)
  have HL2 : Bx ((o.take 20).length ≤ 20) := Bx.mk (by rw [List.length_take]; omega)
  generalize l.take 20 = xs at *
  generalize o.take 20 = zs at *
  obtain ⟨a2, c2, hv2⟩ : ∃ a c, v2 = .slice a l.length c := by obtain ⟨a, c, h, _⟩ := h0; exact ⟨a, c, h⟩
  obtain ⟨a3, c3, hv3⟩ : ∃ a c, v3 = .slice a o.length c := by obtain ⟨a, c, h, _⟩ := h1; exact ⟨a, c, h⟩
  generalize l.length = n2 at *
  generalize o.length = n3 at *
  subst hv2 hv3
  clear h0 h0n h1 h1n hx1 hx2 ex1 ex2 hne htp hot t1 t2 o1 o2 hto
  go_enter Try.func4, Try.ntmps4
  go_upto_region 2 with fail
  rw [EX.out.1, EX.out.2, EW.out.1, EW.out.2, HTP.out.1, HTP.out.2]
  clear EX EW HTP
  skip -- M1
  go_wp2_with fail
  refine (dnew_ok tp w HTT.out.1 HTT.out.2.1).mono ?_
  rintro e w1 ⟨rfl, hd, hb⟩
  have R1 := Bx.mk (And.intro hd hb)
  clear hd hb
  go_wp2_with fail
  refine (dnew_ok ot w1 HTT.out.2.2.1 HTT.out.2.2.2).mono ?_
  rintro e w2 ⟨rfl, hd, hb⟩
  have R2 : Bx (DB w2 w.heap.size tp z16 ∧ DB w2 w1.heap.size ot z16 ∧ Below w.heap.size w w2 ∧ w.heap.size < w1.heap.size) := Bx.mk ⟨R1.out.1.later hb, hd, R1.out.2.trans (hb.mono R1.out.2.size), R1.out.1.lt⟩
  clear hd hb R1
  generalize w1.heap.size = qb at *
  clear w1
  skip -- M2
  go_wp2_with fail
  refine (HT.out _ R2.out.2.2.1).mono ?_
  rintro e w3 ⟨x, y, rfl, hx, hy, hb⟩
  have R3 : Bx (DB w3 w.heap.size tp z16 ∧ DB w3 qb ot z16 ∧ Below w.heap.size w w3 ∧ w.heap.size < qb ∧ OwnE w3 w.heap.size x xs ∧ OwnI w3 w.heap.size y xs) := Bx.mk ⟨R2.out.1.later hb, R2.out.2.1.later hb, R2.out.2.2.1.trans (hb.mono R2.out.2.2.1.size), R2.out.2.2.2, hx.weak R2.out.2.2.1.size, hy.weak R2.out.2.2.1.size⟩
  obtain ⟨xa, xc, hxf⟩ := hx.form
  obtain ⟨ya, yc, hyf⟩ := hy.form
  obtain ⟨xn, hxn⟩ : ∃ n, xs.length = n := ⟨_, rfl⟩
  rw [hxn] at hxf hyf
  subst hxf hyf
  clear hx hy hb R2 HT hxn
  go_wp2_with fail
  refine (HT2.out _ R3.out.2.2.1).mono ?_
  rintro e w4 ⟨z, v, rfl, hx, hy, hb⟩
  have R4 : Bx (JAs w w.heap.size qb tp ot z16 z16 (.slice xa xn xc) (.slice ya xn yc) z v xs zs w4) := Bx.mk ⟨R3.out.1.later hb, R3.out.2.1.later hb, R3.out.2.2.2.2.1.later hb (fun g hg => (R3.out.2.2.2.2.1.lt g hg).1), R3.out.2.2.2.2.2.later hb (fun g hg => (R3.out.2.2.2.2.2.lt g hg).1), hx.weak R3.out.2.2.1.size, hy.weak R3.out.2.2.1.size, R3.out.2.2.1.trans (hb.mono R3.out.2.2.1.size), by have := R3.out.2.2.2.1; omega, Nat.le_refl _, by have := R3.out.2.2.2.1; omega⟩
  obtain ⟨za, zc, hzf⟩ := hx.form
  obtain ⟨va, vc, hvf⟩ := hy.form
  obtain ⟨zn, hzn⟩ : ∃ n, zs.length = n := ⟨_, rfl⟩
  rw [hzn] at hzf hvf
  subst hzf hvf
  clear hx hy hb R3 HT2 hzn
  skip -- M3
  go_wp2_with fail
  refine (count_any13 w.heap.size tp z16 xs (.slice xa xn xc) w4 R4.out.a CA.out R4.out.x.ints (by have := HL1.out; omega) (fun W' hg => OwnE.ints (own_aside13 R4.out.x (R4.out.a.kind kED) hg))).mono ?_
  rintro e w5 ⟨rfl, hd, hg⟩
  have R5 := Bx.mk (R4.out.cntA hd hg)
  clear hd hg R4
  go_wp2_with fail
  refine (count_any13 qb ot z16 zs (.slice za zn zc) w5 R5.out.b CB.out R5.out.z.ints (by have := HL2.out; omega) (fun W' hg => OwnE.ints (own_aside13 R5.out.z (R5.out.b.kind kED) hg))).mono ?_
  rintro e w6 ⟨rfl, hd, hg⟩
  have R6 := Bx.mk (R5.out.cntB hd hg)
  clear hd hg R5
  have DA := Bx.mk (cntC_cts CA.out xs)
  have DBd := Bx.mk (cntC_cts CB.out zs)
  obtain ⟨ca, hca⟩ : ∃ ca, cntC tp z16 xs = ca := ⟨_, rfl⟩
  obtain ⟨cb, hcb⟩ : ∃ cb, cntC ot z16 zs = cb := ⟨_, rfl⟩
  have HCA := Bx.mk (And.intro hca hcb)
  rw [hca, hcb] at R6
  rw [hca] at DA
  rw [hcb] at DBd
  clear hca hcb
  skip -- M4
  go_wp2_with fail
  refine (copy_any13 w.heap.size tp ca w6 R6.out.a DA.out.len).mono ?_
  rintro e w7 ⟨rfl, hc, hb⟩
  have R7 := Bx.mk (And.intro (R6.out.later hb) (And.intro hc hb))
  clear hc hb
  go_wp2_with fail
  refine (copy_any13 qb ot cb w7 R7.out.1.b DBd.out.len).mono ?_
  rintro e w8 ⟨rfl, hd, hb⟩
  have R8 := Bx.mk (JCs.cpy R6.out R7.out.2.1 R7.out.2.2 hd hb)
  clear hd hb R6 R7
  generalize w6.heap.size = qc at *
  generalize w7.heap.size = qd at *
  clear w6 w7
  skip -- M5
  have hto := HTO.out
  subst hto
  clear HTO
  have hcm := join_comm DA.out DBd.out
  have DC := Bx.mk (jnC_cts DA.out DBd.out 15)
  have hji : ∀ k : Nat, k < 16 → cntD tp (xs ++ zs) (k : Int) = (jnC tp cb ca 15).getD k 0 := fun k hk => by
    have := join_is HTT.out.1 HTT.out.2.1 xs zs k hk
    rw [HCA.out.1, HCA.out.2] at this
    exact this
  obtain ⟨cc, hcc⟩ : ∃ cc, jnC tp cb ca 15 = cc := ⟨_, rfl⟩
  have hcd : jnC tp ca cb 15 = cc := by rw [← hcm]; exact hcc
  have HCC := Bx.mk (And.intro hcc hcd)
  rw [hcc] at DC hji
  have HJI := Bx.mk hji
  clear hcm hcc hcd hji
  go_wp2_with fail
  refine (join_any13 qc qb tp ca cb w8 R8.out.c R8.out.b (fun e => R8.out.bc e.symm) DA.out DBd.out).mono ?_
  rintro e w9 ⟨rfl, hd, hg⟩
  rw [HCC.out.1] at hd
  have R9 := Bx.mk (R8.out.jnC hd hg)
  clear hd hg R8
  go_wp2_with fail
  refine (join_any13 qd w.heap.size tp cb ca w9 R9.out.d R9.out.a (fun e => R9.out.ad e.symm) DBd.out DA.out).mono ?_
  rintro e w10 ⟨rfl, hd, hg⟩
  rw [HCC.out.2] at hd
  have R10 := Bx.mk (R9.out.jnD hd hg)
  clear hd hg R9
  skip -- M6
  go_wp2_with fail
  have RAI : Bx (JCs w w.heap.size qb qc qd tp tp ca cb cc cc (.slice ya xn yc) (.slice va zn vc) xs zs (w10.alloc (.cells #[.int .i64 tp, .slice ya xn yc] 31)) ∧ RefB (w10.alloc (.cells #[.int .i64 tp, .slice ya xn yc] 31)) w10.heap.size tp (.slice ya xn yc)) := Bx.mk ⟨R10.out.later (below_a _), hnew _ _ _ rfl⟩
  refine (tells_any w.heap.size w10.heap.size tp ca (.slice ya xn yc) xs _ RAI.out.1.a DA.out RAI.out.2 RAI.out.1.y.ints (by have := HL1.out; omega) (fun k hk => by rw [← HCA.out.1]; exact (cntC_z16 HTT.out.1 HTT.out.2.1 xs k hk).symm)).mono ?_
  rintro e w11 ⟨rfl, hb⟩
  have R11 := Bx.mk (RAI.out.1.later hb)
  clear hb R10 RAI
  go_wp2_with fail
  have RAI : Bx (JCs w w.heap.size qb qc qd tp tp ca cb cc cc (.slice ya xn yc) (.slice va zn vc) xs zs (w11.alloc (.cells #[.int .i64 tp, .slice va zn vc] 31)) ∧ RefB (w11.alloc (.cells #[.int .i64 tp, .slice va zn vc] 31)) w11.heap.size tp (.slice va zn vc)) := Bx.mk ⟨R11.out.later (below_a _), hnew _ _ _ rfl⟩
  refine (tells_any qb w11.heap.size tp cb (.slice va zn vc) zs _ RAI.out.1.b DBd.out RAI.out.2 RAI.out.1.v.ints (by have := HL2.out; omega) (fun k hk => by rw [← HCA.out.2]; exact (cntC_z16 HTT.out.2.2.1 HTT.out.2.2.2 zs k hk).symm)).mono ?_
  rintro e w12 ⟨rfl, hb⟩
  have R12 := Bx.mk (RAI.out.1.later hb)
  clear hb R11 RAI
  go_wp2_with fail
  refine (join_arg13 w.heap.size tp ca w12 R12.out.a HTT.out.1).mono ?_
  rintro e w13 ⟨rfl, hw⟩
  obtain rfl : w12 = w13 := hw.symm
  clear hw
  skip -- M8
  have hto : (tp != tp) = false := by simp
  go_wp2_with fail
  refine (HKn.out _).mono ?_
  rintro e w13 ⟨rfl, hb⟩
  have R13 := Bx.mk (R12.out.later hb)
  clear hb R12
  skip -- M9
  have R14 : Bx (JCs w w.heap.size qb qc qd tp tp ca cb cc cc (.slice ya xn yc) (.slice va zn vc) xs zs (w13.alloc (.cells #[] 3)) ∧ OwnI (w13.alloc (.cells #[] 3)) w13.heap.size (.slice (some ⟨w13.heap.size, 0, none⟩) 0 0) [] ∧ w13.heap.size ≤ (w13.alloc (.cells #[] 3)).heap.size) := Bx.mk ⟨R13.out.later (below_a _), own_made0 w13 _ (Nat.le_refl _), by simp⟩
  go_wp2_with (first | (refine wpList_apIg (by rfl) _ _ rfl w13.heap.size _ [] (by rfl) R14.out.2.1 _ xs (by rfl) R14.out.1.y.ints (by have := HL1.out; simp; omega) R14.out.2.2 ?_; intro v15 w15 ho hg; have R15 : Bx (JCs w w.heap.size qb qc qd tp tp ca cb cc cc (.slice ya xn yc) (.slice va zn vc) xs zs w15 ∧ OwnI w15 w13.heap.size v15 xs ∧ Below w13.heap.size w13 w15) := Bx.mk (by (have hb := (below_a (W := w13) (.cells #[] 3)).trans (ownI_below R14.out.2.1 hg R14.out.2.2)); exact ⟨R13.out.later hb, ho, hb⟩); clear ho hg R14; obtain ⟨a15, c15, h15⟩ := R15.out.2.1.form; obtain ⟨m15, hm15⟩ : ∃ n, xs.length = n := ⟨_, rfl⟩; rw [hm15] at h15; subst h15; clear hm15) | (refine wpList_apIg (by rfl) _ _ rfl w13.heap.size _ xs (by rfl) R15.out.2.1 _ zs (by rfl) R15.out.1.v.ints (by have := HL1.out; have := HL2.out; omega) R15.out.2.2.size ?_; intro v16 w16 ho hg; have R16 : Bx (JCs w w.heap.size qb qc qd tp tp ca cb cc cc (.slice ya xn yc) (.slice va zn vc) xs zs w16 ∧ OwnI w16 w13.heap.size v16 (xs ++ zs)) := Bx.mk (by (have hb := R15.out.2.2.trans (ownI_below R15.out.2.1 hg R15.out.2.2.size)); exact ⟨R13.out.later hb, ho⟩); clear ho hg R15 R13; obtain ⟨a16, c16, h16⟩ := R16.out.2.form; obtain ⟨m16, hm16⟩ : ∃ n, (xs ++ zs).length = n := ⟨_, rfl⟩; have HM16 := Bx.mk hm16; rw [hm16] at h16; subst h16; clear hm16))
  skip -- M10
  have R17 : Bx (JCs w w.heap.size qb qc qd tp tp ca cb cc cc (.slice ya xn yc) (.slice va zn vc) xs zs (w16.alloc (.cells #[.int .i64 tp, .slice a16 m16 c16] 31)) ∧ RefB (w16.alloc (.cells #[.int .i64 tp, .slice a16 m16 c16] 31)) w16.heap.size tp (.slice a16 m16 c16) ∧ Ints (w16.alloc (.cells #[.int .i64 tp, .slice a16 m16 c16] 31)) (.slice a16 m16 c16) (xs ++ zs)) := Bx.mk ⟨R16.out.1.later (below_a _), hnew _ _ _ rfl, R16.out.2.ints.later (below_a _)⟩
  refine (tells_any qc w16.heap.size tp cc (.slice a16 m16 c16) (xs ++ zs) _ R17.out.1.c DC.out R17.out.2.1 R17.out.2.2 (by rw [List.length_append]; have := HL1.out; have := HL2.out; omega) HJI.out).mono ?_
  rintro e w18 ⟨rfl, hb⟩
  have R18 := Bx.mk (R17.out.1.later hb)
  clear hb R17 R16
  go_wp2_with fail
  refine (same_any13 qc qd tp tp cc cc w18 R18.out.c R18.out.d DC.out.len DC.out.len).mono ?_
  rintro e w19 ⟨rfl, hb⟩
  have R19 := Bx.mk (R18.out.later hb)
  clear hb R18
  rw [decide_eq_true (rfl : tp = tp), Bool.true_and, beq_self_eq_true]
  go_wp2
  go_ret
  exact ⟨rfl, R19.out.below⟩
theorem djoin_all (n0 n1 : Int) (l o : List Int) (v2 v3 : Value) (w : World) (h0 : Ints w v2 l) (h0n : l.length ≤ 9223372036854775807) (h1 : Ints w v3 o) (h1n : o.length ≤ 9223372036854775807) :
    Calls Try.prog 4 #[.int .i64 n0, .int .i64 n1, v2, v3] w fun e w' => e = .returned (.bool true) ∧ Below w.heap.size w w' := by
  obtain ⟨x1, hx1, ex1⟩ := lowJ n0 9 (by omega) (by omega)
  obtain ⟨x2, hx2, ex2⟩ := lowJ n1 9 (by omega) (by omega)
  by_cases he : x1 = x2
  · exact djoin_like n0 n1 l o v2 v3 w h0 h0n h1 h1n x1 x2 hx1 hx2 ex1 ex2 he
  · exact djoin_other n0 n1 l o v2 v3 w h0 h0n h1 h1n x1 x2 hx1 hx2 ex1 ex2 he
end Go.Proofs.Ytfommmkkdgdmfaa
namespace Go.Proofs.Ytfommmkkdgdmfaa
open Go
/-- A world to begin with. -/
noncomputable def laidWorld (os : Os) : World := World.holding Try.prog os ⟨#[], #[], []⟩
end Go.Proofs.Ytfommmkkdgdmfaa
