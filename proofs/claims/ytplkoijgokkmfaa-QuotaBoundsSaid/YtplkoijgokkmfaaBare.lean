/-
  QuotaBounds: what it carries; a round of its outer loop.
-/
import Derived.Test.YtplkoijgokkmfaaB5
import Derived.Deep.RegionHeld3
import Derived.Test.YtplkoijgokkmfaaB1
namespace Go.Proofs.Ytplkoijgokkmfaa
open Go Go.RowKit
theorem OwnI.keptB {w w1 : World} {base : Nat} {v : Value} {l : List Int} (h : OwnI w base v l) (hk : ∀ (g : Nat) (cs : Array Value) (fr : Nat × Nat), w.heap[g]? = some (.cells cs 3 fr) → w1.heap[g]? = some (.cells cs 3 fr)) : OwnI w1 base v l := by
  refine ⟨h.1, ?_⟩
  rcases h.2 with h0 | ⟨g, cap, cur, hv, hb', hh, hr⟩
  · exact .inl h0
  · exact .inr ⟨g, cap, cur, hv, hb', hk g _ _ hh, hr⟩
theorem OwnI.asideM {w w1 : World} {base M : Nat} {v : Value} {l : List Int} {m : List En} (h : OwnI w base v l) (hm : MapQ w M m) (hg : w.grownBy w1 (some M)) : OwnI w1 base v l := h.keptB fun g cs fr h0 => by
  rw [hg.block g (Array.getElem?_eq_some_iff.1 h0).1 (fun e => by
    injection e with e
    subst e
    obtain ⟨es, clock, hb, -, -⟩ := hm.st
    rw [h0] at hb
    cases hb)]
  exact h0
theorem OwnI.asideT {w w1 : World} {base b2 : Nat} {v v2 : Value} {l : List Int} {m : List Tk} (h : OwnI w base v l) (ho : OwnT w b2 v2 m) (hg : w.grownBy w1 v2.ownBlock) : OwnI w1 base v l := h.keptB fun g cs fr h0 => by
  rw [hg.block g (Array.getElem?_eq_some_iff.1 h0).1 (fun e => by
    rcases ho.2 with ⟨hv, -⟩ | ⟨g2, cap, cur, hv, -, hh, -⟩
    · rw [hv] at e; cases e
    · rw [hv] at e
      injection e with e
      subst e
      rw [h0] at hh
      injection hh with hh
      injection hh with _ e2
      exact absurd e2 (by decide))]
  exact h0
/-- Quotas, and a row of what was taken. -/
structure BS (w : World) (q M : Nat) (n : Int) (l : List En) (m : List Tk) (vm : Value) (W : World) : Prop where
  below : Below w.heap.size w W
  qb : QB W q M n l
  ge : w.heap.size ≤ M
  own : OwnT W w.heap.size vm m
theorem BS.later {w : World} {q M : Nat} {n : Int} {l : List En} {m : List Tk} {vm : Value} {W W1 : World} (h : BS w q M n l m vm W) (hb : Below W.heap.size W W1) : BS w q M n l m vm W1 := ⟨h.below.trans (hb.mono h.below.size), h.qb.later hb, h.ge, h.own.later hb⟩
theorem BS.take {w : World} {q M : Nat} {n : Int} {l l1 : List En} {m : List Tk} {vm : Value} {W W1 : World} (h : BS w q M n l m vm W) (hq : QB W1 q M n l1) (hg : W.grownBy W1 (some M)) : BS w q M n l1 m vm W1 := ⟨h.below.trans (grown_belowQ hg h.ge h.below.size), hq, h.ge, h.own.aside h.qb.hm hg⟩
theorem BS.app {w : World} {q M : Nat} {n : Int} {l : List En} {m m1 : List Tk} {vm vm1 : Value} {W W1 : World} (h : BS w q M n l m vm W) (ho : OwnT W1 w.heap.size vm1 m1) (hg : W.grownBy W1 vm.ownBlock) : BS w q M n l m1 vm1 W1 := ⟨h.below.trans (ownT_below h.own hg h.below.size), h.qb.row h.own hg, h.ge, ho⟩
/-- What stays in the frame of the outer loop. -/
structure FO (v0 v1 v5 : Value) (a : Act) : Prop where
  fr : Fr 113 a
  s0 : a.eval (.tmp 0) = v0
  s1 : a.eval (.tmp 1) = v1
  s5 : a.eval (.tmp 5) = v5
/-- Between two rounds of the outer loop. -/
structure IB (w : World) (q M : Nat) (n : Int) (v1 : Value) (k : Nat) (a : Act) (W : World) : Prop where
  fo : FO (.int .i64 n) v1 (.pointer (some ⟨q, 0, none⟩)) a
  s8 : a.eval (.tmp 8) = .int .i64 (k : Int)
  st : ∃ vm l m, a.eval (.tmp 7) = vm ∧ BS w q M n l m vm W ∧ RelQ n l m ∧ m.length ≤ k
theorem takeN_sub {n : Int} {l : List En} (s t : Int) : ∀ x ∈ rowS l, x ∈ rowS (takeN l n s t) := fun x hx => by
  rw [rowS_mem] at hx ⊢
  unfold takeN
  split
  · rw [hasQ_putB, hx]; simp
  · exact hx
theorem takeN_len {n : Int} {l : List En} (s t : Int) (h : l.length ≤ 16) : (takeN l n s t).length ≤ 16 := by
  unfold takeN
  split
  · rename_i h0
    obtain ⟨-, -, hf⟩ := takeE_zero h0
    rw [putQ_len]
    split
    · exact h
    · rename_i h1
      have := hf (by simpa using h1)
      omega
  · exact h
theorem bound_once {n : Int} {l : List En} {m : List Tk} (h : RelQ n l m) (s t : Int) (h0 : takeE l n s t = 0) : ¬ n < ((timT (m ++ [⟨s, perT t⟩]) s (perT t) : Nat) : Int) := by
  obtain ⟨hr, ht, -⟩ := takeE_zero h0
  obtain ⟨-, -, -, hp⟩ := refK_zero hr
  have := h.tim s _ hp
  rw [timT_app]
  simp only [decide_true, Bool.and_self, if_true]
  omega
set_option maxRecDepth 100000 in
set_option maxHeartbeats 4000000 in
theorem roundB_no (w : World) (acs : List AcQ) (q M : Nat) (n : Int) (v1 : Value) (hv : ActsQ w v1 acs) (hn : acs.length ≤ 9223372036854775807) (n1 : 1 ≤ n) (n2 : n ≤ 255)
    (Q : Exit → Act → World → Prop) (k : Nat) (a : Act) (wr : World) (hk : k < acs.length) (hk6 : k < 60) (hf : FO (.int .i64 n) v1 (.pointer (some ⟨q, 0, none⟩)) a) (s8 : a.eval (.tmp 8) = .int .i64 (k : Int)) (vm : Value) (l : List En) (m : List Tk) (s7 : a.eval (.tmp 7) = vm) (hB : BS w q M n l m vm wr) (hR : RelQ n l m) (hm : m.length ≤ k)
    (h0 : ¬ takeE l n (acs.getD k AcQ.zero).s (acs.getD k AcQ.zero).t = 0) :
    Code.wp Try.prog (loopAt (Try.f4.body) 0) (Exit.then (fun a' w' => IB w q M n v1 (k + 1) a' w') Q) a wr := by
  have HN := Bx.mk (And.intro n1 n2)
  have HSe := Bx.mk fun (l : List En) (W : World) (h : QB W q M n l) (hl : l.length ≤ 16) => senders_any q M n l W h (by omega)
  obtain ⟨b, o, cap, rfl⟩ := hv.some (by omega)
  obtain ⟨c0, c1, c2, cf⟩ := hv.cells k hk
  obtain ⟨na, hna⟩ : ∃ na, acs.length = na := ⟨_, rfl⟩
  rw [hna] at hk hn hf ⊢
  generalize acs.getD k AcQ.zero = ac at *
  obtain ⟨ak, sd, tk⟩ := ac
  have HAr : Bx (∀ W, Below w.heap.size w W → W.cell? ⟨b, o + k * 3 + 1, none⟩ = some (.int .i64 sd) ∧ W.cell? ⟨b, o + k * 3 + 2, none⟩ = some (.int .i64 tk)) := Bx.mk fun W hb => ⟨(hb.cell (p := ⟨b, o + k * 3 + 1, none⟩) (World.block_lt_of_cell? _ _ c1)).trans c1, (hb.cell (p := ⟨b, o + k * 3 + 2, none⟩) (World.block_lt_of_cell? _ _ c2)).trans c2⟩
  have HCf := Bx.mk cf
  have HTk := Bx.mk fun (W : World) (h : QB W q M n l) => qtake_any q M n l sd tk W h cf.2.1 cf.2.2 hR.ok n1 n2
  have HPe := Bx.mk fun (W : World) => period_any tk W cf.2.2.1 cf.2.2.2
  have HLp := Bx.mk fun (wf : World) (v0 v1 v5 v7 v8 v9 v10 : Value) (us ns : List Int) (hu : Ints wf v9 us) (hns : Ints wf v10 ns) (hu2 : us.length ≤ 1000) (hn2 : ns.length ≤ 1000) (hsub : ∀ x ∈ us, x ∈ ns) (Q : Exit → Act → World → Prop) (a : Act) (wr : World) => loopL wf v0 v1 v5 v7 v8 v9 v10 us ns hu hns hu2 hn2 hsub Q a wr
  have R0 := Bx.mk (And.intro hB hR)
  have HM := Bx.mk hm
  have k1 : (k : Int) < 60 := by omega
  have k2 : (k : Int) < (na : Int) := by omega
  have k0 : (0 : Int) ≤ (k : Int) := by omega
  have m1 : (na : Int) ≤ 9223372036854775807 := by omega
  obtain ⟨ma, mn, mc, hvm⟩ := ownT_shape hB.own
  subst hvm
  have HE0 := Bx.mk h0
  have HK6 := Bx.mk hk6
  obtain ⟨y, rfl, hy⟩ := open113 hf.fr
  have e0 := (hy 0).symm.trans hf.s0
  have e1 := (hy 1).symm.trans hf.s1
  have e5 := (hy 5).symm.trans hf.s5
  have e7 := (hy 7).symm.trans s7
  have e8 := (hy 8).symm.trans s8
  clear hf hy s7 s8 hk hk6 hn hna hB hR hm hv cf c0 c1 c2 n1 n2 h0
  rw [e0, e1, e5, e7, e8]
  clear e0 e1 e5 e7 e8
  conv => arg 2; whnf
  go_wp2_with fail
  refine (HSe.out l wr R0.out.1.qb R0.out.2.len).mono ?_
  rintro e w1 ⟨v9, rfl, ho, hb⟩
  have R2 : Bx (BS w q M n l m (.slice ma mn mc) w1.drew ∧ OwnI w1.drew w.heap.size v9 (rowS l)) := Bx.mk ⟨R0.out.1.later (hb.trans (Below.refl _ _).drew), (ho.weak R0.out.1.below.size).later (Below.refl _ _).drew (fun g hg => (ho.lt g hg).1)⟩
  have HR := Bx.mk R0.out.2
  clear ho hb R0
  go_upto_region 10 with fail
  refine wp_region_noPanic ?_
  refine wp_region_held_drew (S := fun W => W.cell? ⟨b, o + k * 3 + 1, none⟩ = some (.int .i64 sd) ∧ W.cell? ⟨b, o + k * 3 + 2, none⟩ = some (.int .i64 tk)) (by kernel_rfl) (HAr.out _ R2.out.1.below) (fun hHeld => ?_)
  generalize w1.drew = W0 at *
  refine takeL 0 (v := ?_) rfl (by kernel_rfl) (by kernel_rfl) (by kernel_rfl) (fun _ _ _ h => h) (Or.inl ⟨by rfl, ?_⟩) hHeld ?_
  rotate_left 1
  · (intro w hSw; go_simp; try with_reducible rfl)
  try simp only [Act.put, List.setIfInBounds_toArray, List.set_cons_zero, List.set_cons_succ]
  refine takeL 1 (v := ?_) rfl (by kernel_rfl) (by kernel_rfl) (by kernel_rfl) (fun _ _ _ h => h) (Or.inl ⟨by rfl, ?_⟩) hHeld ?_
  rotate_left 1
  · (intro w hSw; go_simp; try with_reducible rfl)
  try simp only [Act.put, List.setIfInBounds_toArray, List.set_cons_zero, List.set_cons_succ]
  refine takeL 2 (v := ?_) rfl (by kernel_rfl) (by kernel_rfl) (by kernel_rfl) (fun _ _ _ h => h) (Or.inl ⟨by rfl, ?_⟩) hHeld ?_
  rotate_left 1
  · (intro w hSw; go_simp; try with_reducible rfl)
  try simp only [Act.put, List.setIfInBounds_toArray, List.set_cons_zero, List.set_cons_succ]
  refine takeL 3 (v := ?_) rfl (by kernel_rfl) (by kernel_rfl) (by kernel_rfl) (fun _ _ _ h => h) (Or.inl ⟨by rfl, ?_⟩) hHeld ?_
  rotate_left 1
  · (intro w hSw; go_simp; try with_reducible rfl)
  try simp only [Act.put, List.setIfInBounds_toArray, List.set_cons_zero, List.set_cons_succ]
  refine takeL 4 (v := ?_) rfl (by kernel_rfl) (by kernel_rfl) (by kernel_rfl) (fun _ _ _ h => h) (Or.inl ⟨by rfl, ?_⟩) hHeld ?_
  rotate_left 1
  · (intro w hSw; go_simp; try with_reducible rfl)
  try simp only [Act.put, List.setIfInBounds_toArray, List.set_cons_zero, List.set_cons_succ]
  refine takeL 5 (v := ?_) rfl (by kernel_rfl) (by kernel_rfl) (by kernel_rfl) (fun _ _ _ h => h) (Or.inl ⟨by rfl, ?_⟩) hHeld ?_
  rotate_left 1
  · (intro w hSw; have q1 := hSw.1; clear hSw; go_simp; try with_reducible rfl)
  try simp only [Act.put, List.setIfInBounds_toArray, List.set_cons_zero, List.set_cons_succ]
  refine takeL 6 (v := ?_) rfl (by kernel_rfl) (by kernel_rfl) (by kernel_rfl) (fun _ _ _ h => h) (Or.inl ⟨by rfl, ?_⟩) hHeld ?_
  rotate_left 1
  · (intro w hSw; go_simp; try with_reducible rfl)
  try simp only [Act.put, List.setIfInBounds_toArray, List.set_cons_zero, List.set_cons_succ]
  refine takeL 7 (v := ?_) rfl (by kernel_rfl) (by kernel_rfl) (by kernel_rfl) (fun _ _ _ h => h) (Or.inl ⟨by rfl, ?_⟩) hHeld ?_
  rotate_left 1
  · (intro w hSw; go_simp; try with_reducible rfl)
  try simp only [Act.put, List.setIfInBounds_toArray, List.set_cons_zero, List.set_cons_succ]
  refine takeL 8 (v := ?_) rfl (by kernel_rfl) (by kernel_rfl) (by kernel_rfl) (fun _ _ _ h => h) (Or.inl ⟨by rfl, ?_⟩) hHeld ?_
  rotate_left 1
  · (intro w hSw; go_simp; try with_reducible rfl)
  try simp only [Act.put, List.setIfInBounds_toArray, List.set_cons_zero, List.set_cons_succ]
  refine takeL 9 (v := ?_) rfl (by kernel_rfl) (by kernel_rfl) (by kernel_rfl) (fun _ _ _ h => h) (Or.inl ⟨by rfl, ?_⟩) hHeld ?_
  rotate_left 1
  · (intro w hSw; go_simp; try with_reducible rfl)
  try simp only [Act.put, List.setIfInBounds_toArray, List.set_cons_zero, List.set_cons_succ]
  refine takeL 10 (v := ?_) rfl (by kernel_rfl) (by kernel_rfl) (by kernel_rfl) (fun _ _ _ h => h) (Or.inl ⟨by rfl, ?_⟩) hHeld ?_
  rotate_left 1
  · (intro w hSw; have q2 := hSw.2; clear hSw; go_simp; try with_reducible rfl)
  try simp only [Act.put, List.setIfInBounds_toArray, List.set_cons_zero, List.set_cons_succ]
  refine stepL 11 (by kernel_rfl) rfl (fun K hK => ?_)
  go_simp
  refine (HTk.out _ R2.out.1.qb).mono ?_
  rintro e W3 ⟨rfl, hq, hg⟩
  show K _ _
  have R3 : Bx (BS w q M n (takeN l n sd tk) m (.slice ma mn mc) W3 ∧ OwnI W3 w.heap.size v9 (rowS l)) := Bx.mk ⟨R2.out.1.take hq hg, R2.out.2.asideM R2.out.1.qb.hm hg⟩
  clear hq hg R2
  refine hK.out _ _ (HAr.out _ R3.out.1.below) (fun hHeld => ?_)
  clear hK K
  try simp only [Act.put, List.setIfInBounds_toArray, List.set_cons_zero, List.set_cons_succ]
  refine takeL 12 (v := ?_) rfl (by kernel_rfl) (by kernel_rfl) (by kernel_rfl) (fun _ _ _ h => h) (Or.inl ⟨by rfl, ?_⟩) hHeld ?_
  rotate_left 1
  · (intro w hSw; go_simp; try with_reducible rfl)
  try simp only [Act.put, List.setIfInBounds_toArray, List.set_cons_zero, List.set_cons_succ]
  refine wpAnyH_done (by kernel_rfl) ?_ _
  refine NoPanic.normal ?_
  clear hHeld
  have hl1 : takeN l n sd tk = l := if_neg HE0.out
  rw [hl1] at R3
  have hE := HE0.out
  have HL1 := Bx.mk HR.out.len
  have HLn := Bx.mk HR.out.len
  have HR1 := Bx.mk HR.out
  have HSub : Bx (∀ x ∈ rowS l, x ∈ rowS l) := Bx.mk fun _ h => h
  generalize takeE l n sd tk = eT at *
  clear hl1 HE0 HTk HPe
  go_wp2_with fail
  refine (HSe.out l _ R3.out.1.qb HL1.out).mono ?_
  rintro e w5 ⟨v10, rfl, ho, hb⟩
  have R5 : Bx (BS w q M n l m (.slice ma mn mc) w5 ∧ OwnI w5 w.heap.size v9 (rowS l) ∧ OwnI w5 w.heap.size v10 (rowS l)) := Bx.mk ⟨R3.out.1.later hb, R3.out.2.later hb (fun g hg => (R3.out.2.lt g hg).1), ho.weak R3.out.1.below.size⟩
  clear ho hb R3
  go_wp2
  skip -- M3
  refine HLp.out w5 _ _ _ _ _ v9 v10 (rowS l) (rowS l) R5.out.2.1.ints R5.out.2.2.ints (by have := HLn.out; have := rowS_len l; omega) (by have := HL1.out; have := rowS_len l; omega) HSub.out _ _ _ ⟨⟨⟨rfl, rfl⟩, rfl, rfl, rfl, rfl, rfl, rfl, rfl⟩, rfl, Below.refl _ _⟩ ?_
  intro a6 w6 hf hb
  have R6 := Bx.mk (R5.out.1.later hb)
  have hln : (rowS l).length ≤ 16 := by rw [rowS_len]; exact HL1.out
  obtain ⟨xa, xc, hvv⟩ := R5.out.2.2.form
  subst hvv
  obtain ⟨xn, hxn⟩ : ∃ xn, (rowS l).length = xn := ⟨_, rfl⟩
  rw [hxn] at hln hf
  have hx1 : ¬ (16 : Int) < (xn : Int) := by omega
  clear hb R5 HLp HSe hln hxn
  obtain ⟨y, rfl, hy⟩ := open113 hf.fr
  have e0 := (hy 0).symm.trans hf.s0
  have e1 := (hy 1).symm.trans hf.s1
  have e5 := (hy 5).symm.trans hf.s5
  have e7 := (hy 7).symm.trans hf.s7
  have e8 := (hy 8).symm.trans hf.s8
  have e9 := (hy 9).symm.trans hf.s9
  have e10 := (hy 10).symm.trans hf.s10
  clear hf hy
  rw [e0, e1, e5, e7, e8, e9, e10]
  clear e0 e1 e5 e7 e8 e9 e10
  have hwk : IntKind.i64.wrap ((k : Int) + 1) = (k : Int) + 1 := by simp [IntKind.wrap_i64]; omega
  go_wp2
  skip -- M4
  exact ⟨⟨⟨rfl, rfl⟩, rfl, rfl, rfl⟩, by first | rfl | go_num, (.slice ma mn mc), l, m, rfl, R6.out, HR1.out, by have := HM.out; omega⟩
set_option maxRecDepth 100000 in
set_option maxHeartbeats 4000000 in
theorem roundB_yes (w : World) (acs : List AcQ) (q M : Nat) (n : Int) (v1 : Value) (hv : ActsQ w v1 acs) (hn : acs.length ≤ 9223372036854775807) (n1 : 1 ≤ n) (n2 : n ≤ 255)
    (Q : Exit → Act → World → Prop) (k : Nat) (a : Act) (wr : World) (hk : k < acs.length) (hk6 : k < 60) (hf : FO (.int .i64 n) v1 (.pointer (some ⟨q, 0, none⟩)) a) (s8 : a.eval (.tmp 8) = .int .i64 (k : Int)) (vm : Value) (l : List En) (m : List Tk) (s7 : a.eval (.tmp 7) = vm) (hB : BS w q M n l m vm wr) (hR : RelQ n l m) (hm : m.length ≤ k)
    (h0 : takeE l n (acs.getD k AcQ.zero).s (acs.getD k AcQ.zero).t = 0) :
    Code.wp Try.prog (loopAt (Try.f4.body) 0) (Exit.then (fun a' w' => IB w q M n v1 (k + 1) a' w') Q) a wr := by
  have HN := Bx.mk (And.intro n1 n2)
  have HSe := Bx.mk fun (l : List En) (W : World) (h : QB W q M n l) (hl : l.length ≤ 16) => senders_any q M n l W h (by omega)
  obtain ⟨b, o, cap, rfl⟩ := hv.some (by omega)
  obtain ⟨c0, c1, c2, cf⟩ := hv.cells k hk
  obtain ⟨na, hna⟩ : ∃ na, acs.length = na := ⟨_, rfl⟩
  rw [hna] at hk hn hf ⊢
  generalize acs.getD k AcQ.zero = ac at *
  obtain ⟨ak, sd, tk⟩ := ac
  have HAr : Bx (∀ W, Below w.heap.size w W → W.cell? ⟨b, o + k * 3 + 1, none⟩ = some (.int .i64 sd) ∧ W.cell? ⟨b, o + k * 3 + 2, none⟩ = some (.int .i64 tk)) := Bx.mk fun W hb => ⟨(hb.cell (p := ⟨b, o + k * 3 + 1, none⟩) (World.block_lt_of_cell? _ _ c1)).trans c1, (hb.cell (p := ⟨b, o + k * 3 + 2, none⟩) (World.block_lt_of_cell? _ _ c2)).trans c2⟩
  have HCf := Bx.mk cf
  have HTk := Bx.mk fun (W : World) (h : QB W q M n l) => qtake_any q M n l sd tk W h cf.2.1 cf.2.2 hR.ok n1 n2
  have HPe := Bx.mk fun (W : World) => period_any tk W cf.2.2.1 cf.2.2.2
  have HLp := Bx.mk fun (wf : World) (v0 v1 v5 v7 v8 v9 v10 : Value) (us ns : List Int) (hu : Ints wf v9 us) (hns : Ints wf v10 ns) (hu2 : us.length ≤ 1000) (hn2 : ns.length ≤ 1000) (hsub : ∀ x ∈ us, x ∈ ns) (Q : Exit → Act → World → Prop) (a : Act) (wr : World) => loopL wf v0 v1 v5 v7 v8 v9 v10 us ns hu hns hu2 hn2 hsub Q a wr
  have R0 := Bx.mk (And.intro hB hR)
  have HM := Bx.mk hm
  have k1 : (k : Int) < 60 := by omega
  have k2 : (k : Int) < (na : Int) := by omega
  have k0 : (0 : Int) ≤ (k : Int) := by omega
  have m1 : (na : Int) ≤ 9223372036854775807 := by omega
  obtain ⟨ma, mn, mc, hvm⟩ := ownT_shape hB.own
  subst hvm
  have HE0 := Bx.mk h0
  have HK6 := Bx.mk hk6
  obtain ⟨y, rfl, hy⟩ := open113 hf.fr
  have e0 := (hy 0).symm.trans hf.s0
  have e1 := (hy 1).symm.trans hf.s1
  have e5 := (hy 5).symm.trans hf.s5
  have e7 := (hy 7).symm.trans s7
  have e8 := (hy 8).symm.trans s8
  clear hf hy s7 s8 hk hk6 hn hna hB hR hm hv cf c0 c1 c2 n1 n2 h0
  rw [e0, e1, e5, e7, e8]
  clear e0 e1 e5 e7 e8
  conv => arg 2; whnf
  go_wp2_with fail
  refine (HSe.out l wr R0.out.1.qb R0.out.2.len).mono ?_
  rintro e w1 ⟨v9, rfl, ho, hb⟩
  have R2 : Bx (BS w q M n l m (.slice ma mn mc) w1.drew ∧ OwnI w1.drew w.heap.size v9 (rowS l)) := Bx.mk ⟨R0.out.1.later (hb.trans (Below.refl _ _).drew), (ho.weak R0.out.1.below.size).later (Below.refl _ _).drew (fun g hg => (ho.lt g hg).1)⟩
  have HR := Bx.mk R0.out.2
  clear ho hb R0
  go_upto_region 10 with fail
  refine wp_region_noPanic ?_
  refine wp_region_held_drew (S := fun W => W.cell? ⟨b, o + k * 3 + 1, none⟩ = some (.int .i64 sd) ∧ W.cell? ⟨b, o + k * 3 + 2, none⟩ = some (.int .i64 tk)) (by kernel_rfl) (HAr.out _ R2.out.1.below) (fun hHeld => ?_)
  generalize w1.drew = W0 at *
  refine takeL 0 (v := ?_) rfl (by kernel_rfl) (by kernel_rfl) (by kernel_rfl) (fun _ _ _ h => h) (Or.inl ⟨by rfl, ?_⟩) hHeld ?_
  rotate_left 1
  · (intro w hSw; go_simp; try with_reducible rfl)
  try simp only [Act.put, List.setIfInBounds_toArray, List.set_cons_zero, List.set_cons_succ]
  refine takeL 1 (v := ?_) rfl (by kernel_rfl) (by kernel_rfl) (by kernel_rfl) (fun _ _ _ h => h) (Or.inl ⟨by rfl, ?_⟩) hHeld ?_
  rotate_left 1
  · (intro w hSw; go_simp; try with_reducible rfl)
  try simp only [Act.put, List.setIfInBounds_toArray, List.set_cons_zero, List.set_cons_succ]
  refine takeL 2 (v := ?_) rfl (by kernel_rfl) (by kernel_rfl) (by kernel_rfl) (fun _ _ _ h => h) (Or.inl ⟨by rfl, ?_⟩) hHeld ?_
  rotate_left 1
  · (intro w hSw; go_simp; try with_reducible rfl)
  try simp only [Act.put, List.setIfInBounds_toArray, List.set_cons_zero, List.set_cons_succ]
  refine takeL 3 (v := ?_) rfl (by kernel_rfl) (by kernel_rfl) (by kernel_rfl) (fun _ _ _ h => h) (Or.inl ⟨by rfl, ?_⟩) hHeld ?_
  rotate_left 1
  · (intro w hSw; go_simp; try with_reducible rfl)
  try simp only [Act.put, List.setIfInBounds_toArray, List.set_cons_zero, List.set_cons_succ]
  refine takeL 4 (v := ?_) rfl (by kernel_rfl) (by kernel_rfl) (by kernel_rfl) (fun _ _ _ h => h) (Or.inl ⟨by rfl, ?_⟩) hHeld ?_
  rotate_left 1
  · (intro w hSw; go_simp; try with_reducible rfl)
  try simp only [Act.put, List.setIfInBounds_toArray, List.set_cons_zero, List.set_cons_succ]
  refine takeL 5 (v := ?_) rfl (by kernel_rfl) (by kernel_rfl) (by kernel_rfl) (fun _ _ _ h => h) (Or.inl ⟨by rfl, ?_⟩) hHeld ?_
  rotate_left 1
  · (intro w hSw; have q1 := hSw.1; clear hSw; go_simp; try with_reducible rfl)
  try simp only [Act.put, List.setIfInBounds_toArray, List.set_cons_zero, List.set_cons_succ]
  refine takeL 6 (v := ?_) rfl (by kernel_rfl) (by kernel_rfl) (by kernel_rfl) (fun _ _ _ h => h) (Or.inl ⟨by rfl, ?_⟩) hHeld ?_
  rotate_left 1
  · (intro w hSw; go_simp; try with_reducible rfl)
  try simp only [Act.put, List.setIfInBounds_toArray, List.set_cons_zero, List.set_cons_succ]
  refine takeL 7 (v := ?_) rfl (by kernel_rfl) (by kernel_rfl) (by kernel_rfl) (fun _ _ _ h => h) (Or.inl ⟨by rfl, ?_⟩) hHeld ?_
  rotate_left 1
  · (intro w hSw; go_simp; try with_reducible rfl)
  try simp only [Act.put, List.setIfInBounds_toArray, List.set_cons_zero, List.set_cons_succ]
  refine takeL 8 (v := ?_) rfl (by kernel_rfl) (by kernel_rfl) (by kernel_rfl) (fun _ _ _ h => h) (Or.inl ⟨by rfl, ?_⟩) hHeld ?_
  rotate_left 1
  · (intro w hSw; go_simp; try with_reducible rfl)
  try simp only [Act.put, List.setIfInBounds_toArray, List.set_cons_zero, List.set_cons_succ]
  refine takeL 9 (v := ?_) rfl (by kernel_rfl) (by kernel_rfl) (by kernel_rfl) (fun _ _ _ h => h) (Or.inl ⟨by rfl, ?_⟩) hHeld ?_
  rotate_left 1
  · (intro w hSw; go_simp; try with_reducible rfl)
  try simp only [Act.put, List.setIfInBounds_toArray, List.set_cons_zero, List.set_cons_succ]
  refine takeL 10 (v := ?_) rfl (by kernel_rfl) (by kernel_rfl) (by kernel_rfl) (fun _ _ _ h => h) (Or.inl ⟨by rfl, ?_⟩) hHeld ?_
  rotate_left 1
  · (intro w hSw; have q2 := hSw.2; clear hSw; go_simp; try with_reducible rfl)
  try simp only [Act.put, List.setIfInBounds_toArray, List.set_cons_zero, List.set_cons_succ]
  refine stepL 11 (by kernel_rfl) rfl (fun K hK => ?_)
  go_simp
  refine (HTk.out _ R2.out.1.qb).mono ?_
  rintro e W3 ⟨rfl, hq, hg⟩
  show K _ _
  have R3 : Bx (BS w q M n (takeN l n sd tk) m (.slice ma mn mc) W3 ∧ OwnI W3 w.heap.size v9 (rowS l)) := Bx.mk ⟨R2.out.1.take hq hg, R2.out.2.asideM R2.out.1.qb.hm hg⟩
  clear hq hg R2
  refine hK.out _ _ (HAr.out _ R3.out.1.below) (fun hHeld => ?_)
  clear hK K
  try simp only [Act.put, List.setIfInBounds_toArray, List.set_cons_zero, List.set_cons_succ]
  refine takeL 12 (v := ?_) rfl (by kernel_rfl) (by kernel_rfl) (by kernel_rfl) (fun _ _ _ h => h) (Or.inl ⟨by rfl, ?_⟩) hHeld ?_
  rotate_left 1
  · (intro w hSw; go_simp; try with_reducible rfl)
  try simp only [Act.put, List.setIfInBounds_toArray, List.set_cons_zero, List.set_cons_succ]
  refine wpAnyH_done (by kernel_rfl) ?_ _
  refine NoPanic.normal ?_
  clear hHeld
  have HL1 := Bx.mk (takeN_len (n := n) sd tk HR.out.len)
  have HLn := Bx.mk HR.out.len
  have HR1 := Bx.mk (HR.out.take HN.out.1 sd tk HE0.out)
  have HSub := Bx.mk (takeN_sub (n := n) (l := l) sd tk)
  have HBd := Bx.mk (bound_once HR.out sd tk HE0.out)
  have hE := HE0.out
  have HTi := Bx.mk fun (v : Value) (W : World) (h : TksR W v (m ++ [⟨sd, perT tk⟩])) => rtimes_any (m ++ [⟨sd, perT tk⟩]) v sd (perT tk) W h (by rw [List.length_append, List.length_singleton]; have := HM.out; have := HK6.out; omega)
  rw [hE]
  clear hE HE0 HTk HR
  generalize takeN l n sd tk = l1 at *
  generalize perT tk = pt at *
  skip -- M1
  go_upto_region 11 with fail
  have R3' : Bx (BS w q M n l1 m (.slice ma mn mc) W3.drew ∧ OwnI W3.drew w.heap.size v9 (rowS l)) := Bx.mk ⟨R3.out.1.later (Below.refl _ _).drew, R3.out.2.later (Below.refl _ _).drew (fun g hg => (R3.out.2.lt g hg).1)⟩
  clear R3
  have R3 := Bx.mk R3'.out
  clear R3'
  refine wp_region_noPanic ?_
  refine wp_region_held_drew (S := fun W => W.cell? ⟨b, o + k * 3 + 1, none⟩ = some (.int .i64 sd) ∧ W.cell? ⟨b, o + k * 3 + 2, none⟩ = some (.int .i64 tk)) (by kernel_rfl) (HAr.out _ R3.out.1.below) (fun hHeld => ?_)
  generalize W3.drew = W1 at *
  refine takeL 0 (v := ?_) rfl (by kernel_rfl) (by kernel_rfl) (by kernel_rfl) (fun _ _ _ h => h) (Or.inl ⟨by rfl, ?_⟩) hHeld ?_
  rotate_left 1
  · (intro w hSw; go_simp; try with_reducible rfl)
  try simp only [Act.put, List.setIfInBounds_toArray, List.set_cons_zero, List.set_cons_succ]
  refine takeL 1 (v := ?_) rfl (by kernel_rfl) (by kernel_rfl) (by kernel_rfl) (fun _ _ _ h => h) (Or.inl ⟨by rfl, ?_⟩) hHeld ?_
  rotate_left 1
  · (intro w hSw; go_simp; try with_reducible rfl)
  try simp only [Act.put, List.setIfInBounds_toArray, List.set_cons_zero, List.set_cons_succ]
  refine takeL 2 (v := ?_) rfl (by kernel_rfl) (by kernel_rfl) (by kernel_rfl) (fun _ _ _ h => h) (Or.inl ⟨by rfl, ?_⟩) hHeld ?_
  rotate_left 1
  · (intro w hSw; go_simp; try with_reducible rfl)
  try simp only [Act.put, List.setIfInBounds_toArray, List.set_cons_zero, List.set_cons_succ]
  refine takeL 3 (v := ?_) rfl (by kernel_rfl) (by kernel_rfl) (by kernel_rfl) (fun _ _ _ h => h) (Or.inl ⟨by rfl, ?_⟩) hHeld ?_
  rotate_left 1
  · (intro w hSw; go_simp; try with_reducible rfl)
  try simp only [Act.put, List.setIfInBounds_toArray, List.set_cons_zero, List.set_cons_succ]
  refine takeL 4 (v := ?_) rfl (by kernel_rfl) (by kernel_rfl) (by kernel_rfl) (fun _ _ _ h => h) (Or.inl ⟨by rfl, ?_⟩) hHeld ?_
  rotate_left 1
  · (intro w hSw; go_simp; try with_reducible rfl)
  try simp only [Act.put, List.setIfInBounds_toArray, List.set_cons_zero, List.set_cons_succ]
  refine takeL 5 (v := ?_) rfl (by kernel_rfl) (by kernel_rfl) (by kernel_rfl) (fun _ _ _ h => h) (Or.inl ⟨by rfl, ?_⟩) hHeld ?_
  rotate_left 1
  · (intro w hSw; have q1 := hSw.1; clear hSw; go_simp; try with_reducible rfl)
  try simp only [Act.put, List.setIfInBounds_toArray, List.set_cons_zero, List.set_cons_succ]
  refine takeL 6 (v := ?_) rfl (by kernel_rfl) (by kernel_rfl) (by kernel_rfl) (fun _ _ _ h => h) (Or.inl ⟨by rfl, ?_⟩) hHeld ?_
  rotate_left 1
  · (intro w hSw; go_simp; try with_reducible rfl)
  try simp only [Act.put, List.setIfInBounds_toArray, List.set_cons_zero, List.set_cons_succ]
  refine takeL 7 (v := ?_) rfl (by kernel_rfl) (by kernel_rfl) (by kernel_rfl) (fun _ _ _ h => h) (Or.inl ⟨by rfl, ?_⟩) hHeld ?_
  rotate_left 1
  · (intro w hSw; go_simp; try with_reducible rfl)
  try simp only [Act.put, List.setIfInBounds_toArray, List.set_cons_zero, List.set_cons_succ]
  refine takeL 8 (v := ?_) rfl (by kernel_rfl) (by kernel_rfl) (by kernel_rfl) (fun _ _ _ h => h) (Or.inl ⟨by rfl, ?_⟩) hHeld ?_
  rotate_left 1
  · (intro w hSw; go_simp; try with_reducible rfl)
  try simp only [Act.put, List.setIfInBounds_toArray, List.set_cons_zero, List.set_cons_succ]
  refine takeL 9 (v := ?_) rfl (by kernel_rfl) (by kernel_rfl) (by kernel_rfl) (fun _ _ _ h => h) (Or.inl ⟨by rfl, ?_⟩) hHeld ?_
  rotate_left 1
  · (intro w hSw; go_simp; try with_reducible rfl)
  try simp only [Act.put, List.setIfInBounds_toArray, List.set_cons_zero, List.set_cons_succ]
  refine takeL 10 (v := ?_) rfl (by kernel_rfl) (by kernel_rfl) (by kernel_rfl) (fun _ _ _ h => h) (Or.inl ⟨by rfl, ?_⟩) hHeld ?_
  rotate_left 1
  · (intro w hSw; have q2 := hSw.2; clear hSw; go_simp; try with_reducible rfl)
  try simp only [Act.put, List.setIfInBounds_toArray, List.set_cons_zero, List.set_cons_succ]
  refine stepL 11 (by kernel_rfl) rfl (fun K hK => ?_)
  go_simp
  refine (HPe.out _).mono ?_
  rintro e Wx ⟨rfl, rfl⟩
  show K _ _
  refine hK.out _ _ (HAr.out _ R3.out.1.below) (fun hHeld => ?_)
  clear hK K
  try simp only [Act.put, List.setIfInBounds_toArray, List.set_cons_zero, List.set_cons_succ]
  refine takeL 12 (v := ?_) rfl (by kernel_rfl) (by kernel_rfl) (by kernel_rfl) (fun _ _ _ h => h) (Or.inl ⟨by rfl, ?_⟩) hHeld ?_
  rotate_left 1
  · (intro w hSw; go_simp; try with_reducible rfl)
  try simp only [Act.put, List.setIfInBounds_toArray, List.set_cons_zero, List.set_cons_succ]
  refine stepL 13 (by kernel_rfl) rfl (fun K hK => ?_)
  go_simp
  show K _ _
  have R4 : Bx (BS w q M n l1 m (.slice ma mn mc) (W1.alloc (.cells #[.int .i64 sd, .int .i64 pt] 40)) ∧ OwnI (W1.alloc (.cells #[.int .i64 sd, .int .i64 pt] 40)) w.heap.size v9 (rowS l) ∧ (W1.alloc (.cells #[.int .i64 sd, .int .i64 pt] 40)).rangeAt W1.heap.size 0 (tkc ⟨sd, pt⟩)) := Bx.mk ⟨R3.out.1.later (below_a _), R3.out.2.later (below_a _) (fun g hg => (R3.out.2.lt g hg).1), tkc_new W1 ⟨sd, pt⟩ _⟩
  clear R3
  refine hK.out _ _ (HAr.out _ R4.out.1.below) (fun hHeld => ?_)
  clear hK K
  try simp only [Act.put, List.setIfInBounds_toArray, List.set_cons_zero, List.set_cons_succ]
  generalize W1.heap.size = G1 at *
  generalize W1.alloc (.cells #[.int .i64 sd, .int .i64 pt] 40) = W2 at *
  refine stepL 14 (by kernel_rfl) rfl (fun K hK => ?_)
  refine step_apT11 rfl _ _ rfl w.heap.size (.slice ma mn mc) m (by rfl) R4.out.1.own G1 0 ⟨sd, pt⟩ 1 (by rfl) R4.out.2.2 (by have := HM.out; have := HK6.out; omega) R4.out.1.below.size ?_
  intro vm1 W3 ho hg
  obtain ⟨na1, nn1, nc1, hvm1⟩ := ownT_shape ho
  subst hvm1
  have R5 : Bx (BS w q M n l1 (m ++ [⟨sd, pt⟩]) (.slice na1 nn1 nc1) W3 ∧ OwnI W3 w.heap.size v9 (rowS l)) := Bx.mk ⟨R4.out.1.app ho hg, R4.out.2.1.asideT R4.out.1.own hg⟩
  clear ho hg R4
  refine hK.out _ _ (HAr.out _ R5.out.1.below) (fun hHeld => ?_)
  clear hK K
  try simp only [Act.put, List.setIfInBounds_toArray, List.set_cons_zero, List.set_cons_succ]
  refine takeL 15 (v := ?_) rfl (by kernel_rfl) (by kernel_rfl) (by kernel_rfl) (fun _ _ _ h => h) (Or.inl ⟨by rfl, ?_⟩) hHeld ?_
  rotate_left 1
  · (intro w hSw; go_simp; try with_reducible rfl)
  try simp only [Act.put, List.setIfInBounds_toArray, List.set_cons_zero, List.set_cons_succ]
  refine wpAnyH_done (by kernel_rfl) ?_ _
  refine NoPanic.normal ?_
  clear hHeld
  skip -- M2
  go_upto_region 12 with fail
  have R6 : Bx (BS w q M n l1 (m ++ [⟨sd, pt⟩]) (.slice na1 nn1 nc1) W3.drew ∧ OwnI W3.drew w.heap.size v9 (rowS l)) := Bx.mk ⟨R5.out.1.later (Below.refl _ _).drew, R5.out.2.later (Below.refl _ _).drew (fun g hg => (R5.out.2.lt g hg).1)⟩
  clear R5
  refine wp_region_noPanic ?_
  refine wp_region_held_drew (S := fun W => W.cell? ⟨b, o + k * 3 + 1, none⟩ = some (.int .i64 sd) ∧ W.cell? ⟨b, o + k * 3 + 2, none⟩ = some (.int .i64 tk)) (by kernel_rfl) (HAr.out _ R6.out.1.below) (fun hHeld => ?_)
  generalize W3.drew = W4 at *
  refine takeL 0 (v := ?_) rfl (by kernel_rfl) (by kernel_rfl) (by kernel_rfl) (fun _ _ _ h => h) (Or.inl ⟨by rfl, ?_⟩) hHeld ?_
  rotate_left 1
  · (intro w hSw; go_simp; try with_reducible rfl)
  try simp only [Act.put, List.setIfInBounds_toArray, List.set_cons_zero, List.set_cons_succ]
  refine takeL 1 (v := ?_) rfl (by kernel_rfl) (by kernel_rfl) (by kernel_rfl) (fun _ _ _ h => h) (Or.inl ⟨by rfl, ?_⟩) hHeld ?_
  rotate_left 1
  · (intro w hSw; go_simp; try with_reducible rfl)
  try simp only [Act.put, List.setIfInBounds_toArray, List.set_cons_zero, List.set_cons_succ]
  refine takeL 2 (v := ?_) rfl (by kernel_rfl) (by kernel_rfl) (by kernel_rfl) (fun _ _ _ h => h) (Or.inl ⟨by rfl, ?_⟩) hHeld ?_
  rotate_left 1
  · (intro w hSw; go_simp; try with_reducible rfl)
  try simp only [Act.put, List.setIfInBounds_toArray, List.set_cons_zero, List.set_cons_succ]
  refine takeL 3 (v := ?_) rfl (by kernel_rfl) (by kernel_rfl) (by kernel_rfl) (fun _ _ _ h => h) (Or.inl ⟨by rfl, ?_⟩) hHeld ?_
  rotate_left 1
  · (intro w hSw; go_simp; try with_reducible rfl)
  try simp only [Act.put, List.setIfInBounds_toArray, List.set_cons_zero, List.set_cons_succ]
  refine takeL 4 (v := ?_) rfl (by kernel_rfl) (by kernel_rfl) (by kernel_rfl) (fun _ _ _ h => h) (Or.inl ⟨by rfl, ?_⟩) hHeld ?_
  rotate_left 1
  · (intro w hSw; go_simp; try with_reducible rfl)
  try simp only [Act.put, List.setIfInBounds_toArray, List.set_cons_zero, List.set_cons_succ]
  refine takeL 5 (v := ?_) rfl (by kernel_rfl) (by kernel_rfl) (by kernel_rfl) (fun _ _ _ h => h) (Or.inl ⟨by rfl, ?_⟩) hHeld ?_
  rotate_left 1
  · (intro w hSw; have q1 := hSw.1; clear hSw; go_simp; try with_reducible rfl)
  try simp only [Act.put, List.setIfInBounds_toArray, List.set_cons_zero, List.set_cons_succ]
  refine takeL 6 (v := ?_) rfl (by kernel_rfl) (by kernel_rfl) (by kernel_rfl) (fun _ _ _ h => h) (Or.inl ⟨by rfl, ?_⟩) hHeld ?_
  rotate_left 1
  · (intro w hSw; go_simp; try with_reducible rfl)
  try simp only [Act.put, List.setIfInBounds_toArray, List.set_cons_zero, List.set_cons_succ]
  refine takeL 7 (v := ?_) rfl (by kernel_rfl) (by kernel_rfl) (by kernel_rfl) (fun _ _ _ h => h) (Or.inl ⟨by rfl, ?_⟩) hHeld ?_
  rotate_left 1
  · (intro w hSw; go_simp; try with_reducible rfl)
  try simp only [Act.put, List.setIfInBounds_toArray, List.set_cons_zero, List.set_cons_succ]
  refine takeL 8 (v := ?_) rfl (by kernel_rfl) (by kernel_rfl) (by kernel_rfl) (fun _ _ _ h => h) (Or.inl ⟨by rfl, ?_⟩) hHeld ?_
  rotate_left 1
  · (intro w hSw; go_simp; try with_reducible rfl)
  try simp only [Act.put, List.setIfInBounds_toArray, List.set_cons_zero, List.set_cons_succ]
  refine takeL 9 (v := ?_) rfl (by kernel_rfl) (by kernel_rfl) (by kernel_rfl) (fun _ _ _ h => h) (Or.inl ⟨by rfl, ?_⟩) hHeld ?_
  rotate_left 1
  · (intro w hSw; go_simp; try with_reducible rfl)
  try simp only [Act.put, List.setIfInBounds_toArray, List.set_cons_zero, List.set_cons_succ]
  refine takeL 10 (v := ?_) rfl (by kernel_rfl) (by kernel_rfl) (by kernel_rfl) (fun _ _ _ h => h) (Or.inl ⟨by rfl, ?_⟩) hHeld ?_
  rotate_left 1
  · (intro w hSw; have q2 := hSw.2; clear hSw; go_simp; try with_reducible rfl)
  try simp only [Act.put, List.setIfInBounds_toArray, List.set_cons_zero, List.set_cons_succ]
  refine takeL 13 (v := ?_) rfl (by kernel_rfl) (by kernel_rfl) (by kernel_rfl) (fun _ _ _ h => h) (Or.inl ⟨by rfl, ?_⟩) hHeld ?_
  rotate_left 1
  · (intro w hSw; go_simp; try with_reducible rfl)
  try simp only [Act.put, List.setIfInBounds_toArray, List.set_cons_zero, List.set_cons_succ]
  refine stepL 11 (by kernel_rfl) rfl (fun K hK => ?_)
  go_simp
  refine (HPe.out _).mono ?_
  rintro e Wx ⟨rfl, rfl⟩
  show K _ _
  refine hK.out _ _ (HAr.out _ R6.out.1.below) (fun hHeld => ?_)
  clear hK K
  try simp only [Act.put, List.setIfInBounds_toArray, List.set_cons_zero, List.set_cons_succ]
  refine stepL 12 (by kernel_rfl) rfl (fun K hK => ?_)
  go_simp
  refine (HTi.out _ _ R6.out.1.own.reads).mono ?_
  rintro e Wx ⟨rfl, rfl⟩
  show K _ _
  refine hK.out _ _ (HAr.out _ R6.out.1.below) (fun hHeld => ?_)
  clear hK K
  try simp only [Act.put, List.setIfInBounds_toArray, List.set_cons_zero, List.set_cons_succ]
  refine takeL 14 (v := ?_) rfl (by kernel_rfl) (by kernel_rfl) (by kernel_rfl) (fun _ _ _ h => h) (Or.inl ⟨by rfl, ?_⟩) hHeld ?_
  rotate_left 1
  · (intro w hSw; go_simp; try with_reducible rfl)
  try simp only [Act.put, List.setIfInBounds_toArray, List.set_cons_zero, List.set_cons_succ]
  refine wpAnyH_done (by kernel_rfl) ?_ _
  refine NoPanic.normal ?_
  clear hHeld
  have hBd := HBd.out
  generalize ((timT (m ++ [⟨sd, pt⟩]) sd pt : Nat) : Int) = tn at *
  clear HTi HBd HPe
  go_wp2_with fail
  refine (HSe.out l1 _ R6.out.1.qb HL1.out).mono ?_
  rintro e w5 ⟨v10, rfl, ho, hb⟩
  have R5 : Bx (BS w q M n l1 (m ++ [⟨sd, pt⟩]) (.slice na1 nn1 nc1) w5 ∧ OwnI w5 w.heap.size v9 (rowS l) ∧ OwnI w5 w.heap.size v10 (rowS l1)) := Bx.mk ⟨R6.out.1.later hb, R6.out.2.later hb (fun g hg => (R6.out.2.lt g hg).1), ho.weak R6.out.1.below.size⟩
  clear ho hb R6
  go_wp2
  skip -- M3
  refine HLp.out w5 _ _ _ _ _ v9 v10 (rowS l) (rowS l1) R5.out.2.1.ints R5.out.2.2.ints (by have := HLn.out; have := rowS_len l; omega) (by have := HL1.out; have := rowS_len l1; omega) HSub.out _ _ _ ⟨⟨⟨rfl, rfl⟩, rfl, rfl, rfl, rfl, rfl, rfl, rfl⟩, rfl, Below.refl _ _⟩ ?_
  intro a6 w6 hf hb
  have R6 := Bx.mk (R5.out.1.later hb)
  have hln : (rowS l1).length ≤ 16 := by rw [rowS_len]; exact HL1.out
  obtain ⟨xa, xc, hvv⟩ := R5.out.2.2.form
  subst hvv
  obtain ⟨xn, hxn⟩ : ∃ xn, (rowS l1).length = xn := ⟨_, rfl⟩
  rw [hxn] at hln hf
  have hx1 : ¬ (16 : Int) < (xn : Int) := by omega
  clear hb R5 HLp HSe hln hxn
  obtain ⟨y, rfl, hy⟩ := open113 hf.fr
  have e0 := (hy 0).symm.trans hf.s0
  have e1 := (hy 1).symm.trans hf.s1
  have e5 := (hy 5).symm.trans hf.s5
  have e7 := (hy 7).symm.trans hf.s7
  have e8 := (hy 8).symm.trans hf.s8
  have e9 := (hy 9).symm.trans hf.s9
  have e10 := (hy 10).symm.trans hf.s10
  clear hf hy
  rw [e0, e1, e5, e7, e8, e9, e10]
  clear e0 e1 e5 e7 e8 e9 e10
  have hwk : IntKind.i64.wrap ((k : Int) + 1) = (k : Int) + 1 := by simp [IntKind.wrap_i64]; omega
  go_wp2
  skip -- M4
  exact ⟨⟨⟨rfl, rfl⟩, rfl, rfl, rfl⟩, by first | rfl | go_num, (.slice na1 nn1 nc1), l1, (m ++ [⟨sd, pt⟩]), rfl, R6.out, HR1.out, by rw [List.length_append, List.length_singleton]; have := HM.out; omega⟩
end Go.Proofs.Ytplkoijgokkmfaa
namespace Go.Proofs.Ytplkoijgokkmfaa
open Go Go.RowKit
theorem lowB (a : Int) (m : Nat) (hm : 0 < m) (hm2 : m ≤ 1000000) : ∃ x : Nat, x < m ∧ wrap64 ((IntKind.u64.wrap a).tmod (m : Int)) = (x : Int) := by
  have h0 : 0 ≤ IntKind.u64.wrap a := by rw [IntKind.wrap_u64]; omega
  rw [Int.tmod_eq_emod_of_nonneg h0]
  generalize IntKind.u64.wrap a = z at h0
  have h1 := Int.emod_lt_of_pos z (show (0 : Int) < (m : Int) by omega)
  have h2 := Int.emod_nonneg z (show (m : Int) ≠ 0 by omega)
  refine ⟨(z % (m : Int)).toNat, by omega, ?_⟩
  rw [IntWalk.wrap64_in _ (by omega)]
  omega
theorem roundB (w : World) (acs : List AcQ) (q M : Nat) (n : Int) (v1 : Value) (hv : ActsQ w v1 acs) (hn : acs.length ≤ 9223372036854775807) (n1 : 1 ≤ n) (n2 : n ≤ 255)
    (Q : Exit → Act → World → Prop) (k : Nat) (a : Act) (wr : World) (hk : k < acs.length) (hk6 : k < 60) (h : IB w q M n v1 k a wr) :
    Code.wp Try.prog (loopAt (Try.f4.body) 0) (Exit.then (fun a' w' => IB w q M n v1 (k + 1) a' w') Q) a wr := by
  obtain ⟨hf, s8, vm, l, m, s7, hB, hR, hm⟩ := h
  by_cases h0 : takeE l n (acs.getD k AcQ.zero).s (acs.getD k AcQ.zero).t = 0
  · exact roundB_yes w acs q M n v1 hv hn n1 n2 Q k a wr hk hk6 hf s8 vm l m s7 hB hR hm h0
  · exact roundB_no w acs q M n v1 hv hn n1 n2 Q k a wr hk hk6 hf s8 vm l m s7 hB hR hm h0
set_option maxRecDepth 100000 in
set_option maxHeartbeats 4000000 in
theorem lastB (w : World) (acs : List AcQ) (q M : Nat) (n : Int) (v1 : Value) (hv : ActsQ w v1 acs) (hn : acs.length ≤ 9223372036854775807) (k : Nat) (hk : k ≤ acs.length) (hk6 : k ≤ 60) (hend : acs.length ≤ k ∨ k = 60)
    (Q : Exit → Act → World → Prop) (N : Act → World → Prop) (hq : ∀ a' w', Fr 113 a' → Below w.heap.size w w' → Q (.exit 0) a' w') (a : Act) (wr : World) (h : IB w q M n v1 k a wr) :
    Code.wp Try.prog (loopAt (Try.f4.body) 0) (Exit.then N Q) a wr := by
  obtain ⟨hf, s8, vm, l, m', s7, hB, hR, hm'⟩ := h
  have HB := Bx.mk hB.below
  have HQ := Bx.mk hq
  obtain ⟨a0, cap, rfl⟩ := hv.form
  obtain ⟨m, hm⟩ : ∃ m, acs.length = m := ⟨_, rfl⟩
  rw [hm] at hk hn hf hend
  have k0 : (0 : Int) ≤ (k : Int) := by omega
  have m1 : (m : Int) ≤ 9223372036854775807 := by omega
  obtain ⟨y, rfl, hy⟩ := open113 hf.fr
  have e0 := (hy 0).symm.trans hf.s0
  have e1 := (hy 1).symm.trans hf.s1
  have e5 := (hy 5).symm.trans hf.s5
  have e8 := (hy 8).symm.trans s8
  clear hf hy s8 s7 hB hR hm' hq hv hm
  rw [e0, e1, e5, e8]
  clear e0 e1 e5 e8
  conv => arg 2; whnf
  by_cases hlt : k < m
  · have h1 : (k : Int) < (m : Int) := by omega
    have h2 : ¬ (k : Int) < 60 := by omega
    clear hend hlt hk hk6 hn
    go_wp2
    exact HQ.out _ _ ⟨rfl, rfl⟩ HB.out
  · have h1 : ¬ (k : Int) < (m : Int) := by omega
    clear hend hlt hk hk6 hn
    go_wp2
    exact HQ.out _ _ ⟨rfl, rfl⟩ HB.out
theorem loopB (w : World) (acs : List AcQ) (q M : Nat) (n : Int) (v1 : Value) (hv : ActsQ w v1 acs) (hn : acs.length ≤ 9223372036854775807) (n1 : 1 ≤ n) (n2 : n ≤ 255)
    (Q : Exit → Act → World → Prop) (a : Act) (wr : World) (h : IB w q M n v1 0 a wr) (hq : ∀ a' w', Fr 113 a' → Below w.heap.size w w' → Q (.exit 0) a' w') :
    Code.wp Try.prog (.loop (loopAt (Try.f4.body) 0)) Q a wr :=
  wp_count (min acs.length 60) (fun k a w' => IB w q M n v1 k a w') 0 (Nat.zero_le _) h (fun k a w' hk hI => roundB w acs q M n v1 hv hn n1 n2 Q k a w' (by omega) (by omega) hI) (fun a w' hI => lastB w acs q M n v1 hv hn _ (by omega) (by omega) (by omega) Q _ hq a w' hI)
set_option maxRecDepth 100000 in
set_option maxHeartbeats 4000000 in
theorem bounds_all (tm : Int) (acs : List AcQ) (v : Value) (w : World) (hv : ActsQ w v acs) (hn : acs.length ≤ 9223372036854775807) :
    Calls Try.prog 4 #[.int .i64 tm, v] w fun e w' => e = .returned (.bool true) ∧ Below w.heap.size w w' := by
  obtain ⟨x5, hx5, ex⟩ := lowB tm 5 (by omega) (by omega)
  have ex' : wrap64 ((IntKind.u64.wrap tm).tmod 5) = (x5 : Int) := ex
  obtain ⟨n, hnn⟩ : ∃ n : Int, 1 + (x5 : Int) = n := ⟨_, rfl⟩
  have hw5 : IntKind.i64.wrap (1 + (x5 : Int)) = n := by rw [← hnn]; simp [IntKind.wrap_i64]; omega
  have hw6 : wrap64 (1 + (x5 : Int)) = n := by rw [← hnn]; unfold wrap64; omega
  have n1 : 1 ≤ n := by omega
  have n2 : n ≤ 255 := by omega
  have HNw := Bx.mk fun (W : World) => qnew_ok n W n1 n2
  have HLo := Bx.mk fun (q M : Nat) (Q : Exit → Act → World → Prop) (a : Act) (wr : World) => loopB w acs q M n v hv hn n1 n2 Q a wr
  have HKn := Bx.mk fun (W : World) => known11_any W
  obtain ⟨pa, pc, rfl⟩ := hv.form
  generalize acs.length = pn at *
  clear hv hn ex hx5 hnn n1 n2
  go_enter Try.func4, Try.ntmps4
  go_wp2_with fail
  refine (HNw.out w).mono ?_
  rintro e w1 ⟨q, M, rfl, g1, g2, hb, hq⟩
  have R1 : Bx (BS w q M n [] [] (.slice none 0 0) w1) := Bx.mk ⟨hb, hq, g2, OwnT.nil _ _⟩
  clear g1 g2 hb hq HNw
  go_wp2
  skip -- M2
  refine HLo.out q M _ _ _ ⟨⟨⟨rfl, rfl⟩, rfl, rfl, rfl⟩, rfl, _, [], [], rfl, R1.out, RelQ.start n, by simp⟩ ?_
  intro a6 w6 hf hb
  have HB := Bx.mk hb
  clear hb HLo R1
  obtain ⟨y, rfl, hx⟩ := open113 hf
  clear hf hx
  go_wp2_with fail
  refine (HKn.out w6).mono ?_
  rintro e w7 ⟨rfl, hb⟩
  have HB7 := Bx.mk (HB.out.trans (hb.mono HB.out.size))
  clear hb HB
  go_wp2
  go_ret
  exact ⟨rfl, HB7.out⟩
end Go.Proofs.Ytplkoijgokkmfaa
namespace Go.Proofs.Ytplkoijgokkmfaa
open Go
/-- A world to begin with. -/
noncomputable def laidWorld (os : Os) : World := World.holding Try.prog os ⟨#[], #[], []⟩
end Go.Proofs.Ytplkoijgokkmfaa
