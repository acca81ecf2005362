/-
  Delta: sets that are made of rows that came in, ours and the document's.
-/
import Derived.Test.YtnfgamekjbkbkaaDoorD1
import Derived.Test.YtnfgamekjbkbkaaDoorJg
import Derived.Test.YtnfgamekjbkbkaaDoorJa
namespace Go.Proofs.YtnfgamekjbkbkaaDoor
open Go Go.RowKit
/-- The logs of the first rows. -/
def mkL (m : L4) : Nat → L4
  | 0 => L4.nil
  | 1 => (revL L4.nil 0 (m.a.take 40)).2
  | 2 => (revL (revL L4.nil 0 (m.a.take 40)).2 1 (m.b.take 40)).2
  | 3 => (revL (revL (revL L4.nil 0 (m.a.take 40)).2 1 (m.b.take 40)).2 2 (m.c.take 40)).2
  | _ => (revL (revL (revL (revL L4.nil 0 (m.a.take 40)).2 1 (m.b.take 40)).2 2 (m.c.take 40)).2 3 (m.d.take 40)).2
theorem mkL_good (m : L4) : ∀ k, Good (mkL m k)
  | 0 => Good.nil
  | 1 => revL_good Good.nil _ _
  | 2 => revL_good (revL_good Good.nil _ _) _ _
  | 3 => revL_good (revL_good (revL_good Good.nil _ _) _ _) _ _
  | _ + 4 => revL_good (revL_good (revL_good (revL_good Good.nil _ _) _ _) _ _) _ _
theorem mkL_nodup (m : L4) : NoDup (mkL m 4) := revL_nodup (revL_nodup (revL_nodup (revL_nodup NoDup.nil _ _) _ _) _ _) _ _
theorem revL_no {l : L4} {n : Int} {m : List Int} (h : (revL l n m).1 ≠ 0) : (revL l n m).2 = l := by
  unfold revL at *
  split at h
  · rename_i h1
    rw [if_pos h1]
    split at h
    · rename_i h2
      rw [if_pos h2]
    · rename_i h2
      rw [if_neg h2]
      split at h
      · rename_i h3
        rw [if_pos h3]
      · exact absurd rfl h
  · rename_i h1
    rw [if_neg h1]
theorem revL_40 {m : L4} (l : L4) (n : Int) (x : List Int) (h : Most m 40 ∧ Most l 40) (hx : x.length ≤ 40) (hg : l.get n = []) : Most (revL l n x).2 40 := by
  unfold revL
  split
  · split
    · exact h.2
    · split
      · exact h.2
      · rw [hg, List.nil_append]
        unfold L4.put
        split
        · exact ⟨hx, h.2.b, h.2.c, h.2.d⟩
        · split
          · exact ⟨h.2.a, hx, h.2.c, h.2.d⟩
          · split
            · exact ⟨h.2.a, h.2.b, hx, h.2.d⟩
            · exact ⟨h.2.a, h.2.b, h.2.c, hx⟩
  · exact h.2
theorem step_apI9 {ops : Array Oper} {o : Oper} {a : Act} {w : World} {K : Act → World → Prop} {Q : Exit → Act → World → Prop} {F : Prop} (hgd : o.guard = none) (s x : Operand)
    (ho : o.op = .call { callee := .builtin .append, args := #[s, x], argTypes := #[23, 23] }) (base : Nat) (v : Value) (l : List Int) (hs : a.eval s = v) (hown : OwnI w base v l) (xv : Value) (ps : List Int) (hx : a.eval x = xv) (hb : Ints w xv ps)
    (hn : l.length + ps.length ≤ 10000) (hbase : base ≤ w.heap.size)
    (h : ∀ v' w', OwnI w' base v' (l ++ ps) → w.grownBy w' v.ownBlock → K (a.put o.dst v') w') : if Region.wanted o (yielded ops a.tmps) = true then Oper.wp Tryd.prog o a w K Q else F := by
  have hw : Region.wanted o (yielded ops a.tmps) = true := by simp [Region.wanted, hgd]
  rw [if_pos hw]
  obtain ⟨v', w', hrun, h1, h2⟩ := run_apI w base v l hown xv ps hb hn hbase o.type
  unfold Oper.wp
  simp [execOp, ho, resolve, invoke, builtin, hs, hx, hrun, Result.andThen]
  exact h v' w' h1 h2
theorem SetAt.far9 {W W1 : World} {p D : Nat} {l m : L4} (h : SetAt W p l) (hg : W.grownBy W1 (some D)) (hD : RAt W D m) (hne : p ≠ D) : SetAt W1 p l := by
  obtain ⟨x, hx, hr⟩ := h
  obtain ⟨y, hy, -⟩ := hD
  exact ⟨x, by rw [hg.block p (Array.getElem?_eq_some_iff.1 hx).1 (fun e => hne (Option.some.inj e))]; exact hx, hr.grown hg hy rs_int⟩
theorem RAt.far9 {W W1 : World} {p D : Nat} {l m : L4} (h : RAt W p l) (hg : W.grownBy W1 (some D)) (hD : SetAt W D m) (hne : p ≠ D) : RAt W1 p l := by
  obtain ⟨y, hy, -⟩ := hD
  exact h.far hg hy set_int hne
/-- What holds between two rounds. -/
structure MI (w : World) (E p q : Nat) (x : VV) (m : L4) (k : Nat) (W : World) : Prop where
  kr : KR w E [(E, .cells #[x.a, x.b, x.c, x.d] 24)] W
  s : SetAt W p (mkL m k)
  r : RAt W q (mkL m k)
  e : E < p
  f : p < q
theorem MI.later {w : World} {E p q : Nat} {x : VV} {m : L4} {k : Nat} {W W1 : World} (h : MI w E p q x m k W) (hb : Below W.heap.size W W1) : MI w E p q x m k W1 := ⟨h.kr.later hb, h.s.later hb, h.r.later hb, h.e, h.f⟩
theorem isL_beside9 {W W1 : World} {G : Nat} {v : Value} {l : List Int} (h : IsL W v l) (hg : W.grownBy W1 (some G)) (h0 : W.heap[G]? = some (.cells #[] 3 (0, 0))) : IsL W1 v l := by
  obtain ⟨a, cap, hv, hc, hn, hr⟩ := h
  refine ⟨a, cap, hv, hc, hn, fun hp => ?_⟩
  obtain ⟨c, o, cs, fr, ha, hh, hcs⟩ := hr hp
  refine ⟨c, o, cs, fr, ha, ?_, hcs⟩
  rw [hg.block c (Array.getElem?_eq_some_iff.1 hh).1 (fun e => ?_)]
  · exact hh
  · have e := Option.some.inj e
    subst e
    rw [h0] at hh
    injection hh with hh
    injection hh with hh
    subst hh
    have := hcs 0 hp
    simp at this
theorem MI.beside9 {w : World} {E p q : Nat} {x : VV} {m : L4} {k : Nat} {W W1 : World} {G : Nat} (h : MI w E p q x m k W) (hg : W.grownBy W1 (some G)) (hG : q < G) (h0 : W.heap[G]? = some (.cells #[] 3 (0, 0))) : MI w E p q x m k W1 := by
  obtain ⟨xs, hs1, hs2⟩ := h.s
  obtain ⟨xr, hr1, hr2⟩ := h.r
  have hb : ∀ {v : Value} {l : List Int}, IsL W v l → IsL W1 v l := fun h => isL_beside9 h hg h0
  have e1 := h.e
  have e2 := h.f
  refine ⟨h.kr.grown hg (by omega) (by intro y hy; simp at hy; subst hy; simp only; omega), ⟨xs, ?_, ⟨hb hs2.a, hb hs2.b, hb hs2.c, hb hs2.d⟩⟩, ⟨xr, ?_, ⟨hb hr2.a, hb hr2.b, hb hr2.c, hb hr2.d⟩⟩, h.e, h.f⟩
  · rw [hg.block p h.s.lt (fun e => by have := Option.some.inj e; omega)]
    exact hs1
  · rw [hg.block q h.r.lt (fun e => by have := Option.some.inj e; omega)]
    exact hr1
set_option maxRecDepth 100000 in
set_option maxHeartbeats 16000000 in
theorem make9 (x : VV) (m : L4) (w : World) (hx : RowsI w x m) (hm : Most m 9223372036854775807) : Calls Tryd.prog 21 #[.agg #[x.a, x.b, x.c, x.d]] w fun e w' => ∃ p q, e = .returned (.tuple #[.pointer (some ⟨p, 0, none⟩), .pointer (some ⟨q, 0, none⟩)]) ∧ SetAt w' p (mkL m 4) ∧ RAt w' q (mkL m 4) ∧ w.heap.size ≤ p ∧ p < q ∧ Below w.heap.size w w' := by
  obtain ⟨E, hE⟩ : ∃ E, w.heap.size = E := ⟨_, rfl⟩
  obtain ⟨p1, a1, hxa, hca, -⟩ := id hx.a
  obtain ⟨q1, b1, hxb, hcb, -⟩ := id hx.b
  obtain ⟨t1, c1, hxc, hcc, -⟩ := id hx.c
  obtain ⟨s1, d1, hxd, hcd, -⟩ := id hx.d
  have HX := Bx.mk hx
  obtain ⟨xa, xb, xc, xd⟩ := x
  simp only at hxa hxb hxc hxd
  subst hxa hxb hxc hxd
  have HM := Bx.mk hm
  obtain ⟨ka, hka⟩ : ∃ k, min m.a.length 40 = k := ⟨_, rfl⟩
  have HIa : Bx (∀ W, Below E w W → Ints W (.slice p1 ka a1) (m.a.take 40)) := ⟨fun W h => by
    have h1 := (hx.a.later (by rw [hE]; exact h)).take8 ka (by omega)
    rw [show m.a.take ka = m.a.take 40 by
      rw [← hka]
      by_cases h : 40 ≤ m.a.length
      · rw [Nat.min_eq_right h]
      · rw [Nat.min_eq_left (by omega), List.take_of_length_le (Nat.le_refl _), List.take_of_length_le (by omega)]] at h1
    exact h1⟩
  have HFa : Bx ((min (m.a.length : Int) 40 = (ka : Int) ∧ (ka : Int) ≤ (m.a.length : Int)) ∧ (0 : Int) ≤ (m.a.length : Int) ∧ (m.a.length : Int) ≤ 9223372036854775807 ∧ ∀ W, (Instr.slice 23 (.slice p1 m.a.length a1) none (some (.int .i64 (ka : Int))) none).run Tryd.prog W = .ok (.slice p1 ka a1) W) := ⟨by
    have := hm.a
    exact ⟨⟨by omega, by omega⟩, by omega, by omega, fun W => cut_h p1 m.a.length a1 ka (by omega) W⟩⟩
  have HLa : Bx ((m.a.take 40).length ≤ 40) := ⟨by rw [List.length_take]; omega⟩
  obtain ⟨kb, hkb⟩ : ∃ k, min m.b.length 40 = k := ⟨_, rfl⟩
  have HIb : Bx (∀ W, Below E w W → Ints W (.slice q1 kb b1) (m.b.take 40)) := ⟨fun W h => by
    have h1 := (hx.b.later (by rw [hE]; exact h)).take8 kb (by omega)
    rw [show m.b.take kb = m.b.take 40 by
      rw [← hkb]
      by_cases h : 40 ≤ m.b.length
      · rw [Nat.min_eq_right h]
      · rw [Nat.min_eq_left (by omega), List.take_of_length_le (Nat.le_refl _), List.take_of_length_le (by omega)]] at h1
    exact h1⟩
  have HFb : Bx ((min (m.b.length : Int) 40 = (kb : Int) ∧ (kb : Int) ≤ (m.b.length : Int)) ∧ (0 : Int) ≤ (m.b.length : Int) ∧ (m.b.length : Int) ≤ 9223372036854775807 ∧ ∀ W, (Instr.slice 23 (.slice q1 m.b.length b1) none (some (.int .i64 (kb : Int))) none).run Tryd.prog W = .ok (.slice q1 kb b1) W) := ⟨by
    have := hm.b
    exact ⟨⟨by omega, by omega⟩, by omega, by omega, fun W => cut_h q1 m.b.length b1 kb (by omega) W⟩⟩
  have HLb : Bx ((m.b.take 40).length ≤ 40) := ⟨by rw [List.length_take]; omega⟩
  obtain ⟨kc, hkc⟩ : ∃ k, min m.c.length 40 = k := ⟨_, rfl⟩
  have HIc : Bx (∀ W, Below E w W → Ints W (.slice t1 kc c1) (m.c.take 40)) := ⟨fun W h => by
    have h1 := (hx.c.later (by rw [hE]; exact h)).take8 kc (by omega)
    rw [show m.c.take kc = m.c.take 40 by
      rw [← hkc]
      by_cases h : 40 ≤ m.c.length
      · rw [Nat.min_eq_right h]
      · rw [Nat.min_eq_left (by omega), List.take_of_length_le (Nat.le_refl _), List.take_of_length_le (by omega)]] at h1
    exact h1⟩
  have HFc : Bx ((min (m.c.length : Int) 40 = (kc : Int) ∧ (kc : Int) ≤ (m.c.length : Int)) ∧ (0 : Int) ≤ (m.c.length : Int) ∧ (m.c.length : Int) ≤ 9223372036854775807 ∧ ∀ W, (Instr.slice 23 (.slice t1 m.c.length c1) none (some (.int .i64 (kc : Int))) none).run Tryd.prog W = .ok (.slice t1 kc c1) W) := ⟨by
    have := hm.c
    exact ⟨⟨by omega, by omega⟩, by omega, by omega, fun W => cut_h t1 m.c.length c1 kc (by omega) W⟩⟩
  have HLc : Bx ((m.c.take 40).length ≤ 40) := ⟨by rw [List.length_take]; omega⟩
  obtain ⟨kd, hkd⟩ : ∃ k, min m.d.length 40 = k := ⟨_, rfl⟩
  have HId : Bx (∀ W, Below E w W → Ints W (.slice s1 kd d1) (m.d.take 40)) := ⟨fun W h => by
    have h1 := (hx.d.later (by rw [hE]; exact h)).take8 kd (by omega)
    rw [show m.d.take kd = m.d.take 40 by
      rw [← hkd]
      by_cases h : 40 ≤ m.d.length
      · rw [Nat.min_eq_right h]
      · rw [Nat.min_eq_left (by omega), List.take_of_length_le (Nat.le_refl _), List.take_of_length_le (by omega)]] at h1
    exact h1⟩
  have HFd : Bx ((min (m.d.length : Int) 40 = (kd : Int) ∧ (kd : Int) ≤ (m.d.length : Int)) ∧ (0 : Int) ≤ (m.d.length : Int) ∧ (m.d.length : Int) ≤ 9223372036854775807 ∧ ∀ W, (Instr.slice 23 (.slice s1 m.d.length d1) none (some (.int .i64 (kd : Int))) none).run Tryd.prog W = .ok (.slice s1 kd d1) W) := ⟨by
    have := hm.d
    exact ⟨⟨by omega, by omega⟩, by omega, by omega, fun W => cut_h s1 m.d.length d1 kd (by omega) W⟩⟩
  have HLd : Bx ((m.d.take 40).length ≤ 40) := ⟨by rw [List.length_take]; omega⟩
  clear hx hm hka hkb hkc hkd hca hcb hcc hcd
  have K0 : Bx (KR w E [(E, .cells #[.slice p1 m.a.length a1, .slice q1 m.b.length b1, .slice t1 m.c.length c1, .slice s1 m.d.length d1] 24)] (w.alloc (.cells #[.slice p1 m.a.length a1, .slice q1 m.b.length b1, .slice t1 m.c.length c1, .slice s1 m.d.length d1] 24))) := ⟨by
    subst hE
    exact (KR.start w).new _⟩
  rw [hE]
  go_enter Tryd.func21, Tryd.ntmps21
  go_wp2_with fail
  have hE1 : (w.alloc (.cells #[.slice p1 m.a.length a1, .slice q1 m.b.length b1, .slice t1 m.c.length c1, .slice s1 m.d.length d1] 24)).heap.size = E + 1 := by rw [alloc_size8, hE]
  generalize w.alloc (.cells #[.slice p1 m.a.length a1, .slice q1 m.b.length b1, .slice t1 m.c.length c1, .slice s1 m.d.length d1] 24) = w0 at *
  refine (new_any8 w0).mono ?_
  rintro e w1 ⟨rfl, hs, hb, hz⟩
  have K1 := Bx.mk (K0.out.later hb)
  rw [hE1] at hs hz ⊢
  have HS1 := Bx.mk hs
  have HZ := Bx.mk hz
  clear hs hb hz K0 hE1
  go_upto_region 3 with fail
  have HI0 : Bx (MI w E (E + 1) (E + 1 + 1) ⟨.slice p1 m.a.length a1, .slice q1 m.b.length b1, .slice t1 m.c.length c1, .slice s1 m.d.length d1⟩ m 0 (w1.alloc (.cells #[.slice none 0 0, .slice none 0 0, .slice none 0 0, .slice none 0 0] 79))) := ⟨⟨(K1.out.new (.cells #[.slice none 0 0, .slice none 0 0, .slice none 0 0, .slice none 0 0] 79)).sub (fun _ h => .tail _ h), HS1.out.later (below_a _), ⟨VV.nil, by rw [← HZ.out]; exact hnew _ _ _ rfl, Rows4.nil _⟩, by omega, by omega⟩⟩
  rw [HZ.out]
  clear K1 HS1 HZ
  generalize w1.alloc (.cells #[.slice none 0 0, .slice none 0 0, .slice none 0 0, .slice none 0 0] 79) = w2 at *
  go_wp2
  go_loopw [6] (fun i wr => ∃ k : Nat, k ≤ 4 ∧ i = .int .i64 (k : Int) ∧ Bx (MI w E (E + 1) (E + 1 + 1) ⟨.slice p1 m.a.length a1, .slice q1 m.b.length b1, .slice t1 m.c.length c1, .slice s1 m.d.length d1⟩ m k wr)) (fun i _ => 4 - (intOf i).toNat)
  case atStart => exact ⟨0, by omega, rfl, HI0⟩
  case round =>
    clear HI0
    obtain ⟨k, hk, rfl, HI⟩ := hrel
    by_cases hlt : k < 4
    · have h4 : k = 0 ∨ k = 1 ∨ k = 2 ∨ k = 3 := by omega
      clear hk hlt
      rcases h4 with rfl | rfl | rfl | rfl
      · obtain ⟨⟨hmin, hle⟩, hl0, hl1, hcut⟩ := HFa.out
        have HSl : Bx (∀ W, MI w E (E + 1) (E + 1 + 1) ⟨.slice p1 m.a.length a1, .slice q1 m.b.length b1, .slice t1 m.c.length c1, .slice s1 m.d.length d1⟩ m 0 W → W.cell? ⟨E, 0, none⟩ = some (.slice p1 m.a.length a1)) := ⟨fun W h => by rw [cell_of_row _ _ _ _ _ _ (h.kr.rows _ (.head _))]; rfl⟩
        go_upto_region 6 with fail
        have R0 := Bx.mk (HI.out.later (Below.refl _ _).drew)
        clear HI
        refine wp_region_noPanic ?_
        refine wp_region_held_drew (S := fun W => W.cell? ⟨E, 0, none⟩ = some (.slice p1 m.a.length a1)) (by kernel_rfl) (HSl.out _ R0.out) (fun hHeld => ?_)
        generalize wr.drew = W0 at *
        refine takeL 1 (v := ?_) rfl (by kernel_rfl) (by kernel_rfl) (by kernel_rfl) (fun _ _ _ h => h) (Or.inl ⟨by rfl, ?_⟩) hHeld ?_
        rotate_left 1
        · (intro w hSw; go_simp; try with_reducible rfl)
        try simp only [Act.put, List.setIfInBounds_toArray, List.set_cons_zero, List.set_cons_succ]
        refine takeL 2 (v := ?_) rfl (by kernel_rfl) (by kernel_rfl) (by kernel_rfl) (fun _ _ _ h => h) (Or.inl ⟨by rfl, ?_⟩) hHeld ?_
        rotate_left 1
        · (intro w hSw; go_simp; try with_reducible rfl)
        try simp only [Act.put, List.setIfInBounds_toArray, List.set_cons_zero, List.set_cons_succ]
        refine takeL 3 (v := ?_) rfl (by kernel_rfl) (by kernel_rfl) (by kernel_rfl) (fun _ _ _ h => h) (Or.inl ⟨by rfl, ?_⟩) hHeld ?_
        rotate_left 1
        · (intro w hSw; go_simp; try with_reducible rfl)
        try simp only [Act.put, List.setIfInBounds_toArray, List.set_cons_zero, List.set_cons_succ]
        refine takeL 4 (v := ?_) rfl (by kernel_rfl) (by kernel_rfl) (by kernel_rfl) (fun _ _ _ h => h) (Or.inl ⟨by rfl, ?_⟩) hHeld ?_
        rotate_left 1
        · (intro w hSw; go_simp; try with_reducible rfl)
        try simp only [Act.put, List.setIfInBounds_toArray, List.set_cons_zero, List.set_cons_succ]
        refine takeL 5 (v := ?_) rfl (by kernel_rfl) (by kernel_rfl) (by kernel_rfl) (fun _ _ _ h => h) (Or.inl ⟨by rfl, ?_⟩) hHeld ?_
        rotate_left 1
        · (intro w hSw; go_simp; try with_reducible rfl)
        try simp only [Act.put, List.setIfInBounds_toArray, List.set_cons_zero, List.set_cons_succ]
        refine takeL 6 (v := ?_) rfl (by kernel_rfl) (by kernel_rfl) (by kernel_rfl) (fun _ _ _ h => h) (Or.inl ⟨by rfl, ?_⟩) hHeld ?_
        rotate_left 1
        · (intro w hSw; go_simp; try with_reducible rfl)
        try simp only [Act.put, List.setIfInBounds_toArray, List.set_cons_zero, List.set_cons_succ]
        refine takeL 7 (v := ?_) rfl (by kernel_rfl) (by kernel_rfl) (by kernel_rfl) (fun _ _ _ h => h) (Or.inl ⟨by rfl, ?_⟩) hHeld ?_
        rotate_left 1
        · (intro w hSw; go_simp; try with_reducible rfl)
        try simp only [Act.put, List.setIfInBounds_toArray, List.set_cons_zero, List.set_cons_succ]
        refine takeL 8 (v := ?_) rfl (by kernel_rfl) (by kernel_rfl) (by kernel_rfl) (fun _ _ _ h => h) (Or.inl ⟨by rfl, ?_⟩) hHeld ?_
        rotate_left 1
        · (intro w hSw; go_simp; try with_reducible rfl)
        try simp only [Act.put, List.setIfInBounds_toArray, List.set_cons_zero, List.set_cons_succ]
        refine takeL 9 (v := ?_) rfl (by kernel_rfl) (by kernel_rfl) (by kernel_rfl) (fun _ _ _ h => h) (Or.inl ⟨by rfl, ?_⟩) hHeld ?_
        rotate_left 1
        · (intro w hSw; go_simp; try with_reducible rfl)
        try simp only [Act.put, List.setIfInBounds_toArray, List.set_cons_zero, List.set_cons_succ]
        refine stepL 0 (by kernel_rfl) rfl (fun K hK => ?_)
        go_simp
        show K _ _
        have HO := Bx.mk (And.intro (ownI_empty W0 E R0.out.kr.le) (hnew W0 (.cells #[] 3) _ rfl))
        have R1 := Bx.mk (R0.out.later (below_a (.cells #[] 3)))
        obtain ⟨G, hG⟩ : ∃ G, W0.heap.size = G := ⟨_, rfl⟩
        rw [hG] at HO ⊢
        have HGG : Bx (E + 1 + 1 < G) := ⟨by have := R0.out.r.lt; omega⟩
        clear R0 hG
        generalize W0.alloc (.cells #[] 3) = W1 at *
        refine hK.out _ _ (HSl.out _ R1.out) (fun hHeld => ?_)
        clear hK K
        try simp only [Act.put, List.setIfInBounds_toArray, List.set_cons_zero, List.set_cons_succ]
        refine stepL 10 (by kernel_rfl) rfl (fun K hK => ?_)
        refine step_apI9 rfl _ _ rfl E _ [] (by rfl) HO.out.1 _ (m.a.take 40) (by rfl) (HIa.out _ R1.out.kr.below) (by have := HLa.out; simp only [List.length_nil]; omega) R1.out.kr.le ?_
        intro v' W2 ho hg
        rw [List.nil_append] at ho
        have HU := Bx.mk ho.isL
        obtain ⟨a7, c7, hv7⟩ := HU.out.form
        obtain ⟨nl, hnl⟩ : ∃ n, (m.a.take 40).length = n := ⟨_, rfl⟩
        rw [hnl] at hv7
        subst hv7
        clear hnl
        have R2 : Bx (MI w E (E + 1) (E + 1 + 1) ⟨.slice p1 m.a.length a1, .slice q1 m.b.length b1, .slice t1 m.c.length c1, .slice s1 m.d.length d1⟩ m 0 W2) := ⟨R1.out.beside9 hg (by have := HGG.out; omega) HO.out.2⟩
        clear ho hg HO R1
        refine hK.out _ _ (HSl.out _ R2.out) (fun hHeld => ?_)
        clear hK K
        try simp only [Act.put, List.setIfInBounds_toArray, List.set_cons_zero, List.set_cons_succ]
        refine takeL 11 (v := ?_) rfl (by kernel_rfl) (by kernel_rfl) (by kernel_rfl) (fun _ _ _ h => h) (Or.inl ⟨by rfl, ?_⟩) hHeld ?_
        rotate_left 1
        · (intro w hSw; go_simp; try with_reducible rfl)
        try simp only [Act.put, List.setIfInBounds_toArray, List.set_cons_zero, List.set_cons_succ]
        refine wpAnyH_done (by kernel_rfl) ?_ _
        refine NoPanic.normal ?_
        clear hHeld
        go_wp2_with fail
        refine (rrev8 0 _ (m.a.take 40) (E + 1 + 1) (mkL m 0) W2 R2.out.r (mkL_good m 0) HU.out (by have := HLa.out; omega)).mono ?_
        rintro e X1 ⟨rfl, hr, hg⟩
        have KX := Bx.mk (R2.out.kr.grown hg (by have := R2.out.e; omega) (by intro y hy; simp at hy; subst hy; simp only; omega))
        have SX := Bx.mk (R2.out.s.far9 hg R2.out.r (by omega))
        have RX : Bx (RAt X1 (E + 1 + 1) (mkL m 1)) := ⟨hr⟩
        have UX : Bx (IsL X1 _ (m.a.take 40)) := ⟨by obtain ⟨y, hy, -⟩ := R2.out.r; exact HU.out.grown hg hy rs_int⟩
        clear hr hg R2 HU
        by_cases h0 : (revL (mkL m 0) 0 (m.a.take 40)).1 = 0
        · rw [h0]
          clear h0
          go_wp2_with fail
          refine (revoke_any 0 _ (m.a.take 40) (E + 1) (mkL m 0) X1 SX.out (mkL_good m 0) UX.out (by have := HLa.out; omega)).mono ?_
          rintro e X2 ⟨rfl, hr, hg⟩
          have KY := Bx.mk (KX.out.grown hg (by omega) (by intro y hy; simp at hy; subst hy; simp only; omega))
          have RY := Bx.mk (RX.out.far9 hg SX.out (by omega))
          have SY : Bx (SetAt X2 (E + 1) (mkL m 1)) := ⟨hr⟩
          clear hr hg KX SX RX UX
          go_wp2
          go_roundw
          case rel => exact ⟨1, by omega, by go_num, ⟨⟨KY.out, SY.out, RY.out, by omega, by omega⟩⟩⟩
          case measure => simp [intOf]
        · have SY : Bx (SetAt X1 (E + 1) (mkL m 1)) := ⟨by rw [show mkL m 1 = mkL m 0 from revL_no h0]; exact SX.out⟩
          generalize (revL (mkL m 0) 0 (m.a.take 40)).1 = r0 at *
          clear SX UX
          go_wp2
          go_roundw
          case rel => exact ⟨1, by omega, by go_num, ⟨⟨KX.out, SY.out, RX.out, by omega, by omega⟩⟩⟩
          case measure => simp [intOf]
      · obtain ⟨⟨hmin, hle⟩, hl0, hl1, hcut⟩ := HFb.out
        have HSl : Bx (∀ W, MI w E (E + 1) (E + 1 + 1) ⟨.slice p1 m.a.length a1, .slice q1 m.b.length b1, .slice t1 m.c.length c1, .slice s1 m.d.length d1⟩ m 1 W → W.cell? ⟨E, 1, none⟩ = some (.slice q1 m.b.length b1)) := ⟨fun W h => by rw [cell_of_row _ _ _ _ _ _ (h.kr.rows _ (.head _))]; rfl⟩
        go_upto_region 6 with fail
        have R0 := Bx.mk (HI.out.later (Below.refl _ _).drew)
        clear HI
        refine wp_region_noPanic ?_
        refine wp_region_held_drew (S := fun W => W.cell? ⟨E, 1, none⟩ = some (.slice q1 m.b.length b1)) (by kernel_rfl) (HSl.out _ R0.out) (fun hHeld => ?_)
        generalize wr.drew = W0 at *
        refine takeL 1 (v := ?_) rfl (by kernel_rfl) (by kernel_rfl) (by kernel_rfl) (fun _ _ _ h => h) (Or.inl ⟨by rfl, ?_⟩) hHeld ?_
        rotate_left 1
        · (intro w hSw; go_simp; try with_reducible rfl)
        try simp only [Act.put, List.setIfInBounds_toArray, List.set_cons_zero, List.set_cons_succ]
        refine takeL 2 (v := ?_) rfl (by kernel_rfl) (by kernel_rfl) (by kernel_rfl) (fun _ _ _ h => h) (Or.inl ⟨by rfl, ?_⟩) hHeld ?_
        rotate_left 1
        · (intro w hSw; go_simp; try with_reducible rfl)
        try simp only [Act.put, List.setIfInBounds_toArray, List.set_cons_zero, List.set_cons_succ]
        refine takeL 3 (v := ?_) rfl (by kernel_rfl) (by kernel_rfl) (by kernel_rfl) (fun _ _ _ h => h) (Or.inl ⟨by rfl, ?_⟩) hHeld ?_
        rotate_left 1
        · (intro w hSw; go_simp; try with_reducible rfl)
        try simp only [Act.put, List.setIfInBounds_toArray, List.set_cons_zero, List.set_cons_succ]
        refine takeL 4 (v := ?_) rfl (by kernel_rfl) (by kernel_rfl) (by kernel_rfl) (fun _ _ _ h => h) (Or.inl ⟨by rfl, ?_⟩) hHeld ?_
        rotate_left 1
        · (intro w hSw; go_simp; try with_reducible rfl)
        try simp only [Act.put, List.setIfInBounds_toArray, List.set_cons_zero, List.set_cons_succ]
        refine takeL 5 (v := ?_) rfl (by kernel_rfl) (by kernel_rfl) (by kernel_rfl) (fun _ _ _ h => h) (Or.inl ⟨by rfl, ?_⟩) hHeld ?_
        rotate_left 1
        · (intro w hSw; go_simp; try with_reducible rfl)
        try simp only [Act.put, List.setIfInBounds_toArray, List.set_cons_zero, List.set_cons_succ]
        refine takeL 6 (v := ?_) rfl (by kernel_rfl) (by kernel_rfl) (by kernel_rfl) (fun _ _ _ h => h) (Or.inl ⟨by rfl, ?_⟩) hHeld ?_
        rotate_left 1
        · (intro w hSw; go_simp; try with_reducible rfl)
        try simp only [Act.put, List.setIfInBounds_toArray, List.set_cons_zero, List.set_cons_succ]
        refine takeL 7 (v := ?_) rfl (by kernel_rfl) (by kernel_rfl) (by kernel_rfl) (fun _ _ _ h => h) (Or.inl ⟨by rfl, ?_⟩) hHeld ?_
        rotate_left 1
        · (intro w hSw; go_simp; try with_reducible rfl)
        try simp only [Act.put, List.setIfInBounds_toArray, List.set_cons_zero, List.set_cons_succ]
        refine takeL 8 (v := ?_) rfl (by kernel_rfl) (by kernel_rfl) (by kernel_rfl) (fun _ _ _ h => h) (Or.inl ⟨by rfl, ?_⟩) hHeld ?_
        rotate_left 1
        · (intro w hSw; go_simp; try with_reducible rfl)
        try simp only [Act.put, List.setIfInBounds_toArray, List.set_cons_zero, List.set_cons_succ]
        refine takeL 9 (v := ?_) rfl (by kernel_rfl) (by kernel_rfl) (by kernel_rfl) (fun _ _ _ h => h) (Or.inl ⟨by rfl, ?_⟩) hHeld ?_
        rotate_left 1
        · (intro w hSw; go_simp; try with_reducible rfl)
        try simp only [Act.put, List.setIfInBounds_toArray, List.set_cons_zero, List.set_cons_succ]
        refine stepL 0 (by kernel_rfl) rfl (fun K hK => ?_)
        go_simp
        show K _ _
        have HO := Bx.mk (And.intro (ownI_empty W0 E R0.out.kr.le) (hnew W0 (.cells #[] 3) _ rfl))
        have R1 := Bx.mk (R0.out.later (below_a (.cells #[] 3)))
        obtain ⟨G, hG⟩ : ∃ G, W0.heap.size = G := ⟨_, rfl⟩
        rw [hG] at HO ⊢
        have HGG : Bx (E + 1 + 1 < G) := ⟨by have := R0.out.r.lt; omega⟩
        clear R0 hG
        generalize W0.alloc (.cells #[] 3) = W1 at *
        refine hK.out _ _ (HSl.out _ R1.out) (fun hHeld => ?_)
        clear hK K
        try simp only [Act.put, List.setIfInBounds_toArray, List.set_cons_zero, List.set_cons_succ]
        refine stepL 10 (by kernel_rfl) rfl (fun K hK => ?_)
        refine step_apI9 rfl _ _ rfl E _ [] (by rfl) HO.out.1 _ (m.b.take 40) (by rfl) (HIb.out _ R1.out.kr.below) (by have := HLb.out; simp only [List.length_nil]; omega) R1.out.kr.le ?_
        intro v' W2 ho hg
        rw [List.nil_append] at ho
        have HU := Bx.mk ho.isL
        obtain ⟨a7, c7, hv7⟩ := HU.out.form
        obtain ⟨nl, hnl⟩ : ∃ n, (m.b.take 40).length = n := ⟨_, rfl⟩
        rw [hnl] at hv7
        subst hv7
        clear hnl
        have R2 : Bx (MI w E (E + 1) (E + 1 + 1) ⟨.slice p1 m.a.length a1, .slice q1 m.b.length b1, .slice t1 m.c.length c1, .slice s1 m.d.length d1⟩ m 1 W2) := ⟨R1.out.beside9 hg (by have := HGG.out; omega) HO.out.2⟩
        clear ho hg HO R1
        refine hK.out _ _ (HSl.out _ R2.out) (fun hHeld => ?_)
        clear hK K
        try simp only [Act.put, List.setIfInBounds_toArray, List.set_cons_zero, List.set_cons_succ]
        refine takeL 11 (v := ?_) rfl (by kernel_rfl) (by kernel_rfl) (by kernel_rfl) (fun _ _ _ h => h) (Or.inl ⟨by rfl, ?_⟩) hHeld ?_
        rotate_left 1
        · (intro w hSw; go_simp; try with_reducible rfl)
        try simp only [Act.put, List.setIfInBounds_toArray, List.set_cons_zero, List.set_cons_succ]
        refine wpAnyH_done (by kernel_rfl) ?_ _
        refine NoPanic.normal ?_
        clear hHeld
        go_wp2_with fail
        refine (rrev8 1 _ (m.b.take 40) (E + 1 + 1) (mkL m 1) W2 R2.out.r (mkL_good m 1) HU.out (by have := HLb.out; omega)).mono ?_
        rintro e X1 ⟨rfl, hr, hg⟩
        have KX := Bx.mk (R2.out.kr.grown hg (by have := R2.out.e; omega) (by intro y hy; simp at hy; subst hy; simp only; omega))
        have SX := Bx.mk (R2.out.s.far9 hg R2.out.r (by omega))
        have RX : Bx (RAt X1 (E + 1 + 1) (mkL m 2)) := ⟨hr⟩
        have UX : Bx (IsL X1 _ (m.b.take 40)) := ⟨by obtain ⟨y, hy, -⟩ := R2.out.r; exact HU.out.grown hg hy rs_int⟩
        clear hr hg R2 HU
        by_cases h0 : (revL (mkL m 1) 1 (m.b.take 40)).1 = 0
        · rw [h0]
          clear h0
          go_wp2_with fail
          refine (revoke_any 1 _ (m.b.take 40) (E + 1) (mkL m 1) X1 SX.out (mkL_good m 1) UX.out (by have := HLb.out; omega)).mono ?_
          rintro e X2 ⟨rfl, hr, hg⟩
          have KY := Bx.mk (KX.out.grown hg (by omega) (by intro y hy; simp at hy; subst hy; simp only; omega))
          have RY := Bx.mk (RX.out.far9 hg SX.out (by omega))
          have SY : Bx (SetAt X2 (E + 1) (mkL m 2)) := ⟨hr⟩
          clear hr hg KX SX RX UX
          go_wp2
          go_roundw
          case rel => exact ⟨2, by omega, by go_num, ⟨⟨KY.out, SY.out, RY.out, by omega, by omega⟩⟩⟩
          case measure => simp [intOf]
        · have SY : Bx (SetAt X1 (E + 1) (mkL m 2)) := ⟨by rw [show mkL m 2 = mkL m 1 from revL_no h0]; exact SX.out⟩
          generalize (revL (mkL m 1) 1 (m.b.take 40)).1 = r0 at *
          clear SX UX
          go_wp2
          go_roundw
          case rel => exact ⟨2, by omega, by go_num, ⟨⟨KX.out, SY.out, RX.out, by omega, by omega⟩⟩⟩
          case measure => simp [intOf]
      · obtain ⟨⟨hmin, hle⟩, hl0, hl1, hcut⟩ := HFc.out
        have HSl : Bx (∀ W, MI w E (E + 1) (E + 1 + 1) ⟨.slice p1 m.a.length a1, .slice q1 m.b.length b1, .slice t1 m.c.length c1, .slice s1 m.d.length d1⟩ m 2 W → W.cell? ⟨E, 2, none⟩ = some (.slice t1 m.c.length c1)) := ⟨fun W h => by rw [cell_of_row _ _ _ _ _ _ (h.kr.rows _ (.head _))]; rfl⟩
        go_upto_region 6 with fail
        have R0 := Bx.mk (HI.out.later (Below.refl _ _).drew)
        clear HI
        refine wp_region_noPanic ?_
        refine wp_region_held_drew (S := fun W => W.cell? ⟨E, 2, none⟩ = some (.slice t1 m.c.length c1)) (by kernel_rfl) (HSl.out _ R0.out) (fun hHeld => ?_)
        generalize wr.drew = W0 at *
        refine takeL 1 (v := ?_) rfl (by kernel_rfl) (by kernel_rfl) (by kernel_rfl) (fun _ _ _ h => h) (Or.inl ⟨by rfl, ?_⟩) hHeld ?_
        rotate_left 1
        · (intro w hSw; go_simp; try with_reducible rfl)
        try simp only [Act.put, List.setIfInBounds_toArray, List.set_cons_zero, List.set_cons_succ]
        refine takeL 2 (v := ?_) rfl (by kernel_rfl) (by kernel_rfl) (by kernel_rfl) (fun _ _ _ h => h) (Or.inl ⟨by rfl, ?_⟩) hHeld ?_
        rotate_left 1
        · (intro w hSw; go_simp; try with_reducible rfl)
        try simp only [Act.put, List.setIfInBounds_toArray, List.set_cons_zero, List.set_cons_succ]
        refine takeL 3 (v := ?_) rfl (by kernel_rfl) (by kernel_rfl) (by kernel_rfl) (fun _ _ _ h => h) (Or.inl ⟨by rfl, ?_⟩) hHeld ?_
        rotate_left 1
        · (intro w hSw; go_simp; try with_reducible rfl)
        try simp only [Act.put, List.setIfInBounds_toArray, List.set_cons_zero, List.set_cons_succ]
        refine takeL 4 (v := ?_) rfl (by kernel_rfl) (by kernel_rfl) (by kernel_rfl) (fun _ _ _ h => h) (Or.inl ⟨by rfl, ?_⟩) hHeld ?_
        rotate_left 1
        · (intro w hSw; go_simp; try with_reducible rfl)
        try simp only [Act.put, List.setIfInBounds_toArray, List.set_cons_zero, List.set_cons_succ]
        refine takeL 5 (v := ?_) rfl (by kernel_rfl) (by kernel_rfl) (by kernel_rfl) (fun _ _ _ h => h) (Or.inl ⟨by rfl, ?_⟩) hHeld ?_
        rotate_left 1
        · (intro w hSw; go_simp; try with_reducible rfl)
        try simp only [Act.put, List.setIfInBounds_toArray, List.set_cons_zero, List.set_cons_succ]
        refine takeL 6 (v := ?_) rfl (by kernel_rfl) (by kernel_rfl) (by kernel_rfl) (fun _ _ _ h => h) (Or.inl ⟨by rfl, ?_⟩) hHeld ?_
        rotate_left 1
        · (intro w hSw; go_simp; try with_reducible rfl)
        try simp only [Act.put, List.setIfInBounds_toArray, List.set_cons_zero, List.set_cons_succ]
        refine takeL 7 (v := ?_) rfl (by kernel_rfl) (by kernel_rfl) (by kernel_rfl) (fun _ _ _ h => h) (Or.inl ⟨by rfl, ?_⟩) hHeld ?_
        rotate_left 1
        · (intro w hSw; go_simp; try with_reducible rfl)
        try simp only [Act.put, List.setIfInBounds_toArray, List.set_cons_zero, List.set_cons_succ]
        refine takeL 8 (v := ?_) rfl (by kernel_rfl) (by kernel_rfl) (by kernel_rfl) (fun _ _ _ h => h) (Or.inl ⟨by rfl, ?_⟩) hHeld ?_
        rotate_left 1
        · (intro w hSw; go_simp; try with_reducible rfl)
        try simp only [Act.put, List.setIfInBounds_toArray, List.set_cons_zero, List.set_cons_succ]
        refine takeL 9 (v := ?_) rfl (by kernel_rfl) (by kernel_rfl) (by kernel_rfl) (fun _ _ _ h => h) (Or.inl ⟨by rfl, ?_⟩) hHeld ?_
        rotate_left 1
        · (intro w hSw; go_simp; try with_reducible rfl)
        try simp only [Act.put, List.setIfInBounds_toArray, List.set_cons_zero, List.set_cons_succ]
        refine stepL 0 (by kernel_rfl) rfl (fun K hK => ?_)
        go_simp
        show K _ _
        have HO := Bx.mk (And.intro (ownI_empty W0 E R0.out.kr.le) (hnew W0 (.cells #[] 3) _ rfl))
        have R1 := Bx.mk (R0.out.later (below_a (.cells #[] 3)))
        obtain ⟨G, hG⟩ : ∃ G, W0.heap.size = G := ⟨_, rfl⟩
        rw [hG] at HO ⊢
        have HGG : Bx (E + 1 + 1 < G) := ⟨by have := R0.out.r.lt; omega⟩
        clear R0 hG
        generalize W0.alloc (.cells #[] 3) = W1 at *
        refine hK.out _ _ (HSl.out _ R1.out) (fun hHeld => ?_)
        clear hK K
        try simp only [Act.put, List.setIfInBounds_toArray, List.set_cons_zero, List.set_cons_succ]
        refine stepL 10 (by kernel_rfl) rfl (fun K hK => ?_)
        refine step_apI9 rfl _ _ rfl E _ [] (by rfl) HO.out.1 _ (m.c.take 40) (by rfl) (HIc.out _ R1.out.kr.below) (by have := HLc.out; simp only [List.length_nil]; omega) R1.out.kr.le ?_
        intro v' W2 ho hg
        rw [List.nil_append] at ho
        have HU := Bx.mk ho.isL
        obtain ⟨a7, c7, hv7⟩ := HU.out.form
        obtain ⟨nl, hnl⟩ : ∃ n, (m.c.take 40).length = n := ⟨_, rfl⟩
        rw [hnl] at hv7
        subst hv7
        clear hnl
        have R2 : Bx (MI w E (E + 1) (E + 1 + 1) ⟨.slice p1 m.a.length a1, .slice q1 m.b.length b1, .slice t1 m.c.length c1, .slice s1 m.d.length d1⟩ m 2 W2) := ⟨R1.out.beside9 hg (by have := HGG.out; omega) HO.out.2⟩
        clear ho hg HO R1
        refine hK.out _ _ (HSl.out _ R2.out) (fun hHeld => ?_)
        clear hK K
        try simp only [Act.put, List.setIfInBounds_toArray, List.set_cons_zero, List.set_cons_succ]
        refine takeL 11 (v := ?_) rfl (by kernel_rfl) (by kernel_rfl) (by kernel_rfl) (fun _ _ _ h => h) (Or.inl ⟨by rfl, ?_⟩) hHeld ?_
        rotate_left 1
        · (intro w hSw; go_simp; try with_reducible rfl)
        try simp only [Act.put, List.setIfInBounds_toArray, List.set_cons_zero, List.set_cons_succ]
        refine wpAnyH_done (by kernel_rfl) ?_ _
        refine NoPanic.normal ?_
        clear hHeld
        go_wp2_with fail
        refine (rrev8 2 _ (m.c.take 40) (E + 1 + 1) (mkL m 2) W2 R2.out.r (mkL_good m 2) HU.out (by have := HLc.out; omega)).mono ?_
        rintro e X1 ⟨rfl, hr, hg⟩
        have KX := Bx.mk (R2.out.kr.grown hg (by have := R2.out.e; omega) (by intro y hy; simp at hy; subst hy; simp only; omega))
        have SX := Bx.mk (R2.out.s.far9 hg R2.out.r (by omega))
        have RX : Bx (RAt X1 (E + 1 + 1) (mkL m 3)) := ⟨hr⟩
        have UX : Bx (IsL X1 _ (m.c.take 40)) := ⟨by obtain ⟨y, hy, -⟩ := R2.out.r; exact HU.out.grown hg hy rs_int⟩
        clear hr hg R2 HU
        by_cases h0 : (revL (mkL m 2) 2 (m.c.take 40)).1 = 0
        · rw [h0]
          clear h0
          go_wp2_with fail
          refine (revoke_any 2 _ (m.c.take 40) (E + 1) (mkL m 2) X1 SX.out (mkL_good m 2) UX.out (by have := HLc.out; omega)).mono ?_
          rintro e X2 ⟨rfl, hr, hg⟩
          have KY := Bx.mk (KX.out.grown hg (by omega) (by intro y hy; simp at hy; subst hy; simp only; omega))
          have RY := Bx.mk (RX.out.far9 hg SX.out (by omega))
          have SY : Bx (SetAt X2 (E + 1) (mkL m 3)) := ⟨hr⟩
          clear hr hg KX SX RX UX
          go_wp2
          go_roundw
          case rel => exact ⟨3, by omega, by go_num, ⟨⟨KY.out, SY.out, RY.out, by omega, by omega⟩⟩⟩
          case measure => simp [intOf]
        · have SY : Bx (SetAt X1 (E + 1) (mkL m 3)) := ⟨by rw [show mkL m 3 = mkL m 2 from revL_no h0]; exact SX.out⟩
          generalize (revL (mkL m 2) 2 (m.c.take 40)).1 = r0 at *
          clear SX UX
          go_wp2
          go_roundw
          case rel => exact ⟨3, by omega, by go_num, ⟨⟨KX.out, SY.out, RX.out, by omega, by omega⟩⟩⟩
          case measure => simp [intOf]
      · obtain ⟨⟨hmin, hle⟩, hl0, hl1, hcut⟩ := HFd.out
        have HSl : Bx (∀ W, MI w E (E + 1) (E + 1 + 1) ⟨.slice p1 m.a.length a1, .slice q1 m.b.length b1, .slice t1 m.c.length c1, .slice s1 m.d.length d1⟩ m 3 W → W.cell? ⟨E, 3, none⟩ = some (.slice s1 m.d.length d1)) := ⟨fun W h => by rw [cell_of_row _ _ _ _ _ _ (h.kr.rows _ (.head _))]; rfl⟩
        go_upto_region 6 with fail
        have R0 := Bx.mk (HI.out.later (Below.refl _ _).drew)
        clear HI
        refine wp_region_noPanic ?_
        refine wp_region_held_drew (S := fun W => W.cell? ⟨E, 3, none⟩ = some (.slice s1 m.d.length d1)) (by kernel_rfl) (HSl.out _ R0.out) (fun hHeld => ?_)
        generalize wr.drew = W0 at *
        refine takeL 1 (v := ?_) rfl (by kernel_rfl) (by kernel_rfl) (by kernel_rfl) (fun _ _ _ h => h) (Or.inl ⟨by rfl, ?_⟩) hHeld ?_
        rotate_left 1
        · (intro w hSw; go_simp; try with_reducible rfl)
        try simp only [Act.put, List.setIfInBounds_toArray, List.set_cons_zero, List.set_cons_succ]
        refine takeL 2 (v := ?_) rfl (by kernel_rfl) (by kernel_rfl) (by kernel_rfl) (fun _ _ _ h => h) (Or.inl ⟨by rfl, ?_⟩) hHeld ?_
        rotate_left 1
        · (intro w hSw; go_simp; try with_reducible rfl)
        try simp only [Act.put, List.setIfInBounds_toArray, List.set_cons_zero, List.set_cons_succ]
        refine takeL 3 (v := ?_) rfl (by kernel_rfl) (by kernel_rfl) (by kernel_rfl) (fun _ _ _ h => h) (Or.inl ⟨by rfl, ?_⟩) hHeld ?_
        rotate_left 1
        · (intro w hSw; go_simp; try with_reducible rfl)
        try simp only [Act.put, List.setIfInBounds_toArray, List.set_cons_zero, List.set_cons_succ]
        refine takeL 4 (v := ?_) rfl (by kernel_rfl) (by kernel_rfl) (by kernel_rfl) (fun _ _ _ h => h) (Or.inl ⟨by rfl, ?_⟩) hHeld ?_
        rotate_left 1
        · (intro w hSw; go_simp; try with_reducible rfl)
        try simp only [Act.put, List.setIfInBounds_toArray, List.set_cons_zero, List.set_cons_succ]
        refine takeL 5 (v := ?_) rfl (by kernel_rfl) (by kernel_rfl) (by kernel_rfl) (fun _ _ _ h => h) (Or.inl ⟨by rfl, ?_⟩) hHeld ?_
        rotate_left 1
        · (intro w hSw; go_simp; try with_reducible rfl)
        try simp only [Act.put, List.setIfInBounds_toArray, List.set_cons_zero, List.set_cons_succ]
        refine takeL 6 (v := ?_) rfl (by kernel_rfl) (by kernel_rfl) (by kernel_rfl) (fun _ _ _ h => h) (Or.inl ⟨by rfl, ?_⟩) hHeld ?_
        rotate_left 1
        · (intro w hSw; go_simp; try with_reducible rfl)
        try simp only [Act.put, List.setIfInBounds_toArray, List.set_cons_zero, List.set_cons_succ]
        refine takeL 7 (v := ?_) rfl (by kernel_rfl) (by kernel_rfl) (by kernel_rfl) (fun _ _ _ h => h) (Or.inl ⟨by rfl, ?_⟩) hHeld ?_
        rotate_left 1
        · (intro w hSw; go_simp; try with_reducible rfl)
        try simp only [Act.put, List.setIfInBounds_toArray, List.set_cons_zero, List.set_cons_succ]
        refine takeL 8 (v := ?_) rfl (by kernel_rfl) (by kernel_rfl) (by kernel_rfl) (fun _ _ _ h => h) (Or.inl ⟨by rfl, ?_⟩) hHeld ?_
        rotate_left 1
        · (intro w hSw; go_simp; try with_reducible rfl)
        try simp only [Act.put, List.setIfInBounds_toArray, List.set_cons_zero, List.set_cons_succ]
        refine takeL 9 (v := ?_) rfl (by kernel_rfl) (by kernel_rfl) (by kernel_rfl) (fun _ _ _ h => h) (Or.inl ⟨by rfl, ?_⟩) hHeld ?_
        rotate_left 1
        · (intro w hSw; go_simp; try with_reducible rfl)
        try simp only [Act.put, List.setIfInBounds_toArray, List.set_cons_zero, List.set_cons_succ]
        refine stepL 0 (by kernel_rfl) rfl (fun K hK => ?_)
        go_simp
        show K _ _
        have HO := Bx.mk (And.intro (ownI_empty W0 E R0.out.kr.le) (hnew W0 (.cells #[] 3) _ rfl))
        have R1 := Bx.mk (R0.out.later (below_a (.cells #[] 3)))
        obtain ⟨G, hG⟩ : ∃ G, W0.heap.size = G := ⟨_, rfl⟩
        rw [hG] at HO ⊢
        have HGG : Bx (E + 1 + 1 < G) := ⟨by have := R0.out.r.lt; omega⟩
        clear R0 hG
        generalize W0.alloc (.cells #[] 3) = W1 at *
        refine hK.out _ _ (HSl.out _ R1.out) (fun hHeld => ?_)
        clear hK K
        try simp only [Act.put, List.setIfInBounds_toArray, List.set_cons_zero, List.set_cons_succ]
        refine stepL 10 (by kernel_rfl) rfl (fun K hK => ?_)
        refine step_apI9 rfl _ _ rfl E _ [] (by rfl) HO.out.1 _ (m.d.take 40) (by rfl) (HId.out _ R1.out.kr.below) (by have := HLd.out; simp only [List.length_nil]; omega) R1.out.kr.le ?_
        intro v' W2 ho hg
        rw [List.nil_append] at ho
        have HU := Bx.mk ho.isL
        obtain ⟨a7, c7, hv7⟩ := HU.out.form
        obtain ⟨nl, hnl⟩ : ∃ n, (m.d.take 40).length = n := ⟨_, rfl⟩
        rw [hnl] at hv7
        subst hv7
        clear hnl
        have R2 : Bx (MI w E (E + 1) (E + 1 + 1) ⟨.slice p1 m.a.length a1, .slice q1 m.b.length b1, .slice t1 m.c.length c1, .slice s1 m.d.length d1⟩ m 3 W2) := ⟨R1.out.beside9 hg (by have := HGG.out; omega) HO.out.2⟩
        clear ho hg HO R1
        refine hK.out _ _ (HSl.out _ R2.out) (fun hHeld => ?_)
        clear hK K
        try simp only [Act.put, List.setIfInBounds_toArray, List.set_cons_zero, List.set_cons_succ]
        refine takeL 11 (v := ?_) rfl (by kernel_rfl) (by kernel_rfl) (by kernel_rfl) (fun _ _ _ h => h) (Or.inl ⟨by rfl, ?_⟩) hHeld ?_
        rotate_left 1
        · (intro w hSw; go_simp; try with_reducible rfl)
        try simp only [Act.put, List.setIfInBounds_toArray, List.set_cons_zero, List.set_cons_succ]
        refine wpAnyH_done (by kernel_rfl) ?_ _
        refine NoPanic.normal ?_
        clear hHeld
        go_wp2_with fail
        refine (rrev8 3 _ (m.d.take 40) (E + 1 + 1) (mkL m 3) W2 R2.out.r (mkL_good m 3) HU.out (by have := HLd.out; omega)).mono ?_
        rintro e X1 ⟨rfl, hr, hg⟩
        have KX := Bx.mk (R2.out.kr.grown hg (by have := R2.out.e; omega) (by intro y hy; simp at hy; subst hy; simp only; omega))
        have SX := Bx.mk (R2.out.s.far9 hg R2.out.r (by omega))
        have RX : Bx (RAt X1 (E + 1 + 1) (mkL m 4)) := ⟨hr⟩
        have UX : Bx (IsL X1 _ (m.d.take 40)) := ⟨by obtain ⟨y, hy, -⟩ := R2.out.r; exact HU.out.grown hg hy rs_int⟩
        clear hr hg R2 HU
        by_cases h0 : (revL (mkL m 3) 3 (m.d.take 40)).1 = 0
        · rw [h0]
          clear h0
          go_wp2_with fail
          refine (revoke_any 3 _ (m.d.take 40) (E + 1) (mkL m 3) X1 SX.out (mkL_good m 3) UX.out (by have := HLd.out; omega)).mono ?_
          rintro e X2 ⟨rfl, hr, hg⟩
          have KY := Bx.mk (KX.out.grown hg (by omega) (by intro y hy; simp at hy; subst hy; simp only; omega))
          have RY := Bx.mk (RX.out.far9 hg SX.out (by omega))
          have SY : Bx (SetAt X2 (E + 1) (mkL m 4)) := ⟨hr⟩
          clear hr hg KX SX RX UX
          go_wp2
          go_roundw
          case rel => exact ⟨4, by omega, by go_num, ⟨⟨KY.out, SY.out, RY.out, by omega, by omega⟩⟩⟩
          case measure => simp [intOf]
        · have SY : Bx (SetAt X1 (E + 1) (mkL m 4)) := ⟨by rw [show mkL m 4 = mkL m 3 from revL_no h0]; exact SX.out⟩
          generalize (revL (mkL m 3) 3 (m.d.take 40)).1 = r0 at *
          clear SX UX
          go_wp2
          go_roundw
          case rel => exact ⟨4, by omega, by go_num, ⟨⟨KX.out, SY.out, RX.out, by omega, by omega⟩⟩⟩
          case measure => simp [intOf]
    · obtain rfl : k = 4 := by omega
      clear hlt hk
      go_wp2
      go_ret2
      exact ⟨_, _, rfl, HI.out.s, HI.out.r, by omega, by omega, HI.out.kr.below⟩
end Go.Proofs.YtnfgamekjbkbkaaDoor
