/-
  CachePlays: a round that takes.
-/
import Derived.Test.YtdbdpehagkglfaaH41
namespace Go.Proofs.Ytdbdpehagkglfaa
open Go Go.RowKit
theorem cellsN_app (ps : List Nn) : ∀ l : List Nn, cellsN (l ++ ps) = cellsN l ++ cellsN ps
  | [] => rfl
  | p :: l => by
    show nnc p ++ cellsN (l ++ ps) = (nnc p ++ cellsN l) ++ cellsN ps
    rw [cellsN_app ps l, List.append_assoc]
theorem run_apNs (w : World) (base b2 : Nat) (v : Value) (l : List Nn) (hown : OwnN 26 w base v l) (x : Value) (ps : List Nn) (hx : OwnN 26 w b2 x ps) (hn : l.length + ps.length ≤ 10000) (hbase : base ≤ w.heap.size) (ty : TypeId) :
    ∃ v' w', (Builtin.append_ #[54, 54] ty #[v, x]).run Try.prog w = .ok v' w' ∧ OwnN 26 w' base v' (l ++ ps) ∧ w.grownBy w' v.ownBlock := by
  have hi : Try.prog.info? 26 = some ((Try.prog.info? 26).getD default) := by kernel_rfl
  rcases hx.2 with ⟨rfl, h0⟩ | ⟨g, cap, cur, rfl, _, hg, hc1, hc2, hc3, hc4⟩
  · have h0 : ps = [] := List.eq_nil_of_length_eq_zero h0
    subst h0
    refine ⟨v, w, ?_, by rw [List.append_nil]; exact hown, World.grownBy.refl w _⟩
    exact run_append_owned_none (P := Try.prog) (w := w) base 54 ty 26 _ 2 Try.underlying54 hi v l.length _ hown
  · have hone : ∀ u ∈ cellsN ps, u.oneCell' = true := by
      clear hx hn hc1 hc2 hc3 hc4
      induction ps with
      | nil => intro u hu; cases hu
      | cons p ps ih =>
        intro u hu
        have : u ∈ nnc p ++ cellsN ps := hu
        rcases List.mem_append.1 this with h | h
        · unfold nnc at h
          simp at h
          rcases h with rfl | rfl <;> rfl
        · exact ih u h
    obtain ⟨v', w', hrun, h2, h3, _, _⟩ := run_append_own_at (P := Try.prog) w base 54 ty 26 _ (.agg #[.int .i64 0, .int .i64 0]) 2 16 Try.underlying54 hi (by kernel_rfl) (by kernel_rfl) (by kernel_rfl) rfl (by omega) v l.length (cellsN l) hown ⟨g, 0, none⟩ ps.length cap (cellsN ps) hx.1
      (fun j u hu => by
        rw [show (⟨g, 0, none⟩ : Addr).add j = ⟨g, j, none⟩ by unfold Addr.add; split <;> simp_all]
        rw [cell_of_row _ _ _ _ _ _ hg, ← Array.getElem?_toList]
        have hj : j < ps.length * 2 := by rw [← hx.1]; exact (List.getElem?_eq_some_iff.1 hu).1
        rw [← hc4, List.getElem?_take_of_lt hj] at hu
        exact hu) hone (by simp only [maxLen]; omega) (by omega) hbase
    refine ⟨v', w', hrun, ?_, h3⟩
    unfold OwnN
    rw [List.length_append, cellsN_app]
    exact h2
theorem step_apNs {w : World} {ops : Array Oper} {o : Oper} {a : Act} {K : Act → World → Prop} {Q : Exit → Act → World → Prop} {F : Prop} (hgd : o.guard = none) (sl x : Operand)
    (ho : o.op = .call { callee := .builtin .append, args := #[sl, x], argTypes := #[54, 54] }) (base b2 : Nat) (v : Value) (l : List Nn) (hs : a.eval sl = v) (hown : OwnN 26 w base v l) (xv : Value) (ps : List Nn) (hx : a.eval x = xv) (hr : OwnN 26 w b2 xv ps)
    (hn : l.length + ps.length ≤ 10000) (hbase : base ≤ w.heap.size)
    (h : ∀ v' w', OwnN 26 w' base v' (l ++ ps) → w.grownBy w' v.ownBlock → K (a.put o.dst v') w') : if Region.wanted o (yielded ops a.tmps) = true then Oper.wp Try.prog o a w K Q else F := by
  have hw : Region.wanted o (yielded ops a.tmps) = true := by simp [Region.wanted, hgd]
  rw [if_pos hw]
  obtain ⟨v', w', hrun, h1, h2⟩ := run_apNs w base b2 v l hown xv ps hr hn hbase o.type
  unfold Oper.wp
  simp [execOp, ho, resolve, invoke, builtin, hs, hx, hrun, Result.andThen]
  exact h v' w' h1 h2
theorem step_apNn {w : World} {ops : Array Oper} {o : Oper} {a : Act} {K : Act → World → Prop} {Q : Exit → Act → World → Prop} {F : Prop} (hgd : o.guard = none) (sl x : Operand)
    (ho : o.op = .call { callee := .builtin .append, args := #[sl, x], argTypes := #[54, 54] }) (base : Nat) (v : Value) (l : List Nn) (hs : a.eval sl = v) (hown : OwnN 26 w base v l) (g of : Nat) (e : Nn) (cp : Nat) (hx : a.eval x = .slice (some ⟨g, of, none⟩) 1 cp) (hr : w.rangeAt g of (nnc e))
    (hn : l.length ≤ 1000) (hbase : base ≤ w.heap.size)
    (h : ∀ v' w', OwnN 26 w' base v' (l ++ [e]) → w.grownBy w' v.ownBlock → K (a.put o.dst v') w') : if Region.wanted o (yielded ops a.tmps) = true then Oper.wp Try.prog o a w K Q else F := by
  have hw : Region.wanted o (yielded ops a.tmps) = true := by simp [Region.wanted, hgd]
  rw [if_pos hw]
  obtain ⟨v', w', hrun, h1, h2⟩ := run_ap12R w base v l hown g of e hr hn hbase o.type cp
  unfold Oper.wp
  simp [execOp, ho, resolve, invoke, builtin, hs, hx, hrun, Result.andThen]
  exact h v' w' h1 h2
theorem OwnN.empty (w : World) (base : Nat) (hb : base ≤ w.heap.size) : OwnN 26 (w.alloc (.cells #[] 26)) base (.slice (some ⟨w.heap.size, 0, none⟩) 0 0) [] :=
  ⟨rfl, .inr ⟨w.heap.size, 0, #[], rfl, hb, hnew _ _ _ rfl, Nat.le_refl _, by decide, rfl, rfl⟩⟩
theorem Took15.later {B : Nat} {w : World} {n : Nat} {zs : List Zz} {mv : Value} {K : Nat} {hK : K < zs.length} {nn : Nn} {W W1 : World} (h : Took15 B w n zs mv K hK nn W) (hB : B ≤ W.heap.size) (hb : Below W.heap.size W W1) : Took15 B w n zs mv K hK nn W1 :=
  ⟨h.book.later hb, OwnG.later h.row hb, fun z hz => (h.each z hz).later hb, h.look, h.below.trans (hb.mono hB), h.kn⟩
set_option maxRecDepth 100000 in
set_option maxHeartbeats 4000000 in
theorem round15_3 (wb : World) (X B : Nat) (xc : Cl) (xn : Nn) (l : List A15) (v0 : Value) (hin : In15 wb X B xc xn l v0) (Q : Exit → Act → World → Prop) (k : Nat) (a : Act) (wr : World) (hk : k < l.length) (hk5 : k < 50) (h : IL15 wb v0 X B k a wr) (hkd : (IntKind.u64.wrap (l.getD k A15.zero).kd).tmod 6 = 3) :
    Code.wp Try.prog (loopAt (Try.f3.body) 0) (Exit.then (fun a' w' => IL15 wb v0 X B (k + 1) a' w') Q) a wr := by
  obtain ⟨hf, s9, mv, zs, s8, hS⟩ := h
  obtain ⟨b, o, cap, rfl⟩ := hin.acts.start (by omega)
  obtain ⟨vb, hr, hkb, -, -, hc64, hkl, hnf⟩ := hin.acts.at_ k hk
  have HBX := Bx.mk fun W (hb : Below B wb W) => hin.box hb
  have HTl := Bx.mk fun (m : Nat) (zs : List Zz) (mv : Value) (W : World) (h : StL B wb m zs mv W) (hm : m ≤ 1000) => tells_any B wb m zs mv xc hin.fitC xn hin.fitN W h hm
  obtain ⟨na, hna⟩ : ∃ na, l.length = na := ⟨_, rfl⟩
  have hlen := hin.len
  have hsz := hin.size
  rw [hna] at hk hf hlen ⊢
  clear hin
  generalize l.getD k A15.zero = ac at *
  obtain ⟨kd, tk, ⟨ci, cr, cx, cq⟩, kk, ⟨pb, pc⟩⟩ := ac
  obtain ⟨xi, xr, xx, xq⟩ := xc
  obtain ⟨xb, xc⟩ := xn
  simp only at hr hkb hc64 hkl hnf hkd HBX
  obtain ⟨tt, ht, et⟩ := lowT tk 1073741824 (by omega) (by omega)
  have et : wrap64 ((IntKind.u64.wrap tk).tmod 1073741824) = (tt : Int) := et
  have HT30 : Bx ((0 : Int) ≤ (tt : Int) ∧ (tt : Int) ≤ 1073741824) := Bx.mk ⟨by omega, by omega⟩
  have HC64 := Bx.mk (And.intro hc64 hnf)
  obtain ⟨ka, kcap, hvb, hkcap, hkno⟩ := bytes_form hkb
  obtain ⟨kl, hkl'⟩ : ∃ kl, kk.length = kl := ⟨_, rfl⟩
  rw [hkl'] at hvb hkcap hkl
  subst hvb
  obtain ⟨km, hkm⟩ : ∃ km, km = min kl 40 := ⟨_, rfl⟩
  have m1 : min (kl : Int) 40 = (km : Int) := by omega
  have s1 := fun W => cut_bytes ka kl kcap km (by omega) hkcap hkno W
  have HKm : Bx (km ≤ 40 ∧ km ≤ kl) := Bx.mk ⟨by omega, by omega⟩
  have HKB : Bx (∀ W, Below B wb W → Bytes W (.slice ka km kcap) (kk.take km) ∧ (kk.take km).length ≤ 40) := Bx.mk fun W hb => ⟨(hkb.take km (by omega)).later (by rw [hsz]; exact hb), by rw [List.length_take]; omega⟩
  have hB0 : B ≤ wr.heap.size := by rw [← hsz]; exact hS.below.size
  have hrw := rng_later hr (by rw [hsz]; exact hS.below)
  obtain ⟨d0, d1, d2, d3, d4, d5, d6, d7, d8⟩ := rng9 hrw
  have HTo := Bx.mk fun W => cto_any ⟨ci, cr, cx, cq⟩ W
  have k1 : (k : Int) < 50 := by omega
  have k2 : (k : Int) < (na : Int) := by omega
  have k0 : (0 : Int) ≤ (k : Int) := by omega
  have n1 : (na : Int) ≤ 9223372036854775807 := by omega
  have l1 : (kl : Int) ≤ 9223372036854775807 := by omega
  have hwk : IntKind.i64.wrap ((k : Int) + 1) = (k : Int) + 1 := by simp [IntKind.wrap_i64]; omega
  have HK := Bx.mk (show k ≤ 1000 by omega)
  obtain ⟨ma, mk, mc, rfl⟩ := hS.form
  have HSz := Bx.mk hsz
  have R1 : Bx (StL B wb k zs (.slice ma mk mc) (wr.alloc (.cells #[.int .i64 kd, .int .i64 tk, .int .i64 ci, .int .i64 cr, .int .i64 cx, .int .i64 cq, .slice ka kl kcap, .int .i64 pb, .int .i64 pc] 32)) ∧ (wr.alloc (.cells #[.int .i64 kd, .int .i64 tk, .int .i64 ci, .int .i64 cr, .int .i64 cx, .int .i64 cq, .slice ka kl kcap, .int .i64 pb, .int .i64 pc] 32)).heap[wr.heap.size]? = some (.cells #[.int .i64 kd, .int .i64 tk, .int .i64 ci, .int .i64 cr, .int .i64 cx, .int .i64 cq, .slice ka kl kcap, .int .i64 pb, .int .i64 pc] 32 (0, 0)) ∧ B ≤ wr.heap.size) := Bx.mk ⟨hS.later hB0 (below_a _), hnew _ _ _ rfl, hB0⟩
  obtain ⟨y, rfl, hy⟩ := open227 hf.fr
  have e0 := (hy 0).symm.trans hf.s0
  have e4 := (hy 4).symm.trans hf.s4
  have e5 := (hy 5).symm.trans hf.s5
  have e7 := (hy 7).symm.trans hf.s7
  have e8 := (hy 8).symm.trans s8
  have e9 := (hy 9).symm.trans s9
  clear hf hy s8 s9 hS hk hk5 hna hkm hkl hkl' hkcap hkno hkb hr hrw hc64 hnf ht hB0 hlen hsz
  rw [e0, e4, e5, e7, e8, e9]
  clear e0 e4 e5 e7 e8 e9
  conv => arg 2; whnf
  unfold clV at HTo
  simp only at HTo
  go_wp2_with fail
  refine (HTo.out _).mono ?_
  rintro e w2 ⟨rfl, hb⟩
  have R2 : Bx (StL B wb k zs (.slice ma mk mc) (w2.alloc (.cells #[.int .i64 ci, .int .i64 cr, .int .i64 cx, .int .i64 cq] 34)) ∧ (w2.alloc (.cells #[.int .i64 ci, .int .i64 cr, .int .i64 cx, .int .i64 cq] 34)).heap[wr.heap.size]? = some (.cells #[.int .i64 kd, .int .i64 tk, .int .i64 ci, .int .i64 cr, .int .i64 cx, .int .i64 cq, .slice ka kl kcap, .int .i64 pb, .int .i64 pc] 32 (0, 0)) ∧ (w2.alloc (.cells #[.int .i64 ci, .int .i64 cr, .int .i64 cx, .int .i64 cq] 34)).heap[w2.heap.size]? = some (.cells #[.int .i64 ci, .int .i64 cr, .int .i64 cx, .int .i64 cq] 34 (0, 0)) ∧ B ≤ (w2.alloc (.cells #[.int .i64 ci, .int .i64 cr, .int .i64 cx, .int .i64 cq] 34)).heap.size) := Bx.mk (by
    have h1 := R1.out.2.2
    have h2 : B ≤ (wr.alloc (.cells #[.int .i64 kd, .int .i64 tk, .int .i64 ci, .int .i64 cr, .int .i64 cx, .int .i64 cq, .slice ka kl kcap, .int .i64 pb, .int .i64 pc] 32)).heap.size := by rw [World.size_alloc]; omega
    have h3 := hb.size
    have h4 := (Array.getElem?_eq_some_iff.1 R1.out.2.1).1
    refine ⟨(R1.out.1.later h2 hb).later (by omega) (below_a _), ?_, hnew _ _ _ rfl, by rw [World.size_alloc]; omega⟩
    rw [hold _ _ _ (by omega)]
    exact (hb.block _ h4).trans R1.out.2.1)
  have hAne : wr.heap.size ≠ w2.heap.size := by
    have := hb.size
    have := (Array.getElem?_eq_some_iff.1 R1.out.2.1).1
    omega
  obtain ⟨a0, -, -, -, -, -, -, -, -⟩ := cells9 R2.out.2.1
  clear hb R1 HTo d0 d1 d2 d3 d4 d5 d6 d7 d8
  go_upto_region 26 with fail
  clear a0 m1 s1
  generalize hA : wr.heap.size = A at *
  generalize hY : w2.heap.size = Y at *
  generalize w2.alloc (.cells #[.int .i64 ci, .int .i64 cr, .int .i64 cx, .int .i64 cq] 34) = w3 at *
  clear hA hY hAne
  obtain ⟨D, HL0, HT0⟩ := take_pair R2.out.1 R2.out.2.2.2 HK.out ⟨ci, cr, cx, cq⟩ HC64.out.1 ⟨pb, pc⟩ HC64.out.2
  rcases HT0 with ⟨hD, HT1⟩ | ⟨rfl, K, hK, hcK, hbf, HT1⟩
  · have HD := Bx.mk hD
    have hne : (D != D) = false := by simp
    have HT := Bx.mk HT1
    have HL := Bx.mk HL0
    clear HT1 HL0
    unfold clV nv at HL HT
    unfold ptr at HT
    simp only at HL HT
    have HT12 := Bx.mk fun W => to12_any ⟨pb, pc⟩ W
    unfold nv at HT12
    simp only at HT12
    obtain ⟨-, -, a2, a3, a4, a5, -, a7, a8⟩ := cells9 R2.out.2.1
    have HB3 := Bx.mk R2.out.2.2.2
    have HS3 := Bx.mk R2.out.1
    have R3 : Bx (w3.heap[A]? = some (.cells #[.int .i64 kd, .int .i64 tk, .int .i64 ci, .int .i64 cr, .int .i64 cx, .int .i64 cq, .slice ka kl kcap, .int .i64 pb, .int .i64 pc] 32 (0, 0)) ∧ w3.heap[Y]? = some (.cells #[.int .i64 ci, .int .i64 cr, .int .i64 cx, .int .i64 cq] 34 (0, 0))) := Bx.mk ⟨R2.out.2.1, R2.out.2.2.1⟩
    clear R2
    go_wp2_with fail
    refine HL.out.mono ?_
    rintro e w4 ⟨rfl, hb⟩
    have R4 : Bx (w4.heap[A]? = some (.cells #[.int .i64 kd, .int .i64 tk, .int .i64 ci, .int .i64 cr, .int .i64 cx, .int .i64 cq, .slice ka kl kcap, .int .i64 pb, .int .i64 pc] 32 (0, 0)) ∧ w4.heap[Y]? = some (.cells #[.int .i64 ci, .int .i64 cr, .int .i64 cx, .int .i64 cq] 34 (0, 0))) := Bx.mk ⟨(hb.block A (Array.getElem?_eq_some_iff.1 R3.out.1).1).trans R3.out.1, (hb.block Y (Array.getElem?_eq_some_iff.1 R3.out.2).1).trans R3.out.2⟩
    have HL4 := Bx.mk hb
    clear hb HL R3 a2 a3 a4 a5 a7 a8
    go_upto_region 39 with fail
    have R0 : Bx (w4.drew.heap[A]? = some (.cells #[.int .i64 kd, .int .i64 tk, .int .i64 ci, .int .i64 cr, .int .i64 cx, .int .i64 cq, .slice ka kl kcap, .int .i64 pb, .int .i64 pc] 32 (0, 0)) ∧ w4.drew.heap[Y]? = some (.cells #[.int .i64 ci, .int .i64 cr, .int .i64 cx, .int .i64 cq] 34 (0, 0)) ∧ Below w3.heap.size w3 w4.drew) := Bx.mk ⟨R4.out.1, R4.out.2, HL4.out.drew⟩
    clear R4 HL4
    refine wp_region_noPanic ?_
    refine wp_region_held_drew (S := fun W => W.rangeAt Y 0 [.int .i64 ci, .int .i64 cr, .int .i64 cx, .int .i64 cq] ∧ W.rangeAt A 7 [.int .i64 pb, .int .i64 pc]) (by kernel_rfl) (⟨row_rng15 (l := [.int .i64 ci, .int .i64 cr, .int .i64 cx, .int .i64 cq]) R0.out.2.1, (sub9 R0.out.1).2⟩) (fun hHeld => ?_)
    generalize w4.drew = u0 at *
    refine takeL 0 (v := ?_) rfl (by kernel_rfl) (by kernel_rfl) (by kernel_rfl) (fun _ _ _ h => h) (Or.inl ⟨by rfl, ?_⟩) hHeld ?_
    rotate_left 1
    · (intro w hSw; go_simp; try with_reducible rfl)
    try simp only [Act.put, List.setIfInBounds_toArray, List.set_cons_zero, List.set_cons_succ]
    refine takeL 1 rfl (by kernel_rfl) (by kernel_rfl) (by kernel_rfl) (fun _ _ _ h => h) (yieldsIf_load_mid (by rfl) _ _ rfl _ _ rfl _ _ (fun w hSw => hSw.1) Try.underlying34 rfl (by kernel_rfl)) hHeld ?_
    try simp only [Act.put, List.setIfInBounds_toArray, List.set_cons_zero, List.set_cons_succ]
    refine takeL 2 (v := ?_) rfl (by kernel_rfl) (by kernel_rfl) (by kernel_rfl) (fun _ _ _ h => h) (Or.inl ⟨by rfl, ?_⟩) hHeld ?_
    rotate_left 1
    · (intro w hSw; go_simp; try with_reducible rfl)
    try simp only [Act.put, List.setIfInBounds_toArray, List.set_cons_zero, List.set_cons_succ]
    refine takeL 3 rfl (by kernel_rfl) (by kernel_rfl) (by kernel_rfl) (fun _ _ _ h => h) (yieldsIf_load_mid (by rfl) _ _ rfl _ _ rfl _ _ (fun w hSw => hSw.2) Try.underlying26 rfl (by kernel_rfl)) hHeld ?_
    try simp only [Act.put, List.setIfInBounds_toArray, List.set_cons_zero, List.set_cons_succ]
    refine takeL 6 (v := ?_) rfl (by kernel_rfl) (by kernel_rfl) (by kernel_rfl) (fun _ _ _ h => h) (Or.inl ⟨by rfl, ?_⟩) hHeld ?_
    rotate_left 1
    · (intro w hSw; go_simp; try with_reducible rfl)
    try simp only [Act.put, List.setIfInBounds_toArray, List.set_cons_zero, List.set_cons_succ]
    refine stepL 4 (by kernel_rfl) rfl (fun K' hK => ?_)
    go_simp
    refine (HT12.out _).mono ?_
    rintro e u1 ⟨rfl, hb⟩
    show K' _ _
    have R1 : Bx (u1.heap[A]? = some (.cells #[.int .i64 kd, .int .i64 tk, .int .i64 ci, .int .i64 cr, .int .i64 cx, .int .i64 cq, .slice ka kl kcap, .int .i64 pb, .int .i64 pc] 32 (0, 0)) ∧ u1.heap[Y]? = some (.cells #[.int .i64 ci, .int .i64 cr, .int .i64 cx, .int .i64 cq] 34 (0, 0)) ∧ Below w3.heap.size w3 u1) := Bx.mk ⟨(hb.block A (Array.getElem?_eq_some_iff.1 R0.out.1).1).trans R0.out.1, (hb.block Y (Array.getElem?_eq_some_iff.1 R0.out.2.1).1).trans R0.out.2.1, R0.out.2.2.trans (hb.mono R0.out.2.2.size)⟩
    refine hK.out _ _ ⟨row_rng15 (l := [.int .i64 ci, .int .i64 cr, .int .i64 cx, .int .i64 cq]) R1.out.2.1, (sub9 R1.out.1).2⟩ (fun hHeld => ?_)
    clear hK K' hb R0 HT12
    try simp only [Act.put, List.setIfInBounds_toArray, List.set_cons_zero, List.set_cons_succ]
    refine stepL 5 (by kernel_rfl) rfl (fun K' hK => ?_)
    go_simp
    refine (HT.out _ R1.out.2.2).mono ?_
    rintro e u2 ⟨rfl, -, hkb, hS'⟩
    show K' _ _
    have S2 := Bx.mk hS'
    have R2 : Bx (u2.heap[A]? = some (.cells #[.int .i64 kd, .int .i64 tk, .int .i64 ci, .int .i64 cr, .int .i64 cx, .int .i64 cq, .slice ka kl kcap, .int .i64 pb, .int .i64 pc] 32 (0, 0)) ∧ u2.heap[Y]? = some (.cells #[.int .i64 ci, .int .i64 cr, .int .i64 cx, .int .i64 cq] 34 (0, 0)) ∧ B ≤ u2.heap.size) := Bx.mk ⟨hkb.block A _ R1.out.1 (.inr (hard_cells (by decide) (by decide))), hkb.block Y _ R1.out.2.1 (.inr (hard_cells (by decide) (by decide))), Nat.le_trans HB3.out (Nat.le_trans R1.out.2.2.size hkb.size)⟩
    refine hK.out _ _ ⟨row_rng15 (l := [.int .i64 ci, .int .i64 cr, .int .i64 cx, .int .i64 cq]) R2.out.2.1, (sub9 R2.out.1).2⟩ (fun hHeld => ?_)
    clear hK K' hkb hS' R1 HT HS3
    try simp only [Act.put, List.setIfInBounds_toArray, List.set_cons_zero, List.set_cons_succ]
    refine takeL 7 (v := ?_) rfl (by kernel_rfl) (by kernel_rfl) (by kernel_rfl) (fun _ _ _ h => h) (Or.inl ⟨by rfl, ?_⟩) hHeld ?_
    rotate_left 1
    · (intro w hSw; go_simp; try with_reducible rfl)
    try simp only [Act.put, List.setIfInBounds_toArray, List.set_cons_zero, List.set_cons_succ]
    refine wpAnyH_done (by kernel_rfl) ?_ _
    refine NoPanic.normal ?_
    clear hHeld
    clear R2
    have HBx2 := HBX.out u2 S2.out.below
    obtain ⟨b0, b1, b2, b3⟩ := cells4' HBx2.1
    obtain ⟨p0, p1⟩ := cells2' HBx2.2
    have HTl2 := Bx.mk (HTl.out _ _ _ _ S2.out (by have := HK.out; omega))
    unfold ptr clV nv at HTl2
    simp only at HTl2
    clear HBx2
    go_wp2_with fail
    refine HTl2.out.mono ?_
    rintro e wz ⟨rfl, hbz⟩
    have SZ := Bx.mk ((S2.out.later (by have := S2.out.below.size; have := HSz.out; omega) hbz).more (show k ≤ k + 1 by omega))
    clear hbz b0 b1 b2 b3 p0 p1 HTl2
    go_wp2
    exact ⟨⟨⟨rfl, rfl⟩, rfl, rfl, rfl, rfl⟩, by first | rfl | go_num, _, _, rfl, SZ.out⟩
  · have HSr := Bx.mk (And.intro R2.out.1.srt R2.out.1.le)
    have HLe := Bx.mk R2.out.1.le
    have HT := Bx.mk HT1
    have HL := Bx.mk HL0
    clear HT1 HL0
    unfold clV nv at HL HT
    unfold ptr at HT
    simp only at HL HT
    have HT12 := Bx.mk fun W => to12_any ⟨pb, pc⟩ W
    unfold nv at HT12
    simp only at HT12
    obtain ⟨-, -, a2, a3, a4, a5, -, a7, a8⟩ := cells9 R2.out.2.1
    have HB3 := Bx.mk R2.out.2.2.2
    have HS3 := Bx.mk R2.out.1
    have R3 : Bx (w3.heap[A]? = some (.cells #[.int .i64 kd, .int .i64 tk, .int .i64 ci, .int .i64 cr, .int .i64 cx, .int .i64 cq, .slice ka kl kcap, .int .i64 pb, .int .i64 pc] 32 (0, 0)) ∧ w3.heap[Y]? = some (.cells #[.int .i64 ci, .int .i64 cr, .int .i64 cx, .int .i64 cq] 34 (0, 0))) := Bx.mk ⟨R2.out.2.1, R2.out.2.2.1⟩
    clear R2
    go_wp2_with fail
    refine HL.out.mono ?_
    rintro e w4 ⟨rfl, hb⟩
    have R4 : Bx (w4.heap[A]? = some (.cells #[.int .i64 kd, .int .i64 tk, .int .i64 ci, .int .i64 cr, .int .i64 cx, .int .i64 cq, .slice ka kl kcap, .int .i64 pb, .int .i64 pc] 32 (0, 0)) ∧ w4.heap[Y]? = some (.cells #[.int .i64 ci, .int .i64 cr, .int .i64 cx, .int .i64 cq] 34 (0, 0))) := Bx.mk ⟨(hb.block A (Array.getElem?_eq_some_iff.1 R3.out.1).1).trans R3.out.1, (hb.block Y (Array.getElem?_eq_some_iff.1 R3.out.2).1).trans R3.out.2⟩
    have HL4 := Bx.mk hb
    clear hb HL R3 a2 a3 a4 a5 a7 a8
    go_upto_region 39 with fail
    have R0 : Bx (w4.drew.heap[A]? = some (.cells #[.int .i64 kd, .int .i64 tk, .int .i64 ci, .int .i64 cr, .int .i64 cx, .int .i64 cq, .slice ka kl kcap, .int .i64 pb, .int .i64 pc] 32 (0, 0)) ∧ w4.drew.heap[Y]? = some (.cells #[.int .i64 ci, .int .i64 cr, .int .i64 cx, .int .i64 cq] 34 (0, 0)) ∧ Below w3.heap.size w3 w4.drew) := Bx.mk ⟨R4.out.1, R4.out.2, HL4.out.drew⟩
    clear R4 HL4
    refine wp_region_noPanic ?_
    refine wp_region_held_drew (S := fun W => W.rangeAt Y 0 [.int .i64 ci, .int .i64 cr, .int .i64 cx, .int .i64 cq] ∧ W.rangeAt A 7 [.int .i64 pb, .int .i64 pc]) (by kernel_rfl) (⟨row_rng15 (l := [.int .i64 ci, .int .i64 cr, .int .i64 cx, .int .i64 cq]) R0.out.2.1, (sub9 R0.out.1).2⟩) (fun hHeld => ?_)
    generalize w4.drew = u0 at *
    refine takeL 0 (v := ?_) rfl (by kernel_rfl) (by kernel_rfl) (by kernel_rfl) (fun _ _ _ h => h) (Or.inl ⟨by rfl, ?_⟩) hHeld ?_
    rotate_left 1
    · (intro w hSw; go_simp; try with_reducible rfl)
    try simp only [Act.put, List.setIfInBounds_toArray, List.set_cons_zero, List.set_cons_succ]
    refine takeL 1 rfl (by kernel_rfl) (by kernel_rfl) (by kernel_rfl) (fun _ _ _ h => h) (yieldsIf_load_mid (by rfl) _ _ rfl _ _ rfl _ _ (fun w hSw => hSw.1) Try.underlying34 rfl (by kernel_rfl)) hHeld ?_
    try simp only [Act.put, List.setIfInBounds_toArray, List.set_cons_zero, List.set_cons_succ]
    refine takeL 2 (v := ?_) rfl (by kernel_rfl) (by kernel_rfl) (by kernel_rfl) (fun _ _ _ h => h) (Or.inl ⟨by rfl, ?_⟩) hHeld ?_
    rotate_left 1
    · (intro w hSw; go_simp; try with_reducible rfl)
    try simp only [Act.put, List.setIfInBounds_toArray, List.set_cons_zero, List.set_cons_succ]
    refine takeL 3 rfl (by kernel_rfl) (by kernel_rfl) (by kernel_rfl) (fun _ _ _ h => h) (yieldsIf_load_mid (by rfl) _ _ rfl _ _ rfl _ _ (fun w hSw => hSw.2) Try.underlying26 rfl (by kernel_rfl)) hHeld ?_
    try simp only [Act.put, List.setIfInBounds_toArray, List.set_cons_zero, List.set_cons_succ]
    refine takeL 6 (v := ?_) rfl (by kernel_rfl) (by kernel_rfl) (by kernel_rfl) (fun _ _ _ h => h) (Or.inl ⟨by rfl, ?_⟩) hHeld ?_
    rotate_left 1
    · (intro w hSw; go_simp; try with_reducible rfl)
    try simp only [Act.put, List.setIfInBounds_toArray, List.set_cons_zero, List.set_cons_succ]
    refine stepL 4 (by kernel_rfl) rfl (fun K' hK => ?_)
    go_simp
    refine (HT12.out _).mono ?_
    rintro e u1 ⟨rfl, hb⟩
    show K' _ _
    have R1 : Bx (u1.heap[A]? = some (.cells #[.int .i64 kd, .int .i64 tk, .int .i64 ci, .int .i64 cr, .int .i64 cx, .int .i64 cq, .slice ka kl kcap, .int .i64 pb, .int .i64 pc] 32 (0, 0)) ∧ u1.heap[Y]? = some (.cells #[.int .i64 ci, .int .i64 cr, .int .i64 cx, .int .i64 cq] 34 (0, 0)) ∧ Below w3.heap.size w3 u1) := Bx.mk ⟨(hb.block A (Array.getElem?_eq_some_iff.1 R0.out.1).1).trans R0.out.1, (hb.block Y (Array.getElem?_eq_some_iff.1 R0.out.2.1).1).trans R0.out.2.1, R0.out.2.2.trans (hb.mono R0.out.2.2.size)⟩
    refine hK.out _ _ ⟨row_rng15 (l := [.int .i64 ci, .int .i64 cr, .int .i64 cx, .int .i64 cq]) R1.out.2.1, (sub9 R1.out.1).2⟩ (fun hHeld => ?_)
    clear hK K' hb R0 HT12
    try simp only [Act.put, List.setIfInBounds_toArray, List.set_cons_zero, List.set_cons_succ]
    refine stepL 5 (by kernel_rfl) rfl (fun K' hK => ?_)
    go_simp
    refine (HT.out _ R1.out.2.2).mono ?_
    rintro e u2 ⟨rfl, -, hkb, hS'⟩
    show K' _ _
    have S2 := Bx.mk hS'
    have R2 : Bx (u2.heap[A]? = some (.cells #[.int .i64 kd, .int .i64 tk, .int .i64 ci, .int .i64 cr, .int .i64 cx, .int .i64 cq, .slice ka kl kcap, .int .i64 pb, .int .i64 pc] 32 (0, 0)) ∧ u2.heap[Y]? = some (.cells #[.int .i64 ci, .int .i64 cr, .int .i64 cx, .int .i64 cq] 34 (0, 0)) ∧ B ≤ u2.heap.size) := Bx.mk ⟨hkb.block A _ R1.out.1 (.inr (hard_cells (by decide) (by decide))), hkb.block Y _ R1.out.2.1 (.inr (hard_cells (by decide) (by decide))), Nat.le_trans HB3.out (Nat.le_trans R1.out.2.2.size hkb.size)⟩
    refine hK.out _ _ ⟨row_rng15 (l := [.int .i64 ci, .int .i64 cr, .int .i64 cx, .int .i64 cq]) R2.out.2.1, (sub9 R2.out.1).2⟩ (fun hHeld => ?_)
    clear hK K' hkb hS' R1 HT HS3
    try simp only [Act.put, List.setIfInBounds_toArray, List.set_cons_zero, List.set_cons_succ]
    refine takeL 7 (v := ?_) rfl (by kernel_rfl) (by kernel_rfl) (by kernel_rfl) (fun _ _ _ h => h) (Or.inl ⟨by rfl, ?_⟩) hHeld ?_
    rotate_left 1
    · (intro w hSw; go_simp; try with_reducible rfl)
    try simp only [Act.put, List.setIfInBounds_toArray, List.set_cons_zero, List.set_cons_succ]
    refine wpAnyH_done (by kernel_rfl) ?_ _
    refine NoPanic.normal ?_
    clear hHeld
    have hrow := S2.out.row
    obtain ⟨g, gc, hmv⟩ := OwnG.start hrow (by omega)
    injection hmv with hm1 hm2 hm3
    subst hm1
    subst hm3
    have hKm : (K : Int) < (mk : Int) := by omega
    have hK0 : (0 : Int) ≤ (K : Int) := by omega
    have hKn : ¬ (K : Int) < 0 := by omega
    have HFi := Bx.mk (rfind_at B (.slice (some ⟨g, 0, none⟩) mk mc) zs ⟨ci, cr, cx, cq⟩ u2 hrow (by have := HLe.out; omega) K hK hcK hbf)
    unfold clV at HFi
    simp only at HFi
    obtain ⟨-, -, a2, a3, a4, a5, -, -, -⟩ := cells9 R2.out.1
    clear hrow hbf hm2
    go_wp2_with fail
    refine HFi.out.mono ?_
    rintro e u3 ⟨rfl, hb⟩
    have S3 := Bx.mk (S2.out.later R2.out.2.2 hb)
    have R3 : Bx (u3.heap[A]? = some (.cells #[.int .i64 kd, .int .i64 tk, .int .i64 ci, .int .i64 cr, .int .i64 cx, .int .i64 cq, .slice ka kl kcap, .int .i64 pb, .int .i64 pc] 32 (0, 0)) ∧ u3.heap[Y]? = some (.cells #[.int .i64 ci, .int .i64 cr, .int .i64 cx, .int .i64 cq] 34 (0, 0)) ∧ B ≤ u3.heap.size) := Bx.mk ⟨(hb.block A (Array.getElem?_eq_some_iff.1 R2.out.1).1).trans R2.out.1, (hb.block Y (Array.getElem?_eq_some_iff.1 R2.out.2.1).1).trans R2.out.2.1, Nat.le_trans R2.out.2.2 hb.size⟩
    clear hb HFi a2 a3 a4 a5 R2 S2
    go_upto_region 43 with fail
    have S0 := Bx.mk (S3.out.later R3.out.2.2 (Below.refl _ u3).drew)
    have HAd : Bx (u3.drew.heap[A]? = some (.cells #[.int .i64 kd, .int .i64 tk, .int .i64 ci, .int .i64 cr, .int .i64 cx, .int .i64 cq, .slice ka kl kcap, .int .i64 pb, .int .i64 pc] 32 (0, 0)) ∧ B ≤ u3.drew.heap.size) := Bx.mk ⟨R3.out.1, R3.out.2.2⟩
    clear S3 R3
    obtain ⟨v0, hv0⟩ : ∃ v, u3.drew = v := ⟨_, rfl⟩
    rw [hv0] at S0 HAd
    obtain ⟨N0, hN0⟩ : ∃ N, v0.heap.size = N := ⟨_, rfl⟩
    have HZ := Bx.mk (S0.out.each _ (List.getElem_mem hK))
    have HNs : Bx ((zs[K]).ns.length ≤ 1000) := Bx.mk (Nat.le_trans HZ.out.len HK.out)
    have HTk : Bx (∀ W, Below N0 v0 W → OwnN 26 W B (zs[K]).tv (zs[K]).ns) := Bx.mk fun W hb => HZ.out.tak.later (hN0 ▸ hb)
    have HC : Bx (∀ W, Below N0 v0 W → W.cell? ⟨g, K * 8 + 7, none⟩ = some (zs[K]).tv) := Bx.mk fun W hb => (rngZ ((OwnG.later S0.out.row (hN0 ▸ hb)).at_ encZ_len K hK)).2.2.2
    have HFz : Bx (∀ W, Below N0 v0 W → ∀ i, W.frozen? ⟨g, i, none⟩ = false) := Bx.mk fun W hb i => (OwnG.later S0.out.row (hN0 ▸ hb)).frozen i
    have HA7 : Bx (∀ W, Below N0 v0 W → W.rangeAt A 7 [.int .i64 pb, .int .i64 pc]) := Bx.mk fun W hb => (sub9 ((hb.block A (hN0 ▸ (Array.getElem?_eq_some_iff.1 HAd.out.1).1)).trans HAd.out.1)).2
    have HDo : Bx (∀ W, Below N0 v0 W → ∀ tv', OwnN 26 W N0 tv' ((zs[K]).ns ++ [⟨pb, pc⟩]) → ∃ zs', StL B wb (k + 1) zs' (.slice (some ⟨g, 0, none⟩) mk mc) (W.setCell ⟨g, K * 8 + 7, none⟩ tv')) := Bx.mk fun W hb tv' ho => (S0.out.later HAd.out.2 (hN0 ▸ hb)).done HSr.out.1 HSr.out.2 tv' (ho.weak (hN0 ▸ HAd.out.2)) (Nat.le_trans HAd.out.2 (hN0 ▸ hb.size))
    have HAs : Bx (∀ W tv', Below N0 v0 W → (W.setCell ⟨g, K * 8 + 7, none⟩ tv').rangeAt A 7 [.int .i64 pb, .int .i64 pc]) := Bx.mk fun W tv' hb => (sub9 ((KT.by_ (kb_setCell W _ tv') (RowZ.row (OwnG.later S0.out.row (hN0 ▸ hb)))).block A _ ((hb.block A (hN0 ▸ (Array.getElem?_eq_some_iff.1 HAd.out.1).1)).trans HAd.out.1) (fun _ _ => ne_cells (by decide)))).2
    have R0 : Bx (Below N0 v0 v0) := Bx.mk (Below.refl _ _)
    have HSN : Bx (∀ W, Below N0 v0 W → N0 ≤ W.heap.size) := Bx.mk fun W hb => hN0 ▸ hb.size
    obtain ⟨ta, tc, htv, -, -⟩ := OwnN.form HZ.out.tak
    clear HZ S0 HSr HAd hN0 hcK
    generalize (zs[K]).tv = tv at *
    generalize (zs[K]).ns = ns at *
    obtain ⟨tl, htl⟩ : ∃ tl, ns.length = tl := ⟨_, rfl⟩
    rw [htl] at htv
    subst htv
    clear htl
    refine wp_region_noPanic ?_
    refine wp_region_held_drew (S := fun W => W.rangeAt A 7 [.int .i64 pb, .int .i64 pc]) (by kernel_rfl) (by rw [hv0]; exact HA7.out _ R0.out) (fun hHeld => ?_)
    rw [hv0] at hHeld ⊢
    clear hv0
    refine takeL 0 (v := ?_) rfl (by kernel_rfl) (by kernel_rfl) (by kernel_rfl) (fun _ _ _ h => h) (Or.inl ⟨by rfl, ?_⟩) hHeld ?_
    rotate_left 1
    · (intro w hSw; go_simp; try with_reducible rfl)
    try simp only [Act.put, List.setIfInBounds_toArray, List.set_cons_zero, List.set_cons_succ]
    refine takeL 1 (v := ?_) rfl (by kernel_rfl) (by kernel_rfl) (by kernel_rfl) (fun _ _ _ h => h) (Or.inl ⟨by rfl, ?_⟩) hHeld ?_
    rotate_left 1
    · (intro w hSw; go_simp; try with_reducible rfl)
    try simp only [Act.put, List.setIfInBounds_toArray, List.set_cons_zero, List.set_cons_succ]
    refine takeL 3 (v := ?_) rfl (by kernel_rfl) (by kernel_rfl) (by kernel_rfl) (fun _ _ _ h => h) (Or.inl ⟨by rfl, ?_⟩) hHeld ?_
    rotate_left 1
    · (intro w hSw; go_simp; try with_reducible rfl)
    try simp only [Act.put, List.setIfInBounds_toArray, List.set_cons_zero, List.set_cons_succ]
    refine takeL 4 (v := ?_) rfl (by kernel_rfl) (by kernel_rfl) (by kernel_rfl) (fun _ _ _ h => h) (Or.inl ⟨by rfl, ?_⟩) hHeld ?_
    rotate_left 1
    · (intro w hSw; go_simp; try with_reducible rfl)
    try simp only [Act.put, List.setIfInBounds_toArray, List.set_cons_zero, List.set_cons_succ]
    refine takeL 5 (v := ?_) rfl (by kernel_rfl) (by kernel_rfl) (by kernel_rfl) (fun _ _ _ h => h) (Or.inl ⟨by rfl, ?_⟩) hHeld ?_
    rotate_left 1
    · (intro w hSw; go_simp; try with_reducible rfl)
    try simp only [Act.put, List.setIfInBounds_toArray, List.set_cons_zero, List.set_cons_succ]
    refine takeL 6 (v := ?_) rfl (by kernel_rfl) (by kernel_rfl) (by kernel_rfl) (fun _ _ _ h => h) (Or.inl ⟨by rfl, ?_⟩) hHeld ?_
    rotate_left 1
    · (intro w hSw; go_simp; try with_reducible rfl)
    try simp only [Act.put, List.setIfInBounds_toArray, List.set_cons_zero, List.set_cons_succ]
    refine takeL 9 (v := ?_) rfl (by kernel_rfl) (by kernel_rfl) (by kernel_rfl) (fun _ _ _ h => h) (Or.inl ⟨by rfl, ?_⟩) hHeld ?_
    rotate_left 1
    · (intro w hSw; go_simp; try with_reducible rfl)
    try simp only [Act.put, List.setIfInBounds_toArray, List.set_cons_zero, List.set_cons_succ]
    refine takeL 10 rfl (by kernel_rfl) (by kernel_rfl) (by kernel_rfl) (fun _ _ _ h => h) (yieldsIf_load_mid (by rfl) _ _ rfl _ _ rfl _ _ (fun w hSw => hSw) Try.underlying26 rfl (by kernel_rfl)) hHeld ?_
    try simp only [Act.put, List.setIfInBounds_toArray, List.set_cons_zero, List.set_cons_succ]
    refine wpAnyH_ready (rs := [2, 7, 11]) (by kernel_rfl) (by simp) ?_
    refine consM 2 rfl (fun K' hK => ?_) (consM 7 rfl (fun K' hK => ?_) (consM 11 rfl (fun K' hK => ?_) AllReadyH.nil))
    · go_simp
      have hb0 := below_a (W := v0) (.cells #[] 26)
      have hb := hb0.mono (HSN.out _ R0.out)
      have HRn := OwnN.empty v0 N0 (HSN.out _ R0.out)
      have hq : ∃ q, v0.heap.size = q := ⟨_, rfl⟩
      generalize v0.alloc (.cells #[] 26) = v1 at *
      obtain ⟨q, hq⟩ := hq
      rw [hq] at HRn ⊢
      have HRw1 := Bx.mk HRn
      have R1 : Bx (Below N0 v0 v1) := Bx.mk (R0.out.trans hb)
      refine hK.out _ _ (HA7.out _ R1.out) (fun hHeld => ?_)
      clear hK K' hb hb0 HRn hq R0
      try simp only [Act.put, List.setIfInBounds_toArray, List.set_cons_zero, List.set_cons_succ]
      refine wpAnyH_ready (rs := [7, 11]) (by kernel_rfl) (by simp) ?_
      refine consM 7 rfl (fun K' hK => ?_) (consM 11 rfl (fun K' hK => ?_) AllReadyH.nil)
      · have c7 := HC.out _ R1.out
        go_simp
        refine hK.out _ _ (HA7.out _ R1.out) (fun hHeld => ?_)
        clear hK K' c7
        try simp only [Act.put, List.setIfInBounds_toArray, List.set_cons_zero, List.set_cons_succ]
        refine wpAnyH_ready (rs := [8, 11]) (by kernel_rfl) (by simp) ?_
        refine consM 8 rfl (fun K' hK => ?_) (consM 11 rfl (fun K' hK => ?_) AllReadyH.nil)
        · refine step_apNs rfl _ _ rfl N0 B _ [] (by rfl) HRw1.out _ ns (by rfl) (HTk.out _ R1.out) (by have := HNs.out; simp; omega) (HSN.out _ R1.out) (fun v' v2 hv hg => ?_)
          rw [List.nil_append] at hv
          obtain ⟨na', nc', rfl, -, -⟩ := OwnN.form hv
          have hb := ownN_below HRw1.out hg (HSN.out _ R1.out)
          have HRw2 := Bx.mk hv
          have R2 : Bx (Below N0 v0 v2) := Bx.mk (R1.out.trans hb)
          refine hK.out _ _ (HA7.out _ R2.out) (fun hHeld => ?_)
          clear hK K' hb hv hg HRw1 R1
          try simp only [Act.put, List.setIfInBounds_toArray, List.set_cons_zero, List.set_cons_succ]
          refine stepL 11 (by kernel_rfl) rfl (fun K' hK => ?_)
          go_simp
          have hb0 := below_a (W := v2) (.cells #[.int .i64 pb, .int .i64 pc] 26)
          have hb := hb0.mono (HSN.out _ R2.out)
          have HNn := hnew v2 (.cells #[.int .i64 pb, .int .i64 pc] 26) _ rfl
          have hq : ∃ q, v2.heap.size = q := ⟨_, rfl⟩
          have HRw3 := Bx.mk (HRw2.out.later hb0)
          generalize v2.alloc (.cells #[.int .i64 pb, .int .i64 pc] 26) = v3 at *
          obtain ⟨qn, hq⟩ := hq
          rw [hq] at HNn ⊢
          have HNw3 : Bx (v3.heap[qn]? = some (.cells #[.int .i64 pb, .int .i64 pc] 26 (0, 0))) := Bx.mk HNn
          have R3 : Bx (Below N0 v0 v3) := Bx.mk (R2.out.trans hb)
          refine hK.out _ _ (HA7.out _ R3.out) (fun hHeld => ?_)
          clear hK K' hb hb0 HNn hq R2 HRw2
          try simp only [Act.put, List.setIfInBounds_toArray, List.set_cons_zero, List.set_cons_succ]
          refine stepL 12 (by kernel_rfl) rfl (fun K' hK => ?_)
          refine step_apNn rfl _ _ rfl N0 _ ns (by rfl) HRw3.out qn 0 ⟨pb, pc⟩ 1 (by rfl) (row_rng15 (l := [.int .i64 pb, .int .i64 pc]) HNw3.out) (by have := HNs.out; omega) (HSN.out _ R3.out) (fun v' v4 hv hg => ?_)
          obtain ⟨na2, nc2, rfl, -, -⟩ := OwnN.form hv
          have hb := ownN_below HRw3.out hg (HSN.out _ R3.out)
          have HRw4 := Bx.mk hv
          have R4 : Bx (Below N0 v0 v4) := Bx.mk (R3.out.trans hb)
          refine hK.out _ _ (HA7.out _ R4.out) (fun hHeld => ?_)
          clear hK K' hb hv hg HRw3 R3 HNw3
          try simp only [Act.put, List.setIfInBounds_toArray, List.set_cons_zero, List.set_cons_succ]
          refine takeL 13 (v := ?_) rfl (by kernel_rfl) (by kernel_rfl) (by kernel_rfl) (fun _ _ _ h => h) (Or.inl ⟨by rfl, ?_⟩) hHeld ?_
          rotate_left 1
          · (intro w hSw; go_simp; try with_reducible rfl)
          try simp only [Act.put, List.setIfInBounds_toArray, List.set_cons_zero, List.set_cons_succ]
          refine takeL 14 (v := ?_) rfl (by kernel_rfl) (by kernel_rfl) (by kernel_rfl) (fun _ _ _ h => h) (Or.inl ⟨by rfl, ?_⟩) hHeld ?_
          rotate_left 1
          · (intro w hSw; go_simp; try with_reducible rfl)
          try simp only [Act.put, List.setIfInBounds_toArray, List.set_cons_zero, List.set_cons_succ]
          refine stepL 15 (by kernel_rfl) rfl (fun K' hK => ?_)
          have c7 := HC.out _ R4.out
          have fz := HFz.out _ R4.out (K * 8 + 7)
          go_simp
          have hfin := HDo.out _ R4.out _ HRw4.out
          have hA7 := HAs.out _ (.slice na2 (ns.length + 1) nc2) R4.out
          rw [List.length_append, List.length_singleton] at hfin
          generalize v4.setCell ⟨g, K * 8 + 7, none⟩ (.slice na2 (ns.length + 1) nc2) = v5 at *
          obtain ⟨zs', hS'⟩ := hfin
          have T5 := Bx.mk hS'
          refine hK.out _ _ hA7 (fun hHeld => ?_)
          clear hK K' c7 fz hS' hA7 R4 HRw4 HDo HAs HC HFz HTk HNs HA7
          try simp only [Act.put, List.setIfInBounds_toArray, List.set_cons_zero, List.set_cons_succ]
          refine wpAnyH_done (by kernel_rfl) ?_ _
          refine NoPanic.normal ?_
          clear hHeld
          have HBx2 := HBX.out v5 T5.out.below
          obtain ⟨b0, b1, b2, b3⟩ := cells4' HBx2.1
          obtain ⟨p0, p1⟩ := cells2' HBx2.2
          have HTl2 := Bx.mk (HTl.out _ _ _ _ T5.out (by have := HK.out; omega))
          unfold ptr clV nv at HTl2
          simp only at HTl2
          clear HBx2
          go_wp2_with fail
          refine HTl2.out.mono ?_
          rintro e wz ⟨rfl, hbz⟩
          have SZ := Bx.mk ((T5.out.later (by have := T5.out.below.size; have := HSz.out; omega) hbz).more (show k + 1 ≤ k + 1 by omega))
          clear hbz b0 b1 b2 b3 p0 p1 HTl2
          go_wp2
          exact ⟨⟨⟨rfl, rfl⟩, rfl, rfl, rfl, rfl⟩, by first | rfl | go_num, _, _, rfl, SZ.out⟩
        · go_simp
          have hb0 := below_a (W := v1) (.cells #[.int .i64 pb, .int .i64 pc] 26)
          have hb := hb0.mono (HSN.out _ R1.out)
          have HNn := hnew v1 (.cells #[.int .i64 pb, .int .i64 pc] 26) _ rfl
          have hq : ∃ q, v1.heap.size = q := ⟨_, rfl⟩
          have HRw2 := Bx.mk (HRw1.out.later hb0)
          generalize v1.alloc (.cells #[.int .i64 pb, .int .i64 pc] 26) = v2 at *
          obtain ⟨qn, hq⟩ := hq
          rw [hq] at HNn ⊢
          have HNw2 : Bx (v2.heap[qn]? = some (.cells #[.int .i64 pb, .int .i64 pc] 26 (0, 0))) := Bx.mk HNn
          have R2 : Bx (Below N0 v0 v2) := Bx.mk (R1.out.trans hb)
          have HNe : Bx (q ≠ qn) := Bx.mk (by have := (HRw1.out.lt q rfl).1; omega)
          refine hK.out _ _ (HA7.out _ R2.out) (fun hHeld => ?_)
          clear hK K' hb hb0 HNn hq R1 HRw1
          try simp only [Act.put, List.setIfInBounds_toArray, List.set_cons_zero, List.set_cons_succ]
          refine stepL 8 (by kernel_rfl) rfl (fun K' hK => ?_)
          refine step_apNs rfl _ _ rfl N0 B _ [] (by rfl) HRw2.out _ ns (by rfl) (HTk.out _ R2.out) (by have := HNs.out; simp; omega) (HSN.out _ R2.out) (fun v' v3 hv hg => ?_)
          rw [List.nil_append] at hv
          obtain ⟨na', nc', rfl, -, -⟩ := OwnN.form hv
          have hb := ownN_below HRw2.out hg (HSN.out _ R2.out)
          have HRw3 := Bx.mk hv
          have R3 : Bx (Below N0 v0 v3) := Bx.mk (R2.out.trans hb)
          have HNw3 : Bx (v3.heap[qn]? = some (.cells #[.int .i64 pb, .int .i64 pc] 26 (0, 0))) := Bx.mk ((hg.block qn (Array.getElem?_eq_some_iff.1 HNw2.out).1 (fun e => HNe.out (by injection e with e; exact e.symm))).trans HNw2.out)
          refine hK.out _ _ (HA7.out _ R3.out) (fun hHeld => ?_)
          clear hK K' hb hv hg HRw2 R2 HNw2
          try simp only [Act.put, List.setIfInBounds_toArray, List.set_cons_zero, List.set_cons_succ]
          refine stepL 12 (by kernel_rfl) rfl (fun K' hK => ?_)
          refine step_apNn rfl _ _ rfl N0 _ ns (by rfl) HRw3.out qn 0 ⟨pb, pc⟩ 1 (by rfl) (row_rng15 (l := [.int .i64 pb, .int .i64 pc]) HNw3.out) (by have := HNs.out; omega) (HSN.out _ R3.out) (fun v' v4 hv hg => ?_)
          obtain ⟨na2, nc2, rfl, -, -⟩ := OwnN.form hv
          have hb := ownN_below HRw3.out hg (HSN.out _ R3.out)
          have HRw4 := Bx.mk hv
          have R4 : Bx (Below N0 v0 v4) := Bx.mk (R3.out.trans hb)
          refine hK.out _ _ (HA7.out _ R4.out) (fun hHeld => ?_)
          clear hK K' hb hv hg HRw3 R3 HNw3
          try simp only [Act.put, List.setIfInBounds_toArray, List.set_cons_zero, List.set_cons_succ]
          refine takeL 13 (v := ?_) rfl (by kernel_rfl) (by kernel_rfl) (by kernel_rfl) (fun _ _ _ h => h) (Or.inl ⟨by rfl, ?_⟩) hHeld ?_
          rotate_left 1
          · (intro w hSw; go_simp; try with_reducible rfl)
          try simp only [Act.put, List.setIfInBounds_toArray, List.set_cons_zero, List.set_cons_succ]
          refine takeL 14 (v := ?_) rfl (by kernel_rfl) (by kernel_rfl) (by kernel_rfl) (fun _ _ _ h => h) (Or.inl ⟨by rfl, ?_⟩) hHeld ?_
          rotate_left 1
          · (intro w hSw; go_simp; try with_reducible rfl)
          try simp only [Act.put, List.setIfInBounds_toArray, List.set_cons_zero, List.set_cons_succ]
          refine stepL 15 (by kernel_rfl) rfl (fun K' hK => ?_)
          have c7 := HC.out _ R4.out
          have fz := HFz.out _ R4.out (K * 8 + 7)
          go_simp
          have hfin := HDo.out _ R4.out _ HRw4.out
          have hA7 := HAs.out _ (.slice na2 (ns.length + 1) nc2) R4.out
          rw [List.length_append, List.length_singleton] at hfin
          generalize v4.setCell ⟨g, K * 8 + 7, none⟩ (.slice na2 (ns.length + 1) nc2) = v5 at *
          obtain ⟨zs', hS'⟩ := hfin
          have T5 := Bx.mk hS'
          refine hK.out _ _ hA7 (fun hHeld => ?_)
          clear hK K' c7 fz hS' hA7 R4 HRw4 HDo HAs HC HFz HTk HNs HA7
          try simp only [Act.put, List.setIfInBounds_toArray, List.set_cons_zero, List.set_cons_succ]
          refine wpAnyH_done (by kernel_rfl) ?_ _
          refine NoPanic.normal ?_
          clear hHeld
          have HBx2 := HBX.out v5 T5.out.below
          obtain ⟨b0, b1, b2, b3⟩ := cells4' HBx2.1
          obtain ⟨p0, p1⟩ := cells2' HBx2.2
          have HTl2 := Bx.mk (HTl.out _ _ _ _ T5.out (by have := HK.out; omega))
          unfold ptr clV nv at HTl2
          simp only at HTl2
          clear HBx2
          go_wp2_with fail
          refine HTl2.out.mono ?_
          rintro e wz ⟨rfl, hbz⟩
          have SZ := Bx.mk ((T5.out.later (by have := T5.out.below.size; have := HSz.out; omega) hbz).more (show k + 1 ≤ k + 1 by omega))
          clear hbz b0 b1 b2 b3 p0 p1 HTl2
          go_wp2
          exact ⟨⟨⟨rfl, rfl⟩, rfl, rfl, rfl, rfl⟩, by first | rfl | go_num, _, _, rfl, SZ.out⟩
      · go_simp
        have hb0 := below_a (W := v1) (.cells #[.int .i64 pb, .int .i64 pc] 26)
        have hb := hb0.mono (HSN.out _ R1.out)
        have HNn := hnew v1 (.cells #[.int .i64 pb, .int .i64 pc] 26) _ rfl
        have hq : ∃ q, v1.heap.size = q := ⟨_, rfl⟩
        have HRw2 := Bx.mk (HRw1.out.later hb0)
        generalize v1.alloc (.cells #[.int .i64 pb, .int .i64 pc] 26) = v2 at *
        obtain ⟨qn, hq⟩ := hq
        rw [hq] at HNn ⊢
        have HNw2 : Bx (v2.heap[qn]? = some (.cells #[.int .i64 pb, .int .i64 pc] 26 (0, 0))) := Bx.mk HNn
        have R2 : Bx (Below N0 v0 v2) := Bx.mk (R1.out.trans hb)
        have HNe : Bx (q ≠ qn) := Bx.mk (by have := (HRw1.out.lt q rfl).1; omega)
        refine hK.out _ _ (HA7.out _ R2.out) (fun hHeld => ?_)
        clear hK K' hb hb0 HNn hq R1 HRw1
        try simp only [Act.put, List.setIfInBounds_toArray, List.set_cons_zero, List.set_cons_succ]
        refine stepL 7 (by kernel_rfl) rfl (fun K' hK => ?_)
        have c7 := HC.out _ R2.out
        go_simp
        refine hK.out _ _ (HA7.out _ R2.out) (fun hHeld => ?_)
        clear hK K' c7
        try simp only [Act.put, List.setIfInBounds_toArray, List.set_cons_zero, List.set_cons_succ]
        refine stepL 8 (by kernel_rfl) rfl (fun K' hK => ?_)
        refine step_apNs rfl _ _ rfl N0 B _ [] (by rfl) HRw2.out _ ns (by rfl) (HTk.out _ R2.out) (by have := HNs.out; simp; omega) (HSN.out _ R2.out) (fun v' v3 hv hg => ?_)
        rw [List.nil_append] at hv
        obtain ⟨na', nc', rfl, -, -⟩ := OwnN.form hv
        have hb := ownN_below HRw2.out hg (HSN.out _ R2.out)
        have HRw3 := Bx.mk hv
        have R3 : Bx (Below N0 v0 v3) := Bx.mk (R2.out.trans hb)
        have HNw3 : Bx (v3.heap[qn]? = some (.cells #[.int .i64 pb, .int .i64 pc] 26 (0, 0))) := Bx.mk ((hg.block qn (Array.getElem?_eq_some_iff.1 HNw2.out).1 (fun e => HNe.out (by injection e with e; exact e.symm))).trans HNw2.out)
        refine hK.out _ _ (HA7.out _ R3.out) (fun hHeld => ?_)
        clear hK K' hb hv hg HRw2 R2 HNw2
        try simp only [Act.put, List.setIfInBounds_toArray, List.set_cons_zero, List.set_cons_succ]
        refine stepL 12 (by kernel_rfl) rfl (fun K' hK => ?_)
        refine step_apNn rfl _ _ rfl N0 _ ns (by rfl) HRw3.out qn 0 ⟨pb, pc⟩ 1 (by rfl) (row_rng15 (l := [.int .i64 pb, .int .i64 pc]) HNw3.out) (by have := HNs.out; omega) (HSN.out _ R3.out) (fun v' v4 hv hg => ?_)
        obtain ⟨na2, nc2, rfl, -, -⟩ := OwnN.form hv
        have hb := ownN_below HRw3.out hg (HSN.out _ R3.out)
        have HRw4 := Bx.mk hv
        have R4 : Bx (Below N0 v0 v4) := Bx.mk (R3.out.trans hb)
        refine hK.out _ _ (HA7.out _ R4.out) (fun hHeld => ?_)
        clear hK K' hb hv hg HRw3 R3 HNw3
        try simp only [Act.put, List.setIfInBounds_toArray, List.set_cons_zero, List.set_cons_succ]
        refine takeL 13 (v := ?_) rfl (by kernel_rfl) (by kernel_rfl) (by kernel_rfl) (fun _ _ _ h => h) (Or.inl ⟨by rfl, ?_⟩) hHeld ?_
        rotate_left 1
        · (intro w hSw; go_simp; try with_reducible rfl)
        try simp only [Act.put, List.setIfInBounds_toArray, List.set_cons_zero, List.set_cons_succ]
        refine takeL 14 (v := ?_) rfl (by kernel_rfl) (by kernel_rfl) (by kernel_rfl) (fun _ _ _ h => h) (Or.inl ⟨by rfl, ?_⟩) hHeld ?_
        rotate_left 1
        · (intro w hSw; go_simp; try with_reducible rfl)
        try simp only [Act.put, List.setIfInBounds_toArray, List.set_cons_zero, List.set_cons_succ]
        refine stepL 15 (by kernel_rfl) rfl (fun K' hK => ?_)
        have c7 := HC.out _ R4.out
        have fz := HFz.out _ R4.out (K * 8 + 7)
        go_simp
        have hfin := HDo.out _ R4.out _ HRw4.out
        have hA7 := HAs.out _ (.slice na2 (ns.length + 1) nc2) R4.out
        rw [List.length_append, List.length_singleton] at hfin
        generalize v4.setCell ⟨g, K * 8 + 7, none⟩ (.slice na2 (ns.length + 1) nc2) = v5 at *
        obtain ⟨zs', hS'⟩ := hfin
        have T5 := Bx.mk hS'
        refine hK.out _ _ hA7 (fun hHeld => ?_)
        clear hK K' c7 fz hS' hA7 R4 HRw4 HDo HAs HC HFz HTk HNs HA7
        try simp only [Act.put, List.setIfInBounds_toArray, List.set_cons_zero, List.set_cons_succ]
        refine wpAnyH_done (by kernel_rfl) ?_ _
        refine NoPanic.normal ?_
        clear hHeld
        have HBx2 := HBX.out v5 T5.out.below
        obtain ⟨b0, b1, b2, b3⟩ := cells4' HBx2.1
        obtain ⟨p0, p1⟩ := cells2' HBx2.2
        have HTl2 := Bx.mk (HTl.out _ _ _ _ T5.out (by have := HK.out; omega))
        unfold ptr clV nv at HTl2
        simp only at HTl2
        clear HBx2
        go_wp2_with fail
        refine HTl2.out.mono ?_
        rintro e wz ⟨rfl, hbz⟩
        have SZ := Bx.mk ((T5.out.later (by have := T5.out.below.size; have := HSz.out; omega) hbz).more (show k + 1 ≤ k + 1 by omega))
        clear hbz b0 b1 b2 b3 p0 p1 HTl2
        go_wp2
        exact ⟨⟨⟨rfl, rfl⟩, rfl, rfl, rfl, rfl⟩, by first | rfl | go_num, _, _, rfl, SZ.out⟩
    · have c7 := HC.out _ R0.out
      go_simp
      refine hK.out _ _ (HA7.out _ R0.out) (fun hHeld => ?_)
      clear hK K' c7
      try simp only [Act.put, List.setIfInBounds_toArray, List.set_cons_zero, List.set_cons_succ]
      refine wpAnyH_ready (rs := [2, 11]) (by kernel_rfl) (by simp) ?_
      refine consM 2 rfl (fun K' hK => ?_) (consM 11 rfl (fun K' hK => ?_) AllReadyH.nil)
      · go_simp
        have hb0 := below_a (W := v0) (.cells #[] 26)
        have hb := hb0.mono (HSN.out _ R0.out)
        have HRn := OwnN.empty v0 N0 (HSN.out _ R0.out)
        have hq : ∃ q, v0.heap.size = q := ⟨_, rfl⟩
        generalize v0.alloc (.cells #[] 26) = v1 at *
        obtain ⟨q, hq⟩ := hq
        rw [hq] at HRn ⊢
        have HRw1 := Bx.mk HRn
        have R1 : Bx (Below N0 v0 v1) := Bx.mk (R0.out.trans hb)
        refine hK.out _ _ (HA7.out _ R1.out) (fun hHeld => ?_)
        clear hK K' hb hb0 HRn hq R0
        try simp only [Act.put, List.setIfInBounds_toArray, List.set_cons_zero, List.set_cons_succ]
        refine wpAnyH_ready (rs := [8, 11]) (by kernel_rfl) (by simp) ?_
        refine consM 8 rfl (fun K' hK => ?_) (consM 11 rfl (fun K' hK => ?_) AllReadyH.nil)
        · refine step_apNs rfl _ _ rfl N0 B _ [] (by rfl) HRw1.out _ ns (by rfl) (HTk.out _ R1.out) (by have := HNs.out; simp; omega) (HSN.out _ R1.out) (fun v' v2 hv hg => ?_)
          rw [List.nil_append] at hv
          obtain ⟨na', nc', rfl, -, -⟩ := OwnN.form hv
          have hb := ownN_below HRw1.out hg (HSN.out _ R1.out)
          have HRw2 := Bx.mk hv
          have R2 : Bx (Below N0 v0 v2) := Bx.mk (R1.out.trans hb)
          refine hK.out _ _ (HA7.out _ R2.out) (fun hHeld => ?_)
          clear hK K' hb hv hg HRw1 R1
          try simp only [Act.put, List.setIfInBounds_toArray, List.set_cons_zero, List.set_cons_succ]
          refine stepL 11 (by kernel_rfl) rfl (fun K' hK => ?_)
          go_simp
          have hb0 := below_a (W := v2) (.cells #[.int .i64 pb, .int .i64 pc] 26)
          have hb := hb0.mono (HSN.out _ R2.out)
          have HNn := hnew v2 (.cells #[.int .i64 pb, .int .i64 pc] 26) _ rfl
          have hq : ∃ q, v2.heap.size = q := ⟨_, rfl⟩
          have HRw3 := Bx.mk (HRw2.out.later hb0)
          generalize v2.alloc (.cells #[.int .i64 pb, .int .i64 pc] 26) = v3 at *
          obtain ⟨qn, hq⟩ := hq
          rw [hq] at HNn ⊢
          have HNw3 : Bx (v3.heap[qn]? = some (.cells #[.int .i64 pb, .int .i64 pc] 26 (0, 0))) := Bx.mk HNn
          have R3 : Bx (Below N0 v0 v3) := Bx.mk (R2.out.trans hb)
          refine hK.out _ _ (HA7.out _ R3.out) (fun hHeld => ?_)
          clear hK K' hb hb0 HNn hq R2 HRw2
          try simp only [Act.put, List.setIfInBounds_toArray, List.set_cons_zero, List.set_cons_succ]
          refine stepL 12 (by kernel_rfl) rfl (fun K' hK => ?_)
          refine step_apNn rfl _ _ rfl N0 _ ns (by rfl) HRw3.out qn 0 ⟨pb, pc⟩ 1 (by rfl) (row_rng15 (l := [.int .i64 pb, .int .i64 pc]) HNw3.out) (by have := HNs.out; omega) (HSN.out _ R3.out) (fun v' v4 hv hg => ?_)
          obtain ⟨na2, nc2, rfl, -, -⟩ := OwnN.form hv
          have hb := ownN_below HRw3.out hg (HSN.out _ R3.out)
          have HRw4 := Bx.mk hv
          have R4 : Bx (Below N0 v0 v4) := Bx.mk (R3.out.trans hb)
          refine hK.out _ _ (HA7.out _ R4.out) (fun hHeld => ?_)
          clear hK K' hb hv hg HRw3 R3 HNw3
          try simp only [Act.put, List.setIfInBounds_toArray, List.set_cons_zero, List.set_cons_succ]
          refine takeL 13 (v := ?_) rfl (by kernel_rfl) (by kernel_rfl) (by kernel_rfl) (fun _ _ _ h => h) (Or.inl ⟨by rfl, ?_⟩) hHeld ?_
          rotate_left 1
          · (intro w hSw; go_simp; try with_reducible rfl)
          try simp only [Act.put, List.setIfInBounds_toArray, List.set_cons_zero, List.set_cons_succ]
          refine takeL 14 (v := ?_) rfl (by kernel_rfl) (by kernel_rfl) (by kernel_rfl) (fun _ _ _ h => h) (Or.inl ⟨by rfl, ?_⟩) hHeld ?_
          rotate_left 1
          · (intro w hSw; go_simp; try with_reducible rfl)
          try simp only [Act.put, List.setIfInBounds_toArray, List.set_cons_zero, List.set_cons_succ]
          refine stepL 15 (by kernel_rfl) rfl (fun K' hK => ?_)
          have c7 := HC.out _ R4.out
          have fz := HFz.out _ R4.out (K * 8 + 7)
          go_simp
          have hfin := HDo.out _ R4.out _ HRw4.out
          have hA7 := HAs.out _ (.slice na2 (ns.length + 1) nc2) R4.out
          rw [List.length_append, List.length_singleton] at hfin
          generalize v4.setCell ⟨g, K * 8 + 7, none⟩ (.slice na2 (ns.length + 1) nc2) = v5 at *
          obtain ⟨zs', hS'⟩ := hfin
          have T5 := Bx.mk hS'
          refine hK.out _ _ hA7 (fun hHeld => ?_)
          clear hK K' c7 fz hS' hA7 R4 HRw4 HDo HAs HC HFz HTk HNs HA7
          try simp only [Act.put, List.setIfInBounds_toArray, List.set_cons_zero, List.set_cons_succ]
          refine wpAnyH_done (by kernel_rfl) ?_ _
          refine NoPanic.normal ?_
          clear hHeld
          have HBx2 := HBX.out v5 T5.out.below
          obtain ⟨b0, b1, b2, b3⟩ := cells4' HBx2.1
          obtain ⟨p0, p1⟩ := cells2' HBx2.2
          have HTl2 := Bx.mk (HTl.out _ _ _ _ T5.out (by have := HK.out; omega))
          unfold ptr clV nv at HTl2
          simp only at HTl2
          clear HBx2
          go_wp2_with fail
          refine HTl2.out.mono ?_
          rintro e wz ⟨rfl, hbz⟩
          have SZ := Bx.mk ((T5.out.later (by have := T5.out.below.size; have := HSz.out; omega) hbz).more (show k + 1 ≤ k + 1 by omega))
          clear hbz b0 b1 b2 b3 p0 p1 HTl2
          go_wp2
          exact ⟨⟨⟨rfl, rfl⟩, rfl, rfl, rfl, rfl⟩, by first | rfl | go_num, _, _, rfl, SZ.out⟩
        · go_simp
          have hb0 := below_a (W := v1) (.cells #[.int .i64 pb, .int .i64 pc] 26)
          have hb := hb0.mono (HSN.out _ R1.out)
          have HNn := hnew v1 (.cells #[.int .i64 pb, .int .i64 pc] 26) _ rfl
          have hq : ∃ q, v1.heap.size = q := ⟨_, rfl⟩
          have HRw2 := Bx.mk (HRw1.out.later hb0)
          generalize v1.alloc (.cells #[.int .i64 pb, .int .i64 pc] 26) = v2 at *
          obtain ⟨qn, hq⟩ := hq
          rw [hq] at HNn ⊢
          have HNw2 : Bx (v2.heap[qn]? = some (.cells #[.int .i64 pb, .int .i64 pc] 26 (0, 0))) := Bx.mk HNn
          have R2 : Bx (Below N0 v0 v2) := Bx.mk (R1.out.trans hb)
          have HNe : Bx (q ≠ qn) := Bx.mk (by have := (HRw1.out.lt q rfl).1; omega)
          refine hK.out _ _ (HA7.out _ R2.out) (fun hHeld => ?_)
          clear hK K' hb hb0 HNn hq R1 HRw1
          try simp only [Act.put, List.setIfInBounds_toArray, List.set_cons_zero, List.set_cons_succ]
          refine stepL 8 (by kernel_rfl) rfl (fun K' hK => ?_)
          refine step_apNs rfl _ _ rfl N0 B _ [] (by rfl) HRw2.out _ ns (by rfl) (HTk.out _ R2.out) (by have := HNs.out; simp; omega) (HSN.out _ R2.out) (fun v' v3 hv hg => ?_)
          rw [List.nil_append] at hv
          obtain ⟨na', nc', rfl, -, -⟩ := OwnN.form hv
          have hb := ownN_below HRw2.out hg (HSN.out _ R2.out)
          have HRw3 := Bx.mk hv
          have R3 : Bx (Below N0 v0 v3) := Bx.mk (R2.out.trans hb)
          have HNw3 : Bx (v3.heap[qn]? = some (.cells #[.int .i64 pb, .int .i64 pc] 26 (0, 0))) := Bx.mk ((hg.block qn (Array.getElem?_eq_some_iff.1 HNw2.out).1 (fun e => HNe.out (by injection e with e; exact e.symm))).trans HNw2.out)
          refine hK.out _ _ (HA7.out _ R3.out) (fun hHeld => ?_)
          clear hK K' hb hv hg HRw2 R2 HNw2
          try simp only [Act.put, List.setIfInBounds_toArray, List.set_cons_zero, List.set_cons_succ]
          refine stepL 12 (by kernel_rfl) rfl (fun K' hK => ?_)
          refine step_apNn rfl _ _ rfl N0 _ ns (by rfl) HRw3.out qn 0 ⟨pb, pc⟩ 1 (by rfl) (row_rng15 (l := [.int .i64 pb, .int .i64 pc]) HNw3.out) (by have := HNs.out; omega) (HSN.out _ R3.out) (fun v' v4 hv hg => ?_)
          obtain ⟨na2, nc2, rfl, -, -⟩ := OwnN.form hv
          have hb := ownN_below HRw3.out hg (HSN.out _ R3.out)
          have HRw4 := Bx.mk hv
          have R4 : Bx (Below N0 v0 v4) := Bx.mk (R3.out.trans hb)
          refine hK.out _ _ (HA7.out _ R4.out) (fun hHeld => ?_)
          clear hK K' hb hv hg HRw3 R3 HNw3
          try simp only [Act.put, List.setIfInBounds_toArray, List.set_cons_zero, List.set_cons_succ]
          refine takeL 13 (v := ?_) rfl (by kernel_rfl) (by kernel_rfl) (by kernel_rfl) (fun _ _ _ h => h) (Or.inl ⟨by rfl, ?_⟩) hHeld ?_
          rotate_left 1
          · (intro w hSw; go_simp; try with_reducible rfl)
          try simp only [Act.put, List.setIfInBounds_toArray, List.set_cons_zero, List.set_cons_succ]
          refine takeL 14 (v := ?_) rfl (by kernel_rfl) (by kernel_rfl) (by kernel_rfl) (fun _ _ _ h => h) (Or.inl ⟨by rfl, ?_⟩) hHeld ?_
          rotate_left 1
          · (intro w hSw; go_simp; try with_reducible rfl)
          try simp only [Act.put, List.setIfInBounds_toArray, List.set_cons_zero, List.set_cons_succ]
          refine stepL 15 (by kernel_rfl) rfl (fun K' hK => ?_)
          have c7 := HC.out _ R4.out
          have fz := HFz.out _ R4.out (K * 8 + 7)
          go_simp
          have hfin := HDo.out _ R4.out _ HRw4.out
          have hA7 := HAs.out _ (.slice na2 (ns.length + 1) nc2) R4.out
          rw [List.length_append, List.length_singleton] at hfin
          generalize v4.setCell ⟨g, K * 8 + 7, none⟩ (.slice na2 (ns.length + 1) nc2) = v5 at *
          obtain ⟨zs', hS'⟩ := hfin
          have T5 := Bx.mk hS'
          refine hK.out _ _ hA7 (fun hHeld => ?_)
          clear hK K' c7 fz hS' hA7 R4 HRw4 HDo HAs HC HFz HTk HNs HA7
          try simp only [Act.put, List.setIfInBounds_toArray, List.set_cons_zero, List.set_cons_succ]
          refine wpAnyH_done (by kernel_rfl) ?_ _
          refine NoPanic.normal ?_
          clear hHeld
          have HBx2 := HBX.out v5 T5.out.below
          obtain ⟨b0, b1, b2, b3⟩ := cells4' HBx2.1
          obtain ⟨p0, p1⟩ := cells2' HBx2.2
          have HTl2 := Bx.mk (HTl.out _ _ _ _ T5.out (by have := HK.out; omega))
          unfold ptr clV nv at HTl2
          simp only at HTl2
          clear HBx2
          go_wp2_with fail
          refine HTl2.out.mono ?_
          rintro e wz ⟨rfl, hbz⟩
          have SZ := Bx.mk ((T5.out.later (by have := T5.out.below.size; have := HSz.out; omega) hbz).more (show k + 1 ≤ k + 1 by omega))
          clear hbz b0 b1 b2 b3 p0 p1 HTl2
          go_wp2
          exact ⟨⟨⟨rfl, rfl⟩, rfl, rfl, rfl, rfl⟩, by first | rfl | go_num, _, _, rfl, SZ.out⟩
      · go_simp
        have hb0 := below_a (W := v0) (.cells #[.int .i64 pb, .int .i64 pc] 26)
        have hb := hb0.mono (HSN.out _ R0.out)
        have HNn := hnew v0 (.cells #[.int .i64 pb, .int .i64 pc] 26) _ rfl
        have hq : ∃ q, v0.heap.size = q := ⟨_, rfl⟩
        generalize v0.alloc (.cells #[.int .i64 pb, .int .i64 pc] 26) = v1 at *
        obtain ⟨qn, hq⟩ := hq
        rw [hq] at HNn ⊢
        have HNw1 : Bx (v1.heap[qn]? = some (.cells #[.int .i64 pb, .int .i64 pc] 26 (0, 0))) := Bx.mk HNn
        have R1 : Bx (Below N0 v0 v1) := Bx.mk (R0.out.trans hb)
        refine hK.out _ _ (HA7.out _ R1.out) (fun hHeld => ?_)
        clear hK K' hb hb0 HNn hq R0
        try simp only [Act.put, List.setIfInBounds_toArray, List.set_cons_zero, List.set_cons_succ]
        refine stepL 2 (by kernel_rfl) rfl (fun K' hK => ?_)
        go_simp
        have hb0 := below_a (W := v1) (.cells #[] 26)
        have hb := hb0.mono (HSN.out _ R1.out)
        have HRn := OwnN.empty v1 N0 (HSN.out _ R1.out)
        have hq : ∃ q, v1.heap.size = q := ⟨_, rfl⟩
        have HNw2 := Bx.mk ((hb0.block qn (Array.getElem?_eq_some_iff.1 HNw1.out).1).trans HNw1.out)
        generalize v1.alloc (.cells #[] 26) = v2 at *
        obtain ⟨q, hq⟩ := hq
        rw [hq] at HRn ⊢
        have HNe : Bx (q ≠ qn) := Bx.mk (by have := (Array.getElem?_eq_some_iff.1 HNw1.out).1; omega)
        have HRw2 := Bx.mk HRn
        have R2 : Bx (Below N0 v0 v2) := Bx.mk (R1.out.trans hb)
        refine hK.out _ _ (HA7.out _ R2.out) (fun hHeld => ?_)
        clear hK K' hb hb0 HRn hq R1 HNw1
        try simp only [Act.put, List.setIfInBounds_toArray, List.set_cons_zero, List.set_cons_succ]
        refine stepL 8 (by kernel_rfl) rfl (fun K' hK => ?_)
        refine step_apNs rfl _ _ rfl N0 B _ [] (by rfl) HRw2.out _ ns (by rfl) (HTk.out _ R2.out) (by have := HNs.out; simp; omega) (HSN.out _ R2.out) (fun v' v3 hv hg => ?_)
        rw [List.nil_append] at hv
        obtain ⟨na', nc', rfl, -, -⟩ := OwnN.form hv
        have hb := ownN_below HRw2.out hg (HSN.out _ R2.out)
        have HRw3 := Bx.mk hv
        have R3 : Bx (Below N0 v0 v3) := Bx.mk (R2.out.trans hb)
        have HNw3 : Bx (v3.heap[qn]? = some (.cells #[.int .i64 pb, .int .i64 pc] 26 (0, 0))) := Bx.mk ((hg.block qn (Array.getElem?_eq_some_iff.1 HNw2.out).1 (fun e => HNe.out (by injection e with e; exact e.symm))).trans HNw2.out)
        refine hK.out _ _ (HA7.out _ R3.out) (fun hHeld => ?_)
        clear hK K' hb hv hg HRw2 R2 HNw2
        try simp only [Act.put, List.setIfInBounds_toArray, List.set_cons_zero, List.set_cons_succ]
        refine stepL 12 (by kernel_rfl) rfl (fun K' hK => ?_)
        refine step_apNn rfl _ _ rfl N0 _ ns (by rfl) HRw3.out qn 0 ⟨pb, pc⟩ 1 (by rfl) (row_rng15 (l := [.int .i64 pb, .int .i64 pc]) HNw3.out) (by have := HNs.out; omega) (HSN.out _ R3.out) (fun v' v4 hv hg => ?_)
        obtain ⟨na2, nc2, rfl, -, -⟩ := OwnN.form hv
        have hb := ownN_below HRw3.out hg (HSN.out _ R3.out)
        have HRw4 := Bx.mk hv
        have R4 : Bx (Below N0 v0 v4) := Bx.mk (R3.out.trans hb)
        refine hK.out _ _ (HA7.out _ R4.out) (fun hHeld => ?_)
        clear hK K' hb hv hg HRw3 R3 HNw3
        try simp only [Act.put, List.setIfInBounds_toArray, List.set_cons_zero, List.set_cons_succ]
        refine takeL 13 (v := ?_) rfl (by kernel_rfl) (by kernel_rfl) (by kernel_rfl) (fun _ _ _ h => h) (Or.inl ⟨by rfl, ?_⟩) hHeld ?_
        rotate_left 1
        · (intro w hSw; go_simp; try with_reducible rfl)
        try simp only [Act.put, List.setIfInBounds_toArray, List.set_cons_zero, List.set_cons_succ]
        refine takeL 14 (v := ?_) rfl (by kernel_rfl) (by kernel_rfl) (by kernel_rfl) (fun _ _ _ h => h) (Or.inl ⟨by rfl, ?_⟩) hHeld ?_
        rotate_left 1
        · (intro w hSw; go_simp; try with_reducible rfl)
        try simp only [Act.put, List.setIfInBounds_toArray, List.set_cons_zero, List.set_cons_succ]
        refine stepL 15 (by kernel_rfl) rfl (fun K' hK => ?_)
        have c7 := HC.out _ R4.out
        have fz := HFz.out _ R4.out (K * 8 + 7)
        go_simp
        have hfin := HDo.out _ R4.out _ HRw4.out
        have hA7 := HAs.out _ (.slice na2 (ns.length + 1) nc2) R4.out
        rw [List.length_append, List.length_singleton] at hfin
        generalize v4.setCell ⟨g, K * 8 + 7, none⟩ (.slice na2 (ns.length + 1) nc2) = v5 at *
        obtain ⟨zs', hS'⟩ := hfin
        have T5 := Bx.mk hS'
        refine hK.out _ _ hA7 (fun hHeld => ?_)
        clear hK K' c7 fz hS' hA7 R4 HRw4 HDo HAs HC HFz HTk HNs HA7
        try simp only [Act.put, List.setIfInBounds_toArray, List.set_cons_zero, List.set_cons_succ]
        refine wpAnyH_done (by kernel_rfl) ?_ _
        refine NoPanic.normal ?_
        clear hHeld
        have HBx2 := HBX.out v5 T5.out.below
        obtain ⟨b0, b1, b2, b3⟩ := cells4' HBx2.1
        obtain ⟨p0, p1⟩ := cells2' HBx2.2
        have HTl2 := Bx.mk (HTl.out _ _ _ _ T5.out (by have := HK.out; omega))
        unfold ptr clV nv at HTl2
        simp only at HTl2
        clear HBx2
        go_wp2_with fail
        refine HTl2.out.mono ?_
        rintro e wz ⟨rfl, hbz⟩
        have SZ := Bx.mk ((T5.out.later (by have := T5.out.below.size; have := HSz.out; omega) hbz).more (show k + 1 ≤ k + 1 by omega))
        clear hbz b0 b1 b2 b3 p0 p1 HTl2
        go_wp2
        exact ⟨⟨⟨rfl, rfl⟩, rfl, rfl, rfl, rfl⟩, by first | rfl | go_num, _, _, rfl, SZ.out⟩
    · go_simp
      have hb0 := below_a (W := v0) (.cells #[.int .i64 pb, .int .i64 pc] 26)
      have hb := hb0.mono (HSN.out _ R0.out)
      have HNn := hnew v0 (.cells #[.int .i64 pb, .int .i64 pc] 26) _ rfl
      have hq : ∃ q, v0.heap.size = q := ⟨_, rfl⟩
      generalize v0.alloc (.cells #[.int .i64 pb, .int .i64 pc] 26) = v1 at *
      obtain ⟨qn, hq⟩ := hq
      rw [hq] at HNn ⊢
      have HNw1 : Bx (v1.heap[qn]? = some (.cells #[.int .i64 pb, .int .i64 pc] 26 (0, 0))) := Bx.mk HNn
      have R1 : Bx (Below N0 v0 v1) := Bx.mk (R0.out.trans hb)
      refine hK.out _ _ (HA7.out _ R1.out) (fun hHeld => ?_)
      clear hK K' hb hb0 HNn hq R0
      try simp only [Act.put, List.setIfInBounds_toArray, List.set_cons_zero, List.set_cons_succ]
      refine wpAnyH_ready (rs := [2, 7]) (by kernel_rfl) (by simp) ?_
      refine consM 2 rfl (fun K' hK => ?_) (consM 7 rfl (fun K' hK => ?_) AllReadyH.nil)
      · go_simp
        have hb0 := below_a (W := v1) (.cells #[] 26)
        have hb := hb0.mono (HSN.out _ R1.out)
        have HRn := OwnN.empty v1 N0 (HSN.out _ R1.out)
        have hq : ∃ q, v1.heap.size = q := ⟨_, rfl⟩
        have HNw2 := Bx.mk ((hb0.block qn (Array.getElem?_eq_some_iff.1 HNw1.out).1).trans HNw1.out)
        generalize v1.alloc (.cells #[] 26) = v2 at *
        obtain ⟨q, hq⟩ := hq
        rw [hq] at HRn ⊢
        have HNe : Bx (q ≠ qn) := Bx.mk (by have := (Array.getElem?_eq_some_iff.1 HNw1.out).1; omega)
        have HRw2 := Bx.mk HRn
        have R2 : Bx (Below N0 v0 v2) := Bx.mk (R1.out.trans hb)
        refine hK.out _ _ (HA7.out _ R2.out) (fun hHeld => ?_)
        clear hK K' hb hb0 HRn hq R1 HNw1
        try simp only [Act.put, List.setIfInBounds_toArray, List.set_cons_zero, List.set_cons_succ]
        refine stepL 7 (by kernel_rfl) rfl (fun K' hK => ?_)
        have c7 := HC.out _ R2.out
        go_simp
        refine hK.out _ _ (HA7.out _ R2.out) (fun hHeld => ?_)
        clear hK K' c7
        try simp only [Act.put, List.setIfInBounds_toArray, List.set_cons_zero, List.set_cons_succ]
        refine stepL 8 (by kernel_rfl) rfl (fun K' hK => ?_)
        refine step_apNs rfl _ _ rfl N0 B _ [] (by rfl) HRw2.out _ ns (by rfl) (HTk.out _ R2.out) (by have := HNs.out; simp; omega) (HSN.out _ R2.out) (fun v' v3 hv hg => ?_)
        rw [List.nil_append] at hv
        obtain ⟨na', nc', rfl, -, -⟩ := OwnN.form hv
        have hb := ownN_below HRw2.out hg (HSN.out _ R2.out)
        have HRw3 := Bx.mk hv
        have R3 : Bx (Below N0 v0 v3) := Bx.mk (R2.out.trans hb)
        have HNw3 : Bx (v3.heap[qn]? = some (.cells #[.int .i64 pb, .int .i64 pc] 26 (0, 0))) := Bx.mk ((hg.block qn (Array.getElem?_eq_some_iff.1 HNw2.out).1 (fun e => HNe.out (by injection e with e; exact e.symm))).trans HNw2.out)
        refine hK.out _ _ (HA7.out _ R3.out) (fun hHeld => ?_)
        clear hK K' hb hv hg HRw2 R2 HNw2
        try simp only [Act.put, List.setIfInBounds_toArray, List.set_cons_zero, List.set_cons_succ]
        refine stepL 12 (by kernel_rfl) rfl (fun K' hK => ?_)
        refine step_apNn rfl _ _ rfl N0 _ ns (by rfl) HRw3.out qn 0 ⟨pb, pc⟩ 1 (by rfl) (row_rng15 (l := [.int .i64 pb, .int .i64 pc]) HNw3.out) (by have := HNs.out; omega) (HSN.out _ R3.out) (fun v' v4 hv hg => ?_)
        obtain ⟨na2, nc2, rfl, -, -⟩ := OwnN.form hv
        have hb := ownN_below HRw3.out hg (HSN.out _ R3.out)
        have HRw4 := Bx.mk hv
        have R4 : Bx (Below N0 v0 v4) := Bx.mk (R3.out.trans hb)
        refine hK.out _ _ (HA7.out _ R4.out) (fun hHeld => ?_)
        clear hK K' hb hv hg HRw3 R3 HNw3
        try simp only [Act.put, List.setIfInBounds_toArray, List.set_cons_zero, List.set_cons_succ]
        refine takeL 13 (v := ?_) rfl (by kernel_rfl) (by kernel_rfl) (by kernel_rfl) (fun _ _ _ h => h) (Or.inl ⟨by rfl, ?_⟩) hHeld ?_
        rotate_left 1
        · (intro w hSw; go_simp; try with_reducible rfl)
        try simp only [Act.put, List.setIfInBounds_toArray, List.set_cons_zero, List.set_cons_succ]
        refine takeL 14 (v := ?_) rfl (by kernel_rfl) (by kernel_rfl) (by kernel_rfl) (fun _ _ _ h => h) (Or.inl ⟨by rfl, ?_⟩) hHeld ?_
        rotate_left 1
        · (intro w hSw; go_simp; try with_reducible rfl)
        try simp only [Act.put, List.setIfInBounds_toArray, List.set_cons_zero, List.set_cons_succ]
        refine stepL 15 (by kernel_rfl) rfl (fun K' hK => ?_)
        have c7 := HC.out _ R4.out
        have fz := HFz.out _ R4.out (K * 8 + 7)
        go_simp
        have hfin := HDo.out _ R4.out _ HRw4.out
        have hA7 := HAs.out _ (.slice na2 (ns.length + 1) nc2) R4.out
        rw [List.length_append, List.length_singleton] at hfin
        generalize v4.setCell ⟨g, K * 8 + 7, none⟩ (.slice na2 (ns.length + 1) nc2) = v5 at *
        obtain ⟨zs', hS'⟩ := hfin
        have T5 := Bx.mk hS'
        refine hK.out _ _ hA7 (fun hHeld => ?_)
        clear hK K' c7 fz hS' hA7 R4 HRw4 HDo HAs HC HFz HTk HNs HA7
        try simp only [Act.put, List.setIfInBounds_toArray, List.set_cons_zero, List.set_cons_succ]
        refine wpAnyH_done (by kernel_rfl) ?_ _
        refine NoPanic.normal ?_
        clear hHeld
        have HBx2 := HBX.out v5 T5.out.below
        obtain ⟨b0, b1, b2, b3⟩ := cells4' HBx2.1
        obtain ⟨p0, p1⟩ := cells2' HBx2.2
        have HTl2 := Bx.mk (HTl.out _ _ _ _ T5.out (by have := HK.out; omega))
        unfold ptr clV nv at HTl2
        simp only at HTl2
        clear HBx2
        go_wp2_with fail
        refine HTl2.out.mono ?_
        rintro e wz ⟨rfl, hbz⟩
        have SZ := Bx.mk ((T5.out.later (by have := T5.out.below.size; have := HSz.out; omega) hbz).more (show k + 1 ≤ k + 1 by omega))
        clear hbz b0 b1 b2 b3 p0 p1 HTl2
        go_wp2
        exact ⟨⟨⟨rfl, rfl⟩, rfl, rfl, rfl, rfl⟩, by first | rfl | go_num, _, _, rfl, SZ.out⟩
      · have c7 := HC.out _ R1.out
        go_simp
        refine hK.out _ _ (HA7.out _ R1.out) (fun hHeld => ?_)
        clear hK K' c7
        try simp only [Act.put, List.setIfInBounds_toArray, List.set_cons_zero, List.set_cons_succ]
        refine stepL 2 (by kernel_rfl) rfl (fun K' hK => ?_)
        go_simp
        have hb0 := below_a (W := v1) (.cells #[] 26)
        have hb := hb0.mono (HSN.out _ R1.out)
        have HRn := OwnN.empty v1 N0 (HSN.out _ R1.out)
        have hq : ∃ q, v1.heap.size = q := ⟨_, rfl⟩
        have HNw2 := Bx.mk ((hb0.block qn (Array.getElem?_eq_some_iff.1 HNw1.out).1).trans HNw1.out)
        generalize v1.alloc (.cells #[] 26) = v2 at *
        obtain ⟨q, hq⟩ := hq
        rw [hq] at HRn ⊢
        have HNe : Bx (q ≠ qn) := Bx.mk (by have := (Array.getElem?_eq_some_iff.1 HNw1.out).1; omega)
        have HRw2 := Bx.mk HRn
        have R2 : Bx (Below N0 v0 v2) := Bx.mk (R1.out.trans hb)
        refine hK.out _ _ (HA7.out _ R2.out) (fun hHeld => ?_)
        clear hK K' hb hb0 HRn hq R1 HNw1
        try simp only [Act.put, List.setIfInBounds_toArray, List.set_cons_zero, List.set_cons_succ]
        refine stepL 8 (by kernel_rfl) rfl (fun K' hK => ?_)
        refine step_apNs rfl _ _ rfl N0 B _ [] (by rfl) HRw2.out _ ns (by rfl) (HTk.out _ R2.out) (by have := HNs.out; simp; omega) (HSN.out _ R2.out) (fun v' v3 hv hg => ?_)
        rw [List.nil_append] at hv
        obtain ⟨na', nc', rfl, -, -⟩ := OwnN.form hv
        have hb := ownN_below HRw2.out hg (HSN.out _ R2.out)
        have HRw3 := Bx.mk hv
        have R3 : Bx (Below N0 v0 v3) := Bx.mk (R2.out.trans hb)
        have HNw3 : Bx (v3.heap[qn]? = some (.cells #[.int .i64 pb, .int .i64 pc] 26 (0, 0))) := Bx.mk ((hg.block qn (Array.getElem?_eq_some_iff.1 HNw2.out).1 (fun e => HNe.out (by injection e with e; exact e.symm))).trans HNw2.out)
        refine hK.out _ _ (HA7.out _ R3.out) (fun hHeld => ?_)
        clear hK K' hb hv hg HRw2 R2 HNw2
        try simp only [Act.put, List.setIfInBounds_toArray, List.set_cons_zero, List.set_cons_succ]
        refine stepL 12 (by kernel_rfl) rfl (fun K' hK => ?_)
        refine step_apNn rfl _ _ rfl N0 _ ns (by rfl) HRw3.out qn 0 ⟨pb, pc⟩ 1 (by rfl) (row_rng15 (l := [.int .i64 pb, .int .i64 pc]) HNw3.out) (by have := HNs.out; omega) (HSN.out _ R3.out) (fun v' v4 hv hg => ?_)
        obtain ⟨na2, nc2, rfl, -, -⟩ := OwnN.form hv
        have hb := ownN_below HRw3.out hg (HSN.out _ R3.out)
        have HRw4 := Bx.mk hv
        have R4 : Bx (Below N0 v0 v4) := Bx.mk (R3.out.trans hb)
        refine hK.out _ _ (HA7.out _ R4.out) (fun hHeld => ?_)
        clear hK K' hb hv hg HRw3 R3 HNw3
        try simp only [Act.put, List.setIfInBounds_toArray, List.set_cons_zero, List.set_cons_succ]
        refine takeL 13 (v := ?_) rfl (by kernel_rfl) (by kernel_rfl) (by kernel_rfl) (fun _ _ _ h => h) (Or.inl ⟨by rfl, ?_⟩) hHeld ?_
        rotate_left 1
        · (intro w hSw; go_simp; try with_reducible rfl)
        try simp only [Act.put, List.setIfInBounds_toArray, List.set_cons_zero, List.set_cons_succ]
        refine takeL 14 (v := ?_) rfl (by kernel_rfl) (by kernel_rfl) (by kernel_rfl) (fun _ _ _ h => h) (Or.inl ⟨by rfl, ?_⟩) hHeld ?_
        rotate_left 1
        · (intro w hSw; go_simp; try with_reducible rfl)
        try simp only [Act.put, List.setIfInBounds_toArray, List.set_cons_zero, List.set_cons_succ]
        refine stepL 15 (by kernel_rfl) rfl (fun K' hK => ?_)
        have c7 := HC.out _ R4.out
        have fz := HFz.out _ R4.out (K * 8 + 7)
        go_simp
        have hfin := HDo.out _ R4.out _ HRw4.out
        have hA7 := HAs.out _ (.slice na2 (ns.length + 1) nc2) R4.out
        rw [List.length_append, List.length_singleton] at hfin
        generalize v4.setCell ⟨g, K * 8 + 7, none⟩ (.slice na2 (ns.length + 1) nc2) = v5 at *
        obtain ⟨zs', hS'⟩ := hfin
        have T5 := Bx.mk hS'
        refine hK.out _ _ hA7 (fun hHeld => ?_)
        clear hK K' c7 fz hS' hA7 R4 HRw4 HDo HAs HC HFz HTk HNs HA7
        try simp only [Act.put, List.setIfInBounds_toArray, List.set_cons_zero, List.set_cons_succ]
        refine wpAnyH_done (by kernel_rfl) ?_ _
        refine NoPanic.normal ?_
        clear hHeld
        have HBx2 := HBX.out v5 T5.out.below
        obtain ⟨b0, b1, b2, b3⟩ := cells4' HBx2.1
        obtain ⟨p0, p1⟩ := cells2' HBx2.2
        have HTl2 := Bx.mk (HTl.out _ _ _ _ T5.out (by have := HK.out; omega))
        unfold ptr clV nv at HTl2
        simp only at HTl2
        clear HBx2
        go_wp2_with fail
        refine HTl2.out.mono ?_
        rintro e wz ⟨rfl, hbz⟩
        have SZ := Bx.mk ((T5.out.later (by have := T5.out.below.size; have := HSz.out; omega) hbz).more (show k + 1 ≤ k + 1 by omega))
        clear hbz b0 b1 b2 b3 p0 p1 HTl2
        go_wp2
        exact ⟨⟨⟨rfl, rfl⟩, rfl, rfl, rfl, rfl⟩, by first | rfl | go_num, _, _, rfl, SZ.out⟩
end Go.Proofs.Ytdbdpehagkglfaa
