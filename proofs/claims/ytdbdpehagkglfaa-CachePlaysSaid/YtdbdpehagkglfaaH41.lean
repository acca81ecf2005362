/-
  CachePlays: a round that puts.
-/
import Derived.Test.YtdbdpehagkglfaaH40
namespace Go.Proofs.Ytdbdpehagkglfaa
open Go Go.RowKit
theorem sub9 {W : World} {A : Nat} {kd tk ci cr cx cq pb pc : Int} {v : Value} (h : W.heap[A]? = some (.cells #[.int .i64 kd, .int .i64 tk, .int .i64 ci, .int .i64 cr, .int .i64 cx, .int .i64 cq, v, .int .i64 pb, .int .i64 pc] 32 (0, 0))) : W.rangeAt A 2 [.int .i64 ci, .int .i64 cr, .int .i64 cx, .int .i64 cq] ∧ W.rangeAt A 7 [.int .i64 pb, .int .i64 pc] := by
  refine ⟨fun j u hj => ?_, fun j u hj => ?_⟩
  · have hj4 : j < 4 := (List.getElem?_eq_some_iff.1 hj).1
    rw [cell_of_row _ _ _ _ _ _ h]
    match j, hj4 with
    | 0, _ => exact hj
    | 1, _ => exact hj
    | 2, _ => exact hj
    | 3, _ => exact hj
  · have hj2 : j < 2 := (List.getElem?_eq_some_iff.1 hj).1
    rw [cell_of_row _ _ _ _ _ _ h]
    match j, hj2 with
    | 0, _ => exact hj
    | 1, _ => exact hj
set_option maxRecDepth 100000 in
set_option maxHeartbeats 4000000 in
theorem round15_2 (wb : World) (X B : Nat) (xc : Cl) (xn : Nn) (l : List A15) (v0 : Value) (hin : In15 wb X B xc xn l v0) (Q : Exit → Act → World → Prop) (k : Nat) (a : Act) (wr : World) (hk : k < l.length) (hk5 : k < 50) (h : IL15 wb v0 X B k a wr) (hkd : (IntKind.u64.wrap (l.getD k A15.zero).kd).tmod 6 = 2) :
    Code.wp Try.prog (loopAt (Try.f3.body) 0) (Exit.then (fun a' w' => IL15 wb v0 X B (k + 1) a' w') Q) a wr := by
  obtain ⟨hf, s9, mv, zs, s8, hS⟩ := h
  obtain ⟨b, o, cap, rfl⟩ := hin.acts.start (by omega)
  obtain ⟨vb, hr, hkb, -, -, hc64, hkl, hnf⟩ := hin.acts.at_ k hk
  have HBX := Bx.mk fun W (hb : Below B wb W) => hin.box hb
  have HTl := Bx.mk fun (m : Nat) (zs : List Zz) (mv : Value) (W : World) (h : StL B wb m zs mv W) (hm : m ≤ 1000) => tells_any B wb m zs mv xc hin.fitC xn hin.fitN W h hm
  obtain ⟨na, hna⟩ : ∃ na, l.length = na := ⟨_, rfl⟩
  have hlen := hin.len
  have hsz := hin.size
  rw [hna] at hk hf hlen ⊢
  clear hin
  generalize l.getD k A15.zero = ac at *
  obtain ⟨kd, tk, ⟨ci, cr, cx, cq⟩, kk, ⟨pb, pc⟩⟩ := ac
  obtain ⟨xi, xr, xx, xq⟩ := xc
  obtain ⟨xb, xc⟩ := xn
  simp only at hr hkb hc64 hkl hnf hkd HBX
  obtain ⟨tt, ht, et⟩ := lowT tk 1073741824 (by omega) (by omega)
  have et : wrap64 ((IntKind.u64.wrap tk).tmod 1073741824) = (tt : Int) := et
  have HT30 : Bx ((0 : Int) ≤ (tt : Int) ∧ (tt : Int) ≤ 1073741824) := Bx.mk ⟨by omega, by omega⟩
  have HC64 := Bx.mk (And.intro hc64 hnf)
  obtain ⟨ka, kcap, hvb, hkcap, hkno⟩ := bytes_form hkb
  obtain ⟨kl, hkl'⟩ : ∃ kl, kk.length = kl := ⟨_, rfl⟩
  rw [hkl'] at hvb hkcap hkl
  subst hvb
  obtain ⟨km, hkm⟩ : ∃ km, km = min kl 40 := ⟨_, rfl⟩
  have m1 : min (kl : Int) 40 = (km : Int) := by omega
  have s1 := fun W => cut_bytes ka kl kcap km (by omega) hkcap hkno W
  have HKm : Bx (km ≤ 40 ∧ km ≤ kl) := Bx.mk ⟨by omega, by omega⟩
  have HKB : Bx (∀ W, Below B wb W → Bytes W (.slice ka km kcap) (kk.take km) ∧ (kk.take km).length ≤ 40) := Bx.mk fun W hb => ⟨(hkb.take km (by omega)).later (by rw [hsz]; exact hb), by rw [List.length_take]; omega⟩
  have hB0 : B ≤ wr.heap.size := by rw [← hsz]; exact hS.below.size
  have hrw := rng_later hr (by rw [hsz]; exact hS.below)
  obtain ⟨d0, d1, d2, d3, d4, d5, d6, d7, d8⟩ := rng9 hrw
  have HTo := Bx.mk fun W => cto_any ⟨ci, cr, cx, cq⟩ W
  have k1 : (k : Int) < 50 := by omega
  have k2 : (k : Int) < (na : Int) := by omega
  have k0 : (0 : Int) ≤ (k : Int) := by omega
  have n1 : (na : Int) ≤ 9223372036854775807 := by omega
  have l1 : (kl : Int) ≤ 9223372036854775807 := by omega
  have hwk : IntKind.i64.wrap ((k : Int) + 1) = (k : Int) + 1 := by simp [IntKind.wrap_i64]; omega
  have HK := Bx.mk (show k ≤ 1000 by omega)
  obtain ⟨ma, mk, mc, rfl⟩ := hS.form
  have HSz := Bx.mk hsz
  have R1 : Bx (StL B wb k zs (.slice ma mk mc) (wr.alloc (.cells #[.int .i64 kd, .int .i64 tk, .int .i64 ci, .int .i64 cr, .int .i64 cx, .int .i64 cq, .slice ka kl kcap, .int .i64 pb, .int .i64 pc] 32)) ∧ (wr.alloc (.cells #[.int .i64 kd, .int .i64 tk, .int .i64 ci, .int .i64 cr, .int .i64 cx, .int .i64 cq, .slice ka kl kcap, .int .i64 pb, .int .i64 pc] 32)).heap[wr.heap.size]? = some (.cells #[.int .i64 kd, .int .i64 tk, .int .i64 ci, .int .i64 cr, .int .i64 cx, .int .i64 cq, .slice ka kl kcap, .int .i64 pb, .int .i64 pc] 32 (0, 0)) ∧ B ≤ wr.heap.size) := Bx.mk ⟨hS.later hB0 (below_a _), hnew _ _ _ rfl, hB0⟩
  obtain ⟨y, rfl, hy⟩ := open227 hf.fr
  have e0 := (hy 0).symm.trans hf.s0
  have e4 := (hy 4).symm.trans hf.s4
  have e5 := (hy 5).symm.trans hf.s5
  have e7 := (hy 7).symm.trans hf.s7
  have e8 := (hy 8).symm.trans s8
  have e9 := (hy 9).symm.trans s9
  clear hf hy s8 s9 hS hk hk5 hna hkm hkl hkl' hkcap hkno hkb hr hrw hc64 hnf ht hB0 hlen hsz
  rw [e0, e4, e5, e7, e8, e9]
  clear e0 e4 e5 e7 e8 e9
  conv => arg 2; whnf
  unfold clV at HTo
  simp only at HTo
  go_wp2_with fail
  refine (HTo.out _).mono ?_
  rintro e w2 ⟨rfl, hb⟩
  have R2 : Bx (StL B wb k zs (.slice ma mk mc) (w2.alloc (.cells #[.int .i64 ci, .int .i64 cr, .int .i64 cx, .int .i64 cq] 34)) ∧ (w2.alloc (.cells #[.int .i64 ci, .int .i64 cr, .int .i64 cx, .int .i64 cq] 34)).heap[wr.heap.size]? = some (.cells #[.int .i64 kd, .int .i64 tk, .int .i64 ci, .int .i64 cr, .int .i64 cx, .int .i64 cq, .slice ka kl kcap, .int .i64 pb, .int .i64 pc] 32 (0, 0)) ∧ (w2.alloc (.cells #[.int .i64 ci, .int .i64 cr, .int .i64 cx, .int .i64 cq] 34)).heap[w2.heap.size]? = some (.cells #[.int .i64 ci, .int .i64 cr, .int .i64 cx, .int .i64 cq] 34 (0, 0)) ∧ B ≤ (w2.alloc (.cells #[.int .i64 ci, .int .i64 cr, .int .i64 cx, .int .i64 cq] 34)).heap.size) := Bx.mk (by
    have h1 := R1.out.2.2
    have h2 : B ≤ (wr.alloc (.cells #[.int .i64 kd, .int .i64 tk, .int .i64 ci, .int .i64 cr, .int .i64 cx, .int .i64 cq, .slice ka kl kcap, .int .i64 pb, .int .i64 pc] 32)).heap.size := by rw [World.size_alloc]; omega
    have h3 := hb.size
    have h4 := (Array.getElem?_eq_some_iff.1 R1.out.2.1).1
    refine ⟨(R1.out.1.later h2 hb).later (by omega) (below_a _), ?_, hnew _ _ _ rfl, by rw [World.size_alloc]; omega⟩
    rw [hold _ _ _ (by omega)]
    exact (hb.block _ h4).trans R1.out.2.1)
  have hAne : wr.heap.size ≠ w2.heap.size := by
    have := hb.size
    have := (Array.getElem?_eq_some_iff.1 R1.out.2.1).1
    omega
  obtain ⟨a0, -, -, -, -, -, -, -, -⟩ := cells9 R2.out.2.1
  clear hb R1 HTo d0 d1 d2 d3 d4 d5 d6 d7 d8
  go_upto_region 26 with fail
  clear a0 m1 s1
  generalize hA : wr.heap.size = A at *
  generalize hY : w2.heap.size = Y at *
  generalize w2.alloc (.cells #[.int .i64 ci, .int .i64 cr, .int .i64 cx, .int .i64 cq] 34) = w3 at *
  clear hA hY hAne
  have HNw := Bx.mk fun W (hb : Below B wb W) => new_any (kk.take km) (.slice ka km kcap) W (HKB.out W hb).1 (by have := (HKB.out W hb).2; omega)
  have HPa := Bx.mk fun W => put_arg B ⟨ci, cr, cx, cq⟩ W
  have HPp := Bx.mk fun W (h : StL B wb k zs (.slice ma mk mc) W) (hB : B ≤ W.heap.size) (g : Nat) (hg : IsKey W (ptr g) (kk.take km)) => put_pair h hB ⟨ci, cr, cx, cq⟩ HC64.out.1 g (kk.take km) hg (by have := (HKB.out W h.below).2; omega) ka km kcap (fun W1 hb => (HKB.out W1 hb).1)
  generalize kk.take km = bs at *
  unfold clV ptr at HPa HPp
  simp only at HPa HPp
  have HKl := Bx.mk (HKm.out.1)
  go_upto_region 35 with fail
  have R0 : Bx (StL B wb k zs (.slice ma mk mc) w3.drew ∧ w3.drew.heap[A]? = some (.cells #[.int .i64 kd, .int .i64 tk, .int .i64 ci, .int .i64 cr, .int .i64 cx, .int .i64 cq, .slice ka kl kcap, .int .i64 pb, .int .i64 pc] 32 (0, 0)) ∧ w3.drew.heap[Y]? = some (.cells #[.int .i64 ci, .int .i64 cr, .int .i64 cx, .int .i64 cq] 34 (0, 0)) ∧ B ≤ w3.drew.heap.size) := Bx.mk ⟨R2.out.1.later R2.out.2.2.2 (Below.refl _ _).drew, R2.out.2.1, R2.out.2.2.1, R2.out.2.2.2⟩
  clear R2
  refine wp_region_noPanic ?_
  refine wp_region_held_drew (S := fun W => W.rangeAt Y 0 [.int .i64 ci, .int .i64 cr, .int .i64 cx, .int .i64 cq] ∧ W.rangeAt A 2 [.int .i64 ci, .int .i64 cr, .int .i64 cx, .int .i64 cq]) (by kernel_rfl) (⟨row_rng15 (l := [.int .i64 ci, .int .i64 cr, .int .i64 cx, .int .i64 cq]) R0.out.2.2.1, (sub9 R0.out.2.1).1⟩) (fun hHeld => ?_)
  generalize w3.drew = u0 at *
  refine takeL 0 (v := ?_) rfl (by kernel_rfl) (by kernel_rfl) (by kernel_rfl) (fun _ _ _ h => h) (Or.inl ⟨by rfl, ?_⟩) hHeld ?_
  rotate_left 1
  · (intro w hSw; go_simp; try with_reducible rfl)
  try simp only [Act.put, List.setIfInBounds_toArray, List.set_cons_zero, List.set_cons_succ]
  refine takeL 1 rfl (by kernel_rfl) (by kernel_rfl) (by kernel_rfl) (fun _ _ _ h => h) (yieldsIf_load_mid (by rfl) _ _ rfl _ _ rfl _ _ (fun w hSw => hSw.1) Try.underlying34 rfl (by kernel_rfl)) hHeld ?_
  try simp only [Act.put, List.setIfInBounds_toArray, List.set_cons_zero, List.set_cons_succ]
  refine stepL 2 (by kernel_rfl) rfl (fun K hK => ?_)
  go_simp
  refine (HPa.out _).mono ?_
  rintro e u1 ⟨rfl, hb⟩
  show K _ _
  have R1 : Bx (StL B wb k zs (.slice ma mk mc) u1 ∧ u1.heap[A]? = some (.cells #[.int .i64 kd, .int .i64 tk, .int .i64 ci, .int .i64 cr, .int .i64 cx, .int .i64 cq, .slice ka kl kcap, .int .i64 pb, .int .i64 pc] 32 (0, 0)) ∧ u1.heap[Y]? = some (.cells #[.int .i64 ci, .int .i64 cr, .int .i64 cx, .int .i64 cq] 34 (0, 0)) ∧ B ≤ u1.heap.size) := Bx.mk ⟨R0.out.1.later R0.out.2.2.2 hb, (hb.block A (Array.getElem?_eq_some_iff.1 R0.out.2.1).1).trans R0.out.2.1, (hb.block Y (Array.getElem?_eq_some_iff.1 R0.out.2.2.1).1).trans R0.out.2.2.1, Nat.le_trans R0.out.2.2.2 hb.size⟩
  refine hK.out _ _ ⟨row_rng15 (l := [.int .i64 ci, .int .i64 cr, .int .i64 cx, .int .i64 cq]) R1.out.2.2.1, (sub9 R1.out.2.1).1⟩ (fun hHeld => ?_)
  clear hK K hb R0
  try simp only [Act.put, List.setIfInBounds_toArray, List.set_cons_zero, List.set_cons_succ]
  refine takeL 3 (v := ?_) rfl (by kernel_rfl) (by kernel_rfl) (by kernel_rfl) (fun _ _ _ h => h) (Or.inl ⟨by rfl, ?_⟩) hHeld ?_
  rotate_left 1
  · (intro w hSw; go_simp; try with_reducible rfl)
  try simp only [Act.put, List.setIfInBounds_toArray, List.set_cons_zero, List.set_cons_succ]
  refine takeL 4 (v := ?_) rfl (by kernel_rfl) (by kernel_rfl) (by kernel_rfl) (fun _ _ _ h => h) (Or.inl ⟨by rfl, ?_⟩) hHeld ?_
  rotate_left 1
  · (intro w hSw; go_simp; try with_reducible rfl)
  try simp only [Act.put, List.setIfInBounds_toArray, List.set_cons_zero, List.set_cons_succ]
  refine takeL 5 (v := ?_) rfl (by kernel_rfl) (by kernel_rfl) (by kernel_rfl) (fun _ _ _ h => h) (Or.inl ⟨by rfl, ?_⟩) hHeld ?_
  rotate_left 1
  · (intro w hSw; go_simp; try with_reducible rfl)
  try simp only [Act.put, List.setIfInBounds_toArray, List.set_cons_zero, List.set_cons_succ]
  refine takeL 6 rfl (by kernel_rfl) (by kernel_rfl) (by kernel_rfl) (fun _ _ _ h => h) (yieldsIf_load_mid (by rfl) _ _ rfl _ _ rfl _ _ (fun w hSw => hSw.1) Try.underlying34 rfl (by kernel_rfl)) hHeld ?_
  try simp only [Act.put, List.setIfInBounds_toArray, List.set_cons_zero, List.set_cons_succ]
  refine takeL 7 (v := ?_) rfl (by kernel_rfl) (by kernel_rfl) (by kernel_rfl) (fun _ _ _ h => h) (Or.inl ⟨by rfl, ?_⟩) hHeld ?_
  rotate_left 1
  · (intro w hSw; go_simp; try with_reducible rfl)
  try simp only [Act.put, List.setIfInBounds_toArray, List.set_cons_zero, List.set_cons_succ]
  refine takeL 10 (v := ?_) rfl (by kernel_rfl) (by kernel_rfl) (by kernel_rfl) (fun _ _ _ h => h) (Or.inl ⟨by rfl, ?_⟩) hHeld ?_
  rotate_left 1
  · (intro w hSw; go_simp; try with_reducible rfl)
  try simp only [Act.put, List.setIfInBounds_toArray, List.set_cons_zero, List.set_cons_succ]
  refine takeL 11 (v := ?_) rfl (by kernel_rfl) (by kernel_rfl) (by kernel_rfl) (fun _ _ _ h => h) (Or.inl ⟨by rfl, ?_⟩) hHeld ?_
  rotate_left 1
  · (intro w hSw; go_simp; try with_reducible rfl)
  try simp only [Act.put, List.setIfInBounds_toArray, List.set_cons_zero, List.set_cons_succ]
  refine takeL 12 rfl (by kernel_rfl) (by kernel_rfl) (by kernel_rfl) (fun _ _ _ h => h) (yieldsIf_load_mid (by rfl) _ _ rfl _ _ rfl _ _ (fun w hSw => hSw.2) Try.underlying24 rfl (by kernel_rfl)) hHeld ?_
  try simp only [Act.put, List.setIfInBounds_toArray, List.set_cons_zero, List.set_cons_succ]
  refine takeL 13 (v := ?_) rfl (by kernel_rfl) (by kernel_rfl) (by kernel_rfl) (fun _ _ _ h => h) (Or.inl ⟨by rfl, ?_⟩) hHeld ?_
  rotate_left 1
  · (intro w hSw; go_simp; try with_reducible rfl)
  try simp only [Act.put, List.setIfInBounds_toArray, List.set_cons_zero, List.set_cons_succ]
  refine stepL 8 (by kernel_rfl) rfl (fun K hK => ?_)
  go_simp
  refine (HNw.out _ R1.out.1.below).mono ?_
  rintro e u2 ⟨kv, rfl, hk, hb⟩
  show K _ _
  have R2 : Bx (StL B wb k zs (.slice ma mk mc) u2 ∧ u2.heap[A]? = some (.cells #[.int .i64 kd, .int .i64 tk, .int .i64 ci, .int .i64 cr, .int .i64 cx, .int .i64 cq, .slice ka kl kcap, .int .i64 pb, .int .i64 pc] 32 (0, 0)) ∧ u2.heap[Y]? = some (.cells #[.int .i64 ci, .int .i64 cr, .int .i64 cx, .int .i64 cq] 34 (0, 0)) ∧ B ≤ u2.heap.size) := Bx.mk ⟨R1.out.1.later R1.out.2.2.2 hb, (hb.block A (Array.getElem?_eq_some_iff.1 R1.out.2.1).1).trans R1.out.2.1, (hb.block Y (Array.getElem?_eq_some_iff.1 R1.out.2.2.1).1).trans R1.out.2.2.1, Nat.le_trans R1.out.2.2.2 hb.size⟩
  have HKy := Bx.mk hk.key
  obtain ⟨p, ks, rfl, -⟩ := hk
  refine hK.out _ _ ⟨row_rng15 (l := [.int .i64 ci, .int .i64 cr, .int .i64 cx, .int .i64 cq]) R2.out.2.2.1, (sub9 R2.out.2.1).1⟩ (fun hHeld => ?_)
  clear hK K hb R1
  try simp only [Act.put, List.setIfInBounds_toArray, List.set_cons_zero, List.set_cons_succ]
  refine stepL 9 (by kernel_rfl) rfl (fun K hK => ?_)
  obtain ⟨er, HP0⟩ := HPp.out _ R2.out.1 R2.out.2.2.2 p HKy.out
  have HP1 := Bx.mk HP0
  clear HP0
  have hne : (er != er) = false := by simp
  go_simp
  refine HP1.out.mono ?_
  rintro e u3 ⟨rfl, -, hkb, HR0⟩
  show K _ _
  have HR := Bx.mk HR0
  have R3 : Bx (u3.heap[A]? = some (.cells #[.int .i64 kd, .int .i64 tk, .int .i64 ci, .int .i64 cr, .int .i64 cx, .int .i64 cq, .slice ka kl kcap, .int .i64 pb, .int .i64 pc] 32 (0, 0)) ∧ u3.heap[Y]? = some (.cells #[.int .i64 ci, .int .i64 cr, .int .i64 cx, .int .i64 cq] 34 (0, 0))) := Bx.mk ⟨hkb.block A _ R2.out.2.1 (.inr (hard_cells (by decide) (by decide))), hkb.block Y _ R2.out.2.2.1 (.inr (hard_cells (by decide) (by decide)))⟩
  refine hK.out _ _ ⟨row_rng15 (l := [.int .i64 ci, .int .i64 cr, .int .i64 cx, .int .i64 cq]) R3.out.2, (sub9 R3.out.1).1⟩ (fun hHeld => ?_)
  clear hK K hkb HR0 HP1 R2 HKy HNw HPa HPp
  try simp only [Act.put, List.setIfInBounds_toArray, List.set_cons_zero, List.set_cons_succ]
  refine stepL 14 (by kernel_rfl) rfl (fun K hK => ?_)
  go_simp
  refine HR.out.mono ?_
  rintro e u4 ⟨rfl, -, hkt, zs', hS'⟩
  show K _ _
  have S4 := Bx.mk hS'
  have R4 : Bx (u4.heap[A]? = some (.cells #[.int .i64 kd, .int .i64 tk, .int .i64 ci, .int .i64 cr, .int .i64 cx, .int .i64 cq, .slice ka kl kcap, .int .i64 pb, .int .i64 pc] 32 (0, 0)) ∧ u4.heap[Y]? = some (.cells #[.int .i64 ci, .int .i64 cr, .int .i64 cx, .int .i64 cq] 34 (0, 0))) := Bx.mk ⟨hkt.block A _ R3.out.1 (fun _ _ => ne_cells (by decide)), hkt.block Y _ R3.out.2 (fun _ _ => ne_cells (by decide))⟩
  refine hK.out _ _ ⟨row_rng15 (l := [.int .i64 ci, .int .i64 cr, .int .i64 cx, .int .i64 cq]) R4.out.2, (sub9 R4.out.1).1⟩ (fun hHeld => ?_)
  clear hK K hkt hS' HR R3 R4
  try simp only [Act.put, List.setIfInBounds_toArray, List.set_cons_zero, List.set_cons_succ]
  refine takeL 15 (v := ?_) rfl (by kernel_rfl) (by kernel_rfl) (by kernel_rfl) (fun _ _ _ h => h) (Or.inl ⟨by rfl, ?_⟩) hHeld ?_
  rotate_left 1
  · (intro w hSw; go_simp; try with_reducible rfl)
  try simp only [Act.put, List.setIfInBounds_toArray, List.set_cons_zero, List.set_cons_succ]
  refine takeL 16 (v := ?_) rfl (by kernel_rfl) (by kernel_rfl) (by kernel_rfl) (fun _ _ _ h => h) (Or.inl ⟨by rfl, ?_⟩) hHeld ?_
  rotate_left 1
  · (intro w hSw; go_simp; try with_reducible rfl)
  try simp only [Act.put, List.setIfInBounds_toArray, List.set_cons_zero, List.set_cons_succ]
  refine wpAnyH_done (by kernel_rfl) ?_ _
  refine NoPanic.normal ?_
  clear hHeld
  have HBx2 := HBX.out u4 S4.out.below
  obtain ⟨b0, b1, b2, b3⟩ := cells4' HBx2.1
  obtain ⟨p0, p1⟩ := cells2' HBx2.2
  have HTl2 := Bx.mk (HTl.out _ _ _ _ S4.out (by have := HK.out; omega))
  unfold ptr clV nv at HTl2
  simp only at HTl2
  clear HBx2
  go_wp2_with fail
  refine HTl2.out.mono ?_
  rintro e wz ⟨rfl, hbz⟩
  have SZ := Bx.mk ((S4.out.later (by have := S4.out.below.size; have := HSz.out; omega) hbz).more (show k ≤ k + 1 by omega))
  clear hbz b0 b1 b2 b3 p0 p1 HTl2
  go_wp2
  exact ⟨⟨⟨rfl, rfl⟩, rfl, rfl, rfl, rfl⟩, by first | rfl | go_num, _, _, rfl, SZ.out⟩
end Go.Proofs.Ytdbdpehagkglfaa
