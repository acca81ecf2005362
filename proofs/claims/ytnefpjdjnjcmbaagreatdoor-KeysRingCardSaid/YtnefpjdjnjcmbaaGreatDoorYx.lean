/-
  The document's Add.
-/
import Derived.Test.YtnefpjdjnjcmbaaGreatDoorYu
import Derived.Test.YtnefpjdjnjcmbaaGreatDoorCu
import Derived.Test.YtnefpjdjnjcmbaaGreatDoorRows
import Derived.ProofKit
import Derived.OpenShut
import Derived.ChangeOld
import Derived.Below
import Derived.Deep.DeepHandedRow
import Derived.Deep.Matrix
import Derived.Deep.Slices
namespace Go.Proofs.YtnefpjdjnjcmbaaGreatDoor
open Go Go.RowKit
/-- With one more, ahead of the first that is larger. -/
def insE (e : Cl × Value) : List (Cl × Value) → List (Cl × Value)
  | [] => [e]
  | x :: r => if lessC e.1 x.1 = true then e :: x :: r else x :: insE e r
theorem insE_none (e : Cl × Value) : ∀ a : List (Cl × Value), (∀ x ∈ a, lessC e.1 x.1 = false) → insE e a = a ++ [e]
  | [], _ => rfl
  | y :: a, h => by
    rw [insE, h y (.head _), if_neg Bool.false_ne_true, insE_none e a (fun x hx => h x (.tail _ hx))]
    rfl
theorem insE_more (e y : Cl × Value) : ∀ a : List (Cl × Value), (∃ x ∈ a, lessC e.1 x.1 = true) → insE e (a ++ [y]) = insE e a ++ [y]
  | [], h => by obtain ⟨x, hx, _⟩ := h; cases hx
  | z :: a, h => by
    rw [List.cons_append, insE, insE]
    by_cases hz : lessC e.1 z.1 = true
    · rw [if_pos hz, if_pos hz]; rfl
    · rw [if_neg hz, if_neg hz, insE_more e y a (by
        obtain ⟨x, hx, h1⟩ := h
        rcases List.mem_cons.1 hx with rfl | hx
        · exact absurd h1 hz
        · exact ⟨x, hx, h1⟩)]
      rfl
theorem insE_first (e y : Cl × Value) (hy : lessC e.1 y.1 = true) : ∀ a : List (Cl × Value), (∀ x ∈ a, lessC e.1 x.1 = false) → insE e (a ++ [y]) = a ++ [e] ++ [y]
  | [], _ => by rw [List.nil_append, insE, if_pos hy]; rfl
  | z :: a, h => by
    rw [List.cons_append, insE, h z (.head _), if_neg Bool.false_ne_true, insE_first e y hy a (fun x hx => h x (.tail _ hx))]
    rfl
theorem insE_length (e : Cl × Value) : ∀ a : List (Cl × Value), (insE e a).length = a.length + 1
  | [] => rfl
  | z :: a => by
    rw [insE]
    split
    · rfl
    · simp [insE_length e a]
theorem range4 {W : World} {g o : Nat} {a b c d e : Value} (h : W.rangeAt g o [a, b, c, d, e]) : W.rangeAt g o [a, b, c, d] := fun j u hj => by
  have hj4 : j < 4 := (List.getElem?_eq_some_iff.1 hj).1
  refine h j u ?_
  match j, hj4 with
  | 0, _ => exact hj
  | 1, _ => exact hj
  | 2, _ => exact hj
  | 3, _ => exact hj
/-- How far it is: what was put, and whether the new one was. -/
def AddS (e : Cl × Value) (m : List (Cl × Value)) (k : Nat) (pb : Bool) (vals : List (Cl × Value)) : Prop :=
  (pb = false ∧ vals = m.take k ∧ ∀ x ∈ m.take k, lessC e.1 x.1 = false) ∨ (pb = true ∧ vals = insE e (m.take k) ∧ ∃ x ∈ m.take k, lessC e.1 x.1 = true)
theorem take_next {m : List (Cl × Value)} {k : Nat} {y : Cl × Value} (hk : k < m.length) (hy : m.getD k e0 = y) : m.take (k + 1) = m.take k ++ [y] := by
  rw [List.take_succ_eq_append_getElem hk, ← hy]
  simp [hk]
theorem AddS.put {e y : Cl × Value} {m : List (Cl × Value)} {k : Nat} {vals : List (Cl × Value)} (h : AddS e m k true vals) (hk : k < m.length) (hy : m.getD k e0 = y) : AddS e m (k + 1) true (vals ++ [y]) := by
  rcases h with ⟨h, _⟩ | ⟨_, rfl, h2⟩
  · cases h
  · refine .inr ⟨rfl, ?_, ?_⟩
    · rw [take_next hk hy, insE_more e y _ h2]
    · obtain ⟨x, hx, h3⟩ := h2
      exact ⟨x, by rw [take_next hk hy]; exact List.mem_append_left _ hx, h3⟩
theorem AddS.not {e y : Cl × Value} {m : List (Cl × Value)} {k : Nat} {vals : List (Cl × Value)} (h : AddS e m k false vals) (hk : k < m.length) (hy : m.getD k e0 = y) (hl : lessC e.1 y.1 = false) : AddS e m (k + 1) false (vals ++ [y]) := by
  rcases h with ⟨_, rfl, h2⟩ | ⟨h, _⟩
  · refine .inl ⟨rfl, by rw [take_next hk hy], fun x hx => ?_⟩
    rw [take_next hk hy] at hx
    rcases List.mem_append.1 hx with hx | hx
    · exact h2 x hx
    · rw [List.mem_singleton.1 hx]; exact hl
  · cases h
theorem AddS.now {e y : Cl × Value} {m : List (Cl × Value)} {k : Nat} {vals : List (Cl × Value)} (h : AddS e m k false vals) (hk : k < m.length) (hy : m.getD k e0 = y) (hl : lessC e.1 y.1 = true) : AddS e m (k + 1) true (vals ++ [e] ++ [y]) := by
  rcases h with ⟨_, rfl, h2⟩ | ⟨h, _⟩
  · exact .inr ⟨rfl, by rw [take_next hk hy, insE_first e y hl _ h2], y, by rw [take_next hk hy]; simp, hl⟩
  · cases h
theorem AddS.length {e : Cl × Value} {m : List (Cl × Value)} {k : Nat} {pb : Bool} {vals : List (Cl × Value)} (h : AddS e m k pb vals) : vals.length ≤ m.length + 1 := by
  rcases h with ⟨_, rfl, _⟩ | ⟨_, rfl, _⟩
  · rw [List.length_take]; omega
  · rw [insE_length, List.length_take]; omega
theorem own_belowE {w w1 : World} {base : Nat} {v : Value} {l : List (Cl × Value)} (h : OwnE w base v l) (hg : w.grownBy w1 v.ownBlock) (hb : base ≤ w.heap.size) : Below base w w1 :=
  ⟨hg.os, hg.tape, hg.output, hg.size, fun i hi => hg.block i (by omega) (fun e => by have := (h.lt i e.symm).2; omega)⟩
theorem OwnE.weak {w : World} {base b1 : Nat} {v : Value} {l : List (Cl × Value)} (h : OwnE w base v l) (hb : b1 ≤ base) : OwnE w b1 v l := by
  refine ⟨h.1, ?_⟩
  rcases h.2 with h0 | ⟨g, cap, cur, hv, hb', hr⟩
  · exact .inl h0
  · exact .inr ⟨g, cap, cur, hv, Nat.le_trans hb hb', hr⟩
set_option maxRecDepth 100000 in
set_option maxHeartbeats 4000000 in
theorem eadd_any (base : Nat) (v : Value) (m : List (Cl × Value)) (i r x q : Int) (kv : Value) (w : World) (hm : OwnE w base v m) (hl : m.length ≤ 100) (hkv : kv.oneCell' = true) (hms : ∀ y ∈ m, y.2.oneCell' = true) :
    Calls Tryz.prog 13 #[v, .agg #[.int .i64 i, .int .i64 r, .int .i64 x, .int .i64 q, kv]] w fun e w' => ∃ v', e = .returned v' ∧ OwnE w' w.heap.size v' (insE ((⟨i, r, x, q⟩ : Cl), kv) m) ∧ Below w.heap.size w w' := by
  obtain ⟨va, vc, rfl⟩ := hm.form
  obtain ⟨n, hn⟩ : ∃ n, m.length = n := ⟨_, rfl⟩
  have HN := Bx.mk hn
  have HO := Bx.mk (And.intro hkv hms)
  obtain ⟨wa, hwa⟩ : ∃ wa, w.alloc (.cells #[.int .i64 i, .int .i64 r, .int .i64 x, .int .i64 q, kv] 50) = wa := ⟨_, rfl⟩
  obtain ⟨X, hX⟩ : ∃ X, w.heap.size = X := ⟨_, rfl⟩
  have HW : Bx (OwnE wa base (.slice va m.length vc) m ∧ wa.heap[X]? = some (.cells #[.int .i64 i, .int .i64 r, .int .i64 x, .int .i64 q, kv] 50 (0, 0)) ∧ Below w.heap.size w wa ∧ X < wa.heap.size) := Bx.mk ⟨by rw [← hwa]; exact hm.later (below_a _), by rw [← hwa, ← hX]; exact hnew _ _ _ rfl, by rw [← hwa]; exact below_a _, by rw [← hwa, ← hX]; simp⟩
  rw [hn] at hl HW ⊢
  have hl1 : (n : Int) ≤ 100 := by omega
  clear hm hn hkv hms
  go_enter Tryz.func13, Tryz.ntmps13
  go_wp2
  go_loopw [5, 6, 7] (fun vo pv j wr => ∃ (k : Nat) (pb : Bool) (o1 : Option Addr) (o2 o3 : Nat) (vals : List (Cl × Value)), k ≤ n ∧ j = .int .i64 (k : Int) ∧ pv = .bool pb ∧ vo = .slice o1 o2 o3 ∧ Bx (OwnE wr wa.heap.size (.slice o1 o2 o3) vals ∧ Below wa.heap.size wa wr ∧ AddS ((⟨i, r, x, q⟩ : Cl), kv) m k pb vals)) (fun _ _ j _ => n - (intOf j).toNat)
  case atStart => exact ⟨0, false, none, 0, 0, [], Nat.zero_le _, rfl, rfl, rfl, ⟨OwnE.nil _ _, Below.refl _ _, .inl ⟨rfl, rfl, fun y hy => by cases hy⟩⟩⟩
  case round =>
    obtain ⟨k, pb, o1, o2, o3, vals, hk, rfl, rfl, rfl, HI⟩ := hrel
    by_cases hlt : k < n
    · have hk1 : (k : Int) < (n : Int) := by omega
      have hk0 : (0 : Int) ≤ (k : Int) := by omega
      obtain ⟨g, cap, hv, hcap, hg⟩ := HW.out.1.at_ k (by rw [HN.out]; exact hlt)
      rw [HN.out] at hv
      injection hv with hv1 hv2 hv3
      subst hv1 hv3
      obtain ⟨⟨⟨yi, yr, yx, yq⟩, yv⟩, hy⟩ : ∃ y, m.getD k e0 = y := ⟨_, rfl⟩
      have HY : Bx (k < m.length ∧ m.getD k e0 = ((⟨yi, yr, yx, yq⟩ : Cl), yv)) := Bx.mk ⟨by rw [HN.out]; exact hlt, hy⟩
      have HYv : Bx (yv.oneCell' = true) := Bx.mk (by
        have h1 : m.getD k e0 ∈ m := by
          have hk' : k < m.length := HY.out.1
          simp [List.getD_eq_getElem?_getD, hk']
        have h2 := HO.out.2 _ h1
        rw [hy] at h2
        exact h2)
      rw [hy] at hg
      have GY : Bx (∀ W : World, Below wa.heap.size wa W → W.rangeAt g (k * 5) [.int .i64 yi, .int .i64 yr, .int .i64 yx, .int .i64 yq, yv]) := Bx.mk fun W hb j u hj => by
        have h1 := hg j u hj
        rw [hb.cell (World.block_lt_of_cell? _ _ h1)]
        exact h1
      have HX : Bx (∀ W, Below wa.heap.size wa W → W.heap[X]? = some (.cells #[.int .i64 i, .int .i64 r, .int .i64 x, .int .i64 q, kv] 50 (0, 0))) := Bx.mk fun W hb => by rw [hb.block X HW.out.2.2.2]; exact HW.out.2.1
      have HLen : Bx (vals.length ≤ 101) := Bx.mk (by have := HI.out.2.2.length; rw [HN.out] at this; omega)
      have HSS : Bx (∀ W, Below wa.heap.size wa W → W.rangeAt X 0 [.int .i64 i, .int .i64 r, .int .i64 x, .int .i64 q] ∧ W.rangeAt g (k * 5) [.int .i64 yi, .int .i64 yr, .int .i64 yx, .int .i64 yq]) := Bx.mk fun W hb => ⟨range4 (row_rng (l := [.int .i64 i, .int .i64 r, .int .i64 x, .int .i64 q, kv]) (HX.out W hb)), range4 (GY.out W hb)⟩
      have HLs : Bx (∀ W, Calls Tryz.prog 33 #[.agg #[.int .i64 i, .int .i64 r, .int .i64 x, .int .i64 q], .agg #[.int .i64 yi, .int .i64 yr, .int .i64 yx, .int .i64 yq]] W fun e w' => e = .returned (.bool (lessC ⟨i, r, x, q⟩ ⟨yi, yr, yx, yq⟩)) ∧ Below W.heap.size W w') := Bx.mk fun W => less_any ⟨i, r, x, q⟩ ⟨yi, yr, yx, yq⟩ W
      obtain ⟨L, hL⟩ : ∃ L, lessC ⟨i, r, x, q⟩ ⟨yi, yr, yx, yq⟩ = L := ⟨_, rfl⟩
      rw [hL] at HLs
      have HLq := Bx.mk hL
      clear hg hy hL
      cases pb
      · go_upto_region 6 with fail
        have P0 : Bx (OwnE wr.drew wa.heap.size (.slice o1 o2 o3) vals ∧ Below wa.heap.size wa wr.drew) := Bx.mk ⟨HI.out.1.later (Below.refl _ _).drew, HI.out.2.1.drew⟩
        have HS := Bx.mk HI.out.2.2
        refine wp_region_noPanic ?_
        refine wp_region_held_drew (S := fun W => W.rangeAt X 0 [.int .i64 i, .int .i64 r, .int .i64 x, .int .i64 q] ∧ W.rangeAt g (k * 5) [.int .i64 yi, .int .i64 yr, .int .i64 yx, .int .i64 yq]) (by kernel_rfl) (HSS.out _ P0.out.2) (fun hHeld => ?_)
        generalize wr.drew = W0 at *
        clear HI
        clear wr
        refine takeL 0 (v := ?_) rfl (by kernel_rfl) (by kernel_rfl) (by kernel_rfl) (fun _ _ _ h => h) (Or.inl ⟨by rfl, ?_⟩) hHeld ?_
        rotate_left 1
        · (intro w hSw; go_simp; try with_reducible rfl)
        try simp only [Act.put, List.setIfInBounds_toArray, List.set_cons_zero, List.set_cons_succ]
        refine takeL 1 (v := ?_) rfl (by kernel_rfl) (by kernel_rfl) (by kernel_rfl) (fun _ _ _ h => h) (Or.inl ⟨by rfl, ?_⟩) hHeld ?_
        rotate_left 1
        · (intro w hSw; go_simp; try with_reducible rfl)
        try simp only [Act.put, List.setIfInBounds_toArray, List.set_cons_zero, List.set_cons_succ]
        refine takeL 2 (v := ?_) rfl (by kernel_rfl) (by kernel_rfl) (by kernel_rfl) (fun _ _ _ h => h) (Or.inl ⟨by rfl, ?_⟩) hHeld ?_
        rotate_left 1
        · (intro w hSw; go_simp; try with_reducible rfl)
        try simp only [Act.put, List.setIfInBounds_toArray, List.set_cons_zero, List.set_cons_succ]
        refine takeL 3 (v := ?_) rfl (by kernel_rfl) (by kernel_rfl) (by kernel_rfl) (fun _ _ _ h => h) (Or.inl ⟨by rfl, ?_⟩) hHeld ?_
        rotate_left 1
        · (intro w hSw; go_simp; try with_reducible rfl)
        try simp only [Act.put, List.setIfInBounds_toArray, List.set_cons_zero, List.set_cons_succ]
        refine takeL 4 rfl (by kernel_rfl) (by kernel_rfl) (by kernel_rfl) (fun _ _ _ h => h) (yieldsIf_load_mid (by rfl) _ _ rfl _ _ rfl _ _ (fun w hSw => hSw.1) Tryz.underlying24 rfl (by kernel_rfl)) hHeld ?_
        try simp only [Act.put, List.setIfInBounds_toArray, List.set_cons_zero, List.set_cons_succ]
        refine takeL 5 (v := ?_) rfl (by kernel_rfl) (by kernel_rfl) (by kernel_rfl) (fun _ _ _ h => h) (Or.inl ⟨by rfl, ?_⟩) hHeld ?_
        rotate_left 1
        · (intro w hSw; go_simp; try with_reducible rfl)
        try simp only [Act.put, List.setIfInBounds_toArray, List.set_cons_zero, List.set_cons_succ]
        refine takeL 6 (v := ?_) rfl (by kernel_rfl) (by kernel_rfl) (by kernel_rfl) (fun _ _ _ h => h) (Or.inl ⟨by rfl, ?_⟩) hHeld ?_
        rotate_left 1
        · (intro w hSw; go_simp; try with_reducible rfl)
        try simp only [Act.put, List.setIfInBounds_toArray, List.set_cons_zero, List.set_cons_succ]
        refine takeL 7 (v := ?_) rfl (by kernel_rfl) (by kernel_rfl) (by kernel_rfl) (fun _ _ _ h => h) (Or.inl ⟨by rfl, ?_⟩) hHeld ?_
        rotate_left 1
        · (intro w hSw; go_simp; try with_reducible rfl)
        try simp only [Act.put, List.setIfInBounds_toArray, List.set_cons_zero, List.set_cons_succ]
        refine takeL 8 (v := ?_) rfl (by kernel_rfl) (by kernel_rfl) (by kernel_rfl) (fun _ _ _ h => h) (Or.inl ⟨by rfl, ?_⟩) hHeld ?_
        rotate_left 1
        · (intro w hSw; go_simp; try with_reducible rfl)
        try simp only [Act.put, List.setIfInBounds_toArray, List.set_cons_zero, List.set_cons_succ]
        refine takeL 9 rfl (by kernel_rfl) (by kernel_rfl) (by kernel_rfl) (fun _ _ _ h => h) (yieldsIf_load_mid (by rfl) _ _ rfl _ _ rfl _ _ (fun w hSw => hSw.2) Tryz.underlying24 rfl (by kernel_rfl)) hHeld ?_
        try simp only [Act.put, List.setIfInBounds_toArray, List.set_cons_zero, List.set_cons_succ]
        refine stepL 10 (by kernel_rfl) rfl (fun K hK => ?_)
        go_simp
        refine (HLs.out W0).mono ?_
        rintro e W1 ⟨rfl, hb⟩
        show K _ _
        have P9 : Bx (OwnE W1 wa.heap.size (.slice o1 o2 o3) vals ∧ Below wa.heap.size wa W1) := Bx.mk ⟨P0.out.1.later hb, P0.out.2.trans (hb.mono P0.out.2.size)⟩
        clear hb P0
        refine hK.out _ _ (HSS.out _ P9.out.2) (fun hHeld => ?_)
        clear hK K
        try simp only [Act.put, List.setIfInBounds_toArray, List.set_cons_zero, List.set_cons_succ]
        refine takeL 11 (v := ?_) rfl (by kernel_rfl) (by kernel_rfl) (by kernel_rfl) (fun _ _ _ h => h) (Or.inl ⟨by rfl, ?_⟩) hHeld ?_
        rotate_left 1
        · (intro w hSw; go_simp; try with_reducible rfl)
        try simp only [Act.put, List.setIfInBounds_toArray, List.set_cons_zero, List.set_cons_succ]
        refine wpAnyH_done (by kernel_rfl) ?_ _
        refine NoPanic.normal ?_
        clear hHeld
        clear HSS HLs
        cases L
        · have k0 : W1.cell? ⟨g, k * 5, none⟩ = some (.int .i64 yi) := GY.out _ P9.out.2 0 _ rfl
          have k1 : W1.cell? ⟨g, k * 5 + 1, none⟩ = some (.int .i64 yr) := GY.out _ P9.out.2 1 _ rfl
          have k2 : W1.cell? ⟨g, k * 5 + 2, none⟩ = some (.int .i64 yx) := GY.out _ P9.out.2 2 _ rfl
          have k3 : W1.cell? ⟨g, k * 5 + 3, none⟩ = some (.int .i64 yq) := GY.out _ P9.out.2 3 _ rfl
          have k4 : W1.cell? ⟨g, k * 5 + 4, none⟩ = some (yv) := GY.out _ P9.out.2 4 _ rfl
          have A0 : Bx (OwnE (W1.alloc (.cells #[.int .i64 yi, .int .i64 yr, .int .i64 yx, .int .i64 yq, yv] 50)) wa.heap.size (.slice o1 o2 o3) vals ∧ Below wa.heap.size wa (W1.alloc (.cells #[.int .i64 yi, .int .i64 yr, .int .i64 yx, .int .i64 yq, yv] 50))) := Bx.mk ⟨P9.out.1.later (below_a _), P9.out.2.trans ((below_a _).mono P9.out.2.size)⟩
          go_wp2_with (refine wpList_apE rfl _ _ rfl wa.heap.size _ vals (by rfl) A0.out.1 W1.heap.size 0 ((⟨yi, yr, yx, yq⟩ : Cl), yv) (HYv.out) 1 (by rfl) (row_rng (l := eC ((⟨yi, yr, yx, yq⟩ : Cl), yv)) (hnew _ _ _ rfl)) (by have := HLen.out; simp; omega) A0.out.2.size ?_; intro v5 w5 ho hg; have P1 : Bx (OwnE w5 wa.heap.size v5 (vals ++ [((⟨yi, yr, yx, yq⟩ : Cl), yv)]) ∧ Below wa.heap.size wa w5) := Bx.mk ⟨ho, A0.out.2.trans (own_belowE A0.out.1 hg A0.out.2.size)⟩; clear ho hg)
          clear k0 k1 k2 k3 k4 A0 P9
          obtain ⟨s0, t0, hs0⟩ := P1.out.1.form
          subst hs0
          go_roundw
          case rel => exact ⟨k + 1, _, _, _, _, _, by omega, by go_num, rfl, rfl, ⟨P1.out.1, P1.out.2, HS.out.not HY.out.1 HY.out.2 HLq.out⟩⟩
          case measure => simp [intOf]; omega
        · have k0 : W1.cell? ⟨X, 0, none⟩ = some (.int .i64 i) := by rw [cell_of_row _ _ _ _ _ _ (HX.out _ P9.out.2)]; rfl
          have k1 : W1.cell? ⟨X, 1, none⟩ = some (.int .i64 r) := by rw [cell_of_row _ _ _ _ _ _ (HX.out _ P9.out.2)]; rfl
          have k2 : W1.cell? ⟨X, 2, none⟩ = some (.int .i64 x) := by rw [cell_of_row _ _ _ _ _ _ (HX.out _ P9.out.2)]; rfl
          have k3 : W1.cell? ⟨X, 3, none⟩ = some (.int .i64 q) := by rw [cell_of_row _ _ _ _ _ _ (HX.out _ P9.out.2)]; rfl
          have k4 : W1.cell? ⟨X, 4, none⟩ = some (kv) := by rw [cell_of_row _ _ _ _ _ _ (HX.out _ P9.out.2)]; rfl
          have A0 : Bx (OwnE (W1.alloc (.cells #[.int .i64 i, .int .i64 r, .int .i64 x, .int .i64 q, kv] 50)) wa.heap.size (.slice o1 o2 o3) vals ∧ Below wa.heap.size wa (W1.alloc (.cells #[.int .i64 i, .int .i64 r, .int .i64 x, .int .i64 q, kv] 50))) := Bx.mk ⟨P9.out.1.later (below_a _), P9.out.2.trans ((below_a _).mono P9.out.2.size)⟩
          go_upto_region 8 with (refine wpList_apE rfl _ _ rfl wa.heap.size _ vals (by rfl) A0.out.1 W1.heap.size 0 ((⟨i, r, x, q⟩ : Cl), kv) (HO.out.1) 1 (by rfl) (row_rng (l := eC ((⟨i, r, x, q⟩ : Cl), kv)) (hnew _ _ _ rfl)) (by have := HLen.out; simp; omega) A0.out.2.size ?_; intro v5 w5 ho hg; have P1 : Bx (OwnE w5 wa.heap.size v5 (vals ++ [((⟨i, r, x, q⟩ : Cl), kv)]) ∧ Below wa.heap.size wa w5) := Bx.mk ⟨ho, A0.out.2.trans (own_belowE A0.out.1 hg A0.out.2.size)⟩; clear ho hg)
          clear k0 k1 k2 k3 k4 A0 P9
          obtain ⟨s0, t0, hs0⟩ := P1.out.1.form
          subst hs0
          have k0 : w5.cell? ⟨g, k * 5, none⟩ = some (.int .i64 yi) := GY.out _ P1.out.2 0 _ rfl
          have k1 : w5.cell? ⟨g, k * 5 + 1, none⟩ = some (.int .i64 yr) := GY.out _ P1.out.2 1 _ rfl
          have k2 : w5.cell? ⟨g, k * 5 + 2, none⟩ = some (.int .i64 yx) := GY.out _ P1.out.2 2 _ rfl
          have k3 : w5.cell? ⟨g, k * 5 + 3, none⟩ = some (.int .i64 yq) := GY.out _ P1.out.2 3 _ rfl
          have k4 : w5.cell? ⟨g, k * 5 + 4, none⟩ = some (yv) := GY.out _ P1.out.2 4 _ rfl
          have A1 : Bx (OwnE (w5.alloc (.cells #[.int .i64 yi, .int .i64 yr, .int .i64 yx, .int .i64 yq, yv] 50)) wa.heap.size (.slice s0 ((vals ++ [((⟨i, r, x, q⟩ : Cl), kv)])).length t0) (vals ++ [((⟨i, r, x, q⟩ : Cl), kv)]) ∧ Below wa.heap.size wa (w5.alloc (.cells #[.int .i64 yi, .int .i64 yr, .int .i64 yx, .int .i64 yq, yv] 50))) := Bx.mk ⟨P1.out.1.later (below_a _), P1.out.2.trans ((below_a _).mono P1.out.2.size)⟩
          go_wp2_with (refine wpList_apE rfl _ _ rfl wa.heap.size _ (vals ++ [((⟨i, r, x, q⟩ : Cl), kv)]) (by rfl) A1.out.1 w5.heap.size 0 ((⟨yi, yr, yx, yq⟩ : Cl), yv) (HYv.out) 1 (by rfl) (row_rng (l := eC ((⟨yi, yr, yx, yq⟩ : Cl), yv)) (hnew _ _ _ rfl)) (by have := HLen.out; simp; omega) A1.out.2.size ?_; intro v6 w6 ho hg; have P2 : Bx (OwnE w6 wa.heap.size v6 ((vals ++ [((⟨i, r, x, q⟩ : Cl), kv)]) ++ [((⟨yi, yr, yx, yq⟩ : Cl), yv)]) ∧ Below wa.heap.size wa w6) := Bx.mk ⟨ho, A1.out.2.trans (own_belowE A1.out.1 hg A1.out.2.size)⟩; clear ho hg)
          clear k0 k1 k2 k3 k4 A1 P1
          obtain ⟨s1, t1, hs1⟩ := P2.out.1.form
          subst hs1
          go_roundw
          case rel => exact ⟨k + 1, _, _, _, _, _, by omega, by go_num, rfl, rfl, ⟨P2.out.1, P2.out.2, HS.out.now HY.out.1 HY.out.2 HLq.out⟩⟩
          case measure => simp [intOf]; omega
      · go_upto_region 6 with fail
        have P0 : Bx (OwnE wr.drew wa.heap.size (.slice o1 o2 o3) vals ∧ Below wa.heap.size wa wr.drew) := Bx.mk ⟨HI.out.1.later (Below.refl _ _).drew, HI.out.2.1.drew⟩
        have HS := Bx.mk HI.out.2.2
        refine wp_region_noPanic ?_
        refine wp_region_held_drew (S := fun _ => True) (by kernel_rfl) (trivial) (fun hHeld => ?_)
        generalize wr.drew = W0 at *
        clear HI
        clear wr
        refine takeL 0 (v := ?_) rfl (by kernel_rfl) (by kernel_rfl) (by kernel_rfl) (fun _ _ _ h => h) (Or.inl ⟨by rfl, ?_⟩) hHeld ?_
        rotate_left 1
        · (intro w hSw; go_simp; try with_reducible rfl)
        try simp only [Act.put, List.setIfInBounds_toArray, List.set_cons_zero, List.set_cons_succ]
        refine takeL 1 (v := ?_) rfl (by kernel_rfl) (by kernel_rfl) (by kernel_rfl) (fun _ _ _ h => h) (Or.inl ⟨by rfl, ?_⟩) hHeld ?_
        rotate_left 1
        · (intro w hSw; go_simp; try with_reducible rfl)
        try simp only [Act.put, List.setIfInBounds_toArray, List.set_cons_zero, List.set_cons_succ]
        refine takeL 2 (v := ?_) rfl (by kernel_rfl) (by kernel_rfl) (by kernel_rfl) (fun _ _ _ h => h) (Or.inl ⟨by rfl, ?_⟩) hHeld ?_
        rotate_left 1
        · (intro w hSw; go_simp; try with_reducible rfl)
        try simp only [Act.put, List.setIfInBounds_toArray, List.set_cons_zero, List.set_cons_succ]
        refine takeL 3 (v := undef) rfl (by kernel_rfl) (by kernel_rfl) (by kernel_rfl) (fun _ _ _ h => h) (Or.inr ⟨by rfl, rfl⟩) hHeld ?_
        try simp only [Act.put, List.setIfInBounds_toArray, List.set_cons_zero, List.set_cons_succ]
        refine takeL 4 (v := undef) rfl (by kernel_rfl) (by kernel_rfl) (by kernel_rfl) (fun _ _ _ h => h) (Or.inr ⟨by rfl, rfl⟩) hHeld ?_
        try simp only [Act.put, List.setIfInBounds_toArray, List.set_cons_zero, List.set_cons_succ]
        refine takeL 5 (v := undef) rfl (by kernel_rfl) (by kernel_rfl) (by kernel_rfl) (fun _ _ _ h => h) (Or.inr ⟨by rfl, rfl⟩) hHeld ?_
        try simp only [Act.put, List.setIfInBounds_toArray, List.set_cons_zero, List.set_cons_succ]
        refine takeL 6 (v := undef) rfl (by kernel_rfl) (by kernel_rfl) (by kernel_rfl) (fun _ _ _ h => h) (Or.inr ⟨by rfl, rfl⟩) hHeld ?_
        try simp only [Act.put, List.setIfInBounds_toArray, List.set_cons_zero, List.set_cons_succ]
        refine takeL 7 (v := undef) rfl (by kernel_rfl) (by kernel_rfl) (by kernel_rfl) (fun _ _ _ h => h) (Or.inr ⟨by rfl, rfl⟩) hHeld ?_
        try simp only [Act.put, List.setIfInBounds_toArray, List.set_cons_zero, List.set_cons_succ]
        refine takeL 8 (v := undef) rfl (by kernel_rfl) (by kernel_rfl) (by kernel_rfl) (fun _ _ _ h => h) (Or.inr ⟨by rfl, rfl⟩) hHeld ?_
        try simp only [Act.put, List.setIfInBounds_toArray, List.set_cons_zero, List.set_cons_succ]
        refine takeL 9 (v := undef) rfl (by kernel_rfl) (by kernel_rfl) (by kernel_rfl) (fun _ _ _ h => h) (Or.inr ⟨by rfl, rfl⟩) hHeld ?_
        try simp only [Act.put, List.setIfInBounds_toArray, List.set_cons_zero, List.set_cons_succ]
        refine takeL 10 (v := undef) rfl (by kernel_rfl) (by kernel_rfl) (by kernel_rfl) (fun _ _ _ h => h) (Or.inr ⟨by rfl, rfl⟩) hHeld ?_
        try simp only [Act.put, List.setIfInBounds_toArray, List.set_cons_zero, List.set_cons_succ]
        refine takeL 11 (v := ?_) rfl (by kernel_rfl) (by kernel_rfl) (by kernel_rfl) (fun _ _ _ h => h) (Or.inl ⟨by rfl, ?_⟩) hHeld ?_
        rotate_left 1
        · (intro w hSw; go_simp; try with_reducible rfl)
        try simp only [Act.put, List.setIfInBounds_toArray, List.set_cons_zero, List.set_cons_succ]
        refine wpAnyH_done (by kernel_rfl) ?_ _
        refine NoPanic.normal ?_
        clear hHeld
        clear HSS HLs
        have k0 : W0.cell? ⟨g, k * 5, none⟩ = some (.int .i64 yi) := GY.out _ P0.out.2 0 _ rfl
        have k1 : W0.cell? ⟨g, k * 5 + 1, none⟩ = some (.int .i64 yr) := GY.out _ P0.out.2 1 _ rfl
        have k2 : W0.cell? ⟨g, k * 5 + 2, none⟩ = some (.int .i64 yx) := GY.out _ P0.out.2 2 _ rfl
        have k3 : W0.cell? ⟨g, k * 5 + 3, none⟩ = some (.int .i64 yq) := GY.out _ P0.out.2 3 _ rfl
        have k4 : W0.cell? ⟨g, k * 5 + 4, none⟩ = some (yv) := GY.out _ P0.out.2 4 _ rfl
        have A0 : Bx (OwnE (W0.alloc (.cells #[.int .i64 yi, .int .i64 yr, .int .i64 yx, .int .i64 yq, yv] 50)) wa.heap.size (.slice o1 o2 o3) vals ∧ Below wa.heap.size wa (W0.alloc (.cells #[.int .i64 yi, .int .i64 yr, .int .i64 yx, .int .i64 yq, yv] 50))) := Bx.mk ⟨P0.out.1.later (below_a _), P0.out.2.trans ((below_a _).mono P0.out.2.size)⟩
        go_wp2_with (refine wpList_apE rfl _ _ rfl wa.heap.size _ vals (by rfl) A0.out.1 W0.heap.size 0 ((⟨yi, yr, yx, yq⟩ : Cl), yv) (HYv.out) 1 (by rfl) (row_rng (l := eC ((⟨yi, yr, yx, yq⟩ : Cl), yv)) (hnew _ _ _ rfl)) (by have := HLen.out; simp; omega) A0.out.2.size ?_; intro v5 w5 ho hg; have P1 : Bx (OwnE w5 wa.heap.size v5 (vals ++ [((⟨yi, yr, yx, yq⟩ : Cl), yv)]) ∧ Below wa.heap.size wa w5) := Bx.mk ⟨ho, A0.out.2.trans (own_belowE A0.out.1 hg A0.out.2.size)⟩; clear ho hg)
        clear k0 k1 k2 k3 k4 A0 P0
        obtain ⟨s0, t0, hs0⟩ := P1.out.1.form
        subst hs0
        go_roundw
        case rel => exact ⟨k + 1, _, _, _, _, _, by omega, by go_num, rfl, rfl, ⟨P1.out.1, P1.out.2, HS.out.put HY.out.1 HY.out.2⟩⟩
        case measure => simp [intOf]; omega
    · obtain rfl : k = n := by omega
      have HX : Bx (∀ W, Below wa.heap.size wa W → W.heap[X]? = some (.cells #[.int .i64 i, .int .i64 r, .int .i64 x, .int .i64 q, kv] 50 (0, 0))) := Bx.mk fun W hb => by rw [hb.block X HW.out.2.2.2]; exact HW.out.2.1
      have HLen : Bx (vals.length ≤ 101) := Bx.mk (by have := HI.out.2.2.length; rw [HN.out] at this; omega)
      have HT : Bx (m.take k = m) := Bx.mk (List.take_of_length_le (by rw [HN.out]; exact Nat.le_refl _))
      have HS := HI.out.2.2
      unfold AddS at HS
      rw [HT.out] at HS
      have P0 : Bx (OwnE wr wa.heap.size (.slice o1 o2 o3) vals ∧ Below wa.heap.size wa wr) := Bx.mk ⟨HI.out.1, HI.out.2.1⟩
      clear HI
      cases pb
      · have HV : Bx (vals ++ [((⟨i, r, x, q⟩ : Cl), kv)] = insE ((⟨i, r, x, q⟩ : Cl), kv) m) := Bx.mk (by
          rcases HS with ⟨_, h1, h2⟩ | ⟨h, _⟩
          · rw [h1, insE_none _ _ h2]
          · cases h)
        clear HS
        have k0 : wr.cell? ⟨X, 0, none⟩ = some (.int .i64 i) := by rw [cell_of_row _ _ _ _ _ _ (HX.out _ P0.out.2)]; rfl
        have k1 : wr.cell? ⟨X, 1, none⟩ = some (.int .i64 r) := by rw [cell_of_row _ _ _ _ _ _ (HX.out _ P0.out.2)]; rfl
        have k2 : wr.cell? ⟨X, 2, none⟩ = some (.int .i64 x) := by rw [cell_of_row _ _ _ _ _ _ (HX.out _ P0.out.2)]; rfl
        have k3 : wr.cell? ⟨X, 3, none⟩ = some (.int .i64 q) := by rw [cell_of_row _ _ _ _ _ _ (HX.out _ P0.out.2)]; rfl
        have k4 : wr.cell? ⟨X, 4, none⟩ = some (kv) := by rw [cell_of_row _ _ _ _ _ _ (HX.out _ P0.out.2)]; rfl
        have A0 : Bx (OwnE (wr.alloc (.cells #[.int .i64 i, .int .i64 r, .int .i64 x, .int .i64 q, kv] 50)) wa.heap.size (.slice o1 o2 o3) vals ∧ Below wa.heap.size wa (wr.alloc (.cells #[.int .i64 i, .int .i64 r, .int .i64 x, .int .i64 q, kv] 50))) := Bx.mk ⟨P0.out.1.later (below_a _), P0.out.2.trans ((below_a _).mono P0.out.2.size)⟩
        go_wp2_with (refine wpList_apE rfl _ _ rfl wa.heap.size _ vals (by rfl) A0.out.1 wr.heap.size 0 ((⟨i, r, x, q⟩ : Cl), kv) HO.out.1 1 (by rfl) (row_rng (l := eC ((⟨i, r, x, q⟩ : Cl), kv)) (hnew _ _ _ rfl)) (by have := HLen.out; omega) A0.out.2.size ?_; intro v5 w5 ho hg; have P1 : Bx (OwnE w5 wa.heap.size v5 (insE ((⟨i, r, x, q⟩ : Cl), kv) m) ∧ Below wa.heap.size wa w5) := Bx.mk ⟨by rw [← HV.out]; exact ho, A0.out.2.trans (own_belowE A0.out.1 hg A0.out.2.size)⟩; clear ho hg)
        try rw [Exit.noGoto_ret]
        go_ret
        exact ⟨_, rfl, P1.out.1.weak HW.out.2.2.1.size, HW.out.2.2.1.trans (P1.out.2.mono HW.out.2.2.1.size)⟩
      · have HV : Bx (vals = insE ((⟨i, r, x, q⟩ : Cl), kv) m) := Bx.mk (by
          rcases HS with ⟨h, _⟩ | ⟨_, h1, _⟩
          · cases h
          · exact h1)
        clear HS
        go_wp2
        try rw [Exit.noGoto_ret]
        go_ret
        exact ⟨_, rfl, by rw [← HV.out]; exact P0.out.1.weak HW.out.2.2.1.size, HW.out.2.2.1.trans (P0.out.2.mono HW.out.2.2.1.size)⟩
end Go.Proofs.YtnefpjdjnjcmbaaGreatDoor
namespace Go.Proofs.YtnefpjdjnjcmbaaGreatDoor
open Go Go.RowKit
theorem le_trans3 (x y z : Cl) (h1 : lessC y x = false) (h2 : lessC z y = false) : lessC z x = false := by
  have h := cmp_swo.ntrans z y x (by rw [lt_less]; exact h2) (by rw [lt_less]; exact h1)
  rw [lt_less] at h
  exact h
theorem sortC_sorted (a : List Cl) : (sortC a).Pairwise (fun x y => lessC y x = false) := by
  have tr : ∀ x y z : Cl, (!(Go.Proofs.ltOf cmpC) y x) = true → (!(Go.Proofs.ltOf cmpC) z y) = true → (!(Go.Proofs.ltOf cmpC) z x) = true := fun x y z h1 h2 => by
    simp only [Bool.not_eq_true'] at *
    exact cmp_swo.ntrans z y x h2 h1
  have to : ∀ x y : Cl, ((!(Go.Proofs.ltOf cmpC) y x) || (!(Go.Proofs.ltOf cmpC) x y)) = true := fun x y => by
    rw [lt_less, lt_less]
    cases h : lessC y x
    · rfl
    · rw [less_asymm h]; rfl
  refine (List.pairwise_mergeSort tr to a).imp fun {x y} h => ?_
  rw [lt_less, Bool.not_eq_true'] at h
  exact h
theorem sorted_eq {a b : List Cl} (hp : a.Perm b) (ha : a.Pairwise (fun x y => lessC y x = false)) (hb : b.Pairwise (fun x y => lessC y x = false)) : a = b := by
  refine List.Perm.eq_of_pairwise (le := fun x y => lessC y x = false) (fun x y _ _ h1 h2 => ?_) ha hb hp
  rcases less_cases x y with k | k | k
  · rw [k] at h2; cases h2
  · exact k
  · rw [k] at h1; cases h1
theorem sortC_eq {a b : List Cl} (hp : a.Perm b) (hb : b.Pairwise (fun x y => lessC y x = false)) : sortC a = b := sorted_eq ((sortC_perm a).trans hp) (sortC_sorted a) hb
theorem insE_perm (e : Cl × Value) : ∀ a : List (Cl × Value), (insE e a).Perm (e :: a)
  | [] => List.Perm.refl _
  | z :: a => by
    rw [insE]
    split
    · exact List.Perm.refl _
    · exact ((insE_perm e a).cons z).trans (List.Perm.swap e z a)
theorem insE_sorted (e : Cl × Value) : ∀ a : List (Cl × Value), (a.map (·.1)).Pairwise (fun x y => lessC y x = false) → ((insE e a).map (·.1)).Pairwise (fun x y => lessC y x = false)
  | [], _ => by simp [insE]
  | z :: a, h => by
    rw [List.map_cons, List.pairwise_cons] at h
    rw [insE]
    split
    · next hl =>
      rw [List.map_cons, List.map_cons, List.pairwise_cons, List.pairwise_cons]
      refine ⟨fun y hy => ?_, h⟩
      rcases List.mem_cons.1 hy with rfl | hy
      · exact less_asymm hl
      · exact le_trans3 _ _ _ (less_asymm hl) (h.1 y hy)
    · next hl =>
      rw [List.map_cons, List.pairwise_cons]
      refine ⟨fun y hy => ?_, insE_sorted e a h.2⟩
      have hp := ((insE_perm e a).map (·.1)).subset hy
      rcases List.mem_cons.1 hp with rfl | hp
      · simpa using hl
      · exact h.1 y hp
/-- What is known, with one more. -/
theorem sort_ins {l : List Cl} {m : List (Cl × Value)} (h : m.map (·.1) = sortC l) (e : Cl × Value) : (insE e m).map (·.1) = sortC (l ++ [e.1]) := by
  refine (sortC_eq ?_ (insE_sorted e m (by rw [h]; exact sortC_sorted l))).symm
  refine List.Perm.trans ?_ ((insE_perm e m).map (·.1)).symm
  rw [List.map_cons, h]
  exact (List.perm_append_singleton e.1 l).trans ((sortC_perm l).symm.cons e.1)
theorem sort_filter (l : List Cl) (p : Cl → Bool) : sortC (l.filter p) = (sortC l).filter p :=
  sortC_eq ((sortC_perm l).symm.filter p) ((sortC_sorted l).filter p)
theorem erase_filter {m : List (Cl × Value)} (nd : (m.map (·.1)).Nodup) {k : Nat} (hk : k < m.length) : (m.eraseIdx k).map (·.1) = (m.map (·.1)).filter fun y => decide (y ≠ (m.getD k e0).1) := by
  induction m generalizing k with
  | nil => exact absurd hk (Nat.not_lt_zero _)
  | cons z m ih =>
    rw [List.map_cons, List.nodup_cons] at nd
    match k with
    | 0 =>
      rw [List.eraseIdx_zero, List.tail_cons, List.map_cons, List.getD_cons_zero, List.filter_cons_of_neg (by simp)]
      symm
      rw [List.filter_eq_self]
      intro y hy
      have : y ≠ z.1 := fun e => nd.1 (e ▸ hy)
      simpa using this
    | k + 1 =>
      have hk' : k < m.length := by simpa using hk
      rw [List.eraseIdx_cons_succ, List.map_cons, List.getD_cons_succ, List.map_cons, ih nd.2 hk', List.filter_cons_of_pos]
      have hmem : (m.getD k e0).1 ∈ m.map (·.1) := by
        refine List.mem_map.2 ⟨m.getD k e0, ?_, rfl⟩
        simp [List.getD_eq_getElem?_getD, hk']
      have : z.1 ≠ (m.getD k e0).1 := fun e => nd.1 (e ▸ hmem)
      simpa using this
/-- What is known, with one less. -/
theorem sort_erase {l : List (Cl × Nat)} {m : List (Cl × Value)} (nd : l.Pairwise (fun x y => x.1 ≠ y.1)) (h : m.map (·.1) = sortC (l.map (·.1))) {k : Nat} (hk : k < m.length) :
    (m.eraseIdx k).map (·.1) = sortC ((l.filter fun y => decide (y.1 ≠ (m.getD k e0).1)).map (·.1)) := by
  have nd1 : (m.map (·.1)).Nodup := by
    rw [h]
    refine (sortC_perm _).nodup_iff.2 ?_
    unfold List.Nodup
    rw [List.pairwise_map]
    exact nd
  rw [erase_filter nd1 hk, h, ← sort_filter, List.filter_map]
  rfl
/-- Whose key it is, and where it is known. -/
theorem find_at {l : List (Cl × Nat)} {m : List (Cl × Value)} (h : m.map (·.1) = sortC (l.map (·.1))) (c : Cl) (hn : ∀ k, k < m.length → (m.getD k e0).1 ≠ c) : atC l c = none := atC_none fun x hx e => by
  have h1 : c ∈ m.map (·.1) := by
    rw [h]
    exact (sortC_perm _).mem_iff.2 (List.mem_map.2 ⟨x, hx, e⟩)
  obtain ⟨y, hy, h2⟩ := List.mem_map.1 h1
  obtain ⟨k, hk, h3⟩ := List.getElem_of_mem hy
  exact hn k hk (by simp [List.getD_eq_getElem?_getD, hk, h3, h2])
theorem known_at {l : List (Cl × Nat)} {m : List (Cl × Value)} (nd : l.Pairwise (fun x y => x.1 ≠ y.1)) (h : m.map (·.1) = sortC (l.map (·.1))) {k : Nat} (hk : k < m.length) : ∃ p, ((m.getD k e0).1, p) ∈ l ∧ atC l (m.getD k e0).1 = some p := by
  have h1 : (m.getD k e0).1 ∈ l.map (·.1) := by
    have : (m.getD k e0).1 ∈ m.map (·.1) := by
      refine List.mem_map.2 ⟨m.getD k e0, ?_, rfl⟩
      simp [List.getD_eq_getElem?_getD, hk]
    rw [h] at this
    exact (sortC_perm _).mem_iff.1 this
  obtain ⟨x, hx, h2⟩ := List.mem_map.1 h1
  refine ⟨x.2, ?_, ?_⟩
  · rw [← h2]; exact hx
  · rw [← h2]; exact atC_some nd hx
end Go.Proofs.YtnefpjdjnjcmbaaGreatDoor
namespace Go.Proofs.YtnefpjdjnjcmbaaGreatDoor
open Go Go.ChangeShapes Go.WideShapes Go.ChangeAt Go.RowKit
/-- A call: its kind, a role, claims, bytes. -/
structure Ac where
  kd : Int
  ro : Int
  c : Cl
  k : List UInt8
def Ac.zero : Ac := ⟨0, 0, ⟨0, 0, 0, 0⟩, []⟩
/-- A call's numbers are numbers. -/
def Ac.fit (a : Ac) : Prop := in64 a.kd ∧ in64 a.ro ∧ Cl64 a.c ∧ a.k.length ≤ 9223372036854775807
/-- Calls behind a slice. -/
def Acts (w : World) (v : Value) (acs : List Ac) : Prop :=
  ∃ a cap, v = .slice a acs.length cap ∧ acs.length ≤ cap ∧ (a = none → cap = 0) ∧ (0 < acs.length → ∃ b o, a = some ⟨b, o, none⟩ ∧ ∀ i, i < acs.length → ∃ vb, w.rangeAt b (o + i * 7) [.int .i64 (acs.getD i Ac.zero).kd, .int .i64 (acs.getD i Ac.zero).ro, .int .i64 (acs.getD i Ac.zero).c.id, .int .i64 (acs.getD i Ac.zero).c.ro, .int .i64 (acs.getD i Ac.zero).c.ex, .int .i64 (acs.getD i Ac.zero).c.se, vb] ∧ Bytes w vb (acs.getD i Ac.zero).k ∧ (acs.getD i Ac.zero).fit)
theorem range_acts {w w1 : World} {b o : Nat} {x : Value} {l : List Value} (h : w.rangeAt b o (x :: l)) (hb : Below w.heap.size w w1) : w1.rangeAt b o (x :: l) := fun j u hj => by
  have h1 := h j u hj
  rw [hb.cell (World.block_lt_of_cell? _ _ h1)]
  exact h1
theorem Acts.later {w w1 : World} {v : Value} {acs : List Ac} (h : Acts w v acs) (hb : Below w.heap.size w w1) : Acts w1 v acs := by
  obtain ⟨a, cap, hv, hc, hn, hr⟩ := h
  refine ⟨a, cap, hv, hc, hn, fun hp => ?_⟩
  obtain ⟨b, o, ha, hi⟩ := hr hp
  refine ⟨b, o, ha, fun i hil => ?_⟩
  obtain ⟨vb, h1, h2, h3⟩ := hi i hil
  exact ⟨vb, range_acts h1 hb, h2.later hb, h3⟩
set_option maxRecDepth 100000 in
theorem act_in {H : Type} {enc : TypeId × Value → H} {W : World} {fuel : Nat} {cs : List Value} {x : DataW H × List MemPlace} (h : DataW.trod enc Tryz.prog W 0 (fun _ => true) true fuel 40 cs = some x) :
    ∃ a : Ac, ∃ vb, cs = [.int .i64 a.kd, .int .i64 a.ro, .int .i64 a.c.id, .int .i64 a.c.ro, .int .i64 a.c.ex, .int .i64 a.c.se, vb] ∧ Bytes W vb a.k ∧ a.fit := by
  obtain ⟨xs, n, -, -, hlen, hxl, hf⟩ := DataW.trod_struct Tryz.underlying40 h
  have hl7 : cs.length = 7 := hlen.trans (by kernel_rfl)
  have hx4 : xs.length = 4 := hxl
  match cs, hl7, xs, hx4 with
  | [c0, c1, c2, c3, c4, c5, c6], _, [y0, y1, y2, y3], _ =>
    have g0 : DataW.trod enc Tryz.prog W 0 (fun _ => true) true n 3 [c0] = some y0 := hf 0 _ rfl
    have g1 : DataW.trod enc Tryz.prog W 0 (fun _ => true) true n 3 [c1] = some y1 := hf 1 _ rfl
    have g2 : DataW.trod enc Tryz.prog W 0 (fun _ => true) true n 24 [c2, c3, c4, c5] = some y2 := hf 2 _ rfl
    have g3 : DataW.trod enc Tryz.prog W 0 (fun _ => true) true n 22 [c6] = some y3 := hf 3 _ rfl
    obtain ⟨zs, n2, -, -, hlen2, hxl2, hf2⟩ := DataW.trod_struct Tryz.underlying24 g2
    have hz4 : zs.length = 4 := hxl2
    match zs, hz4 with
    | [z0, z1, z2, z3], _ =>
      have k0 : DataW.trod enc Tryz.prog W 0 (fun _ => true) true n2 3 [c2] = some z0 := hf2 0 _ rfl
      have k1 : DataW.trod enc Tryz.prog W 0 (fun _ => true) true n2 3 [c3] = some z1 := hf2 1 _ rfl
      have k2 : DataW.trod enc Tryz.prog W 0 (fun _ => true) true n2 3 [c4] = some z2 := hf2 2 _ rfl
      have k3 : DataW.trod enc Tryz.prog W 0 (fun _ => true) true n2 3 [c5] = some z3 := hf2 3 _ rfl
      obtain ⟨s, e0, -, w0⟩ := DataW.trod_int Tryz.underlying3 g0
      obtain ⟨m, e1, -, w1⟩ := DataW.trod_int Tryz.underlying3 g1
      obtain ⟨n0, e2, -, w2⟩ := DataW.trod_int Tryz.underlying3 k0
      obtain ⟨n1, e3, -, w3⟩ := DataW.trod_int Tryz.underlying3 k1
      obtain ⟨n4, e4, -, w4⟩ := DataW.trod_int Tryz.underlying3 k2
      obtain ⟨n5, e5, -, w5⟩ := DataW.trod_int Tryz.underlying3 k3
      obtain ⟨bs, hb, hbl⟩ := raw_bytes g3
      simp at e0 e1 e2 e3 e4 e5
      subst e0 e1 e2 e3 e4 e5
      exact ⟨⟨s, m, ⟨n0, n1, n4, n5⟩, bs⟩, c6, rfl, hb, lit_i64 s w0, lit_i64 m w1, ⟨lit_i64 n0 w2, lit_i64 n1 w3, lit_i64 n4 w4, lit_i64 n5 w5⟩, hbl⟩
set_option maxRecDepth 100000 in
theorem open_acts {H : Type} {enc : TypeId × Value → H} {W : World} {a : Option Addr} {len cap : Nat} {d : DataW H} {p : List MemPlace} (h : DataW.Trod enc Tryz.prog W 0 (fun _ => true) true 25 (.slice a len cap) d p) :
    ∃ acs, Acts W (.slice a len cap) acs ∧ acs.length ≤ 9223372036854775807 := by
  obtain ⟨fuel, hf⟩ := h
  rcases Deep.open_slice Tryz.underlying25 hf with ⟨hcs, _⟩ | ⟨x, l, c, m, n, D, Pl, hcs, _, hl, hm, hmm, _, hi⟩
  · simp [Value.cells] at hcs
    obtain ⟨rfl, rfl, rfl⟩ := hcs
    exact ⟨[], ⟨none, 0, rfl, Nat.le_refl _, fun _ => rfl, fun h => absurd h (by simp)⟩, by simp⟩
  · simp [Value.cells] at hcs
    obtain ⟨rfl, rfl, rfl⟩ := hcs
    have hcm : cap ≤ 9223372036854775807 := hm
    have hm2 : m = cap := by simpa using hmm
    have hC : Tryz.prog.cellsOf 40 = 7 := by kernel_rfl
    have hrow : ∀ i, i < len → ∃ o : Ac, ∃ vb, (∀ j u, [Value.int .i64 o.kd, .int .i64 o.ro, .int .i64 o.c.id, .int .i64 o.c.ro, .int .i64 o.c.ex, .int .i64 o.c.se, vb][j]? = some u → W.cell? (x.add (i * 7 + j)) = some u) ∧ Bytes W vb o.k ∧ o.fit := fun i hil => by
      obtain ⟨cs', hc', ht⟩ := hi i (by omega)
      rw [hC] at hc'
      obtain ⟨_, hcl, hat⟩ := World.cells?_some hc'
      obtain ⟨o, vb, e, hb, hr⟩ := act_in ht
      refine ⟨o, vb, fun j u hj => ?_, hb, hr⟩
      have hj7 : j < 7 := by have := (List.getElem?_eq_some_iff.1 hj).1; simpa using this
      rw [← Deep.add_add, hat j hj7, e]
      exact hj
    haveI : Inhabited Ac := ⟨Ac.zero⟩
    obtain ⟨f, hfb⟩ := Deep.choose_lt hrow
    have hlen : ((List.range len).map f).length = len := by simp
    refine ⟨(List.range len).map f, ⟨some x, cap, by rw [hlen], by rw [hlen]; exact hl, (fun h => by cases h), fun hp => ?_⟩, by rw [hlen]; omega⟩
    rw [hlen] at hp
    obtain ⟨vb0, hc0, -⟩ := hfb 0 hp
    have h00 := hc0 0 _ rfl
    obtain ⟨b, off, spot⟩ := x
    have hspot : spot = none := by simpa [Addr.add] using World.cell?_spot h00
    subst hspot
    refine ⟨b, off, rfl, fun i hi2 => ?_⟩
    rw [hlen] at hi2
    have e : ((List.range len).map f).getD i Ac.zero = f i := by simp [hi2]
    rw [e]
    obtain ⟨vb, hc1, hb1, hl1⟩ := hfb i hi2
    refine ⟨vb, fun j u hj => ?_, hb1, hl1⟩
    have := hc1 j u hj
    rw [Go.WideShapes.add_plain] at this
    show W.cell? ⟨b, off + i * 7 + j, none⟩ = some u
    rw [Nat.add_assoc]
    exact this
end Go.Proofs.YtnefpjdjnjcmbaaGreatDoor
