/-
  The walks of the tags of the document, of derived keys, and of the derived keys of the document.
-/
import Derived.Test.YtnefpjdjnjcmbaaGreatDoorAf
import Derived.OwnWalk
import Derived.Test.YtnefpjdjnjcmbaaGreatDoorAc
import Derived.Test.YtnefpjdjnjcmbaaGreatDoorGa
namespace Go.Proofs.YtnefpjdjnjcmbaaGreatDoor
open Go Go.RowKit
end Go.Proofs.YtnefpjdjnjcmbaaGreatDoor
namespace Go.Proofs.YtnefpjdjnjcmbaaGreatDoor
open Go Go.RowKit
end Go.Proofs.YtnefpjdjnjcmbaaGreatDoor
namespace Go.Proofs.YtnefpjdjnjcmbaaGreatDoor
open Go Go.RowKit
theorem BN.below {W W1 : World} {g : Nat} {v : Value} {l : List UInt8} (h : BN W g v l) (hb : Below W.heap.size W W1) : BN W1 g v l := h.later (kb_below (some g) hb)
/-- What framed has made so far. -/
structure FrS (w : World) (cap : Nat) (xs : List Value) (qs : List (List UInt8)) (W : World) : Prop where
  below : Below w.heap.size w W
  own : W.ownsRow w.heap.size 22 1 (.slice (some ⟨w.heap.size, 0, none⟩) xs.length cap) xs.length xs
  len : xs.length = qs.length
  vals : ∀ j, j < xs.length → BN W w.heap.size (xs.getD j undef) (qs.getD j [])
  lt : w.heap.size < W.heap.size
theorem FrS.later {w W W1 : World} {cap : Nat} {xs : List Value} {qs : List (List UInt8)} (h : FrS w cap xs qs W) (hb : Below W.heap.size W W1) : FrS w cap xs qs W1 :=
  ⟨h.below.trans (hb.mono h.below.size), OwnP.later h.own hb (fun g hg => by injection hg with hg; have := h.lt; simp only at hg; omega), h.len, fun j hj => (h.vals j hj).below hb, Nat.lt_of_lt_of_le h.lt hb.size⟩
theorem FrS.more {w W W1 : World} {cap : Nat} {xs : List Value} {qs : List (List UInt8)} (h : FrS w cap xs qs W) {y z : Value} {p r : List UInt8} (hy : BN W w.heap.size y p) (hz : BN W w.heap.size z r)
    (ho : W1.ownsRow w.heap.size 22 1 (.slice (some ⟨w.heap.size, 0, none⟩) (xs.length + 2) cap) (xs.length + 2) (xs ++ [y, z])) (hk : W.grownBy W1 (some w.heap.size)) : FrS w cap (xs ++ [y, z]) (qs ++ [p, r]) W1 := by
  refine ⟨below_kb h.below h.below.size hk (Nat.le_refl _), by rw [List.length_append]; exact ho, by rw [List.length_append, List.length_append, h.len]; rfl, fun j hj => ?_, Nat.lt_of_lt_of_le h.lt hk.size⟩
  rw [List.length_append] at hj
  by_cases h1 : j < xs.length
  · have e1 : (xs ++ [y, z]).getD j undef = xs.getD j undef := by simp [List.getElem?_append_left h1]
    have e2 : (qs ++ [p, r]).getD j [] = qs.getD j [] := by simp [List.getElem?_append_left (h.len ▸ h1)]
    rw [e1, e2]
    exact (h.vals j h1).later hk
  · have hj2 : j = xs.length ∨ j = xs.length + 1 := by simp at hj; omega
    rcases hj2 with rfl | rfl
    · have e1 : (xs ++ [y, z]).getD xs.length undef = y := by simp
      have e2 : (qs ++ [p, r]).getD xs.length [] = p := by rw [h.len]; simp
      rw [e1, e2]
      exact hy.later hk
    · have e1 : (xs ++ [y, z]).getD (xs.length + 1) undef = z := by simp
      have e2 : (qs ++ [p, r]).getD (xs.length + 1) [] = r := by rw [h.len]; simp
      rw [e1, e2]
      exact hz.later hk
theorem FrS.parts {w W : World} {cap : Nat} {xs : List Value} {qs : List (List UInt8)} (h : FrS w cap xs qs W) : Parts W (.slice (some ⟨w.heap.size, 0, none⟩) xs.length cap) qs :=
  own_parts h.own ⟨h.len, fun j hj => (h.vals j hj).1⟩
theorem framed_succ (l : List UInt8) (pss : List (List UInt8)) (k : Nat) (h : k < pss.length) : framed (l :: pss.take (k + 1)) = framed (l :: pss.take k) ++ [lenB (pss.getD k []).length, pss.getD k []] := by
  unfold framed
  rw [List.take_succ_eq_append_getElem h, ← List.cons_append, List.flatMap_append]
  simp [h]
/-- Two slices more. -/
theorem wpList_ap2 {ops : Array Oper} {rest : List Oper} {o : Oper} {a : Act} {Q : Exit → Act → World → Prop} (hgd : o.guard = none) (s x : Operand) (ho : o.op = .call { callee := .builtin .append, args := #[s, x], argTypes := #[108, 108] })
    (w W0 : World) (cp : Nat) (xs : List Value) (qs : List (List UInt8)) (y z : Value) (p r : List UInt8) (hF : FrS w cp xs qs W0) (hy : BN W0 w.heap.size y p) (hz : BN W0 w.heap.size z r) (oy : y.oneCell' = true) (oz : z.oneCell' = true) (m : Nat) (hm : xs.length = m)
    (hs : a.eval s = .slice (some ⟨w.heap.size, 0, none⟩) m cp) (hx : a.eval x = .slice (some ⟨W0.heap.size, 0, none⟩) 2 2) (hfit : m + 2 ≤ cp)
    (k : ∀ W1, FrS w cp (xs ++ [y, z]) (qs ++ [p, r]) W1 → wpList Tryz.prog ops Q rest (a.put o.dst (.slice (some ⟨w.heap.size, 0, none⟩) (m + 2) cp)) W1) : wpList Tryz.prog ops Q (o :: rest) a (W0.alloc (.cells #[y, z] 22)) := by
  obtain ⟨i0, hi0, hz0, hz1, hz2⟩ := info_parts (P := Tryz.prog) (e := 22) (z := .slice none 0 0) (size := 1) (bytes := 24) (by kernel_rfl)
  have hF' := hF.later (below_a (.cells #[y, z] 22))
  subst hm
  refine wpList_append_fits _ hgd s x 108 ho w.heap.size 22 i0 1 Tryz.underlying108 hi0 hz1 w.heap.size xs.length cp xs hs hF'.own ⟨W0.heap.size, 0, none⟩ 2 2 [y, z] hx rfl ?_ ?_ hfit ?_
  · intro j u hu
    have hj : j < 2 := (List.getElem?_eq_some_iff.1 hu).1
    rw [show (⟨W0.heap.size, 0, none⟩ : Addr).add j = ⟨W0.heap.size, 0 + j, none⟩ by unfold Addr.add; split <;> simp_all, cell_of_row _ _ _ _ _ _ (hnew _ _ _ rfl), Nat.zero_add, ← Array.getElem?_toList]
    exact hu
  · intro u hu
    simp at hu
    rcases hu with rfl | rfl
    · exact oy
    · exact oz
  · intro W1 ho1 hg1
    exact k W1 (hF'.more (hy.below (below_a _)) (hz.below (below_a _)) ho1 hg1)
/-- What framed hands back. -/
def FraP (w : World) (l : List UInt8) (pss : List (List UInt8)) (e : Ending) (w' : World) : Prop := ∃ n cap, e = .returned (.slice (some ⟨w.heap.size, 0, none⟩) n cap) ∧ Parts w' (.slice (some ⟨w.heap.size, 0, none⟩) n cap) (framed (l :: pss)) ∧ Below w.heap.size w w'
set_option maxRecDepth 100000 in
set_option maxHeartbeats 1000000 in
theorem framed_any (l : List UInt8) (pss : List (List UInt8)) (vp : Value) (w : World) (hp : Parts w vp pss) (hl : l.length ≤ 1000000) (hn : pss.length ≤ 1000) (hpl : ∀ p ∈ pss, p.length ≤ 1000000) :
    Calls Tryz.prog 61 #[.string ⟨l.toArray⟩, vp] w (FraP w l pss) := by
  have HP := Bx.mk hp
  have HPL := Bx.mk hpl
  have HL := Bx.mk hl
  obtain ⟨a, cap, rfl, -⟩ := hp
  obtain ⟨n, hnn⟩ : ∃ n, pss.length = n := ⟨_, rfl⟩
  have HN := Bx.mk hnn
  rw [hnn] at HP hn ⊢
  have hn1 : (n : Int) ≤ 1000 := by omega
  have hsz : (⟨l.toArray⟩ : ByteArray).size = l.length := rfl
  obtain ⟨ll, hll⟩ : ∃ ll, l.length = ll := ⟨_, rfl⟩
  have HLL := Bx.mk hll
  rw [hll] at hsz hl
  have hl1 : (ll : Int) ≤ 1000000 := by omega
  clear hnn hpl hll
  obtain ⟨i0, hi0, hz0, hz1, hz2⟩ := info_parts (P := Tryz.prog) (e := 22) (z := .slice none 0 0) (size := 1) (bytes := 24) (by kernel_rfl)
  obtain ⟨cp, hcp⟩ : ∃ cp, cp = 2 + 2 * n := ⟨_, rfl⟩
  have hcp1 : 2 + 2 * (n : Int) = (cp : Int) := by omega
  have HCP := Bx.mk hcp
  clear hcp
  go_enter Tryz.func61, Tryz.ntmps61
  go_upto_region 2 with (refine wpList_make_own w rfl _ _ 108 rfl w.heap.size 22 i0 _ 1 Tryz.underlying108 hi0 hz0 hz1 .i64 .i64 _ cp (by rfl) (by rfl) rfl (by rw [hz2]; have := HCP.out; omega) (by have := HCP.out; unfold maxLen; omega) (Nat.le_refl _) ?_; intro w1 ho1 hg1)
  have H1 : Bx (FrS w cp [] [] w1) := Bx.mk (by
    have hlt : w.heap.size < w1.heap.size := by
      rcases ho1.2 with ⟨hv, _⟩ | ⟨g, c, cur, hv, _, hh, _⟩
      · cases hv
      · injection hv with e1 _ _
        injection e1 with e1
        injection e1 with e1 _
        subst e1
        exact (Array.getElem?_eq_some_iff.1 hh).1
    exact ⟨⟨hg1.os, hg1.tape, hg1.output, hg1.size, fun i hi => hg1.block i hi (by intro e; cases e)⟩, ho1, rfl, (fun j hj => by simp at hj), hlt⟩)
  clear ho1 hg1 hi0 hz0 hz1 hz2
  go_wp2_with fail
  refine (length_any ll w1 (by omega)).mono ?_
  rintro e w2 ⟨rfl, hb2, hy2⟩
  have H2 : Bx (FrS w cp [] [] w2 ∧ BN w2 w.heap.size (.slice (some ⟨w1.heap.size, 0, none⟩) 4 4) (lenB ll)) := Bx.mk ⟨H1.out.later hb2, hy2.bn (by have := H1.out.lt; omega)⟩
  clear hb2 hy2 H1
  generalize w1.heap.size = L1 at *
  go_upto_region 3 with (first | (refine wpList_strb rfl _ rfl l (by rfl) ?_; intro c3 w3 hz3 hb3; have H3 : Bx (FrS w cp [] [] w3 ∧ BN w3 w.heap.size (.slice (some ⟨L1, 0, none⟩) 4 4) (lenB ll) ∧ BN w3 w.heap.size (.slice (some ⟨w2.heap.size, 0, none⟩) l.length c3) l) := Bx.mk ⟨H2.out.1.later hb3, H2.out.2.below hb3, hz3.bn (by have := H2.out.1.lt; omega)⟩; clear hz3 hb3) | (refine wpList_ap2 rfl _ _ rfl w w3 cp [] [] _ _ (lenB ll) l H3.out.1 H3.out.2.1 H3.out.2.2 rfl rfl 0 rfl (by rfl) (by rfl) (by have := HCP.out; omega) ?_; intro w4 hF4; have H4 : Bx (∃ xs : List Value, xs.length = 2 ∧ FrS w cp xs (framed (l :: pss.take 0)) w4) := Bx.mk ⟨_, rfl, by rw [← HLL.out] at hF4; exact hF4⟩; clear hF4))
  go_wp2
  go_loopw [5, 23] (fun vv i wr => ∃ j m : Nat, j ≤ n ∧ m = 2 + 2 * j ∧ vv = .slice (some ⟨w.heap.size, 0, none⟩) m cp ∧ i = .int .i64 (j : Int) ∧ Bx (∃ xs : List Value, xs.length = m ∧ FrS w cp xs (framed (l :: pss.take j)) wr)) (fun _ i _ => n - (intOf i).toNat)
  case atStart => exact ⟨0, 2, by omega, rfl, rfl, rfl, H4⟩
  case round =>
    clear H4 H3 H2
    obtain ⟨j, m, hj, hm, rfl, rfl, HF⟩ := hrel
    by_cases hlt : j < n
    · obtain ⟨a', cap', hv', hr'⟩ := HP.out
      injection hv' with e1 e2 e3
      obtain ⟨p, o, ha, hcell⟩ := hr' (by omega)
      subst e1
      subst ha
      obtain ⟨xv, hx, hxb⟩ := hcell j (by rw [HN.out]; exact hlt)
      obtain ⟨xs, hxs, hF⟩ := HF.out
      have hcw : wr.cell? ⟨p, o + j, none⟩ = some xv := by
        rw [hF.below.cell (p := ⟨p, o + j, none⟩) (World.block_lt_of_cell? _ _ hx)]
        exact hx
      have hpj : (pss.getD j []).length ≤ 1000000 := by
        have h : j < pss.length := by rw [HN.out]; exact hlt
        have hmem : pss.getD j [] ∈ pss := by
          rw [List.getD_eq_getElem?_getD, List.getElem?_eq_getElem h]
          exact List.getElem_mem h
        exact HPL.out _ hmem
      have HSc : Bx (framed (l :: pss.take (j + 1)) = framed (l :: pss.take j) ++ [lenB (pss.getD j []).length, pss.getD j []]) := Bx.mk (framed_succ l pss j (by rw [HN.out]; exact hlt))
      generalize pss.getD j [] = pj at *
      obtain ⟨ax, cx, hxf, -, -⟩ := bytes_form hxb
      obtain ⟨pl, hpl⟩ : ∃ pl, pj.length = pl := ⟨_, rfl⟩
      rw [hpl] at hxf hpj HSc
      have HXB := Bx.mk hxb
      have HF2 := Bx.mk (And.intro hxs hF)
      subst hxf
      have hpl1 : (pl : Int) ≤ 1000000 := by omega
      have hj1 : (j : Int) < (n : Int) := by omega
      have HM := Bx.mk (And.intro hm hlt)
      clear hr' e2 e3 hcell hx hxb hF hxs HF hpl hm
      obtain ⟨wq, rfl⟩ : ∃ wq : World, wq = wr := ⟨_, rfl⟩
      go_wp2_with fail
      refine (length_any pl wq (by omega)).mono ?_
      rintro e w5 ⟨rfl, hb5, hy5⟩
      have H5 : Bx (FrS w cp xs (framed (l :: pss.take j)) w5 ∧ BN w5 w.heap.size (.slice (some ⟨wq.heap.size, 0, none⟩) 4 4) (lenB pl) ∧ BN w5 w.heap.size (.slice ax pl cx) pj) := Bx.mk ⟨HF2.out.2.later hb5, hy5.bn (by have := HF2.out.2.lt; omega), HXB.out.bn_old (HF2.out.2.later hb5).below (Nat.le_refl _)⟩
      have HXL := Bx.mk HF2.out.1
      clear hb5 hy5 HF2 hcw
      generalize wq.heap.size = L5 at *
      go_wp2_with (refine wpList_ap2 rfl _ _ rfl w w5 cp xs _ (.slice (some ⟨L5, 0, none⟩) 4 4) (.slice ax pl cx) (lenB pl) pj H5.out.1 H5.out.2.1 H5.out.2.2 rfl rfl m HXL.out (by rfl) (by rfl) (by have := HCP.out; have := HM.out; omega) ?_; intro w6 hF6; have H6 : Bx (∃ ys : List Value, ys.length = m + 2 ∧ FrS w cp ys (framed (l :: pss.take (j + 1))) w6) := Bx.mk ⟨xs ++ [.slice (some ⟨L5, 0, none⟩) 4 4, .slice ax pl cx], by (rw [List.length_append, HXL.out]; rfl), by (rw [HSc.out]; exact hF6)⟩; clear hF6)
      go_roundw
      case rel => exact ⟨j + 1, m + 2, by omega, by have := HM.out; omega, rfl, by go_num, H6⟩
      case measure => simp [intOf]; omega
    · obtain ⟨xs, hxs, hF⟩ := HF.out
      have ej : pss.take j = pss := List.take_of_length_le (by rw [HN.out]; omega)
      rw [ej] at hF
      have HQ : Bx (Parts wr (.slice (some ⟨w.heap.size, 0, none⟩) m cp) (framed (l :: pss)) ∧ Below w.heap.size w wr) := Bx.mk ⟨by rw [← hxs]; exact hF.parts, hF.below⟩
      clear HF hF ej hxs hm
      go_wp2
      go_ret
      exact ⟨m, cp, rfl, HQ.out⟩
set_option maxRecDepth 100000 in
theorem framed_all (ps : List (List UInt8)) : (framed ps).length = 2 * ps.length := by
  induction ps with
  | nil => rfl
  | cons p ps ih =>
    unfold framed at ih ⊢
    rw [List.flatMap_cons, List.length_append, ih, List.length_cons]
    simp
    omega
theorem framed_len (l : List UInt8) (pss : List (List UInt8)) : (framed (l :: pss)).length = 2 + 2 * pss.length := by
  rw [framed_all, List.length_cons]; omega
theorem frame_cons (p : List UInt8) (ps : List (List UInt8)) : frame (p :: ps) = lenB p.length ++ (p ++ frame ps) := by
  unfold frame framed
  simp
theorem frame_len (ps : List (List UInt8)) (b : Nat) (h : ∀ p ∈ ps, p.length ≤ b) : (frame ps).length ≤ (4 + b) * ps.length := by
  induction ps with
  | nil => simp [frame, framed]
  | cons p ps ih =>
    rw [frame_cons, List.length_append, List.length_append]
    have h1 := h p (by simp)
    have h2 := ih (fun q hq => h q (by simp [hq]))
    have h3 : (lenB p.length).length = 4 := rfl
    rw [h3, List.length_cons, Nat.mul_add, Nat.mul_one]
    omega
set_option maxRecDepth 100000 in
set_option maxHeartbeats 1000000 in
theorem derive_any (key l : List UInt8) (pss : List (List UInt8)) (v vp : Value) (w : World) (hv : Bytes w v key) (hp : Parts w vp pss) (hk : key.length ≤ 1000000) (hl : l.length ≤ 10000) (hn : pss.length ≤ 1000) (hpl : ∀ p ∈ pss, p.length ≤ 10000) (hTab : Tab w) (hg : 0 < w.heap.size) :
    Calls Tryz.prog 53 #[v, .string ⟨l.toArray⟩, vp] w fun e w' => e = .returned (.agg (u8s (hmac key (frame (l :: pss))))) ∧ Below w.heap.size w w' := by
  have HV := Bx.mk hv
  have HP := Bx.mk hp
  have HL := Bx.mk (And.intro hk (And.intro hl (And.intro hn hpl)))
  have HA := Bx.mk hTab
  obtain ⟨a, cap, rfl, -⟩ := hv
  obtain ⟨n, hn1⟩ : ∃ n, key.length = n := ⟨_, rfl⟩
  rw [hn1] at HV ⊢
  clear hk hl hn hpl hTab hp hn1
  obtain ⟨z32, hz32⟩ : ∃ z, u8s (List.replicate 32 0) = z := ⟨_, rfl⟩
  have hz32v : ∀ W : World, (zeroValue 27).run Tryz.prog W = .ok (.agg z32) W := fun W => by rw [← hz32, zero32]; kernel_rfl
  have H0 : Bx (Below w.heap.size w (w.alloc (.cells z32 27)) ∧ (w.alloc (.cells z32 27)).heap[w.heap.size]? = some (.cells (u8s (List.replicate 32 0)) 27 (0, 0)) ∧ w.heap.size < (w.alloc (.cells z32 27)).heap.size) := Bx.mk ⟨below_a _, by rw [hnew _ _ _ rfl, hz32], by simp⟩
  clear hz32
  go_enter Tryz.func53, Tryz.ntmps53
  go_wp2_with fail
  generalize w.alloc (.cells z32 27) = w0 at *
  refine (framed_any l pss vp w0 (HP.out.later H0.out.1) (by have := HL.out; omega) HL.out.2.2.1 (fun p hp => by have := HL.out.2.2.2 p hp; omega)).mono ?_
  rintro e w1 ⟨m, cp, rfl, hq, hb1⟩
  have H1 : Bx (Below w.heap.size w w1 ∧ w1.heap[w.heap.size]? = some (.cells (u8s (List.replicate 32 0)) 27 (0, 0)) ∧ Parts w1 (.slice (some ⟨w0.heap.size, 0, none⟩) m cp) (framed (l :: pss)) ∧ Bytes w1 (.slice a n cap) key) := Bx.mk ⟨H0.out.1.trans (hb1.mono H0.out.1.size), by rw [hb1.block _ H0.out.2.2]; exact H0.out.2.1, hq, (HV.out.later H0.out.1).later hb1⟩
  clear hq hb1 H0 hz32v
  generalize w0.heap.size = G0 at *
  go_wp2_with fail
  refine (tag_any key (framed (l :: pss)) _ _ w1 H1.out.2.2.2 H1.out.2.2.1 HL.out.1 (by have := HL.out; rw [framed_len]; omega) (by
    have h1 := HL.out
    have h2 := frame_len (l :: pss) 10000 (fun p hp => by rcases List.mem_cons.1 hp with rfl | hp; exact h1.2.1; exact h1.2.2.2 p hp)
    rw [List.length_cons] at h2
    show (frame (l :: pss)).length ≤ _
    omega) (HA.out.later H1.out.1 hg) (Nat.lt_of_lt_of_le hg H1.out.1.size)).mono ?_
  rintro e w2 ⟨rfl, hb2⟩
  have H2 : Bx (Below w.heap.size w w2 ∧ w2.heap[w.heap.size]? = some (.cells (u8s (List.replicate 32 0)) 27 (0, 0))) := Bx.mk ⟨H1.out.1.trans (hb2.mono H1.out.1.size), by rw [hb2.block _ (Array.getElem?_eq_some_iff.1 H1.out.2.1).1]; exact H1.out.2.1⟩
  clear hb2 H1
  have HE : Bx (hmac key (framed (l :: pss)).flatten = hmac key (frame (l :: pss))) := Bx.mk rfl
  rw [HE.out]
  have HSL : Bx ((hmac key (frame (l :: pss))).length = 32) := Bx.mk (sha_length _)
  generalize hhm : hmac key (frame (l :: pss)) = hm at *
  have HHM := Bx.mk hhm
  clear hhm
  have HI : Bx ((Tryz.prog.info? 27).map (·.size) = some (u8s hm).size) := Bx.mk (by rw [u8s_size, HSL.out]; kernel_rfl)
  have HZ : Bx ((u8s hm).size = (u8s (List.replicate 32 0)).size) := Bx.mk (by rw [u8s_size, u8s_size, HSL.out]; rfl)
  go_wp2_with (refine wpList_store_new rfl 27 _ _ rfl w.heap.size (u8s hm) _ _ (by rfl) (by rfl) H2.out.2 HZ.out HI.out (one_u8s _) ?_; intro w3 hw3 hr3; have H3 : Bx (Below w.heap.size w w3 ∧ w3.heap[w.heap.size]? = some (.cells (u8s hm) 27 (0, 0))) := Bx.mk ⟨by rw [hw3]; exact below_setCells (Nat.le_refl _) _ _ _ _ H2.out.1, hr3⟩; clear hw3 hr3)
  refine bodyPost_ret (results_cell_row rfl _ _ w.heap.size _ (u8s hm) _ _ rfl H3.out.2 Tryz.underlying27 rfl HI.out) rfl ?_
  exact ⟨by first | rfl | rw [HHM.out], H3.out.1⟩
end Go.Proofs.YtnefpjdjnjcmbaaGreatDoor
namespace Go.Proofs.YtnefpjdjnjcmbaaGreatDoor
open Go Go.RowKit
set_option maxRecDepth 100000 in
set_option maxHeartbeats 400000 in
theorem copied_any (bs : List UInt8) (v : Value) (w : World) (hv : Bytes w v bs) (hl : bs.length ≤ 140737488355328) :
    Calls Tryz.prog 32 #[v] w fun e w' => ∃ v', e = .returned v' ∧ OwnB w' w.heap.size v' bs ∧ Below w.heap.size w w' := by
  have HV := Bx.mk hv
  have HL := Bx.mk hl
  clear hv hl
  go_enter Tryz.func32, Tryz.ntmps32
  go_wp2_with (refine wpList_apT 76 Tryz.underlying76 rfl _ _ rfl w.heap.size _ [] (by rfl) (OwnB.nil _ _) _ bs (by rfl) HV.out (by have := HL.out; simp; omega) (Nat.le_refl _) ?_; intro v1 w1 h1 g1 _; have H1 : Bx (OwnB w1 w.heap.size v1 bs ∧ Below w.heap.size w w1) := Bx.mk ⟨h1, own_below (OwnB.nil _ _) g1 (Nat.le_refl _)⟩; clear h1 g1)
  go_ret
  exact ⟨v1, rfl, H1.out⟩
/-- A key that has its own bytes, none of it older than base. -/
def KeyO (w : World) (base : Nat) (v : Value) (bs : List UInt8) : Prop :=
  ∃ p s, v = .pointer (some ⟨p, 0, none⟩) ∧ base ≤ p ∧ w.heap[p]? = some (.cells #[s] 79 (0, 0)) ∧ OwnB w base s bs
/-- A key. -/
def IsKey (w : World) (v : Value) (bs : List UInt8) : Prop :=
  ∃ p s, v = .pointer (some ⟨p, 0, none⟩) ∧ w.heap[p]? = some (.cells #[s] 79 (0, 0)) ∧ Bytes w s bs
theorem KeyO.key {w : World} {base : Nat} {v : Value} {bs : List UInt8} (h : KeyO w base v bs) : IsKey w v bs := by
  obtain ⟨p, s, hv, _, hr, ho⟩ := h
  exact ⟨p, s, hv, hr, ho.bytes⟩
theorem KeyO.weak {w : World} {base base' : Nat} {v : Value} {bs : List UInt8} (h : KeyO w base v bs) (hb : base' ≤ base) : KeyO w base' v bs := by
  obtain ⟨p, s, hv, hp, hr, h1, h2⟩ := h
  refine ⟨p, s, hv, by omega, hr, h1, ?_⟩
  rcases h2 with h0 | ⟨g, cap, cur, hv', hb', hg, hr'⟩
  · exact .inl h0
  · exact .inr ⟨g, cap, cur, hv', by omega, hg, hr'⟩
theorem IsKey.later {w w1 : World} {v : Value} {bs : List UInt8} (h : IsKey w v bs) (hb : Below w.heap.size w w1) : IsKey w1 v bs := by
  obtain ⟨p, s, hv, hr, ho⟩ := h
  exact ⟨p, s, hv, by rw [hb.block _ (Array.getElem?_eq_some_iff.1 hr).1]; exact hr, ho.later hb⟩
theorem KeyO.later {w w1 : World} {base : Nat} {v : Value} {bs : List UInt8} (h : KeyO w base v bs) (hb : Below w.heap.size w w1) : KeyO w1 base v bs := by
  obtain ⟨p, s, hv, hp, hr, ho⟩ := h
  exact ⟨p, s, hv, hp, by rw [hb.block _ (Array.getElem?_eq_some_iff.1 hr).1]; exact hr, ho.later hb (fun g hg => (ho.lt g hg).1)⟩
set_option maxRecDepth 100000 in
set_option maxHeartbeats 400000 in
theorem new_any (bs : List UInt8) (v : Value) (w : World) (hv : Bytes w v bs) (hl : bs.length ≤ 140737488355328) :
    Calls Tryz.prog 11 #[v] w fun e w' => ∃ v', e = .returned v' ∧ KeyO w' w.heap.size v' bs ∧ Below w.heap.size w w' := by
  have HV := Bx.mk hv
  have HL := Bx.mk hl
  obtain ⟨a, cap, rfl, -⟩ := hv
  obtain ⟨n, hn⟩ : ∃ n, bs.length = n := ⟨_, rfl⟩
  rw [hn] at HV ⊢
  clear hn hl
  go_enter Tryz.func11, Tryz.ntmps11
  go_wp2_with fail
  refine (copied_any bs _ w HV.out HL.out).mono ?_
  rintro e w1 ⟨v1, rfl, ho, hb⟩
  have H1 := Bx.mk (And.intro ho hb)
  obtain ⟨a1, c1, rfl, -⟩ := ho.bytes
  clear ho hb
  go_wp2
  go_ret
  refine ⟨_, rfl, ⟨_, _, rfl, H1.out.2.size, by rw [hnew _ _ _ rfl], ?_⟩, H1.out.2.alloc H1.out.2.size _⟩
  exact H1.out.1.later (below_a _) (fun g hg => (H1.out.1.lt g hg).1)
set_option maxRecDepth 100000 in
set_option maxHeartbeats 400000 in
theorem kbytes_any (bs : List UInt8) (v : Value) (w : World) (hv : IsKey w v bs) (hl : bs.length ≤ 140737488355328) :
    Calls Tryz.prog 17 #[v] w fun e w' => ∃ v', e = .returned v' ∧ OwnB w' w.heap.size v' bs ∧ Below w.heap.size w w' := by
  obtain ⟨p, s, rfl, hr, hv⟩ := hv
  have HV := Bx.mk hv
  have HL := Bx.mk hl
  have hc : w.cell? ⟨p, 0, none⟩ = some s := by rw [cell_of_row _ _ _ _ _ _ hr]; rfl
  obtain ⟨a, cap, rfl, -⟩ := hv
  obtain ⟨n, hn⟩ : ∃ n, bs.length = n := ⟨_, rfl⟩
  rw [hn] at HV hc
  clear hn hl hr
  go_enter Tryz.func17, Tryz.ntmps17
  go_wp2_with fail
  refine (copied_any bs _ w HV.out HL.out).mono ?_
  rintro e w1 ⟨v1, rfl, ho, hb⟩
  have H1 := Bx.mk (And.intro ho hb)
  clear ho hb
  go_wp2
  go_ret
  exact ⟨_, rfl, H1.out⟩
end Go.Proofs.YtnefpjdjnjcmbaaGreatDoor
namespace Go.Proofs.YtnefpjdjnjcmbaaGreatDoor
open Go Go.RowKit
theorem IsKey.parts {w : World} {v : Value} {bs : List UInt8} (h : IsKey w v bs) : ∃ p a cap, v = .pointer (some ⟨p, 0, none⟩) ∧ w.cell? ⟨p, 0, none⟩ = some (.slice a bs.length cap) ∧ Bytes w (.slice a bs.length cap) bs := by
  obtain ⟨p, s, hv, hr, hb⟩ := h
  have hc : w.cell? ⟨p, 0, none⟩ = some s := by rw [cell_of_row _ _ _ _ _ _ hr]; rfl
  have hb' := hb
  obtain ⟨a, cap, rfl, -⟩ := hb
  exact ⟨p, a, cap, hv, hc, hb'⟩
set_option maxRecDepth 100000 in
set_option maxHeartbeats 1000000 in
theorem kderive_any (bs l : List UInt8) (pss : List (List UInt8)) (v vp : Value) (w : World) (hv : IsKey w v bs) (hp : Parts w vp pss) (hk : bs.length ≤ 1000000) (hl : l.length ≤ 10000) (hn : pss.length ≤ 1000) (hpl : ∀ p ∈ pss, p.length ≤ 10000) (hTab : Tab w) (hg : 0 < w.heap.size) :
    Calls Tryz.prog 40 #[v, .string ⟨l.toArray⟩, vp] w fun e w' => ∃ v', e = .returned v' ∧ KeyO w' w.heap.size v' (hmac bs (frame (l :: pss))) ∧ Below w.heap.size w w' := by
  have HP := Bx.mk hp
  have HL := Bx.mk (And.intro hk (And.intro hl (And.intro hn hpl)))
  have HA := Bx.mk hTab
  obtain ⟨p, a, cap, rfl, hc, hb⟩ := hv.parts
  have HB := Bx.mk hb
  obtain ⟨n, hn⟩ : ∃ n, bs.length = n := ⟨_, rfl⟩
  rw [hn] at HB hc
  clear hn hv hb hk hl hpl hTab hp
  obtain ⟨z32, hz32⟩ : ∃ z, u8s (List.replicate 32 0) = z := ⟨_, rfl⟩
  have hz32v : ∀ W : World, (zeroValue 27).run Tryz.prog W = .ok (.agg z32) W := fun W => by rw [← hz32, zero32]; kernel_rfl
  have HZ0 := Bx.mk hz32
  clear hz32
  go_enter Tryz.func40, Tryz.ntmps40
  go_wp2_with fail
  refine (derive_any bs l pss _ _ w HB.out HP.out HL.out.1 HL.out.2.1 HL.out.2.2.1 HL.out.2.2.2 HA.out hg).mono ?_
  rintro e w1 ⟨rfl, hb1⟩
  have H1 := Bx.mk hb1
  clear hb1 HB hc
  have HSL : Bx ((hmac bs (frame (l :: pss))).length = 32) := Bx.mk (sha_length _)
  generalize hhm : hmac bs (frame (l :: pss)) = hm at *
  have HHM := Bx.mk hhm
  clear hhm
  have HI : Bx ((Tryz.prog.info? 27).map (·.size) = some (u8s hm).size) := Bx.mk (by rw [u8s_size, HSL.out]; kernel_rfl)
  have HZ3 : Bx ((u8s hm).size = z32.size) := Bx.mk (by rw [u8s_size, HSL.out, ← HZ0.out]; rfl)
  go_upto_region 4 with (refine wpList_store_var rfl 27 _ _ rfl w1 _ _ rfl (by rfl) (u8s hm) (by rfl) HZ3.out HI.out (one_u8s _) ?_; intro w2 hb2 hr2 hl2)
  have H2 : Bx (Below w.heap.size w w2 ∧ Bytes w2 (.slice (some ⟨w1.heap.size, 0, none⟩) 32 32) hm) := Bx.mk ⟨H1.out.trans (hb2.mono H1.out.size), row_bytes hr2 HSL.out⟩
  clear hb2 hr2 hl2 HZ3 HI HZ0 hz32v H1
  go_wp2_with fail
  refine (new_any hm _ w2 H2.out.2 (by rw [HSL.out]; omega)).mono ?_
  rintro e w3 ⟨v3, rfl, hk3, hb3⟩
  have H3 : Bx (KeyO w3 w.heap.size v3 hm ∧ Below w.heap.size w w3) := Bx.mk ⟨hk3.weak H2.out.1.size, H2.out.1.trans (hb3.mono H2.out.1.size)⟩
  clear hk3 hb3 H2
  go_wp2
  go_ret
  exact ⟨_, rfl, by rw [HHM.out]; exact H3.out⟩
end Go.Proofs.YtnefpjdjnjcmbaaGreatDoor
namespace Go.Proofs.YtnefpjdjnjcmbaaGreatDoor
open Go Go.RowKit
/-- Claims, as numbers. -/
structure Cl where
  id : Int
  ro : Int
  ex : Int
  se : Int
/-- Claims, as a value. -/
def clV (c : Cl) : Value := .agg #[.int .i64 c.id, .int .i64 c.ro, .int .i64 c.ex, .int .i64 c.se]
/-- Are the four within their limits? -/
def okC (c : Cl) : Bool := decide (1 ≤ c.id) && decide (c.id ≤ 65535) && decide (0 ≤ c.ro) && decide (c.ro ≤ 255) && decide (0 ≤ c.ex) && decide (c.ex ≤ 1073741824) && decide (1 ≤ c.se) && decide (c.se ≤ 65535)
/-- The limits, as cells. -/
def limC (c : Cl) : Array Value := #[.int .i64 c.id, .int .i64 1, .int .i64 65535, .int .i64 c.ro, .int .i64 0, .int .i64 255, .int .i64 c.ex, .int .i64 0, .int .i64 1073741824, .int .i64 c.se, .int .i64 1, .int .i64 65535]
set_option maxRecDepth 100000 in
theorem limits_any (c : Cl) (w : World) : Calls Tryz.prog 45 #[clV c] w fun e w' => ∃ g, e = .returned (.slice (some ⟨g, 0, none⟩) 4 4) ∧ w'.heap[g]? = some (.cells (limC c) 98 (0, 0)) ∧ Below w.heap.size w w' := by
  obtain ⟨i, r, x, s⟩ := c
  unfold clV
  simp only
  go_enter Tryz.func45, Tryz.ntmps45
  go_wp2
  go_ret
  refine ⟨w.heap.size + 1, rfl, ?_, (below_a _).trans ((below_a _).mono (by simp))⟩
  rw [hnew _ _ _ (by simp)]
  rfl
/-- The limits, one by one. -/
def lims (c : Cl) : List (Int × Int × Int) := [(c.id, 1, 65535), (c.ro, 0, 255), (c.ex, 0, 1073741824), (c.se, 1, 65535)]
/-- Is a number within its limits? -/
def inL (l : Int × Int × Int) : Bool := decide (l.2.1 ≤ l.1) && decide (l.1 ≤ l.2.2)
theorem okC_all (c : Cl) : okC c = (lims c).all inL := by
  simp [okC, lims, inL, Bool.and_assoc]
theorem all_take_succ (l : List (Int × Int × Int)) (k : Nat) (hk : k < l.length) : (l.take (k + 1)).all inL = ((l.take k).all inL && inL (l.getD k (0, 0, 0))) := by
  rw [List.take_add_one, List.all_append, List.getElem?_eq_getElem hk, List.getD_eq_getElem?_getD, List.getElem?_eq_getElem hk]
  simp
theorem all_false (l : List (Int × Int × Int)) (k : Nat) (hk : k < l.length) (h : inL (l.getD k (0, 0, 0)) = false) : l.all inL = false := by
  rw [List.getD_eq_getElem?_getD, List.getElem?_eq_getElem hk] at h
  exact List.all_eq_false.mpr ⟨l[k], List.getElem_mem _, by simp at h; simp [h]⟩
theorem lim_cells (c : Cl) (W : World) (g : Nat) (h : W.heap[g]? = some (.cells (limC c) 98 (0, 0))) (k : Nat) (hk : k < 4) :
    W.cell? ⟨g, k * 3, none⟩ = some (.int .i64 ((lims c).getD k (0, 0, 0)).1) ∧ W.cell? ⟨g, k * 3 + 1, none⟩ = some (.int .i64 ((lims c).getD k (0, 0, 0)).2.1) ∧ W.cell? ⟨g, k * 3 + 2, none⟩ = some (.int .i64 ((lims c).getD k (0, 0, 0)).2.2) := by
  have hc : k = 0 ∨ k = 1 ∨ k = 2 ∨ k = 3 := by omega
  rcases hc with rfl | rfl | rfl | rfl <;> refine ⟨?_, ?_, ?_⟩ <;> rw [cell_of_row _ _ _ _ _ _ h] <;> rfl
set_option maxRecDepth 100000 in
set_option maxHeartbeats 1000000 in
theorem ccheck_any (c : Cl) (w : World) : Calls Tryz.prog 30 #[clV c] w fun e w' => e = .returned (.int .i64 (if okC c = true then 0 else 10)) ∧ Below w.heap.size w w' := by
  obtain ⟨V, hV⟩ : ∃ V, (if okC c = true then (0 : Int) else 10) = V := ⟨_, rfl⟩
  rw [hV]
  have HV := Bx.mk hV
  clear hV
  obtain ⟨B, hB⟩ : ∃ B, w.heap.size = B := ⟨_, rfl⟩
  rw [hB]
  have HB := Bx.mk hB
  have HL := fun (W : World) => limits_any c W
  unfold clV at HL ⊢
  go_enter Tryz.func30, Tryz.ntmps30
  go_wp2_with fail
  go_step3
  go_wp2_with fail
  go_step3
  go_wp2_with fail
  refine (HL _).mono ?_
  rintro e w2 ⟨g, rfl, hg, hb⟩
  have H2 : Bx (w2.heap[g]? = some (.cells (limC c) 98 (0, 0)) ∧ Below B w w2 ∧ (((lims c).take 0).all inL = true)) := Bx.mk ⟨hg, by rw [← hB]; exact (below_a _).trans (hb.mono (by simp)), rfl⟩
  clear hg hb HL
  go_wp2
  go_loopw [9, 3] (fun i z wr => ∃ k : Nat, k ≤ 4 ∧ i = .int .i64 (k : Int) ∧ z = .int .i64 0 ∧ Bx (wr.heap[g]? = some (.cells (limC c) 98 (0, 0)) ∧ Below B w wr ∧ (((lims c).take k).all inL = true))) (fun i _ _ => 4 - (intOf i).toNat)
  case atStart => exact ⟨0, Nat.zero_le _, rfl, rfl, H2⟩
  case round =>
    clear H2
    obtain ⟨k, hk, rfl, rfl, HI⟩ := hrel
    by_cases hlt : k < 4
    · have hk1 : (k : Int) < 4 := by omega
      obtain ⟨hc0, hc1, hc2⟩ := lim_cells c wr g HI.out.1 k hlt
      obtain ⟨⟨n, lo, hi⟩, hx⟩ : ∃ x, (lims c).getD k (0, 0, 0) = x := ⟨_, rfl⟩
      rw [hx] at hc0 hc1 hc2
      have HX := Bx.mk hx
      clear hx
      simp only at hc0 hc1 hc2
      have HA : Bx ((wr.alloc (.cells #[.int .i64 n, .int .i64 lo, .int .i64 hi] 98)).heap[g]? = some (.cells (limC c) 98 (0, 0)) ∧ Below B w (wr.alloc (.cells #[.int .i64 n, .int .i64 lo, .int .i64 hi] 98))) := Bx.mk ⟨by
        rw [hold _ _ _ (by have := (Array.getElem?_eq_some_iff.mp HI.out.1).1; exact this)]
        exact HI.out.1, HI.out.2.1.alloc (by have := HI.out.2.1.size; omega) _⟩
      have HT := Bx.mk HI.out.2.2
      by_cases hin : inL (n, lo, hi) = true
      · have hh : lo ≤ n ∧ n ≤ hi := by simpa [inL] using hin
        have h1 : ¬ n < lo := by omega
        have h2 : ¬ hi < n := by omega
        have HT2 : Bx (((lims c).take (k + 1)).all inL = true) := Bx.mk (by rw [all_take_succ _ _ (by exact hlt), HX.out, HT.out, hin]; rfl)
        clear HI hh hin
        go_wp2
        go_roundw
        case rel => exact ⟨k + 1, by omega, by go_num, rfl, ⟨HA.out.1, HA.out.2, HT2.out⟩⟩
        case measure => simp [intOf]; omega
      · have HV2 : Bx (V = 10) := Bx.mk (by
          rw [← HV.out, okC_all, all_false (lims c) k hlt (by rw [HX.out]; simpa using hin)]
          rfl)
        have hh : n < lo ∨ hi < n := by simp [inL] at hin; omega
        clear HI hin HT HV
        by_cases h1 : n < lo
        · go_wp2
          try rw [Exit.noGoto_ret]
          go_ret
          exact ⟨by rw [HV2.out]; rfl, HA.out.2⟩
        · have h2 : hi < n := by omega
          clear hh
          go_wp2
          try rw [Exit.noGoto_ret]
          go_ret
          exact ⟨by rw [HV2.out]; rfl, HA.out.2⟩
    · obtain rfl : k = 4 := by omega
      go_wp2
      rw [Exit.noGoto_ret]
      go_ret
      have HO : okC c = true := by rw [okC_all]; exact HI.out.2.2
      rw [if_pos HO] at HV
      exact ⟨by rw [← HV.out]; rfl, HI.out.2.1⟩
end Go.Proofs.YtnefpjdjnjcmbaaGreatDoor
