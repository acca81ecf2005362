/-
  The walks of framed and Derive, and of the document's Frame and Derive.
-/
import Derived.Test.YtkfgpnigeknhmaaDoorMi
import Derived.OwnWalk
namespace Go.Proofs.YtkfgpnigeknhmaaDoor
open Go Go.RowKit
/-- Bytes, and none of them in block g. -/
def BN (W : World) (g : Nat) (v : Value) (l : List UInt8) : Prop := Bytes W v l ∧ BytesAt W g v l
theorem BN.later {W W1 : World} {g : Nat} {v : Value} {l : List UInt8} (h : BN W g v l) (hk : W.grownBy W1 (some g)) : BN W1 g v l := by
  refine ⟨?_, h.2.later hk⟩
  obtain ⟨a, cap, hv, hc, hz, hr⟩ := h.1
  obtain ⟨a', cap', hv', hc', hr'⟩ := h.2.later hk
  rw [hv] at hv'
  injection hv' with e1 e2 e3
  subst e1
  exact ⟨a, cap, hv, hc, hz, fun hp => by obtain ⟨c, o, _, ha, hcell⟩ := hr' hp; exact ⟨c, o, ha, hcell⟩⟩
theorem BN.below {W W1 : World} {g : Nat} {v : Value} {l : List UInt8} (h : BN W g v l) (hb : Below W.heap.size W W1) : BN W1 g v l := h.later (kb_below (some g) hb)
theorem Bytes.bn {W : World} {g B o n cap : Nat} {l : List UInt8} (h : Bytes W (.slice (some ⟨B, o, none⟩) n cap) l) (hne : B ≠ g) : BN W g (.slice (some ⟨B, o, none⟩) n cap) l := by
  refine ⟨h, ?_⟩
  obtain ⟨a, cap', hv, hc, _, hr⟩ := h
  refine ⟨a, cap', hv, hc, fun hp => ?_⟩
  obtain ⟨c, o', ha, hcell⟩ := hr hp
  injection hv with e1 _ _
  rw [ha] at e1
  injection e1 with e1
  injection e1 with e1 _
  exact ⟨c, o', by omega, ha, hcell⟩
theorem Bytes.bn_old {w W : World} {g : Nat} {v : Value} {l : List UInt8} (h : Bytes w v l) (hb : Below w.heap.size w W) (hg : w.heap.size ≤ g) : BN W g v l := ⟨h.later hb, h.apart hb g hg⟩
/-- A string's bytes in new memory. -/
theorem run_strb (w : World) (l : List UInt8) : ∃ cap w', (convert 9 23 (.string ⟨l.toArray⟩)).run Tryd.prog w = .ok (.slice (some ⟨w.heap.size, 0, none⟩) l.length cap) w' ∧ Bytes w' (.slice (some ⟨w.heap.size, 0, none⟩) l.length cap) l ∧ Below w.heap.size w w' := by
  have h := run_bytes_of_string (P := Tryd.prog) w 9 23 5 ⟨l.toArray⟩ Tryd.underlying9 Tryd.underlying23 Tryd.underlying5
  have hsz : (⟨l.toArray⟩ : ByteArray).size = l.length := rfl
  rw [hsz] at h
  refine ⟨_, _, h, ⟨_, _, rfl, grownCap_ge _ _ _ _, (fun e => by cases e), fun hp => ⟨w.heap.size, 0, rfl, fun j hj => ?_⟩⟩, (Below.refl _ _).drew.alloc (Nat.le_refl _) _⟩
  rw [cell_of_row _ _ _ _ _ _ (hnew w.drew _ w.heap.size rfl), Nat.zero_add]
  unfold bytesRow
  rw [Array.getElem?_append_left (by simpa using hj)]
  simp [hj, ub]
theorem wpList_strb {w : World} {ops : Array Oper} {rest : List Oper} {o : Oper} {a : Act} {Q : Exit → Act → World → Prop} (hgd : o.guard = none) (x : Operand) (ho : o.op = .convert 9 23 x) (l : List UInt8) (hx : a.eval x = .string ⟨l.toArray⟩)
    (h : ∀ cap w', Bytes w' (.slice (some ⟨w.heap.size, 0, none⟩) l.length cap) l → Below w.heap.size w w' → wpList Tryd.prog ops Q rest (a.put o.dst (.slice (some ⟨w.heap.size, 0, none⟩) l.length cap)) w') : wpList Tryd.prog ops Q (o :: rest) a w := by
  refine wpList_plain hgd fun K hK => ?_
  obtain ⟨cap, w', hrun, h1, h2⟩ := run_strb w l
  unfold Oper.wp
  simp [execOp, ho, hx, hrun, Result.andThen]
  exact hK _ _ (h cap w' h1 h2)
/-- What framed has made so far. -/
structure FrS (w : World) (cap : Nat) (xs : List Value) (qs : List (List UInt8)) (W : World) : Prop where
  below : Below w.heap.size w W
  own : W.ownsRow w.heap.size 23 1 (.slice (some ⟨w.heap.size, 0, none⟩) xs.length cap) xs.length xs
  len : xs.length = qs.length
  vals : ∀ j, j < xs.length → BN W w.heap.size (xs.getD j undef) (qs.getD j [])
  lt : w.heap.size < W.heap.size
theorem FrS.later {w W W1 : World} {cap : Nat} {xs : List Value} {qs : List (List UInt8)} (h : FrS w cap xs qs W) (hb : Below W.heap.size W W1) : FrS w cap xs qs W1 :=
  ⟨h.below.trans (hb.mono h.below.size), OwnP.later h.own hb (fun g hg => by injection hg with hg; have := h.lt; simp only at hg; omega), h.len, fun j hj => (h.vals j hj).below hb, Nat.lt_of_lt_of_le h.lt hb.size⟩
theorem FrS.more {w W W1 : World} {cap : Nat} {xs : List Value} {qs : List (List UInt8)} (h : FrS w cap xs qs W) {y z : Value} {p r : List UInt8} (hy : BN W w.heap.size y p) (hz : BN W w.heap.size z r)
    (ho : W1.ownsRow w.heap.size 23 1 (.slice (some ⟨w.heap.size, 0, none⟩) (xs.length + 2) cap) (xs.length + 2) (xs ++ [y, z])) (hk : W.grownBy W1 (some w.heap.size)) : FrS w cap (xs ++ [y, z]) (qs ++ [p, r]) W1 := by
  refine ⟨below_kb h.below h.below.size hk (Nat.le_refl _), by rw [List.length_append]; exact ho, by rw [List.length_append, List.length_append, h.len]; rfl, fun j hj => ?_, Nat.lt_of_lt_of_le h.lt hk.size⟩
  rw [List.length_append] at hj
  by_cases h1 : j < xs.length
  · have e1 : (xs ++ [y, z]).getD j undef = xs.getD j undef := by simp [List.getElem?_append_left h1]
    have e2 : (qs ++ [p, r]).getD j [] = qs.getD j [] := by simp [List.getElem?_append_left (h.len ▸ h1)]
    rw [e1, e2]
    exact (h.vals j h1).later hk
  · have hj2 : j = xs.length ∨ j = xs.length + 1 := by simp at hj; omega
    rcases hj2 with rfl | rfl
    · have e1 : (xs ++ [y, z]).getD xs.length undef = y := by simp
      have e2 : (qs ++ [p, r]).getD xs.length [] = p := by rw [h.len]; simp
      rw [e1, e2]
      exact hy.later hk
    · have e1 : (xs ++ [y, z]).getD (xs.length + 1) undef = z := by simp
      have e2 : (qs ++ [p, r]).getD (xs.length + 1) [] = r := by rw [h.len]; simp
      rw [e1, e2]
      exact hz.later hk
theorem FrS.parts {w W : World} {cap : Nat} {xs : List Value} {qs : List (List UInt8)} (h : FrS w cap xs qs W) : Parts W (.slice (some ⟨w.heap.size, 0, none⟩) xs.length cap) qs :=
  own_parts h.own ⟨h.len, fun j hj => (h.vals j hj).1⟩
theorem framed_succ (l : List UInt8) (pss : List (List UInt8)) (k : Nat) (h : k < pss.length) : framed (l :: pss.take (k + 1)) = framed (l :: pss.take k) ++ [lenB (pss.getD k []).length, pss.getD k []] := by
  unfold framed
  rw [List.take_succ_eq_append_getElem h, ← List.cons_append, List.flatMap_append]
  simp [h]
/-- Two slices more. -/
theorem wpList_ap2 {ops : Array Oper} {rest : List Oper} {o : Oper} {a : Act} {Q : Exit → Act → World → Prop} (hgd : o.guard = none) (s x : Operand) (ho : o.op = .call { callee := .builtin .append, args := #[s, x], argTypes := #[22, 22] })
    (w W0 : World) (cp : Nat) (xs : List Value) (qs : List (List UInt8)) (y z : Value) (p r : List UInt8) (hF : FrS w cp xs qs W0) (hy : BN W0 w.heap.size y p) (hz : BN W0 w.heap.size z r) (oy : y.oneCell' = true) (oz : z.oneCell' = true) (m : Nat) (hm : xs.length = m)
    (hs : a.eval s = .slice (some ⟨w.heap.size, 0, none⟩) m cp) (hx : a.eval x = .slice (some ⟨W0.heap.size, 0, none⟩) 2 2) (hfit : m + 2 ≤ cp)
    (k : ∀ W1, FrS w cp (xs ++ [y, z]) (qs ++ [p, r]) W1 → wpList Tryd.prog ops Q rest (a.put o.dst (.slice (some ⟨w.heap.size, 0, none⟩) (m + 2) cp)) W1) : wpList Tryd.prog ops Q (o :: rest) a (W0.alloc (.cells #[y, z] 23)) := by
  obtain ⟨i0, hi0, hz0, hz1, hz2⟩ := info_parts (P := Tryd.prog) (e := 23) (z := .slice none 0 0) (size := 1) (bytes := 24) (by kernel_rfl)
  have hF' := hF.later (below_a (.cells #[y, z] 23))
  subst hm
  refine wpList_append_fits _ hgd s x 22 ho w.heap.size 23 i0 1 Tryd.underlying22 hi0 hz1 w.heap.size xs.length cp xs hs hF'.own ⟨W0.heap.size, 0, none⟩ 2 2 [y, z] hx rfl ?_ ?_ hfit ?_
  · intro j u hu
    have hj : j < 2 := (List.getElem?_eq_some_iff.1 hu).1
    rw [show (⟨W0.heap.size, 0, none⟩ : Addr).add j = ⟨W0.heap.size, 0 + j, none⟩ by unfold Addr.add; split <;> simp_all, cell_of_row _ _ _ _ _ _ (hnew _ _ _ rfl), Nat.zero_add, ← Array.getElem?_toList]
    exact hu
  · intro u hu
    simp at hu
    rcases hu with rfl | rfl
    · exact oy
    · exact oz
  · intro W1 ho1 hg1
    exact k W1 (hF'.more (hy.below (below_a _)) (hz.below (below_a _)) ho1 hg1)
/-- What framed hands back. -/
def FraP (w : World) (l : List UInt8) (pss : List (List UInt8)) (e : Ending) (w' : World) : Prop := ∃ n cap, e = .returned (.slice (some ⟨w.heap.size, 0, none⟩) n cap) ∧ Parts w' (.slice (some ⟨w.heap.size, 0, none⟩) n cap) (framed (l :: pss)) ∧ Below w.heap.size w w'
set_option maxRecDepth 100000 in
set_option maxHeartbeats 1000000 in
theorem framed_any (l : List UInt8) (pss : List (List UInt8)) (vp : Value) (w : World) (hp : Parts w vp pss) (hl : l.length ≤ 1000000) (hn : pss.length ≤ 1000) (hpl : ∀ p ∈ pss, p.length ≤ 1000000) :
    Calls Tryd.prog 48 #[.string ⟨l.toArray⟩, vp] w (FraP w l pss) := by
  have HP := Bx.mk hp
  have HPL := Bx.mk hpl
  have HL := Bx.mk hl
  obtain ⟨a, cap, rfl, -⟩ := hp
  obtain ⟨n, hnn⟩ : ∃ n, pss.length = n := ⟨_, rfl⟩
  have HN := Bx.mk hnn
  rw [hnn] at HP hn ⊢
  have hn1 : (n : Int) ≤ 1000 := by omega
  have hsz : (⟨l.toArray⟩ : ByteArray).size = l.length := rfl
  obtain ⟨ll, hll⟩ : ∃ ll, l.length = ll := ⟨_, rfl⟩
  have HLL := Bx.mk hll
  rw [hll] at hsz hl
  have hl1 : (ll : Int) ≤ 1000000 := by omega
  clear hnn hpl hll
  obtain ⟨i0, hi0, hz0, hz1, hz2⟩ := info_parts (P := Tryd.prog) (e := 23) (z := .slice none 0 0) (size := 1) (bytes := 24) (by kernel_rfl)
  obtain ⟨cp, hcp⟩ : ∃ cp, cp = 2 + 2 * n := ⟨_, rfl⟩
  have hcp1 : 2 + 2 * (n : Int) = (cp : Int) := by omega
  have HCP := Bx.mk hcp
  clear hcp
  go_enter Tryd.func48, Tryd.ntmps48
  go_upto_region 2 with (refine wpList_make_own w rfl _ _ 22 rfl w.heap.size 23 i0 _ 1 Tryd.underlying22 hi0 hz0 hz1 .i64 .i64 _ cp (by rfl) (by rfl) rfl (by rw [hz2]; have := HCP.out; omega) (by have := HCP.out; unfold maxLen; omega) (Nat.le_refl _) ?_; intro w1 ho1 hg1)
  have H1 : Bx (FrS w cp [] [] w1) := Bx.mk (by
    have hlt : w.heap.size < w1.heap.size := by
      rcases ho1.2 with ⟨hv, _⟩ | ⟨g, c, cur, hv, _, hh, _⟩
      · cases hv
      · injection hv with e1 _ _
        injection e1 with e1
        injection e1 with e1 _
        subst e1
        exact (Array.getElem?_eq_some_iff.1 hh).1
    exact ⟨⟨hg1.os, hg1.tape, hg1.output, hg1.size, fun i hi => hg1.block i hi (by intro e; cases e)⟩, ho1, rfl, (fun j hj => by simp at hj), hlt⟩)
  clear ho1 hg1 hi0 hz0 hz1 hz2
  go_wp2_with fail
  refine (length_any ll w1 (by omega)).mono ?_
  rintro e w2 ⟨rfl, hb2, hy2⟩
  have H2 : Bx (FrS w cp [] [] w2 ∧ BN w2 w.heap.size (.slice (some ⟨w1.heap.size, 0, none⟩) 4 4) (lenB ll)) := Bx.mk ⟨H1.out.later hb2, hy2.bn (by have := H1.out.lt; omega)⟩
  clear hb2 hy2 H1
  generalize w1.heap.size = L1 at *
  go_upto_region 3 with (first | (refine wpList_strb rfl _ rfl l (by rfl) ?_; intro c3 w3 hz3 hb3; have H3 : Bx (FrS w cp [] [] w3 ∧ BN w3 w.heap.size (.slice (some ⟨L1, 0, none⟩) 4 4) (lenB ll) ∧ BN w3 w.heap.size (.slice (some ⟨w2.heap.size, 0, none⟩) l.length c3) l) := Bx.mk ⟨H2.out.1.later hb3, H2.out.2.below hb3, hz3.bn (by have := H2.out.1.lt; omega)⟩; clear hz3 hb3) | (refine wpList_ap2 rfl _ _ rfl w w3 cp [] [] _ _ (lenB ll) l H3.out.1 H3.out.2.1 H3.out.2.2 rfl rfl 0 rfl (by rfl) (by rfl) (by have := HCP.out; omega) ?_; intro w4 hF4; have H4 : Bx (∃ xs : List Value, xs.length = 2 ∧ FrS w cp xs (framed (l :: pss.take 0)) w4) := Bx.mk ⟨_, rfl, by rw [← HLL.out] at hF4; exact hF4⟩; clear hF4))
  go_wp2
  go_loopw [5, 23] (fun vv i wr => ∃ j m : Nat, j ≤ n ∧ m = 2 + 2 * j ∧ vv = .slice (some ⟨w.heap.size, 0, none⟩) m cp ∧ i = .int .i64 (j : Int) ∧ Bx (∃ xs : List Value, xs.length = m ∧ FrS w cp xs (framed (l :: pss.take j)) wr)) (fun _ i _ => n - (intOf i).toNat)
  case atStart => exact ⟨0, 2, by omega, rfl, rfl, rfl, H4⟩
  case round =>
    clear H4 H3 H2
    obtain ⟨j, m, hj, hm, rfl, rfl, HF⟩ := hrel
    by_cases hlt : j < n
    · obtain ⟨a', cap', hv', hr'⟩ := HP.out
      injection hv' with e1 e2 e3
      obtain ⟨p, o, ha, hcell⟩ := hr' (by omega)
      subst e1
      subst ha
      obtain ⟨xv, hx, hxb⟩ := hcell j (by rw [HN.out]; exact hlt)
      obtain ⟨xs, hxs, hF⟩ := HF.out
      have hcw : wr.cell? ⟨p, o + j, none⟩ = some xv := by
        rw [hF.below.cell (p := ⟨p, o + j, none⟩) (World.block_lt_of_cell? _ _ hx)]
        exact hx
      have hpj : (pss.getD j []).length ≤ 1000000 := by
        have h : j < pss.length := by rw [HN.out]; exact hlt
        have hmem : pss.getD j [] ∈ pss := by
          rw [List.getD_eq_getElem?_getD, List.getElem?_eq_getElem h]
          exact List.getElem_mem h
        exact HPL.out _ hmem
      have HSc : Bx (framed (l :: pss.take (j + 1)) = framed (l :: pss.take j) ++ [lenB (pss.getD j []).length, pss.getD j []]) := Bx.mk (framed_succ l pss j (by rw [HN.out]; exact hlt))
      generalize pss.getD j [] = pj at *
      obtain ⟨ax, cx, hxf, -, -⟩ := bytes_form hxb
      obtain ⟨pl, hpl⟩ : ∃ pl, pj.length = pl := ⟨_, rfl⟩
      rw [hpl] at hxf hpj HSc
      have HXB := Bx.mk hxb
      have HF2 := Bx.mk (And.intro hxs hF)
      subst hxf
      have hpl1 : (pl : Int) ≤ 1000000 := by omega
      have hj1 : (j : Int) < (n : Int) := by omega
      have HM := Bx.mk (And.intro hm hlt)
      clear hr' e2 e3 hcell hx hxb hF hxs HF hpl hm
      obtain ⟨wq, rfl⟩ : ∃ wq : World, wq = wr := ⟨_, rfl⟩
      go_wp2_with fail
      refine (length_any pl wq (by omega)).mono ?_
      rintro e w5 ⟨rfl, hb5, hy5⟩
      have H5 : Bx (FrS w cp xs (framed (l :: pss.take j)) w5 ∧ BN w5 w.heap.size (.slice (some ⟨wq.heap.size, 0, none⟩) 4 4) (lenB pl) ∧ BN w5 w.heap.size (.slice ax pl cx) pj) := Bx.mk ⟨HF2.out.2.later hb5, hy5.bn (by have := HF2.out.2.lt; omega), HXB.out.bn_old (HF2.out.2.later hb5).below (Nat.le_refl _)⟩
      have HXL := Bx.mk HF2.out.1
      clear hb5 hy5 HF2 hcw
      generalize wq.heap.size = L5 at *
      go_wp2_with (refine wpList_ap2 rfl _ _ rfl w w5 cp xs _ (.slice (some ⟨L5, 0, none⟩) 4 4) (.slice ax pl cx) (lenB pl) pj H5.out.1 H5.out.2.1 H5.out.2.2 rfl rfl m HXL.out (by rfl) (by rfl) (by have := HCP.out; have := HM.out; omega) ?_; intro w6 hF6; have H6 : Bx (∃ ys : List Value, ys.length = m + 2 ∧ FrS w cp ys (framed (l :: pss.take (j + 1))) w6) := Bx.mk ⟨xs ++ [.slice (some ⟨L5, 0, none⟩) 4 4, .slice ax pl cx], by (rw [List.length_append, HXL.out]; rfl), by (rw [HSc.out]; exact hF6)⟩; clear hF6)
      go_roundw
      case rel => exact ⟨j + 1, m + 2, by omega, by have := HM.out; omega, rfl, by go_num, H6⟩
      case measure => simp [intOf]; omega
    · obtain ⟨xs, hxs, hF⟩ := HF.out
      have ej : pss.take j = pss := List.take_of_length_le (by rw [HN.out]; omega)
      rw [ej] at hF
      have HQ : Bx (Parts wr (.slice (some ⟨w.heap.size, 0, none⟩) m cp) (framed (l :: pss)) ∧ Below w.heap.size w wr) := Bx.mk ⟨by rw [← hxs]; exact hF.parts, hF.below⟩
      clear HF hF ej hxs hm
      go_wp2
      go_ret
      exact ⟨m, cp, rfl, HQ.out⟩
set_option maxRecDepth 100000 in
theorem framed_all (ps : List (List UInt8)) : (framed ps).length = 2 * ps.length := by
  induction ps with
  | nil => rfl
  | cons p ps ih =>
    unfold framed at ih ⊢
    rw [List.flatMap_cons, List.length_append, ih, List.length_cons]
    simp
    omega
theorem framed_len (l : List UInt8) (pss : List (List UInt8)) : (framed (l :: pss)).length = 2 + 2 * pss.length := by
  rw [framed_all, List.length_cons]; omega
theorem frame_cons (p : List UInt8) (ps : List (List UInt8)) : frame (p :: ps) = lenB p.length ++ (p ++ frame ps) := by
  unfold frame framed
  simp
theorem frame_len (ps : List (List UInt8)) (b : Nat) (h : ∀ p ∈ ps, p.length ≤ b) : (frame ps).length ≤ (4 + b) * ps.length := by
  induction ps with
  | nil => simp [frame, framed]
  | cons p ps ih =>
    rw [frame_cons, List.length_append, List.length_append]
    have h1 := h p (by simp)
    have h2 := ih (fun q hq => h q (by simp [hq]))
    have h3 : (lenB p.length).length = 4 := rfl
    rw [h3, List.length_cons, Nat.mul_add, Nat.mul_one]
    omega
set_option maxRecDepth 100000 in
set_option maxHeartbeats 1000000 in
theorem derive_any (key l : List UInt8) (pss : List (List UInt8)) (v vp : Value) (w : World) (hv : Bytes w v key) (hp : Parts w vp pss) (hk : key.length ≤ 1000000) (hl : l.length ≤ 10000) (hn : pss.length ≤ 1000) (hpl : ∀ p ∈ pss, p.length ≤ 10000) (hTab : Tab w) (hg : 0 < w.heap.size) :
    Calls Tryd.prog 30 #[v, .string ⟨l.toArray⟩, vp] w fun e w' => e = .returned (.agg (u8s (hmac key (frame (l :: pss))))) ∧ Below w.heap.size w w' := by
  have HV := Bx.mk hv
  have HP := Bx.mk hp
  have HL := Bx.mk (And.intro hk (And.intro hl (And.intro hn hpl)))
  have HA := Bx.mk hTab
  obtain ⟨a, cap, rfl, -⟩ := hv
  obtain ⟨n, hn1⟩ : ∃ n, key.length = n := ⟨_, rfl⟩
  rw [hn1] at HV ⊢
  clear hk hl hn hpl hTab hp hn1
  obtain ⟨z32, hz32⟩ : ∃ z, u8s (List.replicate 32 0) = z := ⟨_, rfl⟩
  have hz32v : ∀ W : World, (zeroValue 26).run Tryd.prog W = .ok (.agg z32) W := fun W => by rw [← hz32, zero32]; kernel_rfl
  have H0 : Bx (Below w.heap.size w (w.alloc (.cells z32 26)) ∧ (w.alloc (.cells z32 26)).heap[w.heap.size]? = some (.cells (u8s (List.replicate 32 0)) 26 (0, 0)) ∧ w.heap.size < (w.alloc (.cells z32 26)).heap.size) := Bx.mk ⟨below_a _, by rw [hnew _ _ _ rfl, hz32], by simp⟩
  clear hz32
  go_enter Tryd.func30, Tryd.ntmps30
  go_wp2_with fail
  generalize w.alloc (.cells z32 26) = w0 at *
  refine (framed_any l pss vp w0 (HP.out.later H0.out.1) (by have := HL.out; omega) HL.out.2.2.1 (fun p hp => by have := HL.out.2.2.2 p hp; omega)).mono ?_
  rintro e w1 ⟨m, cp, rfl, hq, hb1⟩
  have H1 : Bx (Below w.heap.size w w1 ∧ w1.heap[w.heap.size]? = some (.cells (u8s (List.replicate 32 0)) 26 (0, 0)) ∧ Parts w1 (.slice (some ⟨w0.heap.size, 0, none⟩) m cp) (framed (l :: pss)) ∧ Bytes w1 (.slice a n cap) key) := Bx.mk ⟨H0.out.1.trans (hb1.mono H0.out.1.size), by rw [hb1.block _ H0.out.2.2]; exact H0.out.2.1, hq, (HV.out.later H0.out.1).later hb1⟩
  clear hq hb1 H0 hz32v
  generalize w0.heap.size = G0 at *
  go_wp2_with fail
  refine (tag_any key (framed (l :: pss)) _ _ w1 H1.out.2.2.2 H1.out.2.2.1 HL.out.1 (by have := HL.out; rw [framed_len]; omega) (by
    have h1 := HL.out
    have h2 := frame_len (l :: pss) 10000 (fun p hp => by rcases List.mem_cons.1 hp with rfl | hp; exact h1.2.1; exact h1.2.2.2 p hp)
    rw [List.length_cons] at h2
    show (frame (l :: pss)).length ≤ _
    omega) (HA.out.later H1.out.1 hg) (Nat.lt_of_lt_of_le hg H1.out.1.size)).mono ?_
  rintro e w2 ⟨rfl, hb2⟩
  have H2 : Bx (Below w.heap.size w w2 ∧ w2.heap[w.heap.size]? = some (.cells (u8s (List.replicate 32 0)) 26 (0, 0))) := Bx.mk ⟨H1.out.1.trans (hb2.mono H1.out.1.size), by rw [hb2.block _ (Array.getElem?_eq_some_iff.1 H1.out.2.1).1]; exact H1.out.2.1⟩
  clear hb2 H1
  have HE : Bx (hmac key (framed (l :: pss)).flatten = hmac key (frame (l :: pss))) := Bx.mk rfl
  rw [HE.out]
  have HSL : Bx ((hmac key (frame (l :: pss))).length = 32) := Bx.mk (sha_length _)
  generalize hhm : hmac key (frame (l :: pss)) = hm at *
  have HHM := Bx.mk hhm
  clear hhm
  have HI : Bx ((Tryd.prog.info? 26).map (·.size) = some (u8s hm).size) := Bx.mk (by rw [u8s_size, HSL.out]; kernel_rfl)
  have HZ : Bx ((u8s hm).size = (u8s (List.replicate 32 0)).size) := Bx.mk (by rw [u8s_size, u8s_size, HSL.out]; rfl)
  go_wp2_with (refine wpList_store_new rfl 26 _ _ rfl w.heap.size (u8s hm) _ _ (by rfl) (by rfl) H2.out.2 HZ.out HI.out (one_u8s _) ?_; intro w3 hw3 hr3; have H3 : Bx (Below w.heap.size w w3 ∧ w3.heap[w.heap.size]? = some (.cells (u8s hm) 26 (0, 0))) := Bx.mk ⟨by rw [hw3]; exact below_setCells (Nat.le_refl _) _ _ _ _ H2.out.1, hr3⟩; clear hw3 hr3)
  refine bodyPost_ret (results_cell_row rfl _ _ w.heap.size _ (u8s hm) _ _ rfl H3.out.2 Tryd.underlying26 rfl HI.out) rfl ?_
  exact ⟨by first | rfl | rw [HHM.out], H3.out.1⟩
theorem frame_succ (ps : List (List UInt8)) (k : Nat) (h : k < ps.length) : frame (ps.take (k + 1)) = (frame (ps.take k) ++ lenB (ps.getD k []).length) ++ ps.getD k [] := by
  unfold frame framed
  rw [List.take_succ_eq_append_getElem h, List.flatMap_append, List.flatten_append]
  simp [h]
/-- At the head of each part. -/
def FrR (w : World) (ps : List (List UInt8)) (vv i : Value) (wr : World) : Prop := ∃ k : Nat, k ≤ ps.length ∧ i = .int .i64 (k : Int) ∧ OwnB wr w.heap.size vv (frame (ps.take k)) ∧ Below w.heap.size w wr
def FrQ (w : World) (ps : List (List UInt8)) (e : Ending) (w' : World) : Prop := ∃ v', e = .returned v' ∧ OwnB w' w.heap.size v' (frame ps) ∧ Below w.heap.size w w'
set_option maxRecDepth 100000 in
set_option maxHeartbeats 1000000 in
theorem rframe_any (ps : List (List UInt8)) (v : Value) (w : World) (hp : Parts w v ps) (hn : ps.length ≤ 1000) (hpl : ∀ p ∈ ps, p.length ≤ 10000) :
    Calls Tryd.prog 39 #[v] w (FrQ w ps) := by
  have HP := Bx.mk hp
  have HPL := Bx.mk hpl
  obtain ⟨a, cap, rfl, -⟩ := hp
  obtain ⟨n, hnn⟩ : ∃ n, ps.length = n := ⟨_, rfl⟩
  have HN := Bx.mk hnn
  rw [hnn] at HP hn ⊢
  have hn1 : (n : Int) ≤ 1000 := by omega
  clear hnn hpl
  go_enter Tryd.func39, Tryd.ntmps39
  go_wp2
  go_loopw [3, 4] (fun vv i wr => FrR w ps vv i wr) (fun _ i _ => n - (intOf i).toNat)
  case atStart => exact ⟨0, by omega, rfl, OwnB.nil _ _, Below.refl _ _⟩
  case round =>
    obtain ⟨k, hk, rfl, hob, hbel⟩ := hrel
    have HA := Bx.mk (And.intro hob hbel)
    clear hob hbel
    by_cases hlt : k < n
    · obtain ⟨a', cap', hv', hr'⟩ := HP.out
      injection hv' with e1 e2 e3
      obtain ⟨p, o, ha, hcell⟩ := hr' (by omega)
      subst e1
      subst ha
      obtain ⟨xv, hx, hxb⟩ := hcell k (by rw [HN.out]; exact hlt)
      have hcw : ∀ W, Below w.heap.size w W → W.cell? ⟨p, o + k, none⟩ = some xv := fun W hb => by
        rw [hb.cell (p := ⟨p, o + k, none⟩) (World.block_lt_of_cell? _ _ hx)]
        exact hx
      have HCW := Bx.mk hcw
      have hpj : (ps.getD k []).length ≤ 10000 := by
        have h : k < ps.length := by rw [HN.out]; exact hlt
        have hmem : ps.getD k [] ∈ ps := by
          rw [List.getD_eq_getElem?_getD, List.getElem?_eq_getElem h]
          exact List.getElem_mem h
        exact HPL.out _ hmem
      have HSc := Bx.mk (frame_succ ps k (by rw [HN.out]; exact hlt))
      have HFl : Bx ((frame (ps.take k)).length ≤ 10004 * 1000) := Bx.mk (by
        have h := frame_len (ps.take k) 10000 (fun q hq => HPL.out q (List.mem_of_mem_take hq))
        rw [List.length_take] at h
        have : min k ps.length ≤ 1000 := by rw [HN.out]; omega
        calc _ ≤ (4 + 10000) * min k ps.length := h
          _ ≤ _ := Nat.mul_le_mul_left _ this)
      generalize ps.getD k [] = pj at *
      generalize frame (ps.take k) = fk at *
      obtain ⟨ax, cx, hxf, -, -⟩ := bytes_form hxb
      obtain ⟨pl, hpl⟩ : ∃ pl, pj.length = pl := ⟨_, rfl⟩
      have HPJ := Bx.mk hpl
      rw [hpl] at hxf hpj HSc
      have HXB := Bx.mk hxb
      subst hxf
      have c1 := HCW.out wr HA.out.2
      have hpl1 : (pl : Int) ≤ 10000 := by omega
      have hk1 : (k : Int) < (n : Int) := by omega
      have h3 := (len_byte pl 3).resolve_right (by omega)
      have h2 := (len_byte pl 2).resolve_right (by omega)
      have h1 := (len_byte pl 1).resolve_right (by omega)
      have h0 := (len_byte pl 0).resolve_right (by omega)
      simp only [Nat.mul_zero, Int.pow_zero, Nat.reduceMul, Int.reducePow, Int.ediv_one] at h0 h1 h2 h3
      have h3b : (pl : Int) / 16777216 = ub (byteOf (BitVec.ofNat 32 pl) 3) := by rw [← h3]; omega
      clear h3
      have HBu : Bx (∀ W : World, Bytes (W.alloc (.cells #[.int .u8 (ub (byteOf (BitVec.ofNat 32 pl) 3)), .int .u8 (ub (byteOf (BitVec.ofNat 32 pl) 2)), .int .u8 (ub (byteOf (BitVec.ofNat 32 pl) 1)), .int .u8 (ub (byteOf (BitVec.ofNat 32 pl) 0))] 5)) (.slice (some ⟨W.heap.size, 0, none⟩) 4 4) (lenB pl)) := Bx.mk (fun W => built W (lenB pl))
      have HLB : Bx ((lenB pl).length = 4) := Bx.mk rfl
      clear hr' e2 e3 hcell hx hxb hpl hcw
      obtain ⟨wq, rfl⟩ : ∃ wq : World, wq = wr := ⟨_, rfl⟩
      go_upto_region 7 with (refine wpList_ap rfl _ _ rfl w.heap.size _ fk (by rfl) (ownB_a HA.out.1 _) _ (lenB pl) (by rfl) (HBu.out wq) (by have := HFl.out; have := HLB.out; omega) (Nat.le_trans HA.out.2.size (below_a _).size) ?_; intro v5 w5 ho5 hg5 _; have H5 : Bx (OwnB w5 w.heap.size v5 (fk ++ lenB pl) ∧ Below w.heap.size w w5) := Bx.mk ⟨ho5, (HA.out.2.trans ((below_a _).mono HA.out.2.size)).trans (own_below (ownB_a HA.out.1 _) hg5 (Nat.le_trans HA.out.2.size (below_a _).size))⟩; clear ho5 hg5)
      clear h0 h1 h2 h3b c1
      have c2 := HCW.out w5 H5.out.2
      go_wp2_with (refine wpList_ap rfl _ _ rfl w.heap.size _ (fk ++ lenB pl) (by rfl) H5.out.1 _ pj (by rfl) (HXB.out.later H5.out.2) (by have := HFl.out; have := HLB.out; have := HPJ.out; rw [List.length_append]; omega) H5.out.2.size ?_; intro v6 w6 ho6 hg6 _; have H6 : Bx (OwnB w6 w.heap.size v6 (frame (ps.take (k + 1))) ∧ Below w.heap.size w w6) := Bx.mk ⟨by rw [HSc.out]; exact ho6, H5.out.2.trans (own_below H5.out.1 hg6 H5.out.2.size)⟩; clear ho6 hg6)
      go_roundw
      case rel => exact ⟨k + 1, by rw [HN.out]; omega, by go_num, H6.out⟩
      case measure => simp [intOf]; omega
    · have e : ps.take k = ps := List.take_of_length_le (by rw [HN.out]; omega)
      rw [e] at HA
      clear e
      go_wp2
      go_ret
      exact ⟨_, rfl, HA.out⟩
/-- A row of values behind a slice of slices. -/
def RowP (w : World) (x : Value) (ys : List Value) : Prop := (x = .slice none 0 0 ∧ ys = []) ∨ ∃ g o cap, x = .slice (some ⟨g, o, none⟩) ys.length cap ∧ ∀ j, j < ys.length → w.cell? ⟨g, o + j, none⟩ = some (ys.getD j undef)
/-- Parts behind a row of slices. -/
def PartsR (w : World) (x : Value) (ps : List (List UInt8)) : Prop := ∃ ys, RowP w x ys ∧ Vals w ys ps
theorem RowP.later {w w1 : World} {x : Value} {ys : List Value} (h : RowP w x ys) (hb : Below w.heap.size w w1) : RowP w1 x ys := by
  rcases h with h | ⟨g, o, cap, hx, hc⟩
  · exact .inl h
  · refine .inr ⟨g, o, cap, hx, fun j hj => ?_⟩
    rw [hb.cell (p := ⟨g, o + j, none⟩) (World.block_lt_of_cell? _ _ (hc j hj))]
    exact hc j hj
theorem PartsR.later {w w1 : World} {x : Value} {ps : List (List UInt8)} (h : PartsR w x ps) (hb : Below w.heap.size w w1) : PartsR w1 x ps := by
  obtain ⟨ys, h1, h2⟩ := h
  exact ⟨ys, h1.later hb, h2.later hb⟩
theorem own_rowP {w : World} {base : Nat} {v : Value} {xs : List Value} (h : OwnP w base v xs) : RowP w v xs := by
  rcases h.2 with ⟨hn, h0⟩ | ⟨g, cap, cur, hv, hb, hg, hc1, hc2, hc3, hc4⟩
  · exact .inl ⟨hn, List.length_eq_zero_iff.1 h0⟩
  · refine .inr ⟨g, 0, cap, hv, fun j hj => ?_⟩
    rw [cell_of_row _ _ _ _ _ _ hg, Nat.zero_add, ← Array.getElem?_toList]
    have h1 : (cur.toList.take (xs.length * 1))[j]? = xs[j]? := by rw [hc4]
    rw [List.getElem?_take, if_pos (by omega)] at h1
    rw [h1]
    simp [hj]
theorem vals_one {w : World} {ys : List Value} {ps : List (List UInt8)} (h : Vals w ys ps) : ∀ u ∈ ys, u.oneCell' = true := by
  intro u hu
  obtain ⟨j, hj, rfl⟩ := List.getElem_of_mem hu
  obtain ⟨a, cap, hv, _⟩ := h.2 j hj
  have e : ys.getD j undef = ys[j] := by simp [hj]
  rw [← e, hv]
  rfl
theorem run_apP (w : World) (base : Nat) (v : Value) (xs : List Value) (hown : OwnP w base v xs) (x : Value) (ys : List Value) (hx : RowP w x ys) (hy : ∀ u ∈ ys, u.oneCell' = true) (hn : xs.length + ys.length ≤ 10000) (hbase : base ≤ w.heap.size) (ty : TypeId) :
    ∃ v' w', (Builtin.append_ #[22, 22] ty #[v, x]).run Tryd.prog w = .ok v' w' ∧ OwnP w' base v' (xs ++ ys) ∧ w.grownBy w' v.ownBlock := by
  have hi : Tryd.prog.info? 23 = some ((Tryd.prog.info? 23).getD default) := by kernel_rfl
  rcases hx with ⟨rfl, rfl⟩ | ⟨g, o, cap, rfl, hc⟩
  · refine ⟨v, w, ?_, by rw [List.append_nil]; exact hown, World.grownBy.refl w _⟩
    exact run_append_owned_none (P := Tryd.prog) (w := w) base 22 ty 23 _ 1 Tryd.underlying22 hi v xs.length _ hown
  · obtain ⟨v', w', hrun, h2, h3, _, _⟩ := run_append_own_at (P := Tryd.prog) w base 22 ty 23 _ (.slice none 0 0) 1 24 Tryd.underlying22 hi (by kernel_rfl) (by kernel_rfl) (by kernel_rfl) rfl (by omega) v xs.length xs hown ⟨g, o, none⟩ ys.length cap ys (by simp)
      (fun j u hu => by
        have hj : j < ys.length := (List.getElem?_eq_some_iff.1 hu).1
        rw [show (⟨g, o, none⟩ : Addr).add j = ⟨g, o + j, none⟩ by unfold Addr.add; split <;> simp_all, hc j hj]
        rw [← hu]
        simp [hj]) hy (by simp only [maxLen]; omega) (by omega) hbase
    refine ⟨v', w', hrun, ?_, h3⟩
    unfold OwnP
    rw [List.length_append]
    exact h2
theorem step_apP {w : World} {ops : Array Oper} {o : Oper} {a : Act} {K : Act → World → Prop} {Q : Exit → Act → World → Prop} {E : Prop} (hw : Region.wanted o (yielded ops a.tmps) = true) (s x : Operand)
    (ho : o.op = .call { callee := .builtin .append, args := #[s, x], argTypes := #[22, 22] }) (base : Nat) (v : Value) (xs : List Value) (hs : a.eval s = v) (hown : OwnP w base v xs) (xv : Value) (ys : List Value) (hx : a.eval x = xv) (hr : RowP w xv ys) (hy : ∀ u ∈ ys, u.oneCell' = true)
    (hn : xs.length + ys.length ≤ 10000) (hbase : base ≤ w.heap.size)
    (h : ∀ v' w', OwnP w' base v' (xs ++ ys) → w.grownBy w' v.ownBlock → K (a.put o.dst v') w') :
    if Region.wanted o (yielded ops a.tmps) = true then Oper.wp Tryd.prog o a w K Q else E := by
  rw [if_pos hw]
  obtain ⟨v', w', hrun, h1, h2⟩ := run_apP w base v xs hown xv ys hr hy hn hbase o.type
  unfold Oper.wp
  simp [execOp, ho, resolve, invoke, builtin, hs, hx, hrun, Result.andThen]
  exact h v' w' h1 h2
theorem step_strb {w : World} {ops : Array Oper} {o : Oper} {a : Act} {K : Act → World → Prop} {Q : Exit → Act → World → Prop} {E : Prop} (hw : Region.wanted o (yielded ops a.tmps) = true) (x : Operand) (ho : o.op = .convert 9 23 x) (l : List UInt8) (hx : a.eval x = .string ⟨l.toArray⟩)
    (h : ∀ cap w', Bytes w' (.slice (some ⟨w.heap.size, 0, none⟩) l.length cap) l → Below w.heap.size w w' → K (a.put o.dst (.slice (some ⟨w.heap.size, 0, none⟩) l.length cap)) w') :
    if Region.wanted o (yielded ops a.tmps) = true then Oper.wp Tryd.prog o a w K Q else E := by
  rw [if_pos hw]
  obtain ⟨cap, w', hrun, h1, h2⟩ := run_strb w l
  unfold Oper.wp
  simp [execOp, ho, hx, hrun, Result.andThen]
  exact h cap w' h1 h2
theorem Vals.cons {w : World} {xs : List Value} {qs : List (List UInt8)} (h : Vals w xs qs) {x : Value} {q : List UInt8} (hx : Bytes w x q) : Vals w ([x] ++ xs) (q :: qs) := by
  refine ⟨by simp [h.1], fun j hj => ?_⟩
  match j, hj with
  | 0, _ => exact hx
  | j + 1, hj => exact h.2 j (by simpa using hj)
set_option maxRecDepth 100000 in
set_option maxHeartbeats 2000000 in
theorem rderive_any (tbl : List Value) (htb : u32s (kTab ++ hTab) = tbl.toArray) (key l : List UInt8) (pss : List (List UInt8)) (vk vp : Value) (w : World) (hk : Bytes w vk key) (hp : PartsR w vp pss) (hkl : key.length ≤ 1000000) (hl : l.length ≤ 10000) (hn : pss.length ≤ 90) (hpl : ∀ p ∈ pss, p.length ≤ 10000) :
    Calls Tryd.prog 31 #[.agg tbl.toArray, vk, .string ⟨l.toArray⟩, vp] w fun e w' => e = .returned (.agg (u8s (hmac key (frame (l :: pss))))) ∧ Below w.heap.size w w' := by
  obtain ⟨z32, hz32⟩ : ∃ z, u8s (List.replicate 32 0) = z := ⟨_, rfl⟩
  have hz32v : ∀ W : World, (zeroValue 26).run Tryd.prog W = .ok (.agg z32) W := fun W => by rw [← hz32, zero32]; kernel_rfl
  have HST : Bx (TS ((w.alloc (.cells tbl.toArray 32)).alloc (.cells z32 26)) w.heap.size (w.heap.size + 1) tbl vk (.slice none 0 0) key [] ∧ Below w.heap.size w ((w.alloc (.cells tbl.toArray 32)).alloc (.cells z32 26)) ∧ PartsR ((w.alloc (.cells tbl.toArray 32)).alloc (.cells z32 26)) vp pss) := Bx.mk (by
    have hB : Below w.heap.size w ((w.alloc (.cells tbl.toArray 32)).alloc (.cells z32 26)) := ((Below.refl _ _).alloc (Nat.le_refl _) _).alloc (by simp) _
    exact ⟨⟨by rw [hold _ _ _ (by simp), hnew _ _ _ rfl], by rw [hnew _ _ _ (by simp), hz32], by omega, hk.later hB, ⟨none, 0, rfl, Nat.le_refl _, fun _ => rfl, fun h => by simp at h⟩, hkl, by simp, htb⟩, hB, hp.later hB⟩)
  have HL := Bx.mk (And.intro hl (And.intro hn hpl))
  obtain ⟨hm, hhm⟩ : ∃ hm, hmac key (frame (l :: pss)) = hm := ⟨_, rfl⟩
  have HHM := Bx.mk hhm
  rw [hhm]
  have HFL : Bx ((frame (l :: pss)).length ≤ 1000000) := Bx.mk (by
    have h2 := frame_len (l :: pss) 10000 (fun p hp => by rcases List.mem_cons.1 hp with rfl | hp; exact hl; exact hpl p hp)
    rw [List.length_cons] at h2
    omega)
  obtain ⟨ak, ck, hvk, -, -⟩ := bytes_form hk
  obtain ⟨nk, hnk⟩ : ∃ n, key.length = n := ⟨_, rfl⟩
  rw [hnk] at hvk
  clear hnk hk hkl hl hn hpl htb hz32 hhm hp
  subst hvk
  go_enter Tryd.func31, Tryd.ntmps31
  go_upto_region 1 with (fail)
  generalize (w.alloc (.cells tbl.toArray 32)).alloc (.cells z32 26) = w2 at *
  have HMk : Bx (∀ W, Below w2.heap.size w2 W → W.rangeAt w.heap.size 0 tbl ∧ Bx (Below w.heap.size w W)) := Bx.mk (fun W hb => ⟨HST.out.1.rng hb, ⟨HST.out.2.1.trans (hb.mono HST.out.2.1.size)⟩⟩)
  have hu32 := Tryd.underlying32
  have hi32 := tbl_size3 HST.out.1.is
  have HB0 : Bx (Below w2.heap.size w2 w2.drew) := Bx.mk (Below.refl _ _).drew
  have HRS : Bx (∀ W, Below w2.heap.size w2 W → W.heap[w.heap.size + 1]? = some (.cells (u8s (List.replicate 32 0)) 26 (0, 0))) := Bx.mk (fun W hb => by rw [hb.block _ (Array.getElem?_eq_some_iff.1 HST.out.1.res).1]; exact HST.out.1.res)
  clear hz32v
  refine wp_region_noPanic ?_
  refine wp_region_held_drew (S := fun W => W.rangeAt w.heap.size 0 tbl ∧ Bx (Below w.heap.size w W)) (by kernel_rfl) (HMk.out _ HB0.out) (fun hHeld => ?_)
  generalize w2.drew = W0 at *
  refine takeL 0 rfl (by kernel_rfl) (by kernel_rfl) (by kernel_rfl) (fun _ _ _ h => h) (yieldsIf_load_mid (by rfl) _ _ rfl _ _ rfl _ _ (fun w hSw => hSw.1) hu32 rfl hi32) hHeld ?_
  try simp only [Act.put, List.setIfInBounds_toArray, List.set_cons_zero, List.set_cons_succ]
  refine takeL 1 (v := ?_) rfl (by kernel_rfl) (by kernel_rfl) (by kernel_rfl) (fun _ _ _ h => h) (Or.inl ⟨by rfl, ?_⟩) hHeld ?_
  rotate_left 1
  · (intro w hSw; go_simp; try with_reducible rfl)
  try simp only [Act.put, List.setIfInBounds_toArray, List.set_cons_zero, List.set_cons_succ]
  refine takeL 2 (v := ?_) rfl (by kernel_rfl) (by kernel_rfl) (by kernel_rfl) (fun _ _ _ h => h) (Or.inl ⟨by rfl, ?_⟩) hHeld ?_
  rotate_left 1
  · (intro w hSw; go_simp; try with_reducible rfl)
  try simp only [Act.put, List.setIfInBounds_toArray, List.set_cons_zero, List.set_cons_succ]
  refine takeL 5 (v := ?_) rfl (by kernel_rfl) (by kernel_rfl) (by kernel_rfl) (fun _ _ _ h => h) (Or.inl ⟨by rfl, ?_⟩) hHeld ?_
  rotate_left 1
  · (intro w hSw; go_simp; try with_reducible rfl)
  try simp only [Act.put, List.setIfInBounds_toArray, List.set_cons_zero, List.set_cons_succ]
  refine stepL 3 (by kernel_rfl) rfl (fun K hK => ?_)
  refine step_strb (by rfl) _ rfl l (by rfl) ?_
  intro c3 W3 hy3 hb3
  have H3 : Bx (Below w2.heap.size w2 W3 ∧ Bytes W3 (.slice (some ⟨W0.heap.size, 0, none⟩) l.length c3) l) := Bx.mk ⟨HB0.out.trans (hb3.mono HB0.out.size), hy3⟩
  refine hK.out _ _ (HMk.out _ H3.out.1) (fun hHeld => ?_)
  clear hK K
  try simp only [Act.put, List.setIfInBounds_toArray, List.set_cons_zero, List.set_cons_succ]
  clear hy3 hb3
  obtain ⟨ll, hll⟩ : ∃ ll, l.length = ll := ⟨_, rfl⟩
  rw [hll] at H3 ⊢
  clear hll
  refine stepL 4 (by kernel_rfl) rfl (fun K hK => ?_)
  go_simp
  refine hK.out _ _ (HMk.out _ (H3.out.1.trans ((below_a _).mono H3.out.1.size))) (fun hHeld => ?_)
  clear hK K
  try simp only [Act.put, List.setIfInBounds_toArray, List.set_cons_zero, List.set_cons_succ]
  have H4 : Bx (Below w2.heap.size w2 (W3.alloc (.cells #[.slice (some ⟨W0.heap.size, 0, none⟩) ll c3] 23)) ∧ OwnP (W3.alloc (.cells #[.slice (some ⟨W0.heap.size, 0, none⟩) ll c3] 23)) W3.heap.size (.slice (some ⟨W3.heap.size, 0, none⟩) 1 1) [.slice (some ⟨W0.heap.size, 0, none⟩) ll c3] ∧ W3.heap.size ≤ (W3.alloc (.cells #[.slice (some ⟨W0.heap.size, 0, none⟩) ll c3] 23)).heap.size ∧ Below W3.heap.size W3 (W3.alloc (.cells #[.slice (some ⟨W0.heap.size, 0, none⟩) ll c3] 23))) := Bx.mk ⟨H3.out.1.trans ((below_a _).mono H3.out.1.size), ⟨rfl, .inr ⟨W3.heap.size, 1, _, rfl, Nat.le_refl _, hnew _ _ _ rfl, Nat.le_refl _, by unfold maxLen; omega, rfl, rfl⟩⟩, by simp, below_a _⟩
  generalize W3.alloc (.cells #[.slice (some ⟨W0.heap.size, 0, none⟩) ll c3] 23) = W4 at *
  obtain ⟨ys, hrow, hvals⟩ := HST.out.2.2
  have HYS := Bx.mk (And.intro hrow hvals)
  clear hrow hvals
  refine stepL 6 (by kernel_rfl) rfl (fun K hK => ?_)
  refine step_apP (by rfl) _ _ rfl W3.heap.size _ [.slice (some ⟨W0.heap.size, 0, none⟩) ll c3] (by rfl) H4.out.2.1 _ ys (by rfl) (HYS.out.1.later H4.out.1) (vals_one HYS.out.2) (by have h1 := HYS.out.2.1; have h2 := HL.out; simp only [List.length_cons, List.length_nil]; omega) H4.out.2.2.1 ?_
  intro v5 W5 ho5 hg5
  have H5 : Bx (Below w2.heap.size w2 W5 ∧ Parts W5 v5 (l :: pss)) := Bx.mk (by
    have hb := ownP_below H4.out.2.1 hg5 H4.out.2.2.1
    have hb35 : Below W3.heap.size W3 W5 := H4.out.2.2.2.trans hb
    have hb25 : Below w2.heap.size w2 W5 := H3.out.1.trans (hb35.mono H3.out.1.size)
    exact ⟨hb25, own_parts ho5 ((HYS.out.2.later hb25).cons (H3.out.2.later hb35))⟩)
  refine hK.out _ _ (HMk.out _ H5.out.1) (fun hHeld => ?_)
  clear hK K
  try simp only [Act.put, List.setIfInBounds_toArray, List.set_cons_zero, List.set_cons_succ]
  clear ho5 hg5 HYS H4 H3
  refine stepL 7 (by kernel_rfl) rfl (fun K hK => ?_)
  go_simp
  refine (rframe_any (l :: pss) v5 W5 H5.out.2 (by have := HL.out; rw [List.length_cons]; omega) (fun p hp => by have h := HL.out; rcases List.mem_cons.1 hp with rfl | hp; exact h.1; exact h.2.2 p hp)).mono ?_
  rintro e W6 ⟨v6, rfl, ho6, hb6⟩
  show K _ _
  have H6 : Bx (Below w2.heap.size w2 W6 ∧ Bytes W6 v6 (frame (l :: pss))) := Bx.mk ⟨H5.out.1.trans (hb6.mono H5.out.1.size), ho6.bytes⟩
  refine hK.out _ _ (HMk.out _ H6.out.1) (fun hHeld => ?_)
  clear hK K
  try simp only [Act.put, List.setIfInBounds_toArray, List.set_cons_zero, List.set_cons_succ]
  clear ho6 hb6 H5
  refine stepL 8 (by kernel_rfl) rfl (fun K hK => ?_)
  go_simp
  refine (rtag_any tbl HST.out.1.is key (frame (l :: pss)) _ v6 W6 (HST.out.1.hkey.later H6.out.1) H6.out.2 HST.out.1.kl HFL.out).mono ?_
  rintro e W7 ⟨rfl, hb7⟩
  show K _ _
  have H7 : Bx (Below w2.heap.size w2 W7) := Bx.mk (H6.out.1.trans (hb7.mono H6.out.1.size))
  refine hK.out _ _ (HMk.out _ H7.out) (fun hHeld => ?_)
  clear hK K
  try simp only [Act.put, List.setIfInBounds_toArray, List.set_cons_zero, List.set_cons_succ]
  clear hb7 H6
  have HML : Bx (hm.length = 32) := Bx.mk (by rw [← HHM.out]; exact sha_length _)
  rw [HHM.out]
  have HI3 : Bx ((Tryd.prog.info? 26).map (·.size) = some (u8s hm).size) := Bx.mk (by rw [u8s_size, HML.out]; kernel_rfl)
  have HR7 := Bx.mk (HRS.out _ H7.out)
  have Hd : Bx (Below w.heap.size w (W7.setCells (w.heap.size + 1) 0 (u8s hm).toList) ∧ (W7.setCells (w.heap.size + 1) 0 (u8s hm).toList).heap[w.heap.size + 1]? = some (.cells (u8s hm) 26 (0, 0))) := Bx.mk ⟨below_setCells (by omega) _ _ _ _ (HST.out.2.1.trans (H7.out.mono HST.out.2.1.size)), heap_setCells_all HR7.out (by rw [u8s_size, u8s_size, HML.out]; rfl)⟩
  have Hr : Bx ((W7.setCells (w.heap.size + 1) 0 (u8s hm).toList).rangeAt w.heap.size 0 tbl) := Bx.mk (fun j v hv => by
    have hx := (HMk.out _ H7.out).1 j v hv
    rw [← hx]
    show World.cell? _ _ = _
    unfold World.cell?
    rw [heap_setCells_other (w.heap.size + 1) w.heap.size (by omega)])
  refine stepL 9 (by kernel_rfl) rfl (fun K hK => ?_)
  refine step_st rfl 26 _ _ rfl (w.heap.size + 1) (u8s hm) (by rfl) (by rfl) (there_row HR7.out 0 _ (by rw [u8s_size, u8s_size, HML.out]; simp)) HI3.out (one_u8s _) ?_
  refine hK.out _ _ ⟨Hr.out, ⟨Hd.out.1⟩⟩ (fun hHeld => ?_)
  refine wpAnyH_done (by kernel_rfl) ?_ _
  refine NoPanic.normal ?_
  clear hK K hHeld
  go_wp2
  refine bodyPost_ret (results_cell_row rfl _ _ (w.heap.size + 1) _ (u8s hm) _ _ rfl Hd.out.2 Tryd.underlying26 rfl HI3.out) rfl ?_
  exact ⟨rfl, Hd.out.1⟩
end Go.Proofs.YtkfgpnigeknhmaaDoor
