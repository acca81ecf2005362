/-
  The walks of the tags of the document, of derived keys, and of the derived keys of the document.
-/
import Derived.Test.YtncbhnkhbohejaaDoorAf
import Derived.OwnWalk
import Derived.Test.YtncbhnkhbohejaaDoorAc
import Derived.Laws.LoneSync
namespace Go.Proofs.YtncbhnkhbohejaaDoor
open Go Go.RowKit
/-- The document's table in its own block. -/
structure RT (w : World) (tbl : List Value) (W : World) : Prop where
  below : Below w.heap.size w W
  size : w.heap.size < W.heap.size
  row : W.heap[w.heap.size]? = some (.cells tbl.toArray 41 (0, 0))
theorem RT.later {w W W1 : World} {tbl : List Value} (h : RT w tbl W) (hb : Below W.heap.size W W1) : RT w tbl W1 :=
  ⟨h.below.trans (hb.mono h.below.size), Nat.lt_of_lt_of_le h.size hb.size, by rw [hb.block _ h.size]; exact h.row⟩
end Go.Proofs.YtncbhnkhbohejaaDoor
namespace Go.Proofs.YtncbhnkhbohejaaDoor
open Go Go.RowKit
/-- What stays while a tag is made. -/
structure TS (w2 : World) (T R : Nat) (tbl : List Value) (vk vb : Value) (key bb : List UInt8) : Prop where
  row : w2.heap[T]? = some (.cells tbl.toArray 41 (0, 0))
  res : w2.heap[R]? = some (.cells (u8s (List.replicate 32 0)) 70 (0, 0))
  ne : T ≠ R
  hkey : Bytes w2 vk key
  hbytes : Bytes w2 vb bb
  kl : key.length ≤ 1000000
  bl : bb.length ≤ 1000000
  is : u32s (kTab ++ hTab) = tbl.toArray
theorem TS.rng {w2 W : World} {T R : Nat} {tbl : List Value} {vk vb : Value} {key bb : List UInt8} (h : TS w2 T R tbl vk vb key bb) (hb : Below w2.heap.size w2 W) : W.rangeAt T 0 tbl := fun j v hv => by
  rw [hb.cell (p := ⟨T, 0 + j, none⟩) (Array.getElem?_eq_some_iff.1 h.row).1, cell_of_row _ _ _ _ _ _ h.row, Nat.zero_add, ← Array.getElem?_toList]
  exact hv
end Go.Proofs.YtncbhnkhbohejaaDoor
namespace Go.Proofs.YtncbhnkhbohejaaDoor
open Go Go.RowKit
theorem BN.below {W W1 : World} {g : Nat} {v : Value} {l : List UInt8} (h : BN W g v l) (hb : Below W.heap.size W W1) : BN W1 g v l := h.later (kb_below (some g) hb)
/-- What framed has made so far. -/
structure FrS (w : World) (cap : Nat) (xs : List Value) (qs : List (List UInt8)) (W : World) : Prop where
  below : Below w.heap.size w W
  own : W.ownsRow w.heap.size 22 1 (.slice (some ⟨w.heap.size, 0, none⟩) xs.length cap) xs.length xs
  len : xs.length = qs.length
  vals : ∀ j, j < xs.length → BN W w.heap.size (xs.getD j undef) (qs.getD j [])
  lt : w.heap.size < W.heap.size
theorem FrS.later {w W W1 : World} {cap : Nat} {xs : List Value} {qs : List (List UInt8)} (h : FrS w cap xs qs W) (hb : Below W.heap.size W W1) : FrS w cap xs qs W1 :=
  ⟨h.below.trans (hb.mono h.below.size), OwnP.later h.own hb (fun g hg => by injection hg with hg; have := h.lt; simp only at hg; omega), h.len, fun j hj => (h.vals j hj).below hb, Nat.lt_of_lt_of_le h.lt hb.size⟩
theorem FrS.more {w W W1 : World} {cap : Nat} {xs : List Value} {qs : List (List UInt8)} (h : FrS w cap xs qs W) {y z : Value} {p r : List UInt8} (hy : BN W w.heap.size y p) (hz : BN W w.heap.size z r)
    (ho : W1.ownsRow w.heap.size 22 1 (.slice (some ⟨w.heap.size, 0, none⟩) (xs.length + 2) cap) (xs.length + 2) (xs ++ [y, z])) (hk : W.grownBy W1 (some w.heap.size)) : FrS w cap (xs ++ [y, z]) (qs ++ [p, r]) W1 := by
  refine ⟨below_kb h.below h.below.size hk (Nat.le_refl _), by rw [List.length_append]; exact ho, by rw [List.length_append, List.length_append, h.len]; rfl, fun j hj => ?_, Nat.lt_of_lt_of_le h.lt hk.size⟩
  rw [List.length_append] at hj
  by_cases h1 : j < xs.length
  · have e1 : (xs ++ [y, z]).getD j undef = xs.getD j undef := by simp [List.getElem?_append_left h1]
    have e2 : (qs ++ [p, r]).getD j [] = qs.getD j [] := by simp [List.getElem?_append_left (h.len ▸ h1)]
    rw [e1, e2]
    exact (h.vals j h1).later hk
  · have hj2 : j = xs.length ∨ j = xs.length + 1 := by simp at hj; omega
    rcases hj2 with rfl | rfl
    · have e1 : (xs ++ [y, z]).getD xs.length undef = y := by simp
      have e2 : (qs ++ [p, r]).getD xs.length [] = p := by rw [h.len]; simp
      rw [e1, e2]
      exact hy.later hk
    · have e1 : (xs ++ [y, z]).getD (xs.length + 1) undef = z := by simp
      have e2 : (qs ++ [p, r]).getD (xs.length + 1) [] = r := by rw [h.len]; simp
      rw [e1, e2]
      exact hz.later hk
theorem FrS.parts {w W : World} {cap : Nat} {xs : List Value} {qs : List (List UInt8)} (h : FrS w cap xs qs W) : Parts W (.slice (some ⟨w.heap.size, 0, none⟩) xs.length cap) qs :=
  own_parts h.own ⟨h.len, fun j hj => (h.vals j hj).1⟩
theorem framed_succ (l : List UInt8) (pss : List (List UInt8)) (k : Nat) (h : k < pss.length) : framed (l :: pss.take (k + 1)) = framed (l :: pss.take k) ++ [lenB (pss.getD k []).length, pss.getD k []] := by
  unfold framed
  rw [List.take_succ_eq_append_getElem h, ← List.cons_append, List.flatMap_append]
  simp [h]
/-- Two slices more. -/
theorem wpList_ap2 {ops : Array Oper} {rest : List Oper} {o : Oper} {a : Act} {Q : Exit → Act → World → Prop} (hgd : o.guard = none) (s x : Operand) (ho : o.op = .call { callee := .builtin .append, args := #[s, x], argTypes := #[23, 23] })
    (w W0 : World) (cp : Nat) (xs : List Value) (qs : List (List UInt8)) (y z : Value) (p r : List UInt8) (hF : FrS w cp xs qs W0) (hy : BN W0 w.heap.size y p) (hz : BN W0 w.heap.size z r) (oy : y.oneCell' = true) (oz : z.oneCell' = true) (m : Nat) (hm : xs.length = m)
    (hs : a.eval s = .slice (some ⟨w.heap.size, 0, none⟩) m cp) (hx : a.eval x = .slice (some ⟨W0.heap.size, 0, none⟩) 2 2) (hfit : m + 2 ≤ cp)
    (k : ∀ W1, FrS w cp (xs ++ [y, z]) (qs ++ [p, r]) W1 → wpList Tryd.prog ops Q rest (a.put o.dst (.slice (some ⟨w.heap.size, 0, none⟩) (m + 2) cp)) W1) : wpList Tryd.prog ops Q (o :: rest) a (W0.alloc (.cells #[y, z] 22)) := by
  obtain ⟨i0, hi0, hz0, hz1, hz2⟩ := info_parts (P := Tryd.prog) (e := 22) (z := .slice none 0 0) (size := 1) (bytes := 24) (by kernel_rfl)
  have hF' := hF.later (below_a (.cells #[y, z] 22))
  subst hm
  refine wpList_append_fits _ hgd s x 23 ho w.heap.size 22 i0 1 Tryd.underlying23 hi0 hz1 w.heap.size xs.length cp xs hs hF'.own ⟨W0.heap.size, 0, none⟩ 2 2 [y, z] hx rfl ?_ ?_ hfit ?_
  · intro j u hu
    have hj : j < 2 := (List.getElem?_eq_some_iff.1 hu).1
    rw [show (⟨W0.heap.size, 0, none⟩ : Addr).add j = ⟨W0.heap.size, 0 + j, none⟩ by unfold Addr.add; split <;> simp_all, cell_of_row _ _ _ _ _ _ (hnew _ _ _ rfl), Nat.zero_add, ← Array.getElem?_toList]
    exact hu
  · intro u hu
    simp at hu
    rcases hu with rfl | rfl
    · exact oy
    · exact oz
  · intro W1 ho1 hg1
    exact k W1 (hF'.more (hy.below (below_a _)) (hz.below (below_a _)) ho1 hg1)
/-- What framed hands back. -/
def FraP (w : World) (l : List UInt8) (pss : List (List UInt8)) (e : Ending) (w' : World) : Prop := ∃ n cap, e = .returned (.slice (some ⟨w.heap.size, 0, none⟩) n cap) ∧ Parts w' (.slice (some ⟨w.heap.size, 0, none⟩) n cap) (framed (l :: pss)) ∧ Below w.heap.size w w'
set_option maxRecDepth 100000 in
set_option maxHeartbeats 1000000 in
theorem framed_any (l : List UInt8) (pss : List (List UInt8)) (vp : Value) (w : World) (hp : Parts w vp pss) (hl : l.length ≤ 1000000) (hn : pss.length ≤ 1000) (hpl : ∀ p ∈ pss, p.length ≤ 1000000) :
    Calls Tryd.prog 48 #[.string ⟨l.toArray⟩, vp] w (FraP w l pss) := by
  have HP := Bx.mk hp
  have HPL := Bx.mk hpl
  have HL := Bx.mk hl
  obtain ⟨a, cap, rfl, -⟩ := hp
  obtain ⟨n, hnn⟩ : ∃ n, pss.length = n := ⟨_, rfl⟩
  have HN := Bx.mk hnn
  rw [hnn] at HP hn ⊢
  have hn1 : (n : Int) ≤ 1000 := by omega
  have hsz : (⟨l.toArray⟩ : ByteArray).size = l.length := rfl
  obtain ⟨ll, hll⟩ : ∃ ll, l.length = ll := ⟨_, rfl⟩
  have HLL := Bx.mk hll
  rw [hll] at hsz hl
  have hl1 : (ll : Int) ≤ 1000000 := by omega
  clear hnn hpl hll
  obtain ⟨i0, hi0, hz0, hz1, hz2⟩ := info_parts (P := Tryd.prog) (e := 22) (z := .slice none 0 0) (size := 1) (bytes := 24) (by kernel_rfl)
  obtain ⟨cp, hcp⟩ : ∃ cp, cp = 2 + 2 * n := ⟨_, rfl⟩
  have hcp1 : 2 + 2 * (n : Int) = (cp : Int) := by omega
  have HCP := Bx.mk hcp
  clear hcp
  go_enter Tryd.func48, Tryd.ntmps48
  go_upto_region 2 with (refine wpList_make_own w rfl _ _ 23 rfl w.heap.size 22 i0 _ 1 Tryd.underlying23 hi0 hz0 hz1 .i64 .i64 _ cp (by rfl) (by rfl) rfl (by rw [hz2]; have := HCP.out; omega) (by have := HCP.out; unfold maxLen; omega) (Nat.le_refl _) ?_; intro w1 ho1 hg1)
  have H1 : Bx (FrS w cp [] [] w1) := Bx.mk (by
    have hlt : w.heap.size < w1.heap.size := by
      rcases ho1.2 with ⟨hv, _⟩ | ⟨g, c, cur, hv, _, hh, _⟩
      · cases hv
      · injection hv with e1 _ _
        injection e1 with e1
        injection e1 with e1 _
        subst e1
        exact (Array.getElem?_eq_some_iff.1 hh).1
    exact ⟨⟨hg1.os, hg1.tape, hg1.output, hg1.size, fun i hi => hg1.block i hi (by intro e; cases e)⟩, ho1, rfl, (fun j hj => by simp at hj), hlt⟩)
  clear ho1 hg1 hi0 hz0 hz1 hz2
  go_wp2_with fail
  refine (length_any ll w1 (by omega)).mono ?_
  rintro e w2 ⟨rfl, hb2, hy2⟩
  have H2 : Bx (FrS w cp [] [] w2 ∧ BN w2 w.heap.size (.slice (some ⟨w1.heap.size, 0, none⟩) 4 4) (lenB ll)) := Bx.mk ⟨H1.out.later hb2, hy2.bn (by have := H1.out.lt; omega)⟩
  clear hb2 hy2 H1
  generalize w1.heap.size = L1 at *
  go_upto_region 3 with (first | (refine wpList_strb rfl _ rfl l (by rfl) ?_; intro c3 w3 hz3 hb3; have H3 : Bx (FrS w cp [] [] w3 ∧ BN w3 w.heap.size (.slice (some ⟨L1, 0, none⟩) 4 4) (lenB ll) ∧ BN w3 w.heap.size (.slice (some ⟨w2.heap.size, 0, none⟩) l.length c3) l) := Bx.mk ⟨H2.out.1.later hb3, H2.out.2.below hb3, hz3.bn (by have := H2.out.1.lt; omega)⟩; clear hz3 hb3) | (refine wpList_ap2 rfl _ _ rfl w w3 cp [] [] _ _ (lenB ll) l H3.out.1 H3.out.2.1 H3.out.2.2 rfl rfl 0 rfl (by rfl) (by rfl) (by have := HCP.out; omega) ?_; intro w4 hF4; have H4 : Bx (∃ xs : List Value, xs.length = 2 ∧ FrS w cp xs (framed (l :: pss.take 0)) w4) := Bx.mk ⟨_, rfl, by rw [← HLL.out] at hF4; exact hF4⟩; clear hF4))
  go_wp2
  go_loopw [5, 23] (fun vv i wr => ∃ j m : Nat, j ≤ n ∧ m = 2 + 2 * j ∧ vv = .slice (some ⟨w.heap.size, 0, none⟩) m cp ∧ i = .int .i64 (j : Int) ∧ Bx (∃ xs : List Value, xs.length = m ∧ FrS w cp xs (framed (l :: pss.take j)) wr)) (fun _ i _ => n - (intOf i).toNat)
  case atStart => exact ⟨0, 2, by omega, rfl, rfl, rfl, H4⟩
  case round =>
    clear H4 H3 H2
    obtain ⟨j, m, hj, hm, rfl, rfl, HF⟩ := hrel
    by_cases hlt : j < n
    · obtain ⟨a', cap', hv', hr'⟩ := HP.out
      injection hv' with e1 e2 e3
      obtain ⟨p, o, ha, hcell⟩ := hr' (by omega)
      subst e1
      subst ha
      obtain ⟨xv, hx, hxb⟩ := hcell j (by rw [HN.out]; exact hlt)
      obtain ⟨xs, hxs, hF⟩ := HF.out
      have hcw : wr.cell? ⟨p, o + j, none⟩ = some xv := by
        rw [hF.below.cell (p := ⟨p, o + j, none⟩) (World.block_lt_of_cell? _ _ hx)]
        exact hx
      have hpj : (pss.getD j []).length ≤ 1000000 := by
        have h : j < pss.length := by rw [HN.out]; exact hlt
        have hmem : pss.getD j [] ∈ pss := by
          rw [List.getD_eq_getElem?_getD, List.getElem?_eq_getElem h]
          exact List.getElem_mem h
        exact HPL.out _ hmem
      have HSc : Bx (framed (l :: pss.take (j + 1)) = framed (l :: pss.take j) ++ [lenB (pss.getD j []).length, pss.getD j []]) := Bx.mk (framed_succ l pss j (by rw [HN.out]; exact hlt))
      generalize pss.getD j [] = pj at *
      obtain ⟨ax, cx, hxf, -, -⟩ := bytes_form hxb
      obtain ⟨pl, hpl⟩ : ∃ pl, pj.length = pl := ⟨_, rfl⟩
      rw [hpl] at hxf hpj HSc
      have HXB := Bx.mk hxb
      have HF2 := Bx.mk (And.intro hxs hF)
      subst hxf
      have hpl1 : (pl : Int) ≤ 1000000 := by omega
      have hj1 : (j : Int) < (n : Int) := by omega
      have HM := Bx.mk (And.intro hm hlt)
      clear hr' e2 e3 hcell hx hxb hF hxs HF hpl hm
      obtain ⟨wq, rfl⟩ : ∃ wq : World, wq = wr := ⟨_, rfl⟩
      go_wp2_with fail
      refine (length_any pl wq (by omega)).mono ?_
      rintro e w5 ⟨rfl, hb5, hy5⟩
      have H5 : Bx (FrS w cp xs (framed (l :: pss.take j)) w5 ∧ BN w5 w.heap.size (.slice (some ⟨wq.heap.size, 0, none⟩) 4 4) (lenB pl) ∧ BN w5 w.heap.size (.slice ax pl cx) pj) := Bx.mk ⟨HF2.out.2.later hb5, hy5.bn (by have := HF2.out.2.lt; omega), HXB.out.bn_old (HF2.out.2.later hb5).below (Nat.le_refl _)⟩
      have HXL := Bx.mk HF2.out.1
      clear hb5 hy5 HF2 hcw
      generalize wq.heap.size = L5 at *
      go_wp2_with (refine wpList_ap2 rfl _ _ rfl w w5 cp xs _ (.slice (some ⟨L5, 0, none⟩) 4 4) (.slice ax pl cx) (lenB pl) pj H5.out.1 H5.out.2.1 H5.out.2.2 rfl rfl m HXL.out (by rfl) (by rfl) (by have := HCP.out; have := HM.out; omega) ?_; intro w6 hF6; have H6 : Bx (∃ ys : List Value, ys.length = m + 2 ∧ FrS w cp ys (framed (l :: pss.take (j + 1))) w6) := Bx.mk ⟨xs ++ [.slice (some ⟨L5, 0, none⟩) 4 4, .slice ax pl cx], by (rw [List.length_append, HXL.out]; rfl), by (rw [HSc.out]; exact hF6)⟩; clear hF6)
      go_roundw
      case rel => exact ⟨j + 1, m + 2, by omega, by have := HM.out; omega, rfl, by go_num, H6⟩
      case measure => simp [intOf]; omega
    · obtain ⟨xs, hxs, hF⟩ := HF.out
      have ej : pss.take j = pss := List.take_of_length_le (by rw [HN.out]; omega)
      rw [ej] at hF
      have HQ : Bx (Parts wr (.slice (some ⟨w.heap.size, 0, none⟩) m cp) (framed (l :: pss)) ∧ Below w.heap.size w wr) := Bx.mk ⟨by rw [← hxs]; exact hF.parts, hF.below⟩
      clear HF hF ej hxs hm
      go_wp2
      go_ret
      exact ⟨m, cp, rfl, HQ.out⟩
set_option maxRecDepth 100000 in
theorem framed_all (ps : List (List UInt8)) : (framed ps).length = 2 * ps.length := by
  induction ps with
  | nil => rfl
  | cons p ps ih =>
    unfold framed at ih ⊢
    rw [List.flatMap_cons, List.length_append, ih, List.length_cons]
    simp
    omega
theorem framed_len (l : List UInt8) (pss : List (List UInt8)) : (framed (l :: pss)).length = 2 + 2 * pss.length := by
  rw [framed_all, List.length_cons]; omega
theorem frame_cons (p : List UInt8) (ps : List (List UInt8)) : frame (p :: ps) = lenB p.length ++ (p ++ frame ps) := by
  unfold frame framed
  simp
theorem frame_len (ps : List (List UInt8)) (b : Nat) (h : ∀ p ∈ ps, p.length ≤ b) : (frame ps).length ≤ (4 + b) * ps.length := by
  induction ps with
  | nil => simp [frame, framed]
  | cons p ps ih =>
    rw [frame_cons, List.length_append, List.length_append]
    have h1 := h p (by simp)
    have h2 := ih (fun q hq => h q (by simp [hq]))
    have h3 : (lenB p.length).length = 4 := rfl
    rw [h3, List.length_cons, Nat.mul_add, Nat.mul_one]
    omega
set_option maxRecDepth 100000 in
set_option maxHeartbeats 1000000 in
theorem derive_any (key l : List UInt8) (pss : List (List UInt8)) (v vp : Value) (w : World) (hv : Bytes w v key) (hp : Parts w vp pss) (hk : key.length ≤ 1000000) (hl : l.length ≤ 10000) (hn : pss.length ≤ 1000) (hpl : ∀ p ∈ pss, p.length ≤ 10000) (hTab : Tab w) (hg : 0 < w.heap.size) :
    Calls Tryd.prog 41 #[v, .string ⟨l.toArray⟩, vp] w fun e w' => e = .returned (.agg (u8s (hmac key (frame (l :: pss))))) ∧ Below w.heap.size w w' := by
  have HV := Bx.mk hv
  have HP := Bx.mk hp
  have HL := Bx.mk (And.intro hk (And.intro hl (And.intro hn hpl)))
  have HA := Bx.mk hTab
  obtain ⟨a, cap, rfl, -⟩ := hv
  obtain ⟨n, hn1⟩ : ∃ n, key.length = n := ⟨_, rfl⟩
  rw [hn1] at HV ⊢
  clear hk hl hn hpl hTab hp hn1
  obtain ⟨z32, hz32⟩ : ∃ z, u8s (List.replicate 32 0) = z := ⟨_, rfl⟩
  have hz32v : ∀ W : World, (zeroValue 70).run Tryd.prog W = .ok (.agg z32) W := fun W => by rw [← hz32, zero32]; kernel_rfl
  have H0 : Bx (Below w.heap.size w (w.alloc (.cells z32 70)) ∧ (w.alloc (.cells z32 70)).heap[w.heap.size]? = some (.cells (u8s (List.replicate 32 0)) 70 (0, 0)) ∧ w.heap.size < (w.alloc (.cells z32 70)).heap.size) := Bx.mk ⟨below_a _, by rw [hnew _ _ _ rfl, hz32], by simp⟩
  clear hz32
  go_enter Tryd.func41, Tryd.ntmps41
  go_wp2_with fail
  generalize w.alloc (.cells z32 70) = w0 at *
  refine (framed_any l pss vp w0 (HP.out.later H0.out.1) (by have := HL.out; omega) HL.out.2.2.1 (fun p hp => by have := HL.out.2.2.2 p hp; omega)).mono ?_
  rintro e w1 ⟨m, cp, rfl, hq, hb1⟩
  have H1 : Bx (Below w.heap.size w w1 ∧ w1.heap[w.heap.size]? = some (.cells (u8s (List.replicate 32 0)) 70 (0, 0)) ∧ Parts w1 (.slice (some ⟨w0.heap.size, 0, none⟩) m cp) (framed (l :: pss)) ∧ Bytes w1 (.slice a n cap) key) := Bx.mk ⟨H0.out.1.trans (hb1.mono H0.out.1.size), by rw [hb1.block _ H0.out.2.2]; exact H0.out.2.1, hq, (HV.out.later H0.out.1).later hb1⟩
  clear hq hb1 H0 hz32v
  generalize w0.heap.size = G0 at *
  go_wp2_with fail
  refine (tag_any key (framed (l :: pss)) _ _ w1 H1.out.2.2.2 H1.out.2.2.1 HL.out.1 (by have := HL.out; rw [framed_len]; omega) (by
    have h1 := HL.out
    have h2 := frame_len (l :: pss) 10000 (fun p hp => by rcases List.mem_cons.1 hp with rfl | hp; exact h1.2.1; exact h1.2.2.2 p hp)
    rw [List.length_cons] at h2
    show (frame (l :: pss)).length ≤ _
    omega) (HA.out.later H1.out.1 hg) (Nat.lt_of_lt_of_le hg H1.out.1.size)).mono ?_
  rintro e w2 ⟨rfl, hb2⟩
  have H2 : Bx (Below w.heap.size w w2 ∧ w2.heap[w.heap.size]? = some (.cells (u8s (List.replicate 32 0)) 70 (0, 0))) := Bx.mk ⟨H1.out.1.trans (hb2.mono H1.out.1.size), by rw [hb2.block _ (Array.getElem?_eq_some_iff.1 H1.out.2.1).1]; exact H1.out.2.1⟩
  clear hb2 H1
  have HE : Bx (hmac key (framed (l :: pss)).flatten = hmac key (frame (l :: pss))) := Bx.mk rfl
  rw [HE.out]
  have HSL : Bx ((hmac key (frame (l :: pss))).length = 32) := Bx.mk (sha_length _)
  generalize hhm : hmac key (frame (l :: pss)) = hm at *
  have HHM := Bx.mk hhm
  clear hhm
  have HI : Bx ((Tryd.prog.info? 70).map (·.size) = some (u8s hm).size) := Bx.mk (by rw [u8s_size, HSL.out]; kernel_rfl)
  have HZ : Bx ((u8s hm).size = (u8s (List.replicate 32 0)).size) := Bx.mk (by rw [u8s_size, u8s_size, HSL.out]; rfl)
  go_wp2_with (refine wpList_store_new rfl 70 _ _ rfl w.heap.size (u8s hm) _ _ (by rfl) (by rfl) H2.out.2 HZ.out HI.out (one_u8s _) ?_; intro w3 hw3 hr3; have H3 : Bx (Below w.heap.size w w3 ∧ w3.heap[w.heap.size]? = some (.cells (u8s hm) 70 (0, 0))) := Bx.mk ⟨by rw [hw3]; exact below_setCells (Nat.le_refl _) _ _ _ _ H2.out.1, hr3⟩; clear hw3 hr3)
  refine bodyPost_ret (results_cell_row rfl _ _ w.heap.size _ (u8s hm) _ _ rfl H3.out.2 Tryd.underlying70 rfl HI.out) rfl ?_
  exact ⟨by first | rfl | rw [HHM.out], H3.out.1⟩
theorem vals_one {w : World} {ys : List Value} {ps : List (List UInt8)} (h : Vals w ys ps) : ∀ u ∈ ys, u.oneCell' = true := by
  intro u hu
  obtain ⟨j, hj, rfl⟩ := List.getElem_of_mem hu
  obtain ⟨a, cap, hv, _⟩ := h.2 j hj
  have e : ys.getD j undef = ys[j] := by simp [hj]
  rw [← e, hv]
  rfl
end Go.Proofs.YtncbhnkhbohejaaDoor
namespace Go.Proofs.YtncbhnkhbohejaaDoor
open Go Go.RowKit
set_option maxRecDepth 100000 in
set_option maxHeartbeats 400000 in
theorem copied_any (bs : List UInt8) (v : Value) (w : World) (hv : Bytes w v bs) (hl : bs.length ≤ 140737488355328) :
    Calls Tryd.prog 40 #[v] w fun e w' => ∃ v', e = .returned v' ∧ OwnB w' w.heap.size v' bs ∧ Below w.heap.size w w' := by
  have HV := Bx.mk hv
  have HL := Bx.mk hl
  clear hv hl
  go_enter Tryd.func40, Tryd.ntmps40
  go_wp2_with (refine wpList_apT 85 Tryd.underlying85 rfl _ _ rfl w.heap.size _ [] (by rfl) (OwnB.nil _ _) _ bs (by rfl) HV.out (by have := HL.out; simp; omega) (Nat.le_refl _) ?_; intro v1 w1 h1 g1 _; have H1 : Bx (OwnB w1 w.heap.size v1 bs ∧ Below w.heap.size w w1) := Bx.mk ⟨h1, own_below (OwnB.nil _ _) g1 (Nat.le_refl _)⟩; clear h1 g1)
  go_ret
  exact ⟨v1, rfl, H1.out⟩
/-- A key that has its own bytes, none of it older than base. -/
def KeyO (w : World) (base : Nat) (v : Value) (bs : List UInt8) : Prop :=
  ∃ p s, v = .pointer (some ⟨p, 0, none⟩) ∧ base ≤ p ∧ w.heap[p]? = some (.cells #[s] 88 (0, 0)) ∧ OwnB w base s bs
/-- A key. -/
def IsKey (w : World) (v : Value) (bs : List UInt8) : Prop :=
  ∃ p s, v = .pointer (some ⟨p, 0, none⟩) ∧ w.heap[p]? = some (.cells #[s] 88 (0, 0)) ∧ Bytes w s bs
theorem KeyO.key {w : World} {base : Nat} {v : Value} {bs : List UInt8} (h : KeyO w base v bs) : IsKey w v bs := by
  obtain ⟨p, s, hv, _, hr, ho⟩ := h
  exact ⟨p, s, hv, hr, ho.bytes⟩
theorem KeyO.weak {w : World} {base base' : Nat} {v : Value} {bs : List UInt8} (h : KeyO w base v bs) (hb : base' ≤ base) : KeyO w base' v bs := by
  obtain ⟨p, s, hv, hp, hr, h1, h2⟩ := h
  refine ⟨p, s, hv, by omega, hr, h1, ?_⟩
  rcases h2 with h0 | ⟨g, cap, cur, hv', hb', hg, hr'⟩
  · exact .inl h0
  · exact .inr ⟨g, cap, cur, hv', by omega, hg, hr'⟩
theorem IsKey.later {w w1 : World} {v : Value} {bs : List UInt8} (h : IsKey w v bs) (hb : Below w.heap.size w w1) : IsKey w1 v bs := by
  obtain ⟨p, s, hv, hr, ho⟩ := h
  exact ⟨p, s, hv, by rw [hb.block _ (Array.getElem?_eq_some_iff.1 hr).1]; exact hr, ho.later hb⟩
theorem KeyO.later {w w1 : World} {base : Nat} {v : Value} {bs : List UInt8} (h : KeyO w base v bs) (hb : Below w.heap.size w w1) : KeyO w1 base v bs := by
  obtain ⟨p, s, hv, hp, hr, ho⟩ := h
  exact ⟨p, s, hv, hp, by rw [hb.block _ (Array.getElem?_eq_some_iff.1 hr).1]; exact hr, ho.later hb (fun g hg => (ho.lt g hg).1)⟩
set_option maxRecDepth 100000 in
set_option maxHeartbeats 400000 in
theorem new_any (bs : List UInt8) (v : Value) (w : World) (hv : Bytes w v bs) (hl : bs.length ≤ 140737488355328) :
    Calls Tryd.prog 29 #[v] w fun e w' => ∃ v', e = .returned v' ∧ KeyO w' w.heap.size v' bs ∧ Below w.heap.size w w' := by
  have HV := Bx.mk hv
  have HL := Bx.mk hl
  obtain ⟨a, cap, rfl, -⟩ := hv
  obtain ⟨n, hn⟩ : ∃ n, bs.length = n := ⟨_, rfl⟩
  rw [hn] at HV ⊢
  clear hn hl
  go_enter Tryd.func29, Tryd.ntmps29
  go_wp2_with fail
  refine (copied_any bs _ w HV.out HL.out).mono ?_
  rintro e w1 ⟨v1, rfl, ho, hb⟩
  have H1 := Bx.mk (And.intro ho hb)
  obtain ⟨a1, c1, rfl, -⟩ := ho.bytes
  clear ho hb
  go_wp2
  go_ret
  refine ⟨_, rfl, ⟨_, _, rfl, H1.out.2.size, by rw [hnew _ _ _ rfl], ?_⟩, H1.out.2.alloc H1.out.2.size _⟩
  exact H1.out.1.later (below_a _) (fun g hg => (H1.out.1.lt g hg).1)
set_option maxRecDepth 100000 in
set_option maxHeartbeats 400000 in
theorem kbytes_any (bs : List UInt8) (v : Value) (w : World) (hv : IsKey w v bs) (hl : bs.length ≤ 140737488355328) :
    Calls Tryd.prog 34 #[v] w fun e w' => ∃ v', e = .returned v' ∧ OwnB w' w.heap.size v' bs ∧ Below w.heap.size w w' := by
  obtain ⟨p, s, rfl, hr, hv⟩ := hv
  have HV := Bx.mk hv
  have HL := Bx.mk hl
  have hc : w.cell? ⟨p, 0, none⟩ = some s := by rw [cell_of_row _ _ _ _ _ _ hr]; rfl
  obtain ⟨a, cap, rfl, -⟩ := hv
  obtain ⟨n, hn⟩ : ∃ n, bs.length = n := ⟨_, rfl⟩
  rw [hn] at HV hc
  clear hn hl hr
  go_enter Tryd.func34, Tryd.ntmps34
  go_wp2_with fail
  refine (copied_any bs _ w HV.out HL.out).mono ?_
  rintro e w1 ⟨v1, rfl, ho, hb⟩
  have H1 := Bx.mk (And.intro ho hb)
  clear ho hb
  go_wp2
  go_ret
  exact ⟨_, rfl, H1.out⟩
end Go.Proofs.YtncbhnkhbohejaaDoor
namespace Go.Proofs.YtncbhnkhbohejaaDoor
open Go Go.RowKit
theorem IsKey.parts {w : World} {v : Value} {bs : List UInt8} (h : IsKey w v bs) : ∃ p a cap, v = .pointer (some ⟨p, 0, none⟩) ∧ w.cell? ⟨p, 0, none⟩ = some (.slice a bs.length cap) ∧ Bytes w (.slice a bs.length cap) bs := by
  obtain ⟨p, s, hv, hr, hb⟩ := h
  have hc : w.cell? ⟨p, 0, none⟩ = some s := by rw [cell_of_row _ _ _ _ _ _ hr]; rfl
  have hb' := hb
  obtain ⟨a, cap, rfl, -⟩ := hb
  exact ⟨p, a, cap, hv, hc, hb'⟩
set_option maxRecDepth 100000 in
set_option maxHeartbeats 1000000 in
theorem kderive_any (bs l : List UInt8) (pss : List (List UInt8)) (v vp : Value) (w : World) (hv : IsKey w v bs) (hp : Parts w vp pss) (hk : bs.length ≤ 1000000) (hl : l.length ≤ 10000) (hn : pss.length ≤ 1000) (hpl : ∀ p ∈ pss, p.length ≤ 10000) (hTab : Tab w) (hg : 0 < w.heap.size) :
    Calls Tryd.prog 33 #[v, .string ⟨l.toArray⟩, vp] w fun e w' => ∃ v', e = .returned v' ∧ KeyO w' w.heap.size v' (hmac bs (frame (l :: pss))) ∧ Below w.heap.size w w' := by
  have HP := Bx.mk hp
  have HL := Bx.mk (And.intro hk (And.intro hl (And.intro hn hpl)))
  have HA := Bx.mk hTab
  obtain ⟨p, a, cap, rfl, hc, hb⟩ := hv.parts
  have HB := Bx.mk hb
  obtain ⟨n, hn⟩ : ∃ n, bs.length = n := ⟨_, rfl⟩
  rw [hn] at HB hc
  clear hn hv hb hk hl hpl hTab hp
  obtain ⟨z32, hz32⟩ : ∃ z, u8s (List.replicate 32 0) = z := ⟨_, rfl⟩
  have hz32v : ∀ W : World, (zeroValue 70).run Tryd.prog W = .ok (.agg z32) W := fun W => by rw [← hz32, zero32]; kernel_rfl
  have HZ0 := Bx.mk hz32
  clear hz32
  go_enter Tryd.func33, Tryd.ntmps33
  go_wp2_with fail
  refine (derive_any bs l pss _ _ w HB.out HP.out HL.out.1 HL.out.2.1 HL.out.2.2.1 HL.out.2.2.2 HA.out hg).mono ?_
  rintro e w1 ⟨rfl, hb1⟩
  have H1 := Bx.mk hb1
  clear hb1 HB hc
  have HSL : Bx ((hmac bs (frame (l :: pss))).length = 32) := Bx.mk (sha_length _)
  generalize hhm : hmac bs (frame (l :: pss)) = hm at *
  have HHM := Bx.mk hhm
  clear hhm
  have HI : Bx ((Tryd.prog.info? 70).map (·.size) = some (u8s hm).size) := Bx.mk (by rw [u8s_size, HSL.out]; kernel_rfl)
  have HZ3 : Bx ((u8s hm).size = z32.size) := Bx.mk (by rw [u8s_size, HSL.out, ← HZ0.out]; rfl)
  go_upto_region 4 with (refine wpList_store_var rfl 70 _ _ rfl w1 _ _ rfl (by rfl) (u8s hm) (by rfl) HZ3.out HI.out (one_u8s _) ?_; intro w2 hb2 hr2 hl2)
  have H2 : Bx (Below w.heap.size w w2 ∧ Bytes w2 (.slice (some ⟨w1.heap.size, 0, none⟩) 32 32) hm) := Bx.mk ⟨H1.out.trans (hb2.mono H1.out.size), row_bytes hr2 HSL.out⟩
  clear hb2 hr2 hl2 HZ3 HI HZ0 hz32v H1
  go_wp2_with fail
  refine (new_any hm _ w2 H2.out.2 (by rw [HSL.out]; omega)).mono ?_
  rintro e w3 ⟨v3, rfl, hk3, hb3⟩
  have H3 : Bx (KeyO w3 w.heap.size v3 hm ∧ Below w.heap.size w w3) := Bx.mk ⟨hk3.weak H2.out.1.size, H2.out.1.trans (hb3.mono H2.out.1.size)⟩
  clear hk3 hb3 H2
  go_wp2
  go_ret
  exact ⟨_, rfl, by rw [HHM.out]; exact H3.out⟩
end Go.Proofs.YtncbhnkhbohejaaDoor
namespace Go.Proofs.YtncbhnkhbohejaaDoor
open Go Go.RowKit
/-- A number as two bytes, as four. -/
def q2 (n : Nat) : List UInt8 := [UInt8.ofNat (n / 256 % 256), UInt8.ofNat (n % 256)]
def q4 (n : Nat) : List UInt8 := q2 (n / 65536) ++ q2 n
theorem q_lo (n : Nat) : (n : Int) % 256 = ub (UInt8.ofNat (n % 256)) := by unfold ub; rw [UInt8.toNat_ofNat']; omega
theorem q_hi (n : Nat) : (n : Int) / 256 % 256 = ub (UInt8.ofNat (n / 256 % 256)) := by unfold ub; rw [UInt8.toNat_ofNat']; omega
theorem q2_length (n : Nat) : (q2 n).length = 2 := rfl
theorem q4_length (n : Nat) : (q4 n).length = 4 := rfl
set_option maxRecDepth 100000 in
theorem two_any (n : Nat) (w : World) (hn : n ≤ 4294967295) :
    Calls Tryd.prog 32 #[.int .i64 (n : Int)] w fun e w' => ∃ v', e = .returned v' ∧ OwnB w' w.heap.size v' (q2 n) ∧ Below w.heap.size w w' := by
  have hn1 : (n : Int) ≤ 4294967295 := by omega
  have hn0 : (0 : Int) ≤ (n : Int) := by omega
  have HB := Bx.mk (And.intro (q_lo n) (q_hi n))
  go_enter Tryd.func32, Tryd.ntmps32
  go_wp2
  go_ret
  rw [HB.out.1, HB.out.2]
  exact ⟨_, rfl, row_own (hnew _ _ _ rfl) rfl (Nat.le_refl _) (by omega), below_a _⟩
set_option maxRecDepth 100000 in
theorem four_any (n : Nat) (w : World) (hn : n ≤ 4294967295) :
    Calls Tryd.prog 31 #[.int .i64 (n : Int)] w fun e w' => ∃ v', e = .returned v' ∧ OwnB w' w.heap.size v' (q4 n) ∧ Below w.heap.size w w' := by
  have hn1 : (n : Int) ≤ 4294967295 := by omega
  have hn0 : (0 : Int) ≤ (n : Int) := by omega
  have HT := Bx.mk fun (W : World) => two_any (n / 65536) W (by omega)
  have HU := Bx.mk fun (W : World) => two_any n W hn
  obtain ⟨k, hk⟩ : ∃ k, n / 65536 = k := ⟨_, rfl⟩
  have e1 : (n : Int) / 65536 = (k : Int) := by omega
  have HQ : Bx (q4 n = q2 k ++ q2 n) := Bx.mk (by unfold q4; rw [hk])
  rw [hk] at HT
  clear hk
  go_enter Tryd.func31, Tryd.ntmps31
  go_wp2_with fail
  refine (HT.out w).mono ?_
  rintro e w1 ⟨v1, rfl, ho, hb⟩
  have H1 := Bx.mk (And.intro ho hb)
  clear ho hb HT
  go_wp2_with fail
  refine (HU.out w1).mono ?_
  rintro e w2 ⟨v2, rfl, ho, hb⟩
  have H2 := Bx.mk (And.intro (H1.out.1.later hb (fun g hg => (H1.out.1.lt g hg).1)) (And.intro ho.bytes (H1.out.2.trans (hb.mono H1.out.2.size))))
  clear ho hb HU H1
  go_wp2_with (refine wpList_ap rfl _ _ rfl w.heap.size _ (q2 k) (by rfl) H2.out.1 _ (q2 n) (by rfl) H2.out.2.1 (by simp [q2_length]) H2.out.2.2.size ?_; intro v3 w3 h3 g3 _; have H3 : Bx (OwnB w3 w.heap.size v3 (q2 k ++ q2 n) ∧ Below w.heap.size w w3) := Bx.mk ⟨h3, H2.out.2.2.trans (own_below H2.out.1 g3 H2.out.2.2.size)⟩; clear h3 g3)
  go_ret
  exact ⟨_, rfl, by rw [HQ.out]; exact H3.out.1, H3.out.2⟩
/-- Whose address, and at which tick, may there be a cookie? -/
def rightQ (a t : Int) : Bool := decide (0 ≤ a ∧ a < 65536 ∧ 0 ≤ t ∧ t ≤ 1073741824)
set_option maxRecDepth 100000 in
theorem epoch_any (t : Int) (w : World) (h1 : -9223372036854775808 ≤ t) (h2 : t ≤ 9223372036854775807) :
    Calls Tryd.prog 16 #[.int .i64 t] w fun e w' => e = .returned (.int .i64 (max 0 t / 64)) ∧ w = w' := by
  by_cases h : 0 < t
  · have e1 : max 0 t = t := by omega
    rw [e1]
    clear e1
    go_enter Tryd.func16, Tryd.ntmps16
    go_wp2
    go_ret
    exact ⟨rfl, rfl⟩
  · have e1 : max 0 t = 0 := by omega
    rw [e1]
    clear e1
    go_enter Tryd.func16, Tryd.ntmps16
    go_wp2
    go_ret
    exact ⟨rfl, rfl⟩
theorem epoch_nat (t : Nat) (w : World) (h2 : t ≤ 1073742123) :
    Calls Tryd.prog 16 #[.int .i64 (t : Int)] w fun e w' => e = .returned (.int .i64 ((t / 64 : Nat) : Int)) ∧ w = w' := by
  have h := epoch_any (t : Int) w (by omega) (by omega)
  have e : max 0 (t : Int) / 64 = ((t / 64 : Nat) : Int) := by omega
  rw [e] at h
  exact h
/-- A baker in block p that baked so many, found so many stale; its key stays where block q changes. -/
def Bk (W : World) (q p n m : Nat) (bs : List UInt8) : Prop :=
  ∃ k, W.heap[p]? = some (.cells #[.int .i64 (n : Int), .int .i64 (m : Int), .pointer (some ⟨k, 0, none⟩)] 66 (0, 0)) ∧ ∀ W1, W.grownBy W1 (some q) → IsKey W1 (.pointer (some ⟨k, 0, none⟩)) bs
theorem Bk.lt {W : World} {q p n m : Nat} {bs : List UInt8} (h : Bk W q p n m bs) : p < W.heap.size := by
  obtain ⟨k, hr, -⟩ := h
  exact (Array.getElem?_eq_some_iff.1 hr).1
theorem Bk.later {W W1 : World} {q p n m : Nat} {bs : List UInt8} (h : Bk W q p n m bs) (hb : Below W.heap.size W W1) : Bk W1 q p n m bs := by
  have hlt := h.lt
  obtain ⟨k, hr, hk⟩ := h
  exact ⟨k, by rw [hb.block _ hlt]; exact hr, fun W2 h2 => hk W2 (kb_trans (kb_below _ hb) h2)⟩
theorem Bk.beside {W W1 : World} {q p n m : Nat} {bs : List UInt8} (h : Bk W q p n m bs) (hne : p ≠ q) (hg : W.grownBy W1 (some q)) : Bk W1 q p n m bs := by
  have hlt := h.lt
  obtain ⟨k, hr, hk⟩ := h
  exact ⟨k, by rw [hg.block _ hlt (fun e => hne (by injection e))]; exact hr, fun W2 h2 => hk W2 (kb_trans hg h2)⟩
theorem Bk.parts {W : World} {q p n m : Nat} {bs : List UInt8} (h : Bk W q p n m bs) : ∃ k, W.cell? ⟨p, 0, none⟩ = some (.int .i64 (n : Int)) ∧ W.cell? ⟨p, 1, none⟩ = some (.int .i64 (m : Int)) ∧ W.cell? ⟨p, 2, none⟩ = some (.pointer (some ⟨k, 0, none⟩)) ∧ (∀ i, W.frozen? ⟨p, i, none⟩ = false) ∧ IsKey W (.pointer (some ⟨k, 0, none⟩)) bs := by
  obtain ⟨k, hr, hk⟩ := h
  exact ⟨k, by rw [cell_of_row _ _ _ _ _ _ hr]; rfl, by rw [cell_of_row _ _ _ _ _ _ hr]; rfl, by rw [cell_of_row _ _ _ _ _ _ hr]; rfl, fun i => frozen_of_row _ _ _ _ _ hr, hk W (kb_refl _ _)⟩
theorem Bk.bake {W : World} {p n m : Nat} {bs : List UInt8} (h : Bk W p p n m bs) : Bk (W.setCell ⟨p, 0, none⟩ (.int .i64 ((n + 1 : Nat) : Int))) p p (n + 1) m bs := by
  obtain ⟨k, hr, hk⟩ := h
  exact ⟨k, by rw [heap_setCell_same _ _ _ _ _ _ hr]; rfl, fun W2 h2 => hk W2 (kb_trans (kb_set1 _ _ _ _) h2)⟩
theorem Bk.find {W : World} {p n m : Nat} {bs : List UInt8} (h : Bk W p p n m bs) : Bk (W.setCell ⟨p, 1, none⟩ (.int .i64 ((m + 1 : Nat) : Int))) p p n (m + 1) bs := by
  obtain ⟨k, hr, hk⟩ := h
  exact ⟨k, by rw [heap_setCell_same _ _ _ _ _ _ hr]; rfl, fun W2 h2 => hk W2 (kb_trans (kb_set1 _ _ _ _) h2)⟩
set_option maxRecDepth 100000 in
theorem add_base (p i : Nat) (n : Nat) (w : World) (hc : w.cell? ⟨p, i, none⟩ = some (.int .i64 (n : Int))) (hz : w.frozen? ⟨p, i, none⟩ = false) (hn : n ≤ 1000000) :
    Calls Tryd.prog 23 #[.pointer (some ⟨p, i, none⟩), .int .i64 1] w fun e w' => e = .returned (.int .i64 ((n + 1 : Nat) : Int)) ∧ w' = w.setCell ⟨p, i, none⟩ (.int .i64 ((n + 1 : Nat) : Int)) := by
  have hadd := run_call_add (P := Tryd.prog) Tryd.func30 (by kernel_rfl) (by kernel_rfl) (by kernel_rfl) .i64 (by kernel_rfl) (y := 1) (s := ((n + 1 : Nat) : Int)) hc hz (by simp [go_sem, IntKind.wrap_i64]; omega)
  go_enter Tryd.func23, Tryd.ntmps23
  go_wp2
  go_ret
  exact ⟨rfl, rfl⟩
set_option maxRecDepth 100000 in
theorem load_base (p i : Nat) (n : Nat) (w : World) (hc : w.cell? ⟨p, i, none⟩ = some (.int .i64 (n : Int))) :
    Calls Tryd.prog 39 #[.pointer (some ⟨p, i, none⟩)] w fun e w' => e = .returned (.int .i64 (n : Int)) ∧ w = w' := by
  have hld := run_call_load (P := Tryd.prog) Tryd.func46 (by kernel_rfl) (by kernel_rfl) (by kernel_rfl) .i64 (by kernel_rfl) hc
  go_enter Tryd.func39, Tryd.ntmps39
  go_wp2
  go_ret
  exact ⟨rfl, rfl⟩
set_option maxRecDepth 100000 in
theorem told_any (p i : Nat) (n : Nat) (w : World) (hc : w.cell? ⟨p, i, none⟩ = some (.int .i64 (n : Int))) (hn : n ≤ 1000000) :
    Calls Tryd.prog 28 #[.pointer (some ⟨p, i, none⟩)] w fun e w' => e = .returned (.int .i64 (n : Int)) ∧ w = w' := by
  have HL := Bx.mk (load_base p i n w hc)
  have hn1 : ¬ (2147483647 : Int) < (n : Int) := by omega
  clear hc hn
  go_enter Tryd.func28, Tryd.ntmps28
  go_wp2_with fail
  refine HL.out.mono ?_
  rintro e w1 ⟨rfl, rfl⟩
  go_wp2
  go_ret
  exact ⟨rfl, rfl⟩
end Go.Proofs.YtncbhnkhbohejaaDoor
namespace Go.Proofs.YtncbhnkhbohejaaDoor
open Go Go.RowKit
/-- The label. -/
def cooL : List UInt8 := [99, 111, 111, 107, 105, 101]
/-- The cookie of an epoch, for an address and what asks. -/
def cookK (bs : List UInt8) (e a : Nat) (pss : List (List UInt8)) : List UInt8 := (hmac bs (frame (cooL :: q4 e :: q2 a :: pss))).take 16
theorem cookK_length (bs : List UInt8) (e a : Nat) (pss : List (List UInt8)) : (cookK bs e a pss).length = 16 := by unfold cookK; rw [List.length_take, hmac_length]; rfl
set_option maxRecDepth 100000 in
theorem wpList_apR {w : World} {ops : Array Oper} {rest : List Oper} {o : Oper} {a : Act} {Q : Exit → Act → World → Prop} (hgd : o.guard = none) (s x : Operand)
    (ho : o.op = .call { callee := .builtin .append, args := #[s, x], argTypes := #[23, 23] }) (base : Nat) (v : Value) (xs : List Value) (hs : a.eval s = v) (hown : OwnP w base v xs) (y : Value) (ys : List Value) (hx : a.eval x = y)
    (hr : RowP w y ys) (hy : ∀ u ∈ ys, u.oneCell' = true) (hn : xs.length + ys.length ≤ 10000) (hbase : base ≤ w.heap.size)
    (h : ∀ v' w', OwnP w' base v' (xs ++ ys) → w.grownBy w' v.ownBlock → wpList Tryd.prog ops Q rest (a.put o.dst v') w') : wpList Tryd.prog ops Q (o :: rest) a w := by
  refine wpList_plain hgd fun K hK => ?_
  obtain ⟨v', w', hrun, h1, h2⟩ := run_apP w base v xs hown y ys hr hy hn hbase o.type
  unfold Oper.wp
  simp [execOp, ho, resolve, invoke, builtin, hs, hx, hrun, Result.andThen]
  exact hK _ _ (h v' w' h1 h2)
theorem rowP_own {w : World} {base M n : Nat} {xs : List Value} (h : w.heap[M]? = some (.cells xs.toArray 22 (0, 0))) (hn : xs.length = n) (hb : base ≤ M) (hm : n ≤ 1000000) : OwnP w base (.slice (some ⟨M, 0, none⟩) n n) xs := by
  subst hn
  exact ⟨by omega, .inr ⟨M, xs.length, xs.toArray, rfl, hb, h, Nat.le_refl _, by unfold maxLen; omega, by simp, by simp⟩⟩
theorem ownP_shape {w : World} {b : Nat} {v : Value} {xs : List Value} (h : OwnP w b v xs) : ∃ a n c, v = .slice a n c := by
  rcases h.2 with ⟨hv, _⟩ | ⟨g, cap, cur, hv, _⟩
  · exact ⟨_, _, _, hv⟩
  · exact ⟨_, _, _, hv⟩
theorem Bytes.range {w : World} {c o n cap : Nat} {bs : List UInt8} (h : Bytes w (.slice (some ⟨c, o, none⟩) n cap) bs) (hn : bs.length = n) : w.rangeAt c o (u8s bs).toList := by
  intro j u hj
  have hj' : (u8s bs)[j]? = some u := by rw [← Array.getElem?_toList]; exact hj
  have hlt : j < bs.length := by rw [← u8s_size bs]; exact (Array.getElem?_eq_some_iff.1 hj').1
  obtain ⟨c', o', he, hc⟩ := h.cell j (by omega)
  injection he with he
  injection he with e1 e2
  subst e1 e2
  show w.cell? ⟨c, o + j, none⟩ = some u
  rw [hc, ← hj', u8s_get _ _ hlt]
theorem arr16 (a : Option Addr) (cap : Nat) (W : World) : (Instr.arrayAt 28 (.slice a 16 cap)).run Tryd.prog W = .ok (.pointer a) W := by kernel_rfl
set_option maxRecDepth 100000 in
set_option maxHeartbeats 1000000 in
theorem of_any (bs : List UInt8) (e a k p : Nat) (pss : List (List UInt8)) (vp : Value) (w : World) (hc : w.cell? ⟨p, 2, none⟩ = some (.pointer (some ⟨k, 0, none⟩))) (hv : IsKey w (.pointer (some ⟨k, 0, none⟩)) bs) (hp : PartsR w vp pss)
    (hk : bs.length ≤ 1000000) (hn : pss.length ≤ 900) (hpl : ∀ p ∈ pss, p.length ≤ 10000) (he : e ≤ 4294967295) (ha : a ≤ 4294967295) (hTab : Tab w) (hg : 0 < w.heap.size) :
    Calls Tryd.prog 24 #[.pointer (some ⟨p, 0, none⟩), .int .i64 (e : Int), .int .i64 (a : Int), vp] w fun en w' => en = .returned (.agg (u8s (cookK bs e a pss))) ∧ Below w.heap.size w w' := by
  obtain ⟨z16, hz16⟩ : ∃ z, u8s (List.replicate 16 0) = z := ⟨_, rfl⟩
  have hz16v : ∀ W : World, (zeroValue 28).run Tryd.prog W = .ok (.agg z16) W := fun W => by rw [← hz16]; kernel_rfl
  obtain ⟨ys, hrow, hvals⟩ := hp
  obtain ⟨B, hB⟩ : ∃ B, w.heap.size = B := ⟨_, rfl⟩
  have H0 : Bx (Below w.heap.size w (w.alloc (.cells z16 28)) ∧ (w.alloc (.cells z16 28)).heap[B]? = some (.cells z16 28 (0, 0)) ∧ B < (w.alloc (.cells z16 28)).heap.size) := Bx.mk ⟨below_a _, by rw [hnew _ _ _ hB.symm], by simp; omega⟩
  have hlp : p < w.heap.size := World.block_lt_of_cell? _ _ hc
  have HF := Bx.mk (fun (W : World) => four_any e W he)
  have HT := Bx.mk (fun (W : World) => two_any a W ha)
  have HD := Bx.mk fun (W : World) (vq : Value) (hb : Below w.heap.size w W) (hq : Parts W vq (q4 e :: q2 a :: pss)) => kderive_any bs cooL (q4 e :: q2 a :: pss) (.pointer (some ⟨k, 0, none⟩)) vq W (hv.later hb) hq hk (by decide) (by simp; omega) (by
    intro q hq; simp only [List.mem_cons] at hq
    rcases hq with rfl | rfl | hq
    · rw [q4_length]; omega
    · rw [q2_length]; omega
    · exact hpl q hq) (hTab.later hb hg) (Nat.lt_of_lt_of_le hg hb.size)
  have HK := Bx.mk fun (W : World) (v : Value) (l : List UInt8) (hl : l.length ≤ 1000) (h : IsKey W v l) => kbytes_any l v W h (by omega)
  have HL : Bx ((hmac bs (frame (cooL :: q4 e :: q2 a :: pss))).length = 32) := Bx.mk (hmac_length _ _)
  have HE : Bx (cookK bs e a pss = (hmac bs (frame (cooL :: q4 e :: q2 a :: pss))).take 16) := Bx.mk rfl
  generalize cookK bs e a pss = ck at *
  generalize hmac bs (frame (cooL :: q4 e :: q2 a :: pss)) = hm at *
  unfold cooL at HD
  simp only [List.toArray] at HD
  have HV := Bx.mk hvals
  have HR := Bx.mk hrow
  have HC := Bx.mk hc
  have HYL : Bx (ys.length ≤ 900) := Bx.mk (by rw [hvals.1]; exact hn)
  have HI : Bx ((Tryd.prog.info? 28).map (·.size) = some (u8s ck).size ∧ (u8s ck).size = z16.size ∧ (Tryd.prog.info? 28).map (·.size) = some (u8s ck).toList.length) := Bx.mk (by
    have h16 : (u8s ck).size = 16 := by rw [u8s_size, HE.out, List.length_take, HL.out]; rfl
    refine ⟨by rw [h16]; kernel_rfl, by rw [h16, ← hz16]; rfl, by rw [Array.length_toList, h16]; kernel_rfl⟩)
  have HX : Bx (Below w.heap.size w w) := Bx.mk (Below.refl _ _)
  obtain ⟨q4e, hq4⟩ : ∃ x, q4 e = x := ⟨_, rfl⟩
  obtain ⟨q2a, hq2⟩ : ∃ x, q2 a = x := ⟨_, rfl⟩
  rw [hq4] at HF HD
  rw [hq2] at HT HD
  have hl4 : q4e.length = 4 := by rw [← hq4]; rfl
  have hl2 : q2a.length = 2 := by rw [← hq2]; rfl
  clear hz16 hv hk hn hpl hTab hg hq4 hq2 he ha hrow hvals hc
  have HW : Bx (w.heap.size = B) := Bx.mk hB
  rw [hB]
  go_enter Tryd.func24, Tryd.ntmps24
  go_wp2_with fail
  generalize w.alloc (.cells z16 28) = w0 at *
  refine (HF.out w0).mono ?_
  rintro en w1 ⟨v1, rfl, ho, hb⟩
  obtain ⟨a1, c1, hv1⟩ := own_form ho
  rw [hl4] at hv1
  subst hv1
  have H1 : Bx (Bytes w1 (.slice a1 4 c1) q4e ∧ Below w.heap.size w w1 ∧ Below w0.heap.size w0 w1) := Bx.mk ⟨ho.bytes, H0.out.1.trans (hb.mono H0.out.1.size), hb⟩
  clear ho hb HF
  go_wp2_with fail
  refine (HT.out w1).mono ?_
  rintro en w2 ⟨v2, rfl, ho, hb⟩
  obtain ⟨a2, c2, hv2⟩ := own_form ho
  rw [hl2] at hv2
  subst hv2
  have H2 : Bx (Bytes w2 (.slice a1 4 c1) q4e ∧ Bytes w2 (.slice a2 2 c2) q2a ∧ Below w.heap.size w w2 ∧ w2.heap[B]? = some (.cells z16 28 (0, 0)) ∧ B < w2.heap.size) := Bx.mk ⟨H1.out.1.later hb, ho.bytes, H1.out.2.1.trans (hb.mono H1.out.2.1.size), by
    rw [hb.block _ (Nat.lt_of_lt_of_le H0.out.2.2 H1.out.2.2.size), H1.out.2.2.block _ H0.out.2.2]; exact H0.out.2.1, Nat.lt_of_lt_of_le (Nat.lt_of_lt_of_le H0.out.2.2 H1.out.2.2.size) hb.size⟩
  clear ho hb HT H1 H0
  obtain ⟨D, hD⟩ : ∃ D, w2.heap.size = D := ⟨_, rfl⟩
  have H3 : Bx (OwnP (w2.alloc (.cells #[.slice a1 4 c1, .slice a2 2 c2] 22)) w.heap.size (.slice (some ⟨w2.heap.size, 0, none⟩) 2 2) [.slice a1 4 c1, .slice a2 2 c2] ∧ Vals (w2.alloc (.cells #[.slice a1 4 c1, .slice a2 2 c2] 22)) [.slice a1 4 c1, .slice a2 2 c2] [q4e, q2a] ∧ Below w.heap.size w (w2.alloc (.cells #[.slice a1 4 c1, .slice a2 2 c2] 22)) ∧ (w2.alloc (.cells #[.slice a1 4 c1, .slice a2 2 c2] 22)).heap[B]? = some (.cells z16 28 (0, 0)) ∧ B < (w2.alloc (.cells #[.slice a1 4 c1, .slice a2 2 c2] 22)).heap.size) := Bx.mk ⟨rowP_own (hnew _ _ _ rfl) rfl H2.out.2.2.1.size (by omega), Vals.cons (x := .slice a1 4 c1) (Vals.cons (x := .slice a2 2 c2) ⟨rfl, fun j hj => by simp at hj⟩ (H2.out.2.1.later (below_a _))) (H2.out.1.later (below_a _)), H2.out.2.2.1.alloc H2.out.2.2.1.size _, by rw [hold _ _ _ H2.out.2.2.2.2]; exact H2.out.2.2.2.1, by simp only [World.alloc, Array.size_push]; have := H2.out.2.2.2.2; omega⟩
  rw [hD] at H3
  have HBO : Bx (∀ w3, (w2.alloc (.cells #[.slice a1 4 c1, .slice a2 2 c2] 22)).grownBy w3 (some D) → Vals w3 ([.slice a1 4 c1, .slice a2 2 c2] ++ ys) (q4e :: q2a :: pss) ∧ w3.heap[B]? = some (.cells z16 28 (0, 0)) ∧ B < w3.heap.size) := Bx.mk (fun w3 g => by
    have hbw : Below w2.heap.size w2 (w2.alloc (.cells #[.slice a1 4 c1, .slice a2 2 c2] 22)) := below_a _
    have hle : w.heap.size ≤ D := by rw [← hD]; exact H2.out.2.2.1.size
    refine ⟨Vals.cons (x := .slice a1 4 c1) (Vals.cons (x := .slice a2 2 c2) ⟨HV.out.1, fun j hj => (((HV.out.2 j hj).bn_old H3.out.2.2.1 hle).later g).1⟩ ((H2.out.2.1.bn_old hbw (Nat.le_of_eq hD)).later g).1) ((H2.out.1.bn_old hbw (Nat.le_of_eq hD)).later g).1, ?_, Nat.lt_of_lt_of_le H3.out.2.2.2.2 g.size⟩
    rw [g.block B H3.out.2.2.2.2 (fun e => by injection e with e; have := H2.out.2.2.2.2; omega)]
    exact H3.out.2.2.2.1)
  clear H2
  go_upto_region 2 with (refine wpList_apR rfl _ _ rfl w.heap.size _ [.slice a1 4 c1, .slice a2 2 c2] (by rfl) H3.out.1 _ ys (by rfl) (HR.out.later H3.out.2.2.1) (vals_one HV.out) (by have := HYL.out; simp only [List.length_cons, List.length_nil]; omega) H3.out.2.2.1.size ?_; intro v3 w3 h3 g3; have H4 : Bx (Parts w3 v3 (q4e :: q2a :: pss) ∧ Below w.heap.size w w3 ∧ w3.heap[B]? = some (.cells z16 28 (0, 0)) ∧ B < w3.heap.size) := Bx.mk ⟨own_parts h3 (HBO.out w3 g3).1, H3.out.2.2.1.trans (ownP_below H3.out.1 g3 H3.out.2.2.1.size), (HBO.out w3 g3).2⟩; have HO4 := Bx.mk (ownP_shape h3); clear h3 g3)
  obtain ⟨a3, n3, c3, rfl⟩ := HO4.out
  have hc3 : w3.cell? ⟨p, 2, none⟩ = some (.pointer (some ⟨k, 0, none⟩)) := by rw [H4.out.2.1.cell (p := ⟨p, 2, none⟩) hlp]; exact HC.out
  clear HBO H3 HO4 HC HR HV HYL hD
  go_wp2_with fail
  refine (HD.out w3 _ H4.out.2.1 H4.out.1).mono ?_
  rintro en w4 ⟨v4, rfl, hk4, hb⟩
  have H5 : Bx (IsKey w4 v4 hm ∧ Below w.heap.size w w4 ∧ w4.heap[B]? = some (.cells z16 28 (0, 0)) ∧ B < w4.heap.size) := Bx.mk ⟨hk4.key, H4.out.2.1.trans (hb.mono H4.out.2.1.size), by rw [hb.block _ H4.out.2.2.2]; exact H4.out.2.2.1, Nat.lt_of_lt_of_le H4.out.2.2.2 hb.size⟩
  clear hk4 hb HD H4 hc3
  obtain ⟨k4, s4, hv4, -, -⟩ := H5.out.1
  subst hv4
  go_wp2_with fail
  refine (HK.out w4 _ hm (by rw [HL.out]; omega) H5.out.1).mono ?_
  rintro en w5 ⟨v5, rfl, ho, hb⟩
  have hlm := HL.out
  obtain ⟨a5, c5, hv5⟩ := own_form ho
  rw [hlm] at hv5
  subst hv5
  have H6 : Bx (Bytes w5 (.slice a5 32 c5) hm ∧ Below w.heap.size w w5 ∧ w5.heap[B]? = some (.cells z16 28 (0, 0)) ∧ B < w5.heap.size) := Bx.mk ⟨ho.bytes, H5.out.2.1.trans (hb.mono H5.out.2.1.size), by rw [hb.block _ H5.out.2.2.2]; exact H5.out.2.2.1, Nat.lt_of_lt_of_le H5.out.2.2.2 hb.size⟩
  clear ho hb HK H5 hlm
  obtain ⟨aa, cc, ha5, hc5, hnone, -⟩ := H6.out.1
  injection ha5 with e1 e2 e3
  subst e1 e3
  rw [HL.out] at hc5
  obtain ⟨g5, o5, ha6, -⟩ := H6.out.1.cell 0 (by omega)
  subst ha6
  clear e2
  have s1 := fun W => cut_bytes (some ⟨g5, o5, none⟩) 32 c5 16 (by omega) (by omega) hnone W
  have s2 := fun W => arr16 (some ⟨g5, o5, none⟩) c5 W
  have hcc : (32 : Int) ≤ (c5 : Int) := by omega
  have hcc6 : (16 : Int) ≤ (c5 : Int) := by omega
  have H7 : Bx (w5.rangeAt g5 o5 (u8s ck).toList) := Bx.mk (by rw [HE.out]; exact (H6.out.1.take 16 (by omega)).range (by rw [List.length_take, HL.out]; rfl))
  clear hnone hc5
  go_wp2_with (first | (refine wpList_load_mid rfl 28 _ rfl g5 o5 (by rfl) (u8s ck).toList _ H7.out Tryd.underlying28 rfl HI.out.2.2 ?_) | (refine wpList_store_new rfl 28 _ _ rfl B (u8s ck) z16 _ (by rfl) (by rfl) H6.out.2.2.1 HI.out.2.1 HI.out.1 (one_u8s _) ?_; intro w8 hw8 hr8; have H8 : Bx (Below w.heap.size w w8 ∧ w8.heap[B]? = some (.cells (u8s ck) 28 (0, 0))) := Bx.mk ⟨by rw [hw8]; exact below_setCells (Nat.le_of_eq HW.out) _ _ _ _ H6.out.2.1, hr8⟩; clear hw8 hr8))
  refine bodyPost_ret (results_cell_row rfl _ _ B _ (u8s ck) _ _ rfl H8.out.2 Tryd.underlying28 rfl HI.out.1) rfl ?_
  exact ⟨rfl, by rw [← HW.out]; exact H8.out.1⟩
end Go.Proofs.YtncbhnkhbohejaaDoor
