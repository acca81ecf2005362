/-
  The walk of the statement on digests of parts.
-/
import Derived.Test.YtkfgpnigeknhmaaDoorLa
import Derived.Test.YtkfgpnigeknhmaaDoorRl
import Derived.Test.YtkfgpnigeknhmaaDoorEq
import Derived.Test.YtkfgpnigeknhmaaDoorHd
namespace Go.Proofs.YtkfgpnigeknhmaaDoor
open Go Go.RowKit
theorem Parts.later {w w1 : World} {v : Value} {pss : List (List UInt8)} (h : Parts w v pss) (hb : Below w.heap.size w w1) : Parts w1 v pss := by
  obtain ⟨a, cap, hv, hr⟩ := h
  refine ⟨a, cap, hv, fun hp => ?_⟩
  obtain ⟨p, o, ha, hcell⟩ := hr hp
  refine ⟨p, o, ha, fun j hj => ?_⟩
  obtain ⟨x, hx, hxb⟩ := hcell j hj
  exact ⟨x, by rw [hb.cell (p := ⟨p, o + j, none⟩) (World.block_lt_of_cell? _ _ hx)]; exact hx, hxb.later hb⟩
theorem Parts.at_ {w : World} {v : Value} {pss : List (List UInt8)} (h : Parts w v pss) (b : Nat) (hb : w.heap.size ≤ b) : PartsAt w b v pss := by
  obtain ⟨a, cap, hv, hr⟩ := h
  refine ⟨a, cap, hv, fun hp => ?_⟩
  obtain ⟨p, o, ha, hcell⟩ := hr hp
  refine ⟨p, o, ?_, ha, fun j hj => ?_⟩
  · obtain ⟨x, hx, -⟩ := hcell 0 hp
    have := World.block_lt_of_cell? _ _ hx
    simp only at this
    omega
  · obtain ⟨x, hx, hxb⟩ := hcell j hj
    exact ⟨x, hx, hxb.at_ b hb⟩
theorem own_parts {w1 : World} {base : Nat} {v : Value} {xs : List Value} {qs : List (List UInt8)} (h : OwnP w1 base v xs) (hv : Vals w1 xs qs) : Parts w1 v qs := by
  rcases h.2 with ⟨hn, h0⟩ | ⟨g, cap, cur, hv', hb, hg, hc1, hc2, hc3, hc4⟩
  · have e : qs.length = 0 := by rw [← hv.1, h0]
    exact ⟨none, 0, by rw [hn, e], fun hp => by omega⟩
  · refine ⟨some ⟨g, 0, none⟩, cap, by rw [hv', ← hv.1], fun hp => ⟨g, 0, rfl, fun j hj => ⟨xs.getD j undef, ?_, hv.2 j (by rw [hv.1]; exact hj)⟩⟩⟩
    have hj' : j < xs.length := by rw [hv.1]; exact hj
    rw [cell_of_row _ _ _ _ _ _ hg, Nat.zero_add, ← Array.getElem?_toList]
    have h1 : (cur.toList.take (xs.length * 1))[j]? = xs[j]? := by rw [hc4]
    rw [List.getElem?_take, if_pos (by omega)] at h1
    rw [h1]
    simp [hj']
theorem Vals.later {w w1 : World} {xs : List Value} {qs : List (List UInt8)} (h : Vals w xs qs) (hb : Below w.heap.size w w1) : Vals w1 xs qs := ⟨h.1, fun j hj => (h.2 j hj).later hb⟩
/-- The digest of parts. -/
theorem dsum_parts (pss : List (List UInt8)) (v : Value) (w : World) (hv : Parts w v pss) (hl : pss.length ≤ 1000) (hN : pss.flatten.length ≤ 1000000) (hTab : Tab w) (hg : 0 < w.heap.size) :
    Calls Tryd.prog 15 #[v] w fun e w' => e = .returned (.agg (u8s (sha pss.flatten))) ∧ Below w.heap.size w w' := dsum_any pss v w (hv.at_ _ (by omega)) (by omega) (by omega) hTab hg
theorem one_part {w : World} {v : Value} {bs : List UInt8} (h : Bytes w v bs) : Parts (w.alloc (.cells #[v] 23)) (.slice (some ⟨w.heap.size, 0, none⟩) 1 1) [bs] := by
  refine ⟨_, 1, rfl, fun _ => ⟨w.heap.size, 0, rfl, fun j hj => ?_⟩⟩
  have hj0 : j = 0 := by simp at hj; omega
  subst hj0
  exact ⟨v, by rw [cell_of_row _ _ _ _ _ _ (hnew _ _ _ rfl)]; rfl, h.later (below_a _)⟩
theorem cut_total (pss : List (List UInt8)) : (cutP pss).length ≤ 12 ∧ (cutP pss).flatten.length ≤ 1200 := by
  refine ⟨?_, few_len pss 12⟩
  unfold cutP
  rw [List.length_map, List.length_take]
  omega
theorem range_u8 {w : World} {b : Nat} {l : List UInt8} {t : TypeId} (h : w.heap[b]? = some (.cells (u8s l) t (0, 0))) : w.rangeAt b 0 (u8s l).toList := fun j v hv => by
  rw [cell_of_row _ _ _ _ _ _ h, Nat.zero_add, ← Array.getElem?_toList]
  exact hv
theorem range_below {B : Nat} {w w1 : World} {b o : Nat} {vs : List Value} (h : w.rangeAt b o vs) (hb : Below B w w1) (hB : b < B) : w1.rangeAt b o vs := fun j v hv => by
  rw [hb.cell (p := ⟨b, o + j, none⟩) hB]
  exact h j v hv
/-- What holds all through a statement: nothing that was there has changed. -/
structure Sp (w0 : World) (b : Nat) (vs : List Value) (W : World) : Prop where
  below : Below w0.heap.size w0 W
  rng : W.rangeAt b 0 vs
theorem Sp.s {w0 W : World} {b : Nat} {vs : List Value} (h : Sp w0 b vs W) : W.rangeAt b 0 vs ∧ Bx (Sp w0 b vs W) := ⟨h.rng, ⟨h⟩⟩
theorem Sp.later {w0 W W1 : World} {b : Nat} {vs : List Value} (h : Sp w0 b vs W) (hb : Below W.heap.size W W1) (hB : b < w0.heap.size) : Sp w0 b vs W1 :=
  ⟨h.below.trans (hb.mono h.below.size), range_below h.rng (hb.mono h.below.size) hB⟩
/-- Bytes as a list of cells. -/
def vs8 (l : List UInt8) : List Value := l.map fun x => Value.int .u8 (ub x)
theorem u8s_vs (l : List UInt8) : u8s l = (vs8 l).toArray := rfl
theorem vs8_length (l : List UInt8) : (vs8 l).length = l.length := by simp [vs8]
set_option maxRecDepth 100000 in
set_option maxHeartbeats 1000000 in
theorem sums_any (pss : List (List UInt8)) (v : Value) (w : World) (hv : Parts w v pss) (hn : pss.length ≤ 9223372036854775807) (hp : ∀ p ∈ pss, p.length ≤ 9223372036854775807) (hTab : Tab w) (hg : 0 < w.heap.size) :
    Calls Tryd.prog 3 #[v] w fun e w' => e = .returned (.bool true) ∧ Below w.heap.size w w' := by
  have HV := Bx.mk (And.intro hv (And.intro hn hp))
  have HA := Bx.mk hTab
  clear hv hn hp hTab
  go_enter Tryd.func3, Tryd.ntmps3
  go_wp2_with fail
  refine (few_any pss v w HV.out.1 HV.out.2.1 HV.out.2.2).mono ?_
  rintro e w1 ⟨vo, va, xs, rfl, hvals, hop, hob, hbel⟩
  have H1 : Bx (Parts w1 vo (cutP pss) ∧ Bytes w1 va (cutP pss).flatten ∧ Tab w1 ∧ Below w.heap.size w w1) := Bx.mk ⟨own_parts hop (hvals.later hbel), hob.bytes, HA.out.later hbel hg, hbel⟩
  have HC := Bx.mk (cut_total pss)
  obtain ⟨aa, ca, hva, -, -⟩ := bytes_form hob.bytes
  obtain ⟨nn, hnn⟩ : ∃ nn, (cutP pss).flatten.length = nn := ⟨_, rfl⟩
  rw [hnn] at hva
  clear hnn hob
  subst hva
  generalize cutP pss = qs at *
  clear hvals hop hbel HA HV
  go_wp2_with fail
  refine (make_any w1).mono ?_
  rintro e w2 ⟨rfl, hb2⟩
  have H2 : Bx (Parts w2 vo qs ∧ Bytes w2 (.slice aa nn ca) qs.flatten ∧ Tab w2 ∧ Below w.heap.size w w2) := Bx.mk ⟨H1.out.1.later hb2, H1.out.2.1.later hb2, H1.out.2.2.1.later hb2 (Nat.lt_of_lt_of_le hg H1.out.2.2.2.size), H1.out.2.2.2.trans (hb2.mono H1.out.2.2.2.size)⟩
  clear hb2 H1
  have HR : Bx (Calls Tryd.prog 12 #[.agg (u32s (kTab ++ hTab)), .slice aa nn ca] w2 fun e w' => e = .returned (.agg (u8s (sha qs.flatten))) ∧ Below w2.heap.size w2 w') := Bx.mk (rsum_any qs.flatten _ w2 H2.out.2.1 (by have := HC.out; omega))
  generalize u32s (kTab ++ hTab) = tb at *
  go_wp2_with fail
  refine HR.out.mono ?_
  rintro e w3 ⟨rfl, hb3⟩
  have H3 : Bx (Parts w3 vo qs ∧ Bytes w3 (.slice aa nn ca) qs.flatten ∧ Tab w3 ∧ Below w.heap.size w w3) := Bx.mk ⟨H2.out.1.later hb3, H2.out.2.1.later hb3, H2.out.2.2.1.later hb3 (Nat.lt_of_lt_of_le hg H2.out.2.2.2.size), H2.out.2.2.2.trans (hb3.mono H2.out.2.2.2.size)⟩
  clear hb3 H2 HR
  have HSL : Bx ((sha qs.flatten).length = 32) := Bx.mk (sha_length _)
  have HI : Bx ((Tryd.prog.info? 26).map (·.size) = some (u8s (sha qs.flatten)).size) := Bx.mk (by rw [u8s_size, HSL.out]; kernel_rfl)
  have HZ : Bx ((u8s (sha qs.flatten)).size = (u8s (List.replicate 32 0)).size) := Bx.mk (by rw [u8s_size, u8s_size, HSL.out]; rfl)
  go_upto_region 3 with (refine wpList_store_var rfl 26 _ _ rfl w3 _ _ rfl (by rfl) (u8s (sha qs.flatten)) (by rfl) HZ.out HI.out (one_u8s _) ?_; intro w4 hb4 hr4 hl4)
  have H4 : Bx (Parts w4 vo qs ∧ Bytes w4 (.slice aa nn ca) qs.flatten ∧ Tab w4 ∧ Below w.heap.size w w4 ∧ w4.heap[w3.heap.size]? = some (.cells (u8s (sha qs.flatten)) 26 (0, 0)) ∧ w3.heap.size < w4.heap.size) := Bx.mk ⟨H3.out.1.later hb4, H3.out.2.1.later hb4, H3.out.2.2.1.later hb4 (Nat.lt_of_lt_of_le hg H3.out.2.2.2.size), H3.out.2.2.2.trans (hb4.mono H3.out.2.2.2.size), hr4, hl4⟩
  clear hb4 hr4 hl4 H3 HI HZ
  generalize w3.heap.size = B at *
  have HS0 : Bx (Sp w4 B (vs8 (sha qs.flatten)) w4.drew) := Bx.mk ⟨(Below.refl _ _).drew, range_u8 (w := w4.drew) H4.out.2.2.2.2.1⟩
  have HG : Bx (0 < w4.heap.size) := Bx.mk (Nat.lt_of_lt_of_le hg H4.out.2.2.2.1.size)
  have HKn : Bx (∀ W, W.rangeAt B 0 (vs8 (sha qs.flatten)) ∧ Bx (Sp w4 B (vs8 (sha qs.flatten)) W) → Calls Tryd.prog 14 #[] W fun e W' => e = .returned (.bool true) ∧ W'.rangeAt B 0 (vs8 (sha qs.flatten)) ∧ Bx (Sp w4 B (vs8 (sha qs.flatten)) W')) := Bx.mk (fun W hS => have hW := hS.2.out
    (known_any W (H4.out.2.2.1.later hW.below HG.out) (Nat.lt_of_lt_of_le HG.out hW.below.size)).mono fun _ _ ⟨he, hb⟩ => ⟨he, (hW.later hb H4.out.2.2.2.2.2).s⟩)
  have HD1 : Bx (∀ W, W.rangeAt B 0 (vs8 (sha qs.flatten)) ∧ Bx (Sp w4 B (vs8 (sha qs.flatten)) W) → Calls Tryd.prog 15 #[vo] W fun e W' => e = .returned (.agg (vs8 (sha qs.flatten)).toArray) ∧ W'.rangeAt B 0 (vs8 (sha qs.flatten)) ∧ Bx (Sp w4 B (vs8 (sha qs.flatten)) W')) := Bx.mk (fun W hS => have hW := hS.2.out
    (dsum_parts qs vo W (H4.out.1.later hW.below) (by have := HC.out; omega) (by have := HC.out; omega) (H4.out.2.2.1.later hW.below HG.out) (Nat.lt_of_lt_of_le HG.out hW.below.size)).mono fun _ _ ⟨he, hb⟩ => ⟨he, (hW.later hb H4.out.2.2.2.2.2).s⟩)
  have HD2 : Bx (∀ W, W.rangeAt B 0 (vs8 (sha qs.flatten)) ∧ Bx (Sp w4 B (vs8 (sha qs.flatten)) W) → Calls Tryd.prog 15 #[.slice (some ⟨W.heap.size, 0, none⟩) 1 1] (W.alloc (.cells #[.slice aa nn ca] 23)) fun e W' => e = .returned (.agg (vs8 (sha qs.flatten)).toArray) ∧ W'.rangeAt B 0 (vs8 (sha qs.flatten)) ∧ Bx (Sp w4 B (vs8 (sha qs.flatten)) W')) := Bx.mk (fun W hS => by
    have hW := hS.2.out
    have h2 := hW.later (below_a (.cells #[.slice aa nn ca] 23)) H4.out.2.2.2.2.2
    have h := dsum_parts [qs.flatten] _ _ (one_part (H4.out.2.1.later hW.below)) (by simp) (by have := HC.out; rw [List.flatten_singleton]; omega) (H4.out.2.2.1.later h2.below HG.out) (Nat.lt_of_lt_of_le HG.out h2.below.size)
    rw [List.flatten_singleton] at h
    exact h.mono fun _ _ ⟨he, hb⟩ => ⟨he, (h2.later hb H4.out.2.2.2.2.2).s⟩)
  have eq1 : ∀ W, (Op.equalIn 10000 26 (.agg (vs8 (sha qs.flatten)).toArray) (.agg (vs8 (sha qs.flatten)).toArray)).run Tryd.prog W = .ok true W := fun W => by rw [← u8s_vs, eq32 _ _ (sha_length _) (sha_length _)]; simp
  have hg26 : Tryd.prog.eqGuardType Tryd.prog.depth 26 = false := by kernel_rfl
  have hu26 := Tryd.underlying26
  have hi26 : (Tryd.prog.info? 26).map (·.size) = some (vs8 (sha qs.flatten)).length := by rw [vs8_length, HSL.out]; kernel_rfl
  generalize (vs8 (sha qs.flatten)) = out at *
  refine wp_region_noPanic ?_
  refine wp_region_held_drew (S := fun W => W.rangeAt B 0 out ∧ Bx (Sp w4 B out W)) (by kernel_rfl) (HS0.out.s) (fun hHeld => ?_)
  refine stepL 0 (by kernel_rfl) rfl (fun K hK => ?_)
  go_simp
  refine (HKn.out _ hHeld).mono ?_
  rintro e W1 ⟨rfl, hs⟩
  show K _ W1
  refine hK.out _ _ (hs) (fun hHeld => ?_)
  clear hK K
  try simp only [Act.put, List.setIfInBounds_toArray, List.set_cons_zero, List.set_cons_succ]
  refine takeL 1 (v := ?_) rfl (by kernel_rfl) (by kernel_rfl) (by kernel_rfl) (fun _ _ _ h => h) (Or.inl ⟨by rfl, ?_⟩) hHeld ?_
  rotate_left 1
  · (intro w hSw; go_simp; try with_reducible rfl)
  try simp only [Act.put, List.setIfInBounds_toArray, List.set_cons_zero, List.set_cons_succ]
  refine takeL 2 (v := ?_) rfl (by kernel_rfl) (by kernel_rfl) (by kernel_rfl) (fun _ _ _ h => h) (Or.inl ⟨by rfl, ?_⟩) hHeld ?_
  rotate_left 1
  · (intro w hSw; go_simp; try with_reducible rfl)
  try simp only [Act.put, List.setIfInBounds_toArray, List.set_cons_zero, List.set_cons_succ]
  refine takeL 4 rfl (by kernel_rfl) (by kernel_rfl) (by kernel_rfl) (fun _ _ _ h => h) (yieldsIf_load_mid (by rfl) _ _ rfl _ _ rfl _ _ (fun w hSw => hSw.1) hu26 rfl hi26) hHeld ?_
  try simp only [Act.put, List.setIfInBounds_toArray, List.set_cons_zero, List.set_cons_succ]
  refine stepL 3 (by kernel_rfl) rfl (fun K hK => ?_)
  go_simp
  refine (HD1.out _ hHeld).mono ?_
  rintro e W2 ⟨rfl, hs⟩
  show K _ W2
  refine hK.out _ _ (hs) (fun hHeld => ?_)
  clear hK K
  try simp only [Act.put, List.setIfInBounds_toArray, List.set_cons_zero, List.set_cons_succ]
  refine takeL 5 (v := ?_) rfl (by kernel_rfl) (by kernel_rfl) (by kernel_rfl) (fun _ _ _ h => h) (Or.inl ⟨by rfl, ?_⟩) hHeld ?_
  rotate_left 1
  · (intro w hSw; go_simp; try with_reducible rfl)
  try simp only [Act.put, List.setIfInBounds_toArray, List.set_cons_zero, List.set_cons_succ]
  refine takeL 6 (v := ?_) rfl (by kernel_rfl) (by kernel_rfl) (by kernel_rfl) (fun _ _ _ h => h) (Or.inl ⟨by rfl, ?_⟩) hHeld ?_
  rotate_left 1
  · (intro w hSw; go_simp; try with_reducible rfl)
  try simp only [Act.put, List.setIfInBounds_toArray, List.set_cons_zero, List.set_cons_succ]
  refine takeL 7 (v := ?_) rfl (by kernel_rfl) (by kernel_rfl) (by kernel_rfl) (fun _ _ _ h => h) (Or.inl ⟨by rfl, ?_⟩) hHeld ?_
  rotate_left 1
  · (intro w hSw; go_simp; try with_reducible rfl)
  try simp only [Act.put, List.setIfInBounds_toArray, List.set_cons_zero, List.set_cons_succ]
  refine takeL 8 (v := ?_) rfl (by kernel_rfl) (by kernel_rfl) (by kernel_rfl) (fun _ _ _ h => h) (Or.inl ⟨by rfl, ?_⟩) hHeld ?_
  rotate_left 1
  · (intro w hSw; go_simp; try with_reducible rfl)
  try simp only [Act.put, List.setIfInBounds_toArray, List.set_cons_zero, List.set_cons_succ]
  refine takeL 11 rfl (by kernel_rfl) (by kernel_rfl) (by kernel_rfl) (fun _ _ _ h => h) (yieldsIf_load_mid (by rfl) _ _ rfl _ _ rfl _ _ (fun w hSw => hSw.1) hu26 rfl hi26) hHeld ?_
  try simp only [Act.put, List.setIfInBounds_toArray, List.set_cons_zero, List.set_cons_succ]
  have hOld := hHeld
  refine stepL 9 (by kernel_rfl) rfl (fun K hK => ?_)
  go_simp
  refine hK.out _ _ (((hHeld.2.out.later (below_a _) H4.out.2.2.2.2.2).s)) (fun hHeld => ?_)
  clear hK K
  try simp only [Act.put, List.setIfInBounds_toArray, List.set_cons_zero, List.set_cons_succ]
  refine stepL 10 (by kernel_rfl) rfl (fun K hK => ?_)
  go_simp
  refine (HD2.out _ hOld).mono ?_
  rintro e W4 ⟨rfl, hs⟩
  show K _ W4
  refine hK.out _ _ (hs) (fun hHeld => ?_)
  clear hK K
  try simp only [Act.put, List.setIfInBounds_toArray, List.set_cons_zero, List.set_cons_succ]
  refine takeL 12 (v := ?_) rfl (by kernel_rfl) (by kernel_rfl) (by kernel_rfl) (fun _ _ _ h => h) (Or.inl ⟨by rfl, ?_⟩) hHeld ?_
  rotate_left 1
  · (intro w hSw; go_simp; try with_reducible rfl)
  try simp only [Act.put, List.setIfInBounds_toArray, List.set_cons_zero, List.set_cons_succ]
  refine takeL 13 (v := ?_) rfl (by kernel_rfl) (by kernel_rfl) (by kernel_rfl) (fun _ _ _ h => h) (Or.inl ⟨by rfl, ?_⟩) hHeld ?_
  rotate_left 1
  · (intro w hSw; go_simp; try with_reducible rfl)
  try simp only [Act.put, List.setIfInBounds_toArray, List.set_cons_zero, List.set_cons_succ]
  refine takeL 14 (v := ?_) rfl (by kernel_rfl) (by kernel_rfl) (by kernel_rfl) (fun _ _ _ h => h) (Or.inl ⟨by rfl, ?_⟩) hHeld ?_
  rotate_left 1
  · (intro w hSw; go_simp; try with_reducible rfl)
  try simp only [Act.put, List.setIfInBounds_toArray, List.set_cons_zero, List.set_cons_succ]
  refine wpAnyH_done (by kernel_rfl) ?_ _
  have HF : Bx (Below w.heap.size w W4) := Bx.mk (H4.out.2.2.2.1.trans (hHeld.2.out.below.mono H4.out.2.2.2.1.size))
  clear hHeld hOld HS0 HKn HD1 HD2 eq1 hg26 hu26 hi26
  refine NoPanic.normal ?_
  go_wp2
  go_ret
  exact ⟨rfl, HF.out⟩
end Go.Proofs.YtkfgpnigeknhmaaDoor
