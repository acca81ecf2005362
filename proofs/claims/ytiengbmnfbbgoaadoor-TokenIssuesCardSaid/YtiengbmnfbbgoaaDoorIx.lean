/-
  The walks of a reader over any bytes.
-/
import Derived.Test.YtiengbmnfbbgoaaDoorIw
namespace Go.Proofs.YtiengbmnfbbgoaaDoor
open Go Go.RowKit
theorem fold_acc (l : List UInt8) : ∀ a : Nat, l.foldl (fun a x => a * 256 + x.toNat) a = a * 256 ^ l.length + valN l := by
  induction l with
  | nil => intro a; simp [valN]
  | cons x l ih =>
    intro a
    have h1 := ih (a * 256 + x.toNat)
    have h2 := ih (0 * 256 + x.toNat)
    have h3 : valN (x :: l) = (0 * 256 + x.toNat) * 256 ^ l.length + valN l := h2
    rw [List.foldl_cons, h1, h3, List.length_cons, Nat.pow_succ', Nat.add_mul, Nat.zero_mul, Nat.zero_add, Nat.mul_assoc, Nat.add_assoc]
theorem valN_cons (x : UInt8) (l : List UInt8) : valN (x :: l) = x.toNat * 256 ^ l.length + valN l := by
  have h : valN (x :: l) = (0 * 256 + x.toNat) * 256 ^ l.length + valN l := fold_acc l (0 * 256 + x.toNat)
  rw [h, Nat.zero_mul, Nat.zero_add]
theorem beN_mod (k : Nat) : ∀ (d v x : Nat), beN k (x * 256 ^ (k + d) + v) = beN k v := by
  induction k with
  | zero => intro d v x; rfl
  | succ k ih =>
    intro d v x
    rw [beN_succ, beN_succ]
    have e1 : x * 256 ^ (k + 1 + d) + v = x * 256 ^ (k + (d + 1)) + v := by rw [show k + 1 + d = k + (d + 1) by omega]
    rw [e1, ih (d + 1) v x]
    congr 2
    rw [Nat.pow_add, show x * (256 ^ k * 256 ^ (d + 1)) + v = v + 256 ^ k * (x * 256 ^ (d + 1)) by rw [Nat.add_comm, Nat.mul_left_comm], Nat.add_mul_div_left _ _ (Nat.pow_pos (by omega)), Nat.pow_succ, ← Nat.mul_assoc, Nat.add_mul_mod_self_right]
theorem beN_val (l : List UInt8) : beN l.length (valN l) = l := by
  induction l with
  | nil => rfl
  | cons x l ih =>
    rw [List.length_cons, beN_succ, valN_cons]
    have hv := valN_lt l
    have hp : 0 < 256 ^ l.length := Nat.pow_pos (by omega)
    have hx := x.toNat_lt
    have h1 : (x.toNat * 256 ^ l.length + valN l) / 256 ^ l.length % 256 = x.toNat := by
      rw [Nat.add_comm, Nat.add_mul_div_right _ _ hp, Nat.div_eq_of_lt hv]
      omega
    have h2 := beN_mod l.length 0 (valN l) x.toNat
    rw [Nat.add_zero] at h2
    rw [h1, h2, ih]
    congr 1
    exact UInt8.toNat_inj.mp (by rw [UInt8.toNat_ofNat']; omega)
/-- What is got of bytes: the field, the bytes behind it, the error. -/
def getF (l : List UInt8) (s : Int) : Fd × List UInt8 × Int :=
  if s < 0 ∨ 4 < s then (Fd.zero, [], 13)
  else if s = 4 then
    (if l.length < 2 then (Fd.zero, [], 4) else if 512 < valN (l.take 2) then (Fd.zero, [], 3) else if l.length - 2 < valN (l.take 2) then (Fd.zero, [], 4)
     else (⟨4, 0, (l.drop 2).take (valN (l.take 2))⟩, (l.drop 2).drop (valN (l.take 2)), 0))
  else if l.length < wid s then (Fd.zero, [], 4) else if 9223372036854775807 < valN (l.take (wid s)) then (Fd.zero, [], 3) else (⟨s, (valN (l.take (wid s)) : Int), []⟩, l.drop (wid s), 0)
set_option maxRecDepth 100000 in
set_option maxHeartbeats 1000000 in
theorem get_fails (q : Nat) (s c : Int) (l : List UInt8) (w : World) (hc : c ≠ 0) (h : IsR w q l 0)
    (hf : Calls Tryd.prog 93 #[.pointer (some ⟨q, 0, none⟩), .int .i64 s] (w.alloc (.cells #[.int .i64 0, .int .i64 0, .slice none 0 0] 141)) fun e w' => BadF (w.alloc (.cells #[.int .i64 0, .int .i64 0, .slice none 0 0] 141)) w' q s c 0 e) :
    Calls Tryd.prog 86 #[.pointer (some ⟨q, 0, none⟩), .int .i64 s] w fun e w' => e = .returned fZero ∧ IsR w' q [] c ∧ w.grownBy w' (some q) := by
  have hq := h.lt
  have HA : Bx (Below w.heap.size w (w.alloc (.cells #[.int .i64 0, .int .i64 0, .slice none 0 0] 141))) := Bx.mk (below_a _)
  have HR := Bx.mk (h.later HA.out)
  have HF := Bx.mk hf
  have hc0 : (c != 0) = true := by simp; exact hc
  clear h hf
  go_enter Tryd.func86, Tryd.ntmps86
  go_wp2_with fail
  refine (rerr_any q _ 0 _ HR.out).mono ?_
  rintro e w1 ⟨rfl, rfl⟩
  go_wp2_with fail
  refine HF.out.mono ?_
  rintro e w2 ⟨n, vb, rfl, ⟨b, hvb⟩, ⟨l2, hr2⟩, hg2⟩
  obtain ⟨ab, cb, rfl, -⟩ := hvb
  generalize b.length = L at *
  have HR2 : Bx (w2.heap[w.heap.size]? = some (.cells #[.int .i64 0, .int .i64 0, .slice none 0 0] 141 (0, 0))) := Bx.mk (by rw [hg2.block _ (by simp) (fun e => by injection e with e; omega), hnew _ _ _ rfl])
  obtain ⟨D, hD⟩ : ∃ D, w.heap.size = D := ⟨_, rfl⟩
  have HD : Bx (w.heap.size = D ∧ q ≠ D) := Bx.mk ⟨hD, by omega⟩
  rw [hD] at HR2 ⊢
  have hD2 : D < w2.heap.size := (Array.getElem?_eq_some_iff.1 HR2.out).1
  have H3 : Bx (IsR (w2.alloc (.cells #[.int .i64 s, .int .i64 n, .slice ab L cb] 141)) q l2 0 ∧ w.grownBy (w2.alloc (.cells #[.int .i64 s, .int .i64 n, .slice ab L cb] 141)) (some q) ∧ (w2.alloc (.cells #[.int .i64 s, .int .i64 n, .slice ab L cb] 141)).heap[D]? = some (.cells #[.int .i64 0, .int .i64 0, .slice none 0 0] 141 (0, 0))) :=
    Bx.mk ⟨hr2.later (below_a _), kb_trans (kb_trans (kb_below (some q) HA.out) hg2) (kb_below _ (below_a _)), by rw [(below_a _).block D hD2]; exact HR2.out⟩
  clear hr2 hg2 HR2 HA HR HF hD hq
  go_wp2_with fail
  generalize w2.alloc (.cells #[.int .i64 s, .int .i64 n, .slice ab L cb] 141) = wB at *
  generalize w2.heap.size = E at *
  refine (fail_ok q l2 c wB H3.out.1).mono ?_
  rintro e w3 ⟨⟨v3, rfl⟩, hr3, hg3⟩
  have H4 : Bx (IsR w3 q [] c ∧ w.grownBy w3 (some q) ∧ w3.heap[D]? = some (.cells #[.int .i64 0, .int .i64 0, .slice none 0 0] 141 (0, 0))) := Bx.mk ⟨hr3, kb_trans H3.out.2.1 hg3, by rw [hg3.block D (Array.getElem?_eq_some_iff.1 H3.out.2.2).1 (fun e => by injection e with e; exact HD.out.2 e.symm)]; exact H3.out.2.2⟩
  clear hr3 hg3 H3 hD2
  go_wp2_with (refine wpList_store_new rfl 141 _ _ rfl D #[.int .i64 0, .int .i64 0, .slice none 0 0] _ _ (by rfl) (by rfl) H4.out.2.2 rfl (by kernel_rfl) (by simp [Value.oneCell']) ?_; intro w4 hw4 hr4; have hg4 : Bx (w3.grownBy w4 (some D)) := Bx.mk (by rw [hw4]; exact kb_setCells _ _ _); have HR4 := Bx.mk hr4; clear hw4 hr4)
  refine bodyPost_ret (results_cell_row rfl _ _ D _ _ _ _ rfl HR4.out Tryd.underlying141 rfl (by kernel_rfl)) rfl ?_
  exact ⟨rfl, H4.out.1.aside H4.out.2.2 (fun x e => by cases e) hg4.out HD.out.2, kb_new H4.out.2.1 hg4.out (Nat.le_of_eq HD.out.1)⟩
theorem zero_isF (W : World) : IsF W fZero Fd.zero := ⟨_, rfl, Bytes.nil _⟩
/-- Get of any size, over any bytes. -/
theorem get_any (q : Nat) (s : Int) (l : List UInt8) (w : World) (h : IsR w q l 0) (hl : l.length ≤ 5000) (hk : 0 ≤ s ∧ s ≤ 4) :
    Calls Tryd.prog 86 #[.pointer (some ⟨q, 0, none⟩), .int .i64 s] w fun e w' => ∃ v', e = .returned v' ∧ IsF w' v' (getF l s).1 ∧ IsR w' q (getF l s).2.1 (getF l s).2.2 ∧ w.grownBy w' (some q) := by
  have hA := h.later (below_a (.cells #[.int .i64 0, .int .i64 0, .slice none 0 0] 141))
  have hA2 := hA.later (below_a (.cells #[.int .i64 0, .int .i64 0, .slice none 0 0] 141))
  have hq := hA.lt
  unfold getF
  rw [if_neg (by omega)]
  by_cases h4 : s = 4
  · subst h4
    rw [if_pos rfl]
    by_cases h2 : l.length < 2
    · rw [if_pos h2]
      exact (get_fails q 4 4 l w (by omega) h (field_badS q 4 0 _ hq ((some_end q l 0 _ hA2 h2).mono fun e w' ⟨he, hw⟩ => ⟨he, ⟨l, by rw [hw]; exact hA2⟩, by rw [hw]; exact kb_refl _ _⟩))).mono fun e w' ⟨he, hr, hg⟩ => ⟨_, he, zero_isF _, hr, hg⟩
    · rw [if_neg h2]
      by_cases hc : 512 < valN (l.take 2)
      · rw [if_pos hc]
        exact (get_fails q 4 3 l w (by omega) h (field_badS q 3 0 _ hq ((some_long q l 0 _ hA2 (by omega) (by omega) hc).mono fun e w' ⟨he, hr, hg⟩ => ⟨he, ⟨_, hr⟩, hg⟩))).mono fun e w' ⟨he, hr, hg⟩ => ⟨_, he, zero_isF _, hr, hg⟩
      · rw [if_neg hc]
        by_cases hm : l.length - 2 < valN (l.take 2)
        · rw [if_pos hm]
          exact (get_fails q 4 4 l w (by omega) h (field_badS q 4 0 _ hq ((some_miss q l 0 _ hA2 (by omega) (by omega) (by omega) hm).mono fun e w' ⟨he, hr, hg⟩ => ⟨he, ⟨_, hr⟩, hg⟩))).mono fun e w' ⟨he, hr, hg⟩ => ⟨_, he, zero_isF _, hr, hg⟩
        · rw [if_neg hm]
          have hbl : ((l.drop 2).take (valN (l.take 2))).length = valN (l.take 2) := by rw [List.length_take, List.length_drop]; omega
          have he : enc ⟨4, 0, (l.drop 2).take (valN (l.take 2))⟩ ++ (l.drop 2).drop (valN (l.take 2)) = l := by
            have h2l : (l.take 2).length = 2 := by rw [List.length_take]; omega
            have hv := beN_val (l.take 2)
            rw [h2l] at hv
            rw [enc_four, hbl, hv, List.append_assoc, List.take_append_drop, List.take_append_drop]
          refine get_ok q ⟨4, 0, (l.drop 2).take (valN (l.take 2))⟩ _ w ?_ (by rw [he]; exact h) (by rw [List.length_drop, List.length_drop]; omega)
          rw [chk_four rfl, if_neg (by simp), if_neg (by rw [hbl]; omega)]
  · rw [if_neg h4]
    by_cases h2 : l.length < wid s
    · rw [if_pos h2]
      exact (get_fails q s 4 l w (by omega) h (field_badN q s 4 0 _ (by omega) (by omega) hq ((rnumber_end q s l 0 _ (by omega) (by omega) hA2 h2).mono fun e w' ⟨he, hw⟩ => ⟨he, ⟨l, by rw [hw]; exact hA2⟩, by rw [hw]; exact kb_refl _ _⟩))).mono fun e w' ⟨he, hr, hg⟩ => ⟨_, he, zero_isF _, hr, hg⟩
    · rw [if_neg h2]
      by_cases hb : 9223372036854775807 < valN (l.take (wid s))
      · rw [if_pos hb]
        exact (get_fails q s 3 l w (by omega) h (field_badN q s 3 0 _ (by omega) (by omega) hq ((rnumber_any q s l 0 _ (by omega) (by omega) hA2 (by omega) (by omega)).mono fun e w' ⟨he, hr, hg⟩ => ⟨by rw [he, numT_big _ hb], ⟨_, hr⟩, hg⟩))).mono fun e w' ⟨he, hr, hg⟩ => ⟨_, he, zero_isF _, hr, hg⟩
      · rw [if_neg hb]
        have hwl : (l.take (wid s)).length = wid s := by rw [List.length_take]; omega
        have hv := beN_val (l.take (wid s))
        rw [hwl] at hv
        have he : enc ⟨s, (valN (l.take (wid s)) : Int), []⟩ ++ l.drop (wid s) = l := by rw [enc_num (by omega) (by omega), Int.toNat_natCast, hv, List.take_append_drop]
        have hlt := valN_lt (l.take (wid s))
        rw [hwl] at hlt
        refine get_ok q ⟨s, (valN (l.take (wid s)) : Int), []⟩ _ w ?_ (by rw [he]; exact h) (by rw [List.length_drop]; omega)
        rw [chk_num (by exact hk.1) (by show s ≤ 3; omega), if_neg]
        simp only
        rcases size_cases hk.1 (show s ≤ 3 by omega) with rfl | rfl | rfl | rfl
        all_goals
          simp [wid, most] at hlt hb ⊢
          omega
end Go.Proofs.YtiengbmnfbbgoaaDoor
