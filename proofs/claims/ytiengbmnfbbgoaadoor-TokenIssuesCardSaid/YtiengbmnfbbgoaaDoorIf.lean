/-
  The walks of a writer: what it refuses, and what it has.
-/
import Derived.Test.YtiengbmnfbbgoaaDoorIb
import Derived.Test.YtiengbmnfbbgoaaDoorIc
namespace Go.Proofs.YtiengbmnfbbgoaaDoor
open Go Go.RowKit
/-- A writer's cells. -/
def wrC (out : List UInt8) (n : Nat) (e : Int) : Array Value := u8s out ++ #[.int .i64 (n : Int), .int .i64 e]
theorem wrC_out (out : List UInt8) (n : Nat) (e : Int) (h : out.length = 1024) (i : Nat) (hi : i < 1024) : (wrC out n e)[i]? = some (.int .u8 (ub (out.getD i 0))) := by
  unfold wrC
  rw [Array.getElem?_append_left (by rw [u8s_size]; omega), u8s_get _ _ (by omega)]
theorem wrC_used (out : List UInt8) (n : Nat) (e : Int) (h : out.length = 1024) : (wrC out n e)[1024]? = some (.int .i64 (n : Int)) := by
  unfold wrC
  rw [Array.getElem?_append_right (by rw [u8s_size]; omega), u8s_size, h]
  rfl
theorem wrC_err (out : List UInt8) (n : Nat) (e : Int) (h : out.length = 1024) : (wrC out n e)[1025]? = some (.int .i64 e) := by
  unfold wrC
  rw [Array.getElem?_append_right (by rw [u8s_size]; omega), u8s_size, h]
  rfl
theorem wrC_size (out : List UInt8) (n : Nat) (e : Int) (h : out.length = 1024) : (wrC out n e).size = 1026 := by
  unfold wrC
  rw [Array.size_append, u8s_size, h]
  rfl
theorem wrC_setE (out : List UInt8) (n : Nat) (e e' : Int) (h : out.length = 1024) : (wrC out n e).setIfInBounds 1025 (.int .i64 e') = wrC out n e' := by
  unfold wrC
  apply Array.ext_getElem?
  intro i
  rw [Array.getElem?_setIfInBounds, Array.getElem?_append, Array.getElem?_append, u8s_size, h]
  by_cases h1 : i < 1024
  · rw [if_neg (by omega), if_pos h1, if_pos h1]
  · rw [if_neg h1, if_neg h1]
    by_cases h2 : 1025 = i
    · subst h2
      rw [if_pos rfl, if_pos (by simp [u8s_size, h])]
      rfl
    · rw [if_neg h2]
      by_cases h3 : i = 1024
      · subst h3
        rfl
      · rw [Array.getElem?_eq_none (by simp; omega), Array.getElem?_eq_none (by simp; omega)]
theorem wrC_setN (out : List UInt8) (n n' : Nat) (e : Int) (h : out.length = 1024) : (wrC out n e).setIfInBounds 1024 (.int .i64 (n' : Int)) = wrC out n' e := by
  unfold wrC
  apply Array.ext_getElem?
  intro i
  rw [Array.getElem?_setIfInBounds, Array.getElem?_append, Array.getElem?_append, u8s_size, h]
  by_cases h1 : i < 1024
  · rw [if_neg (by omega), if_pos h1, if_pos h1]
  · rw [if_neg h1, if_neg h1]
    by_cases h2 : 1024 = i
    · subst h2
      rw [if_pos rfl, if_pos (by simp [u8s_size, h])]
      rfl
    · rw [if_neg h2]
      by_cases h3 : i = 1025
      · subst h3
        rfl
      · rw [Array.getElem?_eq_none (by simp; omega), Array.getElem?_eq_none (by simp; omega)]
/-- A writer, at block p. -/
def IsW (w : World) (p : Nat) (st : List UInt8 × Int) : Prop :=
  ∃ out : List UInt8, out.length = 1024 ∧ st.1.length ≤ 1024 ∧ out.take st.1.length = st.1 ∧ w.heap[p]? = some (.cells (wrC out st.1.length st.2) 109 (0, 0))
theorem IsW.lt {w : World} {p : Nat} {st : List UInt8 × Int} (h : IsW w p st) : p < w.heap.size := by
  obtain ⟨out, -, -, -, h⟩ := h
  exact (Array.getElem?_eq_some_iff.1 h).1
theorem IsW.later {w w1 : World} {p : Nat} {st : List UInt8 × Int} (h : IsW w p st) {B : Nat} (hb : Below B w w1) (hB : p < B) : IsW w1 p st := by
  obtain ⟨out, h1, h2, h3, h4⟩ := h
  exact ⟨out, h1, h2, h3, by rw [hb.block p hB]; exact h4⟩
theorem IsW.used {w : World} {p : Nat} {l : List UInt8} {e : Int} (h : IsW w p (l, e)) : w.cell? ⟨p, 1024, none⟩ = some (.int .i64 (l.length : Int)) := by
  obtain ⟨out, h1, h2, h3, h4⟩ := h
  rw [cell_of_row _ _ _ _ _ _ h4, wrC_used _ _ _ h1]
theorem IsW.err {w : World} {p : Nat} {l : List UInt8} {e : Int} (h : IsW w p (l, e)) : w.cell? ⟨p, 1025, none⟩ = some (.int .i64 e) := by
  obtain ⟨out, h1, h2, h3, h4⟩ := h
  rw [cell_of_row _ _ _ _ _ _ h4, wrC_err _ _ _ h1]
theorem IsW.le {w : World} {p : Nat} {l : List UInt8} {e : Int} (h : IsW w p (l, e)) : l.length ≤ 1024 := by
  obtain ⟨out, h1, h2, h3, h4⟩ := h
  exact h2
theorem IsW.bytes {w : World} {p : Nat} {l : List UInt8} {e : Int} (h : IsW w p (l, e)) : Bytes w (.slice (some ⟨p, 0, none⟩) l.length 1024) l := by
  obtain ⟨out, h1, h2, h3, h4⟩ := h
  refine ⟨_, _, rfl, h2, (fun hx => by cases hx), fun _ => ⟨p, 0, rfl, fun j hj => ?_⟩⟩
  simp only at h2 h3 h4
  rw [Nat.zero_add, cell_of_row _ _ _ _ _ _ h4, wrC_out _ _ _ h1 _ (by omega)]
  congr 3
  rw [List.getD_eq_getElem?_getD, List.getD_eq_getElem?_getD]
  congr 1
  rw [← h3, List.getElem?_take, if_pos hj]
/-- Why a field isn't put. -/
def rfs (st : List UInt8 × Int) (f : Fd) : Int := if st.2 ≠ 0 then st.2 else if chk f ≠ 0 then chk f else if 1024 < st.1.length + (enc f).length then 2 else 0
theorem two_len (n : Nat) (k : Nat) : (beN k n).length = k := beN_length k n
theorem wid_len (f : Fd) (h : chk f = 0) : (enc f).length ≤ 514 := by
  unfold enc
  rcases chk_ok h with ⟨h4, hn, hl⟩ | ⟨h0, h3, hb, hn0, hnm⟩
  · rw [if_pos h4, List.length_append, beN_length]; omega
  · rw [if_neg (by omega), beN_length]
    have := wid_le f.s
    omega
/-- The box of a field. -/
theorem box_range (W : World) (a b c : Value) (t : TypeId) : (W.alloc (.cells #[a, b, c] t (0, 0))).rangeAt W.heap.size 0 [a, b, c] := by
  intro j v hj
  rw [cell_of_row _ _ _ _ _ _ (hnew _ _ _ rfl), Nat.zero_add]
  simpa using hj
theorem range_later {w w1 : World} {b o : Nat} {cs : List Value} {B : Nat} (h : w.rangeAt b o cs) (hb : Below B w w1) (hB : b < B) : w1.rangeAt b o cs := by
  intro j v hj
  rw [hb.cell (p := ⟨b, o + j, none⟩) hB]
  exact h j v hj
set_option maxRecDepth 100000 in
set_option maxHeartbeats 1000000 in
theorem refuses_any (f : Fd) (v : Value) (p : Nat) (l : List UInt8) (er : Int) (w : World) (hw : IsW w p (l, er)) (hv : IsF w v f) (hn1 : -9223372036854775808 ≤ f.n) (hn2 : f.n ≤ 9223372036854775807) :
    Calls Tryd.prog 82 #[.pointer (some ⟨p, 0, none⟩), v] w fun e w' => e = .returned (.int .i64 (rfs (l, er) f)) ∧ Below w.heap.size w w' := by
  have HW := Bx.mk hw
  have hp := hw.lt
  obtain ⟨vb, rfl, hb⟩ := hv
  obtain ⟨s, n, b⟩ := f
  simp only at hb hn1 hn2
  have HB := Bx.mk hb
  obtain ⟨ab, cb, rfl, -⟩ := hb
  obtain ⟨L, hL⟩ : ∃ n, b.length = n := ⟨_, rfl⟩
  rw [hL] at HB ⊢
  have hX : Bx (Below w.heap.size w (w.alloc (.cells #[.int .i64 s, .int .i64 n, .slice ab L cb] 141)) ∧ (w.alloc (.cells #[.int .i64 s, .int .i64 n, .slice ab L cb] 141)).rangeAt w.heap.size 0 [.int .i64 s, .int .i64 n, .slice ab L cb] ∧ IsW (w.alloc (.cells #[.int .i64 s, .int .i64 n, .slice ab L cb] 141)) p (l, er)) := Bx.mk ⟨below_a _, box_range _ _ _ _ _, hw.later (below_a _) hp⟩
  have hE := hX.out.2.2.err
  clear hL hw
  by_cases he : er = 0
  · subst he
    by_cases hc : chk ⟨s, n, b⟩ = 0
    · have HC := Bx.mk hc
      have hu := hX.out.2.2.used
      have hu1 := HW.out.le
      have hR : Bx (rfs (l, 0) ⟨s, n, b⟩ = if 1024 < l.length + (enc ⟨s, n, b⟩).length then 2 else 0) := Bx.mk (by unfold rfs; rw [if_neg (by simp), if_neg (by simp [hc])])
      have hel := wid_len _ hc
      obtain ⟨el, hel1⟩ : ∃ k, (enc ⟨s, n, b⟩).length = k := ⟨_, rfl⟩
      have HEL := Bx.mk hel1
      rw [hel1] at hel hR
      obtain ⟨u, hu2⟩ : ∃ n, l.length = n := ⟨_, rfl⟩
      rw [hu2] at hu hu1 hR
      have hu3 : (u : Int) ≤ 1024 := by omega
      have hel3 : (el : Int) ≤ 514 := by omega
      have hwr : IntKind.i64.wrap (1024 - (u : Int)) = 1024 - (u : Int) := by rw [IntKind.wrap_i64]; omega
      have HCk := Bx.mk (wcheck_any ⟨s, n, b⟩ _ (w.alloc (.cells #[.int .i64 s, .int .i64 n, .slice ab L cb] 141)) ⟨_, rfl, HB.out.later hX.out.1⟩ hn1 hn2)
      clear hel1 hu2 hel hu1
      go_enter Tryd.func82, Tryd.ntmps82
      go_wp2_with fail
      refine HCk.out.mono ?_
      rintro e w1 ⟨rfl, hb1⟩
      obtain ⟨B, hw⟩ : ∃ B, w.heap.size = B := ⟨_, rfl⟩
      have Hw := Bx.mk hw
      have H1 : Bx (w1.cell? ⟨p, 1024, none⟩ = some (.int .i64 (u : Int)) ∧ w1.rangeAt B 0 [.int .i64 s, .int .i64 n, .slice ab L cb] ∧ Below B w w1) := Bx.mk ⟨by rw [hb1.cell (p := ⟨p, 1024, none⟩) (World.block_lt_of_cell? _ _ hu)]; exact hu, by rw [← hw]; exact range_later hX.out.2.1 hb1 (by simp), by rw [← hw]; exact hX.out.1.trans (hb1.mono hX.out.1.size)⟩
      rw [HC.out]
      clear hb1 hu hX HCk hE
      rw [hw]
      go_upto_region 6 with fail
      refine wp_region_noPanic ?_
      refine wp_region_held_drew (S := fun W => W.cell? ⟨p, 1024, none⟩ = some (.int .i64 (u : Int)) ∧ W.rangeAt B 0 [.int .i64 s, .int .i64 n, .slice ab L cb] ∧ Bx (Below B w W)) (by kernel_rfl) (⟨H1.out.1, H1.out.2.1, ⟨H1.out.2.2.drew⟩⟩) (fun hHeld => ?_)
      have H0 : Bx (w1.drew.cell? ⟨p, 1024, none⟩ = some (.int .i64 (u : Int)) ∧ w1.drew.rangeAt B 0 [.int .i64 s, .int .i64 n, .slice ab L cb] ∧ Below B w w1.drew) := Bx.mk ⟨H1.out.1, H1.out.2.1, H1.out.2.2.drew⟩
      clear H1
      generalize w1.drew = W0 at *
      by_cases hlg : 1024 < u + el
      · have hlg1 : (1024 : Int) - (u : Int) < (el : Int) := by omega
        refine takeL 0 rfl (by kernel_rfl) (by kernel_rfl) (by kernel_rfl) (fun _ _ _ h => h) (yieldsIf_load_mid (by rfl) _ _ rfl _ _ rfl _ _ (fun w hSw => hSw.2.1) Tryd.underlying141 rfl (by kernel_rfl)) hHeld ?_
        try simp only [Act.put, List.setIfInBounds_toArray, List.set_cons_zero, List.set_cons_succ]
        refine takeL 3 (v := ?_) rfl (by kernel_rfl) (by kernel_rfl) (by kernel_rfl) (fun _ _ _ h => h) (Or.inl ⟨by rfl, ?_⟩) hHeld ?_
        rotate_left 1
        · (intro w hSw; go_simp; try with_reducible rfl)
        try simp only [Act.put, List.setIfInBounds_toArray, List.set_cons_zero, List.set_cons_succ]
        refine takeL 4 (v := ?_) rfl (by kernel_rfl) (by kernel_rfl) (by kernel_rfl) (fun _ _ _ h => h) (Or.inl ⟨by rfl, ?_⟩) hHeld ?_
        rotate_left 1
        · (intro w hSw; go_simp; try with_reducible rfl)
        try simp only [Act.put, List.setIfInBounds_toArray, List.set_cons_zero, List.set_cons_succ]
        refine takeL 5 (v := ?_) rfl (by kernel_rfl) (by kernel_rfl) (by kernel_rfl) (fun _ _ _ h => h) (Or.inl ⟨by rfl, ?_⟩) hHeld ?_
        rotate_left 1
        · (intro w hSw; go_simp; try with_reducible rfl)
        try simp only [Act.put, List.setIfInBounds_toArray, List.set_cons_zero, List.set_cons_succ]
        refine takeL 6 (v := ?_) rfl (by kernel_rfl) (by kernel_rfl) (by kernel_rfl) (fun _ _ _ h => h) (Or.inl ⟨by rfl, ?_⟩) hHeld ?_
        rotate_left 1
        · (intro w hSw; go_simp; try with_reducible rfl)
        try simp only [Act.put, List.setIfInBounds_toArray, List.set_cons_zero, List.set_cons_succ]
        refine takeL 7 (v := ?_) rfl (by kernel_rfl) (by kernel_rfl) (by kernel_rfl) (fun _ _ _ h => h) (Or.inl ⟨by rfl, ?_⟩) hHeld ?_
        rotate_left 1
        · (intro w hSw; go_simp; try with_reducible rfl)
        try simp only [Act.put, List.setIfInBounds_toArray, List.set_cons_zero, List.set_cons_succ]
        refine stepL 1 (by kernel_rfl) rfl (fun K hK => ?_)
        go_simp
        refine (encoded_any ⟨s, n, b⟩ _ W0 ⟨_, rfl, HB.out.old Hw.out H0.out.2.2⟩ HC.out).mono ?_
        rintro e W1 ⟨v1, rfl, ho1, hb1⟩
        show K _ _
        obtain ⟨a1, c1, hv1, -⟩ := ho1.bytes
        rw [HEL.out] at hv1
        subst hv1
        have H1 : Bx (W1.cell? ⟨p, 1024, none⟩ = some (.int .i64 (u : Int)) ∧ W1.rangeAt B 0 [.int .i64 s, .int .i64 n, .slice ab L cb] ∧ Below B w W1) := Bx.mk ⟨by rw [hb1.cell (p := ⟨p, 1024, none⟩) (World.block_lt_of_cell? _ _ H0.out.1)]; exact H0.out.1, range_later H0.out.2.1 hb1 (World.block_lt_of_cell? _ _ (H0.out.2.1 0 _ rfl)), H0.out.2.2.trans (hb1.mono (Nat.le_of_lt (World.block_lt_of_cell? _ _ (H0.out.2.1 0 _ rfl))))⟩
        clear ho1 hb1 H0
        refine hK.out _ _ ⟨H1.out.1, H1.out.2.1, ⟨H1.out.2.2⟩⟩ (fun hHeld => ?_)
        clear hK K
        try simp only [Act.put, List.setIfInBounds_toArray, List.set_cons_zero, List.set_cons_succ]
        refine takeL 2 (v := ?_) rfl (by kernel_rfl) (by kernel_rfl) (by kernel_rfl) (fun _ _ _ h => h) (Or.inl ⟨by rfl, ?_⟩) hHeld ?_
        rotate_left 1
        · (intro w hSw; go_simp; try with_reducible rfl)
        try simp only [Act.put, List.setIfInBounds_toArray, List.set_cons_zero, List.set_cons_succ]
        refine takeL 8 (v := ?_) rfl (by kernel_rfl) (by kernel_rfl) (by kernel_rfl) (fun _ _ _ h => h) (Or.inl ⟨by rfl, ?_⟩) hHeld ?_
        rotate_left 1
        · (intro w hSw; go_simp; try with_reducible rfl)
        try simp only [Act.put, List.setIfInBounds_toArray, List.set_cons_zero, List.set_cons_succ]
        refine wpAnyH_done (by kernel_rfl) ?_ _
        refine NoPanic.normal ?_
        clear hHeld
        go_wp2
        go_ret
        exact ⟨by rw [hR.out, if_pos hlg]; rfl, by first | exact H1.out.2.2 | (rw [Hw.out]; exact H1.out.2.2)⟩
      · have hlg1 : ¬ (1024 : Int) - (u : Int) < (el : Int) := by omega
        refine takeL 0 rfl (by kernel_rfl) (by kernel_rfl) (by kernel_rfl) (fun _ _ _ h => h) (yieldsIf_load_mid (by rfl) _ _ rfl _ _ rfl _ _ (fun w hSw => hSw.2.1) Tryd.underlying141 rfl (by kernel_rfl)) hHeld ?_
        try simp only [Act.put, List.setIfInBounds_toArray, List.set_cons_zero, List.set_cons_succ]
        refine takeL 3 (v := ?_) rfl (by kernel_rfl) (by kernel_rfl) (by kernel_rfl) (fun _ _ _ h => h) (Or.inl ⟨by rfl, ?_⟩) hHeld ?_
        rotate_left 1
        · (intro w hSw; go_simp; try with_reducible rfl)
        try simp only [Act.put, List.setIfInBounds_toArray, List.set_cons_zero, List.set_cons_succ]
        refine takeL 4 (v := ?_) rfl (by kernel_rfl) (by kernel_rfl) (by kernel_rfl) (fun _ _ _ h => h) (Or.inl ⟨by rfl, ?_⟩) hHeld ?_
        rotate_left 1
        · (intro w hSw; go_simp; try with_reducible rfl)
        try simp only [Act.put, List.setIfInBounds_toArray, List.set_cons_zero, List.set_cons_succ]
        refine takeL 5 (v := ?_) rfl (by kernel_rfl) (by kernel_rfl) (by kernel_rfl) (fun _ _ _ h => h) (Or.inl ⟨by rfl, ?_⟩) hHeld ?_
        rotate_left 1
        · (intro w hSw; go_simp; try with_reducible rfl)
        try simp only [Act.put, List.setIfInBounds_toArray, List.set_cons_zero, List.set_cons_succ]
        refine takeL 6 (v := ?_) rfl (by kernel_rfl) (by kernel_rfl) (by kernel_rfl) (fun _ _ _ h => h) (Or.inl ⟨by rfl, ?_⟩) hHeld ?_
        rotate_left 1
        · (intro w hSw; go_simp; try with_reducible rfl)
        try simp only [Act.put, List.setIfInBounds_toArray, List.set_cons_zero, List.set_cons_succ]
        refine takeL 7 (v := ?_) rfl (by kernel_rfl) (by kernel_rfl) (by kernel_rfl) (fun _ _ _ h => h) (Or.inl ⟨by rfl, ?_⟩) hHeld ?_
        rotate_left 1
        · (intro w hSw; go_simp; try with_reducible rfl)
        try simp only [Act.put, List.setIfInBounds_toArray, List.set_cons_zero, List.set_cons_succ]
        refine stepL 1 (by kernel_rfl) rfl (fun K hK => ?_)
        go_simp
        refine (encoded_any ⟨s, n, b⟩ _ W0 ⟨_, rfl, HB.out.old Hw.out H0.out.2.2⟩ HC.out).mono ?_
        rintro e W1 ⟨v1, rfl, ho1, hb1⟩
        show K _ _
        obtain ⟨a1, c1, hv1, -⟩ := ho1.bytes
        rw [HEL.out] at hv1
        subst hv1
        have H1 : Bx (W1.cell? ⟨p, 1024, none⟩ = some (.int .i64 (u : Int)) ∧ W1.rangeAt B 0 [.int .i64 s, .int .i64 n, .slice ab L cb] ∧ Below B w W1) := Bx.mk ⟨by rw [hb1.cell (p := ⟨p, 1024, none⟩) (World.block_lt_of_cell? _ _ H0.out.1)]; exact H0.out.1, range_later H0.out.2.1 hb1 (World.block_lt_of_cell? _ _ (H0.out.2.1 0 _ rfl)), H0.out.2.2.trans (hb1.mono (Nat.le_of_lt (World.block_lt_of_cell? _ _ (H0.out.2.1 0 _ rfl))))⟩
        clear ho1 hb1 H0
        refine hK.out _ _ ⟨H1.out.1, H1.out.2.1, ⟨H1.out.2.2⟩⟩ (fun hHeld => ?_)
        clear hK K
        try simp only [Act.put, List.setIfInBounds_toArray, List.set_cons_zero, List.set_cons_succ]
        refine takeL 2 (v := ?_) rfl (by kernel_rfl) (by kernel_rfl) (by kernel_rfl) (fun _ _ _ h => h) (Or.inl ⟨by rfl, ?_⟩) hHeld ?_
        rotate_left 1
        · (intro w hSw; go_simp; try with_reducible rfl)
        try simp only [Act.put, List.setIfInBounds_toArray, List.set_cons_zero, List.set_cons_succ]
        refine takeL 8 (v := ?_) rfl (by kernel_rfl) (by kernel_rfl) (by kernel_rfl) (fun _ _ _ h => h) (Or.inl ⟨by rfl, ?_⟩) hHeld ?_
        rotate_left 1
        · (intro w hSw; go_simp; try with_reducible rfl)
        try simp only [Act.put, List.setIfInBounds_toArray, List.set_cons_zero, List.set_cons_succ]
        refine wpAnyH_done (by kernel_rfl) ?_ _
        refine NoPanic.normal ?_
        clear hHeld
        go_wp2
        go_ret
        exact ⟨by rw [hR.out, if_neg hlg]; rfl, by first | exact H1.out.2.2 | (rw [Hw.out]; exact H1.out.2.2)⟩
    · have hR : Bx (rfs (l, 0) ⟨s, n, b⟩ = chk ⟨s, n, b⟩) := Bx.mk (by unfold rfs; rw [if_neg (by simp), if_pos (by simp [hc])])
      have HCk := Bx.mk (wcheck_any ⟨s, n, b⟩ _ (w.alloc (.cells #[.int .i64 s, .int .i64 n, .slice ab L cb] 141)) ⟨_, rfl, HB.out.later hX.out.1⟩ hn1 hn2)
      generalize chk ⟨s, n, b⟩ = ck at *
      go_enter Tryd.func82, Tryd.ntmps82
      go_wp2_with fail
      refine HCk.out.mono ?_
      rintro e w1 ⟨rfl, hb1⟩
      have H1 := Bx.mk (hX.out.1.trans (hb1.mono hX.out.1.size))
      clear hX hb1 HCk hE
      go_wp2
      go_ret
      exact ⟨by rw [hR.out]; rfl, H1.out⟩
  · have hR : Bx (rfs (l, er) ⟨s, n, b⟩ = er) := Bx.mk (by unfold rfs; rw [if_pos he])
    go_enter Tryd.func82, Tryd.ntmps82
    go_wp2
    go_ret
    exact ⟨by rw [hR.out]; rfl, hX.out.1⟩
end Go.Proofs.YtiengbmnfbbgoaaDoor
