/-
  The walk of the statement on nothing.
-/
import Derived.Test.YtgbhckoaabnblaaIp
import Derived.Test.YtgbhckoaabnblaaIl
import Derived.Test.YtgbhckoaabnblaaIs
namespace Go.Proofs.Ytgbhckoaabnblaa
open Go Go.RowKit
set_option maxRecDepth 100000 in
theorem wnum_nil (s n : Int) (g : Nat) (w : World) (hc : w.cell? ⟨g, 0, none⟩ = some (.int .i64 n)) : Calls Try.prog 14 #[.pointer none, .int .i64 s, .slice (some ⟨g, 0, none⟩) 1 1] w fun e w' => e = .returned (.pointer none) ∧ Below w.heap.size w w' := by
  have H0 : Bx (Below w.heap.size w w) := Bx.mk (Below.refl _ _)
  go_enter Try.func14, Try.ntmps14
  go_wp2
  go_loopw [11] (fun i wr => ∃ k : Nat, k ≤ 1 ∧ i = .int .i64 (k : Int) ∧ Bx (Below w.heap.size w wr)) (fun i _ => 1 - (intOf i).toNat)
  case atStart => exact ⟨0, Nat.zero_le _, rfl, H0⟩
  case round =>
    clear H0
    obtain ⟨k, hk, rfl, HI⟩ := hrel
    by_cases hlt : k < 1
    · obtain rfl : k = 0 := by omega
      have hcell : wr.cell? ⟨g, 0, none⟩ = some (.int .i64 n) := by rw [HI.out.cell (p := ⟨g, 0, none⟩) (World.block_lt_of_cell? _ _ hc)]; exact hc
      have H1 : Bx (Below w.heap.size w (wr.alloc (.cells #[.int .i64 s, .int .i64 n, .slice none 0 0] 40))) := Bx.mk (HI.out.alloc HI.out.size _)
      clear HI
      go_wp2_with fail
      refine (put_nil _ _).mono ?_
      rintro e w3 ⟨rfl, hw3⟩
      have H3 : Bx (Below w.heap.size w w3) := Bx.mk (by rw [← hw3]; exact H1.out)
      clear hw3 H1
      go_wp2
      go_roundw
      case rel => exact ⟨1, by omega, by go_num, H3⟩
      case measure => simp [intOf]
    · obtain rfl : k = 1 := by omega
      go_wp2
      go_ret
      exact ⟨rfl, HI.out⟩
set_option maxRecDepth 100000 in
theorem wbyt_nil (g : Nat) (w : World) (hc : w.cell? ⟨g, 0, none⟩ = some (.slice none 0 0)) : Calls Try.prog 13 #[.pointer none, .slice (some ⟨g, 0, none⟩) 1 1] w fun e w' => e = .returned (.pointer none) ∧ Below w.heap.size w w' := by
  have H0 : Bx (Below w.heap.size w w) := Bx.mk (Below.refl _ _)
  go_enter Try.func13, Try.ntmps13
  go_wp2
  go_loopw [9] (fun i wr => ∃ k : Nat, k ≤ 1 ∧ i = .int .i64 (k : Int) ∧ Bx (Below w.heap.size w wr)) (fun i _ => 1 - (intOf i).toNat)
  case atStart => exact ⟨0, Nat.zero_le _, rfl, H0⟩
  case round =>
    clear H0
    obtain ⟨k, hk, rfl, HI⟩ := hrel
    by_cases hlt : k < 1
    · obtain rfl : k = 0 := by omega
      have hcell : wr.cell? ⟨g, 0, none⟩ = some (.slice none 0 0) := by rw [HI.out.cell (p := ⟨g, 0, none⟩) (World.block_lt_of_cell? _ _ hc)]; exact hc
      have H1 : Bx (Below w.heap.size w (wr.alloc (.cells #[.int .i64 4, .int .i64 0, .slice none 0 0] 40))) := Bx.mk (HI.out.alloc HI.out.size _)
      clear HI
      go_wp2_with fail
      refine (put_nil _ _).mono ?_
      rintro e w3 ⟨rfl, hw3⟩
      have H3 : Bx (Below w.heap.size w w3) := Bx.mk (by rw [← hw3]; exact H1.out)
      clear hw3 H1
      go_wp2
      go_roundw
      case rel => exact ⟨1, by omega, by go_num, H3⟩
      case measure => simp [intOf]
    · obtain rfl : k = 1 := by omega
      go_wp2
      go_ret
      exact ⟨rfl, HI.out⟩
/-- One field of the document, as a row. -/
theorem one_fldB (W : World) (f : Fd) (vb : Value) (hb : Bytes W vb f.b) (t : TypeId) :
    FldsB (W.alloc (.cells #[.int .i64 f.s, .int .i64 f.n, vb] t)) (W.alloc (.cells #[.int .i64 f.s, .int .i64 f.n, vb] t)).heap.size (.slice (some ⟨W.heap.size, 0, none⟩) 1 1) [f] := by
  refine ⟨_, 1, rfl, Nat.le_refl _, fun _ => ⟨W.heap.size, 0, rfl, by simp, fun i hi => ?_⟩⟩
  obtain rfl : i = 0 := by simp at hi; omega
  refine ⟨vb, box_range _ _ _ _ _, hb.later (below_a _), fun h0 => ?_⟩
  obtain ⟨a, cap, rfl, -, -, hr⟩ := hb
  obtain ⟨c, o, rfl, hcell⟩ := hr h0
  exact ⟨c, rfl, by have := World.block_lt_of_cell? _ _ (hcell 0 h0); simp only at this; simp; omega⟩
/-- What stays while nothing is asked. -/
structure NS (w : World) (D : Nat) (s : Int) (q : Nat) (W : World) : Prop where
  bel : Below D w W
  cell : W.cell? ⟨D, 0, none⟩ = some (.int .i64 s)
  rd : IsR W q [] 13
theorem NS.later {w W W1 : World} {D : Nat} {s : Int} {q : Nat} (h : NS w D s q W) (hb : Below W.heap.size W W1) : NS w D s q W1 :=
  ⟨h.bel.trans (hb.mono (Nat.le_of_lt (World.block_lt_of_cell? _ _ h.cell))), by rw [hb.cell (p := ⟨D, 0, none⟩) (World.block_lt_of_cell? _ _ h.cell)]; exact h.cell, h.rd.later hb⟩
theorem zeroF (W : World) : IsF W fZero Fd.zero := ⟨_, rfl, Bytes.nil _⟩
set_option maxRecDepth 100000 in
set_option maxHeartbeats 4000000 in
theorem wnil_any (f : Fd) (v : Value) (w : World) (hv : IsF w v f) (hl : f.b.length ≤ 9223372036854775807) : Calls Try.prog 4 #[v] w fun e w' => e = .returned (.bool true) ∧ Below w.heap.size w w' := by
  obtain ⟨vb, rfl, hb⟩ := hv
  obtain ⟨s, n, b⟩ := f
  simp only at hb hl ⊢
  have HB := Bx.mk hb
  have HLn := Bx.mk hl
  obtain ⟨ab, cb, rfl, -⟩ := hb
  obtain ⟨L, hL⟩ : ∃ n, b.length = n := ⟨_, rfl⟩
  rw [hL] at HB ⊢
  clear hL hl
  have HA : Bx (Below w.heap.size w (w.alloc (.cells #[.int .i64 s, .int .i64 n, .slice ab L cb] 33)) ∧ (w.alloc (.cells #[.int .i64 s, .int .i64 n, .slice ab L cb] 33)).rangeAt w.heap.size 0 [.int .i64 s, .int .i64 n, .slice ab L cb] ∧ Bytes (w.alloc (.cells #[.int .i64 s, .int .i64 n, .slice ab L cb] 33)) (.slice ab L cb) b) := Bx.mk ⟨below_a _, box_range _ _ _ _ _, HB.out.later (below_a _)⟩
  go_enter Try.func4, Try.ntmps4
  go_wp2_with fail
  refine (wout_nil _).mono ?_
  rintro e w1 ⟨rfl, hw1⟩
  subst hw1
  generalize w.alloc (.cells #[.int .i64 s, .int .i64 n, .slice ab L cb] 33) = wA at *
  obtain ⟨D, hD⟩ : ∃ D, w.heap.size = D := ⟨_, rfl⟩
  have HD := Bx.mk hD
  rw [hD] at HA ⊢
  clear hD
  have H2 : Bx (FldsB (wA.alloc (.cells #[.int .i64 s, .int .i64 n, .slice ab L cb] 33)) (wA.alloc (.cells #[.int .i64 s, .int .i64 n, .slice ab L cb] 33)).heap.size (.slice (some ⟨wA.heap.size, 0, none⟩) 1 1) [⟨s, n, b⟩] ∧ Below wA.heap.size wA (wA.alloc (.cells #[.int .i64 s, .int .i64 n, .slice ab L cb] 33))) := Bx.mk ⟨one_fldB wA ⟨s, n, b⟩ _ HA.out.2.2 _, below_a _⟩
  go_wp2_with (refine wpList_load_mid rfl 33 _ rfl D 0 (by rfl) _ _ HA.out.2.1 Try.underlying33 rfl (by kernel_rfl) ?_)
  generalize wA.alloc (.cells #[.int .i64 s, .int .i64 n, .slice ab L cb] 33) = wB at *
  refine (to_any [⟨s, n, b⟩] _ wB H2.out.1 (by simp) (fun f hf => by simp at hf; subst hf; exact HLn.out)).mono ?_
  rintro e w3 ⟨v3, xs, rfl, -, ht3⟩
  have hDA : D < wA.heap.size := World.block_lt_of_cell? _ _ (HA.out.2.1 0 _ rfl)
  have hA3 : Below wA.heap.size wA w3 := H2.out.2.trans (ht3.bel.mono H2.out.2.size)
  have H3 : Bx (Below D w w3 ∧ w3.cell? ⟨D, 0, none⟩ = some (.int .i64 s)) := Bx.mk ⟨HA.out.1.trans (hA3.mono (Nat.le_of_lt hDA)), by rw [hA3.cell (p := ⟨D, 0, none⟩) hDA]; exact HA.out.2.1 0 _ rfl⟩
  obtain ⟨a3, c3, hv3, -⟩ := (ht3.own.flds ht3.byt).off (Nat.le_refl _)
  subst hv3
  clear ht3 H2 hA3 hDA HA
  generalize (xs.map (·.1)).length = n3 at *
  generalize wA.heap.size = E1 at *
  have H4 : Bx (Bytes (w3.alloc (.cells #[.int .u8 0, .int .u8 1, .int .u8 7] 5)) (.slice (some ⟨w3.heap.size, 0, none⟩) 3 3) [0, 1, 7] ∧ Below w3.heap.size w3 (w3.alloc (.cells #[.int .u8 0, .int .u8 1, .int .u8 7] 5))) := Bx.mk ⟨built w3 [0, 1, 7], below_a _⟩
  go_wp2_with fail
  generalize w3.alloc (.cells #[.int .u8 0, .int .u8 1, .int .u8 7] 5) = w4 at *
  refine (new_ok [0, 1, 7] _ w4 H4.out.1 (by simp)).mono ?_
  rintro e w5 ⟨rfl, hr5, hb5⟩
  obtain ⟨q, hq⟩ : ∃ q, w4.heap.size = q := ⟨_, rfl⟩
  have hD3 : D < w3.heap.size := World.block_lt_of_cell? _ _ H3.out.2
  have h35 : Below w3.heap.size w3 w5 := H4.out.2.trans (hb5.mono H4.out.2.size)
  have H5 : Bx (Below D w w5 ∧ w5.cell? ⟨D, 0, none⟩ = some (.int .i64 s) ∧ IsR w5 q [0, 1, 7] 0 ∧ D < q) := Bx.mk ⟨H3.out.1.trans (h35.mono (Nat.le_of_lt hD3)), by rw [h35.cell (p := ⟨D, 0, none⟩) hD3]; exact H3.out.2, by rw [← hq]; exact hr5, by rw [← hq]; exact Nat.lt_of_lt_of_le hD3 H4.out.2.size⟩
  rw [hq]
  clear hr5 hb5 H4 hD3 h35 H3 hq
  generalize w3.heap.size = E2 at *
  go_wp2_with fail
  refine (rnum_some q [0, 1, 7] w5 H5.out.2.2.1).mono ?_
  rintro e w6 ⟨rfl, hr6, hg6⟩
  have H6 : Bx (NS w D s q w6) := Bx.mk ⟨H5.out.1.trans (grown_below hg6 (Nat.le_of_lt H5.out.2.2.2) (Nat.le_of_lt (World.block_lt_of_cell? _ _ H5.out.2.1))), by rw [World.cell?_of_block (hg6.block D (World.block_lt_of_cell? _ _ H5.out.2.1) (fun e => by injection e with e; have := H5.out.2.2.2; omega))]; exact H5.out.2.1, hr6⟩
  clear hr6 hg6 H5
  go_wp2_with fail
  refine (known4_any w6).mono ?_
  rintro e w7 ⟨rfl, hb7⟩
  have H7 := Bx.mk (H6.out.later hb7)
  clear hb7 H6
  go_wp2_with fail
  refine (put_nil _ w7).mono ?_
  rintro e w8 ⟨rfl, rfl⟩
  have H8 : Bx (NS w D s q (w7.alloc (.cells #[.int .i64 1] 3)) ∧ (w7.alloc (.cells #[.int .i64 1] 3)).cell? ⟨w7.heap.size, 0, none⟩ = some (.int .i64 1)) := Bx.mk ⟨H7.out.later (below_a _), by rw [cell_of_row _ _ _ _ _ _ (hnew _ _ _ rfl)]; rfl⟩
  clear H7
  go_wp2_with fail
  generalize w7.alloc (.cells #[.int .i64 1] 3) = w8 at *
  refine (wnum_nil 0 1 _ w8 H8.out.2).mono ?_
  rintro e w9 ⟨rfl, hb9⟩
  have H9 := Bx.mk (H8.out.1.later hb9)
  clear hb9 H8
  generalize w7.heap.size = E3 at *
  have H10 : Bx (NS w D s q (w9.alloc (.cells #[.slice none 0 0] 30)) ∧ (w9.alloc (.cells #[.slice none 0 0] 30)).cell? ⟨w9.heap.size, 0, none⟩ = some (.slice none 0 0)) := Bx.mk ⟨H9.out.later (below_a _), by rw [cell_of_row _ _ _ _ _ _ (hnew _ _ _ rfl)]; rfl⟩
  clear H9
  go_wp2_with fail
  generalize w9.alloc (.cells #[.slice none 0 0] 30) = w10 at *
  refine (wbyt_nil _ w10 H10.out.2).mono ?_
  rintro e w11 ⟨rfl, hb11⟩
  have H11 := Bx.mk (H10.out.1.later hb11)
  clear hb11 H10
  generalize w9.heap.size = E4 at *
  have hcD := H11.out.cell
  go_wp2_with fail
  refine (get_nil s w11).mono ?_
  rintro e w12 ⟨rfl, hb12⟩
  have H12 := Bx.mk (H11.out.later hb12)
  clear hb12 H11 hcD
  unfold fZero
  go_wp2_with fail
  refine (wsame_eq Fd.zero _ _ w12 (zeroF w12) (zeroF w12)).mono ?_
  rintro e w13 ⟨rfl, hb13⟩
  have H13 := Bx.mk (H12.out.later hb13)
  clear hb13 H12
  go_wp2_with fail
  refine (rnum_nil w13).mono ?_
  rintro e w14 ⟨rfl, hb14⟩
  have H14 := Bx.mk (H13.out.later hb14)
  clear hb14 H13
  go_wp2_with fail
  refine (rbyt_nil 9 (.inl rfl) w14).mono ?_
  rintro e w15 ⟨rfl, hb15⟩
  have H15 := Bx.mk (H14.out.later hb15)
  clear hb15 H14
  go_wp2_with fail
  refine (rbyt_nil (-1) (.inr rfl) w15).mono ?_
  rintro e w16 ⟨rfl, hb16⟩
  have H16 := Bx.mk (H15.out.later hb16)
  clear hb16 H15
  go_wp2_with fail
  refine (left_nil w16).mono ?_
  rintro e w17 ⟨rfl, rfl⟩
  go_wp2_with fail
  refine (rerr_nil _).mono ?_
  rintro e w17 ⟨rfl, rfl⟩
  go_wp2_with fail
  refine (end_nil _).mono ?_
  rintro e w17 ⟨rfl, rfl⟩
  go_wp2_with fail
  refine (rerr_any q [] 13 _ H16.out.rd).mono ?_
  rintro e w17 ⟨rfl, rfl⟩
  go_wp2
  go_ret
  rw [HD.out]
  exact ⟨rfl, H16.out.bel⟩
end Go.Proofs.Ytgbhckoaabnblaa
