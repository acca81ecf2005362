/-
  The walks of numbers that are read of any bytes.
-/
import Derived.Test.YtiengbmnfbbgoaaDoorIp
namespace Go.Proofs.YtiengbmnfbbgoaaDoor
open Go Go.RowKit
/-- The number that bytes say, the highest first. -/
def valN (l : List UInt8) : Nat := l.foldl (fun a x => a * 256 + x.toNat) 0
theorem valN_snoc (l : List UInt8) (x : UInt8) : valN (l ++ [x]) = valN l * 256 + x.toNat := by simp [valN]
theorem fold_lt (l : List UInt8) : ∀ a : Nat, l.foldl (fun a x => a * 256 + x.toNat) a < (a + 1) * 256 ^ l.length := by
  induction l with
  | nil => intro a; simp
  | cons x l ih =>
    intro a
    have h := ih (a * 256 + x.toNat)
    have hx := x.toNat_lt
    rw [List.foldl_cons, List.length_cons, Nat.pow_succ']
    refine Nat.lt_of_lt_of_le h ?_
    rw [← Nat.mul_assoc]
    exact Nat.mul_le_mul_right _ (by omega)
theorem valN_lt (l : List UInt8) : valN l < 256 ^ l.length := by
  have h := fold_lt l 0
  rw [Nat.zero_add, Nat.one_mul] at h
  exact h
theorem valN_take (l : List UInt8) (k : Nat) (hk : k < l.length) : valN (l.take (k + 1)) = valN (l.take k) * 256 + (l.getD k 0).toNat := by
  rw [List.take_add_one, List.getElem?_eq_getElem hk, List.getD_eq_getElem?_getD, List.getElem?_eq_getElem hk]
  exact valN_snoc _ _
/-- Seven bytes and one more. -/
theorem or_wrap (x y : Nat) (hx : x < 72057594037927936) (hy : y < 256) : bits .or .i64 (IntKind.i64.wrap ((x : Int) * 256)) (y : Int) = IntKind.i64.wrap (((x * 256 + y : Nat)) : Int) := by
  show IntKind.i64.wrap ((BitVec.ofInt 64 (IntKind.i64.wrap ((x : Int) * 256)) ||| BitVec.ofInt 64 (y : Int)).toNat : Int) = _
  have e0 : BitVec.ofInt 64 (IntKind.i64.wrap ((x : Int) * 256)) = BitVec.ofNat 64 (x * 256) := by
    apply BitVec.eq_of_toNat_eq
    rw [BitVec.toNat_ofInt, BitVec.toNat_ofNat, IntKind.wrap_i64]
    omega
  rw [e0, BitVec.toNat_or, BitVec.ofInt_natCast, BitVec.toNat_ofNat, BitVec.toNat_ofNat, Nat.mod_eq_of_lt (by omega), Nat.mod_eq_of_lt (by omega)]
  have h := Nat.two_pow_add_eq_or_of_lt (i := 8) (b := y) (by omega) x
  have e : x * 256 ||| y = x * 256 + y := by
    rw [Nat.mul_comm x 256]
    exact h.symm
  rw [e]
theorem take_end (q : Nat) (l : List UInt8) (er : Int) (m : Nat) (w : World) (h : IsR w q l er) (hm : l.length < m) (hl : m ≤ 1000000) :
    Calls Tryd.prog 105 #[.pointer (some ⟨q, 0, none⟩), .int .i64 (m : Int)] w fun e w' => e = .returned (.tuple #[.slice none 0 0, .int .i64 4]) ∧ w' = w := by
  obtain ⟨a, c, hc, -⟩ := h.rest
  obtain ⟨L, hL⟩ : ∃ n, l.length = n := ⟨_, rfl⟩
  rw [hL] at hc hm
  have hm1 : (L : Int) < (m : Int) := by omega
  have hl1 : (m : Int) ≤ 1000000 := by omega
  clear h hL
  go_enter Tryd.func105, Tryd.ntmps105
  go_wp2
  go_ret2
  exact ⟨rfl, rfl⟩
theorem rnumber_end (q : Nat) (s : Int) (l : List UInt8) (er : Int) (w : World) (h0 : 0 ≤ s) (h3 : s ≤ 3) (h : IsR w q l er) (hl : l.length < wid s) :
    Calls Tryd.prog 102 #[.pointer (some ⟨q, 0, none⟩), .int .i64 s] w fun e w' => e = .returned (.tuple #[.int .i64 0, .int .i64 4]) ∧ w' = w := by
  have hW := wid_le s
  have hWd := fun w => width_any s w h0 h3
  have HT := Bx.mk (take_end q l er (wid s) w h hl (by omega))
  clear h h0 h3 hl
  generalize wid s = W at *
  go_enter Tryd.func102, Tryd.ntmps102
  go_wp2_with fail
  refine (hWd w).mono ?_
  rintro e w1 ⟨rfl, rfl⟩
  go_wp2_with fail
  refine HT.out.mono ?_
  rintro e w2 ⟨rfl, rfl⟩
  go_wp2
  go_ret2
  exact ⟨rfl, rfl⟩
/-- What comes of a number: itself, or an error. -/
def numT (x : Nat) : Value := if 9223372036854775807 < x then .tuple #[.int .i64 0, .int .i64 3] else .tuple #[.int .i64 (x : Int), .int .i64 0]
set_option maxRecDepth 100000 in
set_option maxHeartbeats 1000000 in
theorem rnumber_any (q : Nat) (s : Int) (l : List UInt8) (er : Int) (w : World) (h0 : 0 ≤ s) (h3 : s ≤ 3) (h : IsR w q l er) (hl : wid s ≤ l.length) (hb : l.length ≤ 100000) :
    Calls Tryd.prog 102 #[.pointer (some ⟨q, 0, none⟩), .int .i64 s] w fun e w' =>
      e = .returned (numT (valN (l.take (wid s)))) ∧ IsR w' q (l.drop (wid s)) er ∧ w.grownBy w' (some q) := by
  have hW := wid_le s
  have hWd := fun w => width_any s w h0 h3
  have HT := Bx.mk (take_ok q l er (wid s) w h hl (by omega))
  clear h h0 h3
  generalize wid s = W at *
  have hw8 : (W : Int) ≤ 8 := by omega
  obtain ⟨bs, hbs⟩ : ∃ bs, l.take W = bs := ⟨_, rfl⟩
  have hbl : bs.length = W := by rw [← hbs, List.length_take]; omega
  rw [hbs] at HT ⊢
  have HBl := Bx.mk hbl
  generalize l.drop W = more at *
  have HTl : Bx (bs.take W = bs) := Bx.mk (List.take_of_length_le (by omega))
  have HVl : Bx (valN bs < 18446744073709551616) := Bx.mk (by have h := valN_lt bs; rw [hbl] at h; exact Nat.lt_of_lt_of_le h (Nat.le_trans (Nat.pow_le_pow_right (by omega) hW.2) (by decide)))
  obtain ⟨xx, hxx⟩ : ∃ x, valN bs = x := ⟨_, rfl⟩
  have HX := Bx.mk hxx
  rw [hxx]
  clear hbs hl hb hbl hxx
  go_enter Tryd.func102, Tryd.ntmps102
  go_wp2_with fail
  refine (hWd w).mono ?_
  rintro e w1 ⟨rfl, rfl⟩
  go_wp2_with fail
  refine HT.out.mono ?_
  rintro e w2 ⟨v2, rfl, hb2, hr2, hg2⟩
  have H2 := Bx.mk (And.intro hr2 hg2)
  have HB := Bx.mk hb2
  obtain ⟨⟨a2, c2, rfl, -⟩, -⟩ := hb2
  rw [HBl.out] at HB ⊢
  clear hr2 hg2 HT
  go_wp2
  go_loopw [8, 10, 23] (fun u x i wr => ∃ k : Nat, k ≤ W ∧ i = .int .i64 (k : Int) ∧ u = .int .i64 (IntKind.i64.wrap ((valN (bs.take k) : Nat) : Int)) ∧ wr = w2) (fun _ _ i _ => W - (intOf i).toNat)
  case atStart => exact ⟨0, Nat.zero_le _, rfl, rfl, rfl⟩
  case round =>
    obtain ⟨k, hk, rfl, rfl, rfl⟩ := hrel
    by_cases hlt : k < W
    · have hk1 : (k : Int) < (W : Int) := by omega
      obtain ⟨g, o, rfl, hcell⟩ := HB.out.1.cell k hlt
      have HA := Bx.mk (valN_take bs k (by rw [HBl.out]; exact hlt))
      have hx : valN (bs.take k) < 72057594037927936 := by
        have h := valN_lt (bs.take k)
        rw [List.length_take, HBl.out] at h
        exact Nat.lt_of_lt_of_le h (Nat.le_trans (Nat.pow_le_pow_right (by omega) (show min k W ≤ 7 by omega)) (by decide))
      have hub : ub (bs.getD k 0) = (((bs.getD k 0).toNat : Nat) : Int) := rfl
      have hy := (bs.getD k 0).toNat_lt
      rw [hub] at hcell
      generalize (bs.getD k 0).toNat = y at *
      generalize valN (bs.take k) = x at *
      have hor := or_wrap x y hx (by omega)
      have hwx : IntKind.i64.wrap (x : Int) = (x : Int) := by rw [IntKind.wrap_i64]; omega
      rw [hwx]
      have hx1 : (x : Int) < 72057594037927936 := by omega
      have hy1 : (y : Int) < 256 := by omega
      clear hub
      go_wp2
      go_roundw
      case rel => exact ⟨k + 1, by omega, by go_num, by rw [HA.out, ← hor]; first | rfl | (rw [show RowKit.wrap64 ((x : Int) * 256) = IntKind.i64.wrap ((x : Int) * 256) by rw [IntKind.wrap_i64]; unfold RowKit.wrap64; omega]), by first | rfl | trivial⟩
      case measure => simp [intOf]; omega
    · obtain rfl : k = W := by omega
      have hv := HVl.out
      rw [HX.out] at hv
      rw [HTl.out, HX.out]
      obtain ⟨x, rfl⟩ : ∃ x, x = xx := ⟨_, rfl⟩
      by_cases hbig : 9223372036854775807 < x
      · have hwx : IntKind.i64.wrap (x : Int) = (x : Int) - 18446744073709551616 := by rw [IntKind.wrap_i64]; omega
        have hneg : (x : Int) - 18446744073709551616 < 0 := by omega
        rw [hwx]
        go_wp2
        go_ret2
        exact ⟨by unfold numT; rw [if_pos hbig]; rfl, H2.out⟩
      · have hwx : IntKind.i64.wrap (x : Int) = (x : Int) := by rw [IntKind.wrap_i64]; omega
        have hpos : ¬ (x : Int) < 0 := by omega
        rw [hwx]
        go_wp2
        go_ret2
        exact ⟨by unfold numT; rw [if_neg hbig]; rfl, H2.out⟩
end Go.Proofs.YtiengbmnfbbgoaaDoor
