/-
  The walks of bytes that are taken off, and of numbers that are read.
-/
import Derived.Test.YtiengbmnfbbgoaaDoorIm
import Derived.Test.YtiengbmnfbbgoaaDoorIa
namespace Go.Proofs.YtiengbmnfbbgoaaDoor
open Go Go.RowKit
set_option maxRecDepth 100000 in
theorem cutH (a : Option Addr) (n cap m : Nat) (hm : m ≤ n) (hc : n ≤ cap) (ha : a = none → cap = 0) (W : World) : (Instr.slice 145 (.slice a n cap) none (some (.int .i64 (m : Int))) none).run Tryd.prog W = .ok (.slice a m cap) W := by
  have he : Tryd.prog.elem 145 = 5 := by kernel_rfl
  have hs : ((sizeOf 5).run Tryd.prog W) = .ok 1 W := by kernel_rfl
  rw [run_slice_h W 145 a n cap (by rw [he]; exact Tryd.underlying145) .i64 (m : Int) (by omega) (by omega), he, hs]
  simp only [Result.andThen, sliced, Int.toNat_natCast, Nat.zero_mul, Nat.sub_zero]
  congr 2
  rcases a with _ | ad
  · simp
  · simp [Addr.add]
set_option maxRecDepth 100000 in
theorem cutL (a : Option Addr) (n cap m : Nat) (hm : m ≤ n) (_ : n ≤ cap) (W : World) : (Instr.slice 145 (.slice a n cap) (some (.int .i64 (m : Int))) none none).run Tryd.prog W = .ok (.slice (if cap = m then a else a.map (·.add m)) (n - m) (cap - m)) W := by
  have he : Tryd.prog.elem 145 = 5 := by kernel_rfl
  have hs : ((sizeOf 5).run Tryd.prog W) = .ok 1 W := by kernel_rfl
  rw [run_slice_l W 145 a n cap (by rw [he]; exact Tryd.underlying145) .i64 (m : Int) (by omega) (by omega), he, hs]
  simp only [Result.andThen, sliced, Int.toNat_natCast, Nat.mul_one]
theorem BytesN.take {w : World} {p : Nat} {a : Option Addr} {n cap : Nat} {l : List UInt8} (h : BytesN w p (.slice a n cap) l) (m : Nat) (hm : m ≤ n) : BytesN w p (.slice a m cap) (l.take m) := by
  refine ⟨h.1.take m hm, fun h0 => ?_⟩
  have h1 := h.2 (by simp at h0; omega)
  rcases a with _ | ad
  · intro e
    cases e
  · exact h1
theorem BytesN.drop {w : World} {p : Nat} {a : Option Addr} {n cap : Nat} {l : List UInt8} (h : BytesN w p (.slice a n cap) l) (m : Nat) (hm : m ≤ n) : BytesN w p (.slice (if cap = m then a else a.map (·.add m)) (n - m) (cap - m)) (l.drop m) := by
  have hl : l.length = n := by obtain ⟨⟨a', cap', hv, -⟩, -⟩ := h; injection hv with _ e2 _; exact e2.symm
  by_cases hlt : m < n
  · have h0 : 0 < l.length := by omega
    obtain ⟨⟨a', cap', hv, hc, hn, hr⟩, h2⟩ := h
    injection hv with e1 e2 e3
    subst e1 e3
    obtain ⟨c, o, rfl, hcell⟩ := hr h0
    have e : (if cap = m then some (⟨c, o, none⟩ : Addr) else (some (⟨c, o, none⟩ : Addr)).map (·.add m)) = some ⟨c, o + m, none⟩ := by
      rw [if_neg (by omega)]
      simp [Addr.add]
    rw [e]
    exact ⟨Bytes.drop ⟨_, _, by rw [e2], hc, hn, hr⟩ m hlt, fun _ => h2 h0⟩
  · obtain rfl : m = n := by omega
    have e : l.drop m = [] := by rw [← hl]; simp
    rw [e, Nat.sub_self]
    refine ⟨⟨_, _, rfl, Nat.zero_le _, fun hnn => ?_, fun h => absurd h (by simp)⟩, fun h => absurd h (by simp)⟩
    obtain ⟨⟨a', cap', hv, hc, hn, hr⟩, h2⟩ := h
    injection hv with e1 e2 e3
    subst e1 e3
    rcases a with _ | ad
    · have := hn rfl
      omega
    · exfalso
      split at hnn
      · cases hnn
      · cases hnn
theorem BytesN.cap {w : World} {p : Nat} {a : Option Addr} {n cap : Nat} {l : List UInt8} (h : BytesN w p (.slice a n cap) l) : n ≤ cap ∧ (a = none → cap = 0) := by
  obtain ⟨⟨a', cap', hv, hc, hn, hr⟩, h2⟩ := h
  injection hv with e1 e2 e3
  subst e1 e3
  exact ⟨by omega, hn⟩
set_option maxRecDepth 100000 in
set_option maxHeartbeats 1000000 in
theorem take_ok (q : Nat) (l : List UInt8) (er : Int) (m : Nat) (w : World) (h : IsR w q l er) (hm : m ≤ l.length) (hl : l.length ≤ 1000000) :
    Calls Tryd.prog 105 #[.pointer (some ⟨q, 0, none⟩), .int .i64 (m : Int)] w fun e w' => ∃ v', e = .returned (.tuple #[v', .int .i64 0]) ∧ BytesN w' q v' (l.take m) ∧ IsR w' q (l.drop m) er ∧ w.grownBy w' (some q) := by
  have H := Bx.mk h
  have hf0 := h.thaw 0
  obtain ⟨a, c, hc, hbn⟩ := h.rest
  obtain ⟨L, hL⟩ : ∃ n, l.length = n := ⟨_, rfl⟩
  rw [hL] at hc hbn hm hl
  have hcp := hbn.cap
  have hH := fun W => cutH a L c m hm hcp.1 hcp.2 W
  have hD := fun W => cutL a L c m hm hcp.1 W
  have HB := Bx.mk hbn
  have hd := hbn.drop m hm
  have ht := hbn.take m hm
  generalize (if c = m then a else a.map (·.add m)) = a2 at *
  have HN : Bx (IsR (w.setCell ⟨q, 0, none⟩ (.slice a2 (L - m) (c - m))) q (l.drop m) er ∧ w.grownBy (w.setCell ⟨q, 0, none⟩ (.slice a2 (L - m) (c - m))) (some q) ∧ BytesN (w.setCell ⟨q, 0, none⟩ (.slice a2 (L - m) (c - m))) q (.slice a m c) (l.take m)) := Bx.mk ⟨h.set hd, kb_set1 _ _ _ _, ht.grown (kb_set1 _ _ _ _)⟩
  have hm1 : ¬ (L : Int) < (m : Int) := by omega
  have hl1 : (L : Int) ≤ 1000000 := by omega
  clear h hbn hd ht hL hcp
  go_enter Tryd.func105, Tryd.ntmps105
  go_wp2
  go_ret2
  exact ⟨_, rfl, HN.out.2.2, HN.out.1, HN.out.2.1⟩
theorem beN_get (W m j : Nat) (hj : j < W) : (beN W m).getD j 0 = UInt8.ofNat (m / 256 ^ (W - 1 - j) % 256) := by
  induction W generalizing j with
  | zero => omega
  | succ W ih =>
    rcases j with _ | j
    · rfl
    · rw [beN_succ, List.getD_cons_succ, ih j (by omega), show W + 1 - 1 - (j + 1) = W - 1 - j by omega]
/-- A number behind j of its bytes. -/
def accN (W m j : Nat) : Nat := m / 256 ^ (W - j)
theorem accN_zero (W m : Nat) (h : m < 256 ^ W) : accN W m 0 = 0 := by unfold accN; rw [Nat.sub_zero]; exact Nat.div_eq_of_lt h
theorem accN_all (W m : Nat) : accN W m W = m := by unfold accN; rw [Nat.sub_self]; simp
theorem accN_succ (W m j : Nat) (hj : j < W) : accN W m (j + 1) = accN W m j * 256 + m / 256 ^ (W - 1 - j) % 256 := by
  unfold accN
  have e1 : W - j = (W - 1 - j) + 1 := by omega
  have e2 : W - (j + 1) = W - 1 - j := by omega
  rw [e1, e2, Nat.pow_succ, ← Nat.div_div_eq_div_mul]
  omega
theorem accN_le (W m j : Nat) : accN W m j ≤ m := Nat.div_le_self _ _
theorem or_add (x y : Nat) (hx : x * 256 + y ≤ 9223372036854775807) (hy : y < 256) : bits .or .i64 (((x * 256 : Nat)) : Int) (y : Int) = ((x * 256 + y : Nat) : Int) := by
  show IntKind.i64.wrap ((BitVec.ofInt 64 ((x * 256 : Nat) : Int) ||| BitVec.ofInt 64 (y : Int)).toNat : Int) = _
  rw [BitVec.toNat_or, BitVec.ofInt_natCast, BitVec.ofInt_natCast, BitVec.toNat_ofNat, BitVec.toNat_ofNat, Nat.mod_eq_of_lt (by omega), Nat.mod_eq_of_lt (by omega)]
  have h := Nat.two_pow_add_eq_or_of_lt (i := 8) (b := y) (by omega) x
  have e : x * 256 ||| y = x * 256 + y := by
    rw [Nat.mul_comm x 256]
    exact h.symm
  rw [e, IntKind.wrap_i64]
  omega
theorem wid_pow {s m : Int} (h0 : 0 ≤ s) (h3 : s ≤ 3) (hm0 : 0 ≤ m) (hm : m ≤ most s) : m.toNat < 256 ^ wid s := by
  rcases size_cases h0 h3 with rfl | rfl | rfl | rfl
  all_goals
    simp [most, wid] at hm ⊢
    omega
set_option maxRecDepth 100000 in
set_option maxHeartbeats 1000000 in
theorem rnumber_ok (q : Nat) (s : Int) (m : Nat) (more : List UInt8) (er : Int) (w : World) (h0 : 0 ≤ s) (h3 : s ≤ 3) (hm : m < 256 ^ wid s) (hm2 : m ≤ 9223372036854775807) (h : IsR w q (beN (wid s) m ++ more) er) (hl : more.length ≤ 10000) :
    Calls Tryd.prog 102 #[.pointer (some ⟨q, 0, none⟩), .int .i64 s] w fun e w' => e = .returned (.tuple #[.int .i64 (m : Int), .int .i64 0]) ∧ IsR w' q more er ∧ w.grownBy w' (some q) := by
  have hW := wid_le s
  have hWd := fun w => width_any s w h0 h3
  have HT := Bx.mk (take_ok q _ er (wid s) w h (by rw [List.length_append, beN_length]; omega) (by rw [List.length_append, beN_length]; omega))
  have e1 : (beN (wid s) m ++ more).take (wid s) = beN (wid s) m := by rw [List.take_left' (beN_length _ _)]
  have e2 : (beN (wid s) m ++ more).drop (wid s) = more := by rw [List.drop_left' (beN_length _ _)]
  rw [e1, e2] at HT
  have HZ := Bx.mk (accN_zero _ _ hm)
  clear e1 e2 h h0 h3 hm hl
  generalize wid s = W at *
  have hw8 : (W : Int) ≤ 8 := by omega
  have HBl : Bx ((beN W m).length = W) := Bx.mk (beN_length _ _)
  have hmi : (m : Int) ≤ 9223372036854775807 := by omega
  go_enter Tryd.func102, Tryd.ntmps102
  go_wp2_with fail
  refine (hWd w).mono ?_
  rintro e w1 ⟨rfl, rfl⟩
  go_wp2_with fail
  refine HT.out.mono ?_
  rintro e w2 ⟨v2, rfl, hb2, hr2, hg2⟩
  have H2 := Bx.mk (And.intro hr2 hg2)
  have HB := Bx.mk hb2
  obtain ⟨⟨a2, c2, rfl, -⟩, -⟩ := hb2
  rw [HBl.out] at HB ⊢
  clear hr2 hg2 HT hW
  go_wp2
  go_loopw [8, 10, 23] (fun u x i wr => ∃ k : Nat, k ≤ W ∧ i = .int .i64 (k : Int) ∧ u = .int .i64 ((accN W m k : Nat) : Int) ∧ wr = w2) (fun _ _ i _ => W - (intOf i).toNat)
  case atStart => exact ⟨0, Nat.zero_le _, rfl, by rw [HZ.out]; rfl, rfl⟩
  case round =>
    obtain ⟨k, hk, rfl, rfl, rfl⟩ := hrel
    by_cases hlt : k < W
    · have hk1 : (k : Int) < (W : Int) := by omega
      obtain ⟨g, o, rfl, hcell⟩ := HB.out.1.cell k hlt
      have hby : ub ((beN W m).getD k 0) = ((m / 256 ^ (W - 1 - k) % 256 : Nat) : Int) := by rw [beN_get W m k hlt, ub_nat]
      have hac := accN_succ W m k hlt
      have hle := accN_le W m (k + 1)
      have HA := Bx.mk hac
      rw [hby] at hcell
      have hy : m / 256 ^ (W - 1 - k) % 256 < 256 := Nat.mod_lt _ (by omega)
      generalize accN W m k = x at *
      generalize m / 256 ^ (W - 1 - k) % 256 = y at *
      rw [hac] at hle
      have hor := or_add x y (by omega) hy
      have hx1 : (x : Int) * 256 ≤ 9223372036854775807 := by omega
      have hy1 : (y : Int) < 256 := by omega
      clear hac hby hle
      go_wp2
      go_roundw
      case rel => exact ⟨k + 1, by omega, by go_num, by rw [HA.out, ← hor]; first | rfl | (rw [Int.natCast_mul]; rfl), by first | rfl | trivial⟩
      case measure => simp [intOf]; omega
    · obtain rfl : k = W := by omega
      rw [accN_all]
      go_wp2
      go_ret2
      exact ⟨rfl, H2.out⟩
end Go.Proofs.YtiengbmnfbbgoaaDoor
