/-
  The walks of a reader: its parts.
  The walks of bytes that are taken off, and of numbers that are read.
  The walks of a field that is got.
-/
import Derived.Test.YtaoekfomffebhaaDoorIf
import Derived.Test.YtaoekfomffebhaaDoorP1
namespace Go.Proofs.YtaoekfomffebhaaDoor
open Go Go.RowKit
/-- Bytes that lie in a block of bytes. -/
def BytesU (w : World) (v : Value) (l : List UInt8) : Prop := 0 < l.length → ∀ g, v.ownBlock = some g → ∃ cs fr, w.heap[g]? = some (.cells cs 5 fr)
theorem BytesU.nil (w : World) (v : Value) : BytesU w v [] := fun h => absurd h (by simp)
theorem BytesU.grown {w w1 : World} {p : Nat} {v : Value} {l : List UInt8} (h : BytesU w v l) (hg : w.grownBy w1 (some p)) (hn : 0 < l.length → v.ownBlock ≠ some p) : BytesU w1 v l := fun h0 g hv => by
  obtain ⟨cs, fr, hc⟩ := h h0 g hv
  exact ⟨cs, fr, by rw [hg.block g (Array.getElem?_eq_some_iff.1 hc).1 (fun e => hn h0 (by rw [hv, e]))]; exact hc⟩
theorem OwnB.bytesU {w : World} {base : Nat} {v : Value} {l : List UInt8} (h : OwnB w base v l) : BytesU w v l := fun _ g hv => by
  rcases h.2 with ⟨rfl, -⟩ | ⟨g1, cap, cur, rfl, -, hg, -⟩
  · simp [Value.ownBlock] at hv
  · obtain rfl : g1 = g := by simpa [Value.ownBlock] using hv
    exact ⟨_, _, hg⟩
/-- A reader, at block q. -/
def IsR (w : World) (q : Nat) (l : List UInt8) (e : Int) : Prop := ∃ v, w.heap[q]? = some (.cells #[v, .int .i64 e] 106 (0, 0)) ∧ BytesN w q v l ∧ BytesU w v l
theorem IsR.lt {w : World} {q : Nat} {l : List UInt8} {e : Int} (h : IsR w q l e) : q < w.heap.size := by
  obtain ⟨v, h, -⟩ := h
  exact (Array.getElem?_eq_some_iff.1 h).1
theorem IsR.later {w w1 : World} {q : Nat} {l : List UInt8} {e : Int} (h : IsR w q l e) (hb : Below w.heap.size w w1) : IsR w1 q l e := by
  have hq := h.lt
  obtain ⟨v, h1, h2⟩ := h
  exact ⟨v, by rw [hb.block q hq]; exact h1, h2.1.grown (kb_below _ hb), h2.2.grown (kb_below _ hb) h2.1.2⟩
theorem IsR.err {w : World} {q : Nat} {l : List UInt8} {e : Int} (h : IsR w q l e) : w.cell? ⟨q, 1, none⟩ = some (.int .i64 e) := by
  obtain ⟨v, h1, h2⟩ := h
  rw [cell_of_row _ _ _ _ _ _ h1]
  rfl
theorem IsR.rest {w : World} {q : Nat} {l : List UInt8} {e : Int} (h : IsR w q l e) : ∃ a c, w.cell? ⟨q, 0, none⟩ = some (.slice a l.length c) ∧ BytesN w q (.slice a l.length c) l := by
  obtain ⟨v, h1, h2, -⟩ := h
  have h3 := h2
  obtain ⟨⟨a, c, rfl, -⟩, -⟩ := h2
  exact ⟨a, c, by rw [cell_of_row _ _ _ _ _ _ h1]; rfl, h3⟩
theorem IsR.cutU {w : World} {q : Nat} {l : List UInt8} {e : Int} (h : IsR w q l e) {v : Value} (hc : w.cell? ⟨q, 0, none⟩ = some v) : BytesU w v l := by
  obtain ⟨v1, h1, -, h2⟩ := h
  rw [cell_of_row _ _ _ _ _ _ h1] at hc
  obtain rfl : v1 = v := Option.some.inj hc
  exact h2
theorem IsR.thaw {w : World} {q : Nat} {l : List UInt8} {e : Int} (h : IsR w q l e) (i : Nat) : w.frozen? ⟨q, i, none⟩ = false := by
  obtain ⟨v, h1, h2⟩ := h
  exact frozen_of_row _ _ _ _ _ h1
theorem IsR.set {w : World} {q : Nat} {l l' : List UInt8} {e : Int} (h : IsR w q l e) {v' : Value} (hv : BytesN w q v' l') (hu : BytesU w v' l') : IsR (w.setCell ⟨q, 0, none⟩ v') q l' e := by
  obtain ⟨v, h1, h2⟩ := h
  exact ⟨v', by rw [heap_setCell_same _ _ _ _ _ _ h1]; rfl, hv.grown (kb_set1 _ _ _ _), hu.grown (kb_set1 _ _ _ _) hv.2⟩
theorem IsR.setE {w : World} {q : Nat} {l : List UInt8} {e : Int} (h : IsR w q l e) (e' : Int) : IsR (w.setCell ⟨q, 1, none⟩ (.int .i64 e')) q l e' := by
  obtain ⟨v, h1, h2⟩ := h
  exact ⟨v, by rw [heap_setCell_same _ _ _ _ _ _ h1]; rfl, h2.1.grown (kb_set1 _ _ _ _), h2.2.grown (kb_set1 _ _ _ _) h2.1.2⟩
theorem rerr_any (q : Nat) (l : List UInt8) (er : Int) (w : World) (h : IsR w q l er) : Calls Tryd.prog 40 #[.pointer (some ⟨q, 0, none⟩)] w fun e w' => e = .returned (.int .i64 er) ∧ w' = w := by
  have hE := h.err
  go_enter Tryd.func40, Tryd.ntmps40
  go_wp2
  go_ret
  exact ⟨rfl, rfl⟩
theorem left_any (q : Nat) (l : List UInt8) (er : Int) (w : World) (h : IsR w q l er) : Calls Tryd.prog 43 #[.pointer (some ⟨q, 0, none⟩)] w fun e w' => e = .returned (.int .i64 (l.length : Int)) ∧ w' = w := by
  obtain ⟨a, c, hc, -⟩ := h.rest
  generalize l.length = L at *
  go_enter Tryd.func43, Tryd.ntmps43
  go_wp2
  go_ret
  exact ⟨rfl, rfl⟩
set_option maxRecDepth 100000 in
theorem fail_ok (q : Nat) (l : List UInt8) (c : Int) (w : World) (h : IsR w q l 0) : Calls Tryd.prog 56 #[.pointer (some ⟨q, 0, none⟩), .int .i64 c] w fun e w' => (∃ v, e = .returned v) ∧ IsR w' q [] c ∧ w.grownBy w' (some q) := by
  have H := Bx.mk h
  have hE := h.err
  have hf0 := h.thaw 0
  have hf1 := h.thaw 1
  obtain ⟨a, cc, hc, -⟩ := h.rest
  have HN : Bx (IsR ((w.setCell ⟨q, 1, none⟩ (.int .i64 c)).setCell ⟨q, 0, none⟩ (.slice none 0 0)) q [] c ∧ w.grownBy ((w.setCell ⟨q, 1, none⟩ (.int .i64 c)).setCell ⟨q, 0, none⟩ (.slice none 0 0)) (some q)) := Bx.mk ⟨(h.setE c).set ⟨Bytes.nil _, fun h => absurd h (by simp)⟩ (BytesU.nil _ _), kb_trans (kb_set1 _ _ _ _) (kb_set1 _ _ _ _)⟩
  clear h
  go_enter Tryd.func56, Tryd.ntmps56
  go_wp2_with fail
  refine (rerr_any q l 0 w H.out).mono ?_
  rintro e w1 ⟨rfl, rfl⟩
  go_wp2
  go_end0
  exact ⟨⟨_, rfl⟩, HN.out⟩
end Go.Proofs.YtaoekfomffebhaaDoor
namespace Go.Proofs.YtaoekfomffebhaaDoor
open Go Go.RowKit
set_option maxRecDepth 100000 in
theorem cutH (a : Option Addr) (n cap m : Nat) (hm : m ≤ n) (hc : n ≤ cap) (ha : a = none → cap = 0) (W : World) : (Instr.slice 104 (.slice a n cap) none (some (.int .i64 (m : Int))) none).run Tryd.prog W = .ok (.slice a m cap) W := by
  have he : Tryd.prog.elem 104 = 5 := by kernel_rfl
  have hs : ((sizeOf 5).run Tryd.prog W) = .ok 1 W := by kernel_rfl
  rw [run_slice_h W 104 a n cap (by rw [he]; exact Tryd.underlying104) .i64 (m : Int) (by omega) (by omega), he, hs]
  simp only [Result.andThen, sliced, Int.toNat_natCast, Nat.zero_mul, Nat.sub_zero]
  congr 2
  rcases a with _ | ad
  · simp
  · simp [Addr.add]
set_option maxRecDepth 100000 in
theorem cutL (a : Option Addr) (n cap m : Nat) (hm : m ≤ n) (_ : n ≤ cap) (W : World) : (Instr.slice 104 (.slice a n cap) (some (.int .i64 (m : Int))) none none).run Tryd.prog W = .ok (.slice (if cap = m then a else a.map (·.add m)) (n - m) (cap - m)) W := by
  have he : Tryd.prog.elem 104 = 5 := by kernel_rfl
  have hs : ((sizeOf 5).run Tryd.prog W) = .ok 1 W := by kernel_rfl
  rw [run_slice_l W 104 a n cap (by rw [he]; exact Tryd.underlying104) .i64 (m : Int) (by omega) (by omega), he, hs]
  simp only [Result.andThen, sliced, Int.toNat_natCast, Nat.mul_one]
theorem BytesN.take {w : World} {p : Nat} {a : Option Addr} {n cap : Nat} {l : List UInt8} (h : BytesN w p (.slice a n cap) l) (m : Nat) (hm : m ≤ n) : BytesN w p (.slice a m cap) (l.take m) := by
  refine ⟨h.1.take m hm, fun h0 => ?_⟩
  have h1 := h.2 (by simp at h0; omega)
  rcases a with _ | ad
  · intro e
    cases e
  · exact h1
theorem BytesN.drop {w : World} {p : Nat} {a : Option Addr} {n cap : Nat} {l : List UInt8} (h : BytesN w p (.slice a n cap) l) (m : Nat) (hm : m ≤ n) : BytesN w p (.slice (if cap = m then a else a.map (·.add m)) (n - m) (cap - m)) (l.drop m) := by
  have hl : l.length = n := by obtain ⟨⟨a', cap', hv, -⟩, -⟩ := h; injection hv with _ e2 _; exact e2.symm
  by_cases hlt : m < n
  · have h0 : 0 < l.length := by omega
    obtain ⟨⟨a', cap', hv, hc, hn, hr⟩, h2⟩ := h
    injection hv with e1 e2 e3
    subst e1 e3
    obtain ⟨c, o, rfl, hcell⟩ := hr h0
    have e : (if cap = m then some (⟨c, o, none⟩ : Addr) else (some (⟨c, o, none⟩ : Addr)).map (·.add m)) = some ⟨c, o + m, none⟩ := by
      rw [if_neg (by omega)]
      simp [Addr.add]
    rw [e]
    exact ⟨Bytes.drop ⟨_, _, by rw [e2], hc, hn, hr⟩ m hlt, fun _ => h2 h0⟩
  · obtain rfl : m = n := by omega
    have e : l.drop m = [] := by rw [← hl]; simp
    rw [e, Nat.sub_self]
    refine ⟨⟨_, _, rfl, Nat.zero_le _, fun hnn => ?_, fun h => absurd h (by simp)⟩, fun h => absurd h (by simp)⟩
    obtain ⟨⟨a', cap', hv, hc, hn, hr⟩, h2⟩ := h
    injection hv with e1 e2 e3
    subst e1 e3
    rcases a with _ | ad
    · have := hn rfl
      omega
    · exfalso
      split at hnn
      · cases hnn
      · cases hnn
theorem BytesN.cap {w : World} {p : Nat} {a : Option Addr} {n cap : Nat} {l : List UInt8} (h : BytesN w p (.slice a n cap) l) : n ≤ cap ∧ (a = none → cap = 0) := by
  obtain ⟨⟨a', cap', hv, hc, hn, hr⟩, h2⟩ := h
  injection hv with e1 e2 e3
  subst e1 e3
  exact ⟨by omega, hn⟩
set_option maxRecDepth 100000 in
set_option maxHeartbeats 1000000 in
theorem take_ok (q : Nat) (l : List UInt8) (er : Int) (m : Nat) (w : World) (h : IsR w q l er) (hm : m ≤ l.length) (hl : l.length ≤ 1000000) :
    Calls Tryd.prog 102 #[.pointer (some ⟨q, 0, none⟩), .int .i64 (m : Int)] w fun e w' => ∃ v', e = .returned (.tuple #[v', .int .i64 0]) ∧ BytesN w' q v' (l.take m) ∧ IsR w' q (l.drop m) er ∧ w.grownBy w' (some q) := by
  have H := Bx.mk h
  have hf0 := h.thaw 0
  obtain ⟨a, c, hc, hbn⟩ := h.rest
  obtain ⟨L, hL⟩ : ∃ n, l.length = n := ⟨_, rfl⟩
  rw [hL] at hc hbn hm hl
  have hcp := hbn.cap
  have hH := fun W => cutH a L c m hm hcp.1 hcp.2 W
  have hD := fun W => cutL a L c m hm hcp.1 W
  have HB := Bx.mk hbn
  have hd := hbn.drop m hm
  have ht := hbn.take m hm
  have hu : BytesU w (.slice (if c = m then a else a.map (·.add m)) (L - m) (c - m)) (l.drop m) := fun h0 g hv => h.cutU hc (by rw [List.length_drop] at h0; omega) g (by
    cases a with
    | none => split at hv <;> simp [Value.ownBlock] at hv
    | some ad =>
      split at hv
      · exact hv
      · simp only [Option.map_some, Value.ownBlock, Addr.add, Option.some.injEq] at hv ⊢
        split at hv <;> exact hv)
  generalize (if c = m then a else a.map (·.add m)) = a2 at *
  have HN : Bx (IsR (w.setCell ⟨q, 0, none⟩ (.slice a2 (L - m) (c - m))) q (l.drop m) er ∧ w.grownBy (w.setCell ⟨q, 0, none⟩ (.slice a2 (L - m) (c - m))) (some q) ∧ BytesN (w.setCell ⟨q, 0, none⟩ (.slice a2 (L - m) (c - m))) q (.slice a m c) (l.take m)) := Bx.mk ⟨h.set hd hu, kb_set1 _ _ _ _, ht.grown (kb_set1 _ _ _ _)⟩
  have hm1 : ¬ (L : Int) < (m : Int) := by omega
  have hl1 : (L : Int) ≤ 1000000 := by omega
  clear h hbn hd ht hL hcp hu
  go_enter Tryd.func102, Tryd.ntmps102
  go_wp2
  go_ret2
  exact ⟨_, rfl, HN.out.2.2, HN.out.1, HN.out.2.1⟩
theorem beN_get (W m j : Nat) (hj : j < W) : (beN W m).getD j 0 = UInt8.ofNat (m / 256 ^ (W - 1 - j) % 256) := by
  induction W generalizing j with
  | zero => omega
  | succ W ih =>
    rcases j with _ | j
    · rfl
    · rw [beN_succ, List.getD_cons_succ, ih j (by omega), show W + 1 - 1 - (j + 1) = W - 1 - j by omega]
/-- A number behind j of its bytes. -/
def accN (W m j : Nat) : Nat := m / 256 ^ (W - j)
theorem accN_zero (W m : Nat) (h : m < 256 ^ W) : accN W m 0 = 0 := by unfold accN; rw [Nat.sub_zero]; exact Nat.div_eq_of_lt h
theorem accN_all (W m : Nat) : accN W m W = m := by unfold accN; rw [Nat.sub_self]; simp
theorem accN_succ (W m j : Nat) (hj : j < W) : accN W m (j + 1) = accN W m j * 256 + m / 256 ^ (W - 1 - j) % 256 := by
  unfold accN
  have e1 : W - j = (W - 1 - j) + 1 := by omega
  have e2 : W - (j + 1) = W - 1 - j := by omega
  rw [e1, e2, Nat.pow_succ, ← Nat.div_div_eq_div_mul]
  omega
theorem accN_le (W m j : Nat) : accN W m j ≤ m := Nat.div_le_self _ _
theorem or_add (x y : Nat) (hx : x * 256 + y ≤ 9223372036854775807) (hy : y < 256) : bits .or .i64 (((x * 256 : Nat)) : Int) (y : Int) = ((x * 256 + y : Nat) : Int) := by
  show IntKind.i64.wrap ((BitVec.ofInt 64 ((x * 256 : Nat) : Int) ||| BitVec.ofInt 64 (y : Int)).toNat : Int) = _
  rw [BitVec.toNat_or, BitVec.ofInt_natCast, BitVec.ofInt_natCast, BitVec.toNat_ofNat, BitVec.toNat_ofNat, Nat.mod_eq_of_lt (by omega), Nat.mod_eq_of_lt (by omega)]
  have h := Nat.two_pow_add_eq_or_of_lt (i := 8) (b := y) (by omega) x
  have e : x * 256 ||| y = x * 256 + y := by
    rw [Nat.mul_comm x 256]
    exact h.symm
  rw [e, IntKind.wrap_i64]
  omega
theorem wid_pow {s m : Int} (h0 : 0 ≤ s) (h3 : s ≤ 3) (hm0 : 0 ≤ m) (hm : m ≤ most s) : m.toNat < 256 ^ wid s := by
  rcases size_cases h0 h3 with rfl | rfl | rfl | rfl
  all_goals
    simp [most, wid] at hm ⊢
    omega
set_option maxRecDepth 100000 in
set_option maxHeartbeats 1000000 in
theorem rnumber_ok (q : Nat) (s : Int) (m : Nat) (more : List UInt8) (er : Int) (w : World) (h0 : 0 ≤ s) (h3 : s ≤ 3) (hm : m < 256 ^ wid s) (hm2 : m ≤ 9223372036854775807) (h : IsR w q (beN (wid s) m ++ more) er) (hl : more.length ≤ 10000) :
    Calls Tryd.prog 95 #[.pointer (some ⟨q, 0, none⟩), .int .i64 s] w fun e w' => e = .returned (.tuple #[.int .i64 (m : Int), .int .i64 0]) ∧ IsR w' q more er ∧ w.grownBy w' (some q) := by
  have hW := wid_le s
  have hWd := fun w => width_any s w h0 h3
  have HT := Bx.mk (take_ok q _ er (wid s) w h (by rw [List.length_append, beN_length]; omega) (by rw [List.length_append, beN_length]; omega))
  have e1 : (beN (wid s) m ++ more).take (wid s) = beN (wid s) m := by rw [List.take_left' (beN_length _ _)]
  have e2 : (beN (wid s) m ++ more).drop (wid s) = more := by rw [List.drop_left' (beN_length _ _)]
  rw [e1, e2] at HT
  have HZ := Bx.mk (accN_zero _ _ hm)
  clear e1 e2 h h0 h3 hm hl
  generalize wid s = W at *
  have hw8 : (W : Int) ≤ 8 := by omega
  have HBl : Bx ((beN W m).length = W) := Bx.mk (beN_length _ _)
  have hmi : (m : Int) ≤ 9223372036854775807 := by omega
  go_enter Tryd.func95, Tryd.ntmps95
  go_wp2_with fail
  refine (hWd w).mono ?_
  rintro e w1 ⟨rfl, rfl⟩
  go_wp2_with fail
  refine HT.out.mono ?_
  rintro e w2 ⟨v2, rfl, hb2, hr2, hg2⟩
  have H2 := Bx.mk (And.intro hr2 hg2)
  have HB := Bx.mk hb2
  obtain ⟨⟨a2, c2, rfl, -⟩, -⟩ := hb2
  rw [HBl.out] at HB ⊢
  clear hr2 hg2 HT hW
  go_wp2
  go_loopw [8, 10, 23] (fun u x i wr => ∃ k : Nat, k ≤ W ∧ i = .int .i64 (k : Int) ∧ u = .int .i64 ((accN W m k : Nat) : Int) ∧ wr = w2) (fun _ _ i _ => W - (intOf i).toNat)
  case atStart => exact ⟨0, Nat.zero_le _, rfl, by rw [HZ.out]; rfl, rfl⟩
  case round =>
    obtain ⟨k, hk, rfl, rfl, rfl⟩ := hrel
    by_cases hlt : k < W
    · have hk1 : (k : Int) < (W : Int) := by omega
      obtain ⟨g, o, rfl, hcell⟩ := HB.out.1.cell k hlt
      have hby : ub ((beN W m).getD k 0) = ((m / 256 ^ (W - 1 - k) % 256 : Nat) : Int) := by rw [beN_get W m k hlt, ub_nat]
      have hac := accN_succ W m k hlt
      have hle := accN_le W m (k + 1)
      have HA := Bx.mk hac
      rw [hby] at hcell
      have hy : m / 256 ^ (W - 1 - k) % 256 < 256 := Nat.mod_lt _ (by omega)
      generalize accN W m k = x at *
      generalize m / 256 ^ (W - 1 - k) % 256 = y at *
      rw [hac] at hle
      have hor := or_add x y (by omega) hy
      have hx1 : (x : Int) * 256 ≤ 9223372036854775807 := by omega
      have hy1 : (y : Int) < 256 := by omega
      clear hac hby hle
      go_wp2
      go_roundw
      case rel => exact ⟨k + 1, by omega, by go_num, by rw [HA.out, ← hor]; first | rfl | (rw [Int.natCast_mul]; rfl), by first | rfl | trivial⟩
      case measure => simp [intOf]; omega
    · obtain rfl : k = W := by omega
      rw [accN_all]
      go_wp2
      go_ret2
      exact ⟨rfl, H2.out⟩
end Go.Proofs.YtaoekfomffebhaaDoor
namespace Go.Proofs.YtaoekfomffebhaaDoor
open Go Go.RowKit
theorem OwnB.bytesN {w : World} {base q : Nat} {v : Value} {l : List UInt8} (h : OwnB w base v l) (hq : q < base) : BytesN w q v l := ⟨h.bytes, fun _ e => by have := (h.lt q e).2; omega⟩
/-- Bytes lie in no field's block. -/
theorem Bytes.off {w : World} {D : Nat} {a b : Int} {c : Value} {t : TypeId} {fr : Nat × Nat} {v : Value} {l : List UInt8} (h : Bytes w v l) (hr : w.heap[D]? = some (.cells #[.int .i64 a, .int .i64 b, c] t fr)) (hc : ∀ x, c ≠ .int .u8 x) (h0 : 0 < l.length) : v.ownBlock ≠ some D := by
  obtain ⟨ad, cap, rfl, -, -, hr2⟩ := h
  obtain ⟨g, o, rfl, hcell⟩ := hr2 h0
  intro e
  injection e with e
  simp only at e
  subst e
  have h1 := hcell 0 h0
  rw [cell_of_row _ _ _ _ _ _ hr, Nat.add_zero] at h1
  match o, h1 with
  | 0, h1 => simp at h1
  | 1, h1 => simp at h1
  | 2, h1 =>
    simp at h1
    exact hc _ h1
  | o + 3, h1 => simp at h1
theorem BytesN.aside {w w1 : World} {q D : Nat} {a b : Int} {c : Value} {t : TypeId} {fr : Nat × Nat} {v : Value} {l : List UInt8} (h : BytesN w q v l) (hr : w.heap[D]? = some (.cells #[.int .i64 a, .int .i64 b, c] t fr)) (hc : ∀ x, c ≠ .int .u8 x) (hg : w.grownBy w1 (some D)) : BytesN w1 q v l :=
  ⟨(BytesN.grown (p := D) ⟨h.1, h.1.off hr hc⟩ hg).1, h.2⟩
theorem IsR.aside {w w1 : World} {q D : Nat} {a b : Int} {c : Value} {t : TypeId} {fr : Nat × Nat} {l : List UInt8} {e : Int} (h : IsR w q l e) (hr : w.heap[D]? = some (.cells #[.int .i64 a, .int .i64 b, c] t fr)) (hc : ∀ x, c ≠ .int .u8 x) (hg : w.grownBy w1 (some D)) (hne : q ≠ D) : IsR w1 q l e := by
  have hq := h.lt
  obtain ⟨v, h1, h2⟩ := h
  exact ⟨v, by rw [hg.block q hq (fun e => hne (by injection e))]; exact h1, h2.1.aside hr hc hg, h2.2.grown hg (h2.1.1.off hr hc)⟩
theorem kb_new {w w1 w2 : World} {q D : Nat} (h : w.grownBy w1 (some q)) (hg : w1.grownBy w2 (some D)) (hD : w.heap.size ≤ D) : w.grownBy w2 (some q) :=
  ⟨hg.os.trans h.os, hg.tape.trans h.tape, hg.output.trans h.output, Nat.le_trans h.size hg.size, fun k hk hne => by
    rw [hg.block k (Nat.lt_of_lt_of_le hk h.size) (fun e => by injection e with e; omega)]
    exact h.block k hk hne⟩
theorem results_pair {fn : Func} {p u : Tmp} {ty : TypeId} (h : fn.results = #[.cell p ty, .tmp u]) (tmps : Array Value) (P : Program) (w : World) (g : Nat) (cs : Array Value)
    (hp : tmps.getD p undef = .pointer (some ⟨g, 0, none⟩)) (hl : (loadVar ty ⟨g, 0, none⟩).run P w = .ok (.agg cs) w) : (results fn tmps).run P w = .ok (.tuple #[.agg cs, tmps.getD u undef]) w := by
  have hp' : tmps[p]?.getD undef = .pointer (some ⟨g, 0, none⟩) := by simpa using hp
  simp [results, h, hp', asAddr, hl]
set_option maxRecDepth 100000 in
set_option maxHeartbeats 1000000 in
theorem some_ok (q : Nat) (b more : List UInt8) (er : Int) (w : World) (hb : b.length ≤ 512) (h : IsR w q (beN 2 b.length ++ (b ++ more)) er) (hl : more.length ≤ 5000) :
    Calls Tryd.prog 94 #[.pointer (some ⟨q, 0, none⟩)] w fun e w' => ∃ v', e = .returned (.tuple #[v', .int .i64 0]) ∧ BytesN w' q v' b ∧ IsR w' q more er ∧ w.grownBy w' (some q) := by
  have HN := Bx.mk (rnumber_ok q 1 b.length (b ++ more) er w (by omega) (by omega) (by simp [wid]; omega) (by omega) h (by rw [List.length_append]; omega))
  have HL : Bx (b.length ≤ 512 ∧ more.length ≤ 5000) := Bx.mk ⟨hb, hl⟩
  obtain ⟨L, hL⟩ : ∃ n, b.length = n := ⟨_, rfl⟩
  have HLe := Bx.mk hL
  rw [hL] at HN hb
  have hb1 : (L : Int) ≤ 512 := by omega
  clear h hl hL hb
  go_enter Tryd.func94, Tryd.ntmps94
  go_wp2_with fail
  refine HN.out.mono ?_
  rintro e w1 ⟨rfl, hr1, hg1⟩
  have H1 := Bx.mk (And.intro hr1 hg1)
  have HT := Bx.mk (take_ok q _ er L w1 hr1 (by rw [List.length_append, HLe.out]; omega) (by have := HL.out; rw [List.length_append]; omega))
  have e1 : (b ++ more).take L = b := by rw [List.take_left' HLe.out]
  have e2 : (b ++ more).drop L = more := by rw [List.drop_left' HLe.out]
  rw [e1, e2] at HT
  clear hr1 hg1 HN e1 e2
  go_wp2_with fail
  refine HT.out.mono ?_
  rintro e w2 ⟨v2, rfl, hb2, hr2, hg2⟩
  have H2 := Bx.mk (And.intro hb2 (And.intro hr2 (kb_trans H1.out.2 hg2)))
  obtain ⟨⟨a2, c2, rfl, -⟩, -⟩ := hb2
  rw [HLe.out] at H2
  rw [HLe.out]
  clear hr2 hg2 H1 HT
  go_wp2_with fail
  refine (clone_any b _ w2 H2.out.1.1 (by have := HL.out; omega)).mono ?_
  rintro e w3 ⟨v3, rfl, ho3, hb3⟩
  have H3 : Bx (BytesN w3 q v3 b ∧ IsR w3 q more er ∧ w.grownBy w3 (some q)) := Bx.mk ⟨ho3.bytesN H2.out.2.1.lt, H2.out.2.1.later hb3, kb_trans H2.out.2.2 (kb_below _ hb3)⟩
  clear ho3 hb3 H2
  go_wp2
  go_ret2
  exact ⟨_, rfl, H3.out⟩
theorem enc_four (b : List UInt8) : enc ⟨4, 0, b⟩ = beN 2 b.length ++ b := rfl
theorem enc_num {s n : Int} (h0 : 0 ≤ s) (h3 : s ≤ 3) (b : List UInt8) : enc ⟨s, n, b⟩ = beN (wid s) n.toNat := by unfold enc; rw [if_neg (by simp only; omega)]
set_option maxRecDepth 100000 in
set_option maxHeartbeats 1000000 in
theorem field_ok (q : Nat) (f : Fd) (more : List UInt8) (er : Int) (w : World) (hc : chk f = 0) (h : IsR w q (enc f ++ more) er) (hl : more.length ≤ 5000) :
    Calls Tryd.prog 86 #[.pointer (some ⟨q, 0, none⟩), .int .i64 f.s] w fun e w' => ∃ v', e = .returned (.tuple #[v', .int .i64 0]) ∧ (∃ vb, v' = .agg #[.int .i64 f.s, .int .i64 f.n, vb] ∧ BytesN w' q vb f.b) ∧ IsR w' q more er ∧ w.grownBy w' (some q) := by
  obtain ⟨s, n, b⟩ := f
  have hq := h.lt
  have HA : Bx (Below w.heap.size w (w.alloc (.cells #[.int .i64 0, .int .i64 0, .slice none 0 0] 96))) := Bx.mk (below_a _)
  rcases chk_ok hc with ⟨h4, hn, hbl⟩ | ⟨h0, h3, hbn, hn0, hnm⟩
  · simp only at h4 hn hbl ⊢
    subst h4
    subst hn
    rw [enc_four, List.append_assoc] at h
    have HS := Bx.mk (some_ok q b more er _ hbl (h.later HA.out) hl)
    have hkk : (decide ((0 : Int) ≤ 4) && decide ((4 : Int) ≤ 4)) = true := by simp
    clear hc h hl hbl
    go_enter Tryd.func86, Tryd.ntmps86
    go_wp2_with fail
    refine (known_any 4 _).mono ?_
    rintro e w1 ⟨rfl, rfl⟩
    rw [hkk]
    go_wp2_with fail
    refine HS.out.mono ?_
    rintro e w2 ⟨v2, rfl, hb2, hr2, hg2⟩
    have HR2 : Bx (w2.heap[w.heap.size]? = some (.cells #[.int .i64 0, .int .i64 0, .slice none 0 0] 96 (0, 0))) := Bx.mk (by rw [hg2.block _ (by simp) (fun e => by injection e with e; omega), hnew _ _ _ rfl])
    have H2 := Bx.mk (And.intro hb2 (And.intro hr2 (kb_trans (kb_below (some q) HA.out) hg2)))
    obtain ⟨⟨a2, c2, rfl, -⟩, -⟩ := hb2
    clear hr2 hg2 HS HA
    generalize b.length = L at *
    obtain ⟨D, hD⟩ : ∃ D, w.heap.size = D := ⟨_, rfl⟩
    have HD : Bx (w.heap.size = D ∧ q ≠ D) := Bx.mk ⟨hD, by omega⟩
    rw [hD] at HR2 ⊢
    clear hD hq
    go_wp2_with (refine wpList_store_new rfl 96 _ _ rfl D #[.int .i64 4, .int .i64 0, .slice a2 L c2] _ _ (by rfl) (by rfl) HR2.out rfl (by kernel_rfl) (by simp [Value.oneCell']) ?_; intro w3 hw3 hr3; have hg3 : Bx (w2.grownBy w3 (some D)) := Bx.mk (by rw [hw3]; exact kb_setCells _ _ _); have HR3 := Bx.mk hr3; clear hw3 hr3)
    have hg3 := hg3.out
    have hr3 := HR3.out
    have H3 := Bx.mk (And.intro (H2.out.1.aside HR2.out (fun x e => by cases e) hg3) (And.intro (H2.out.2.1.aside HR2.out (fun x e => by cases e) hg3 HD.out.2) (kb_new H2.out.2.2 hg3 (Nat.le_of_eq HD.out.1))))
    refine bodyPost_ret (results_pair rfl _ _ _ D _ rfl (run_loadVar_row _ D _ _ _ _ _ hr3 Tryd.underlying96 rfl (by kernel_rfl))) rfl ?_
    exact ⟨_, rfl, ⟨_, rfl, H3.out.1⟩, H3.out.2⟩
  · simp only at h0 h3 hbn hn0 hnm ⊢
    subst hbn
    rw [enc_num h0 h3] at h
    have HS := Bx.mk (rnumber_ok q s n.toNat more er _ h0 h3 (wid_pow h0 h3 hn0 hnm) (by have := most_le s; omega) (h.later HA.out) (by omega))
    have hnn : ((n.toNat : Nat) : Int) = n := by omega
    rw [hnn] at HS
    have hkk : (decide (0 ≤ s) && decide (s ≤ 4)) = true := by simp; omega
    have hs4 : (s == 4) = false := by simp; omega
    clear hc h hl hn0 hnm h0 h3
    go_enter Tryd.func86, Tryd.ntmps86
    go_wp2_with fail
    refine (known_any s _).mono ?_
    rintro e w1 ⟨rfl, rfl⟩
    rw [hkk]
    go_wp2_with fail
    refine HS.out.mono ?_
    rintro e w2 ⟨rfl, hr2, hg2⟩
    have HR2 : Bx (w2.heap[w.heap.size]? = some (.cells #[.int .i64 0, .int .i64 0, .slice none 0 0] 96 (0, 0))) := Bx.mk (by rw [hg2.block _ (by simp) (fun e => by injection e with e; omega), hnew _ _ _ rfl])
    have H2 := Bx.mk (And.intro hr2 (kb_trans (kb_below (some q) HA.out) hg2))
    clear hr2 hg2 HS HA
    obtain ⟨D, hD⟩ : ∃ D, w.heap.size = D := ⟨_, rfl⟩
    have HD : Bx (w.heap.size = D ∧ q ≠ D) := Bx.mk ⟨hD, by omega⟩
    rw [hD] at HR2 ⊢
    clear hD hq
    go_wp2_with (refine wpList_store_new rfl 96 _ _ rfl D #[.int .i64 s, .int .i64 n, .slice none 0 0] _ _ (by rfl) (by rfl) HR2.out rfl (by kernel_rfl) (by simp [Value.oneCell']) ?_; intro w3 hw3 hr3; have hg3 : Bx (w2.grownBy w3 (some D)) := Bx.mk (by rw [hw3]; exact kb_setCells _ _ _); have HR3 := Bx.mk hr3; clear hw3 hr3)
    have hg3 := hg3.out
    have hr3 := HR3.out
    have H3 := Bx.mk (And.intro (H2.out.1.aside HR2.out (fun x e => by cases e) hg3 HD.out.2) (kb_new H2.out.2 hg3 (Nat.le_of_eq HD.out.1)))
    refine bodyPost_ret (results_pair rfl _ _ _ D _ rfl (run_loadVar_row _ D _ _ _ _ _ hr3 Tryd.underlying96 rfl (by kernel_rfl))) rfl ?_
    exact ⟨_, rfl, ⟨_, rfl, ⟨Bytes.nil _, fun h => absurd h (by simp)⟩⟩, H3.out⟩
end Go.Proofs.YtaoekfomffebhaaDoor
