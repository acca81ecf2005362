/-
  The walks of a reader: its parts.
  The walks of bytes that are taken off, and of numbers that are read.
  The walks of a field that is got.
-/
import Derived.Test.YtdionedinmkeiaaDoorIf
import Derived.Test.YtdionedinmkeiaaDoorIa
namespace Go.Proofs.YtdionedinmkeiaaDoor
open Go Go.RowKit
end Go.Proofs.YtdionedinmkeiaaDoor
namespace Go.Proofs.YtdionedinmkeiaaDoor
open Go Go.RowKit
theorem BytesN.take {w : World} {p : Nat} {a : Option Addr} {n cap : Nat} {l : List UInt8} (h : BytesN w p (.slice a n cap) l) (m : Nat) (hm : m ≤ n) : BytesN w p (.slice a m cap) (l.take m) := by
  refine ⟨h.1.take m hm, fun h0 => ?_⟩
  have h1 := h.2 (by simp at h0; omega)
  rcases a with _ | ad
  · intro e
    cases e
  · exact h1
theorem BytesN.drop {w : World} {p : Nat} {a : Option Addr} {n cap : Nat} {l : List UInt8} (h : BytesN w p (.slice a n cap) l) (m : Nat) (hm : m ≤ n) : BytesN w p (.slice (if cap = m then a else a.map (·.add m)) (n - m) (cap - m)) (l.drop m) := by
  have hl : l.length = n := by obtain ⟨⟨a', cap', hv, -⟩, -⟩ := h; injection hv with _ e2 _; exact e2.symm
  by_cases hlt : m < n
  · have h0 : 0 < l.length := by omega
    obtain ⟨⟨a', cap', hv, hc, hn, hr⟩, h2⟩ := h
    injection hv with e1 e2 e3
    subst e1 e3
    obtain ⟨c, o, rfl, hcell⟩ := hr h0
    have e : (if cap = m then some (⟨c, o, none⟩ : Addr) else (some (⟨c, o, none⟩ : Addr)).map (·.add m)) = some ⟨c, o + m, none⟩ := by
      rw [if_neg (by omega)]
      simp [Addr.add]
    rw [e]
    exact ⟨Bytes.drop ⟨_, _, by rw [e2], hc, hn, hr⟩ m hlt, fun _ => h2 h0⟩
  · obtain rfl : m = n := by omega
    have e : l.drop m = [] := by rw [← hl]; simp
    rw [e, Nat.sub_self]
    refine ⟨⟨_, _, rfl, Nat.zero_le _, fun hnn => ?_, fun h => absurd h (by simp)⟩, fun h => absurd h (by simp)⟩
    obtain ⟨⟨a', cap', hv, hc, hn, hr⟩, h2⟩ := h
    injection hv with e1 e2 e3
    subst e1 e3
    rcases a with _ | ad
    · have := hn rfl
      omega
    · exfalso
      split at hnn
      · cases hnn
      · cases hnn
theorem BytesN.cap {w : World} {p : Nat} {a : Option Addr} {n cap : Nat} {l : List UInt8} (h : BytesN w p (.slice a n cap) l) : n ≤ cap ∧ (a = none → cap = 0) := by
  obtain ⟨⟨a', cap', hv, hc, hn, hr⟩, h2⟩ := h
  injection hv with e1 e2 e3
  subst e1 e3
  exact ⟨by omega, hn⟩
theorem beN_get (W m j : Nat) (hj : j < W) : (beN W m).getD j 0 = UInt8.ofNat (m / 256 ^ (W - 1 - j) % 256) := by
  induction W generalizing j with
  | zero => omega
  | succ W ih =>
    rcases j with _ | j
    · rfl
    · rw [beN_succ, List.getD_cons_succ, ih j (by omega), show W + 1 - 1 - (j + 1) = W - 1 - j by omega]
/-- A number behind j of its bytes. -/
def accN (W m j : Nat) : Nat := m / 256 ^ (W - j)
theorem accN_zero (W m : Nat) (h : m < 256 ^ W) : accN W m 0 = 0 := by unfold accN; rw [Nat.sub_zero]; exact Nat.div_eq_of_lt h
theorem accN_all (W m : Nat) : accN W m W = m := by unfold accN; rw [Nat.sub_self]; simp
theorem accN_succ (W m j : Nat) (hj : j < W) : accN W m (j + 1) = accN W m j * 256 + m / 256 ^ (W - 1 - j) % 256 := by
  unfold accN
  have e1 : W - j = (W - 1 - j) + 1 := by omega
  have e2 : W - (j + 1) = W - 1 - j := by omega
  rw [e1, e2, Nat.pow_succ, ← Nat.div_div_eq_div_mul]
  omega
theorem accN_le (W m j : Nat) : accN W m j ≤ m := Nat.div_le_self _ _
theorem or_add (x y : Nat) (hx : x * 256 + y ≤ 9223372036854775807) (hy : y < 256) : bits .or .i64 (((x * 256 : Nat)) : Int) (y : Int) = ((x * 256 + y : Nat) : Int) := by
  show IntKind.i64.wrap ((BitVec.ofInt 64 ((x * 256 : Nat) : Int) ||| BitVec.ofInt 64 (y : Int)).toNat : Int) = _
  rw [BitVec.toNat_or, BitVec.ofInt_natCast, BitVec.ofInt_natCast, BitVec.toNat_ofNat, BitVec.toNat_ofNat, Nat.mod_eq_of_lt (by omega), Nat.mod_eq_of_lt (by omega)]
  have h := Nat.two_pow_add_eq_or_of_lt (i := 8) (b := y) (by omega) x
  have e : x * 256 ||| y = x * 256 + y := by
    rw [Nat.mul_comm x 256]
    exact h.symm
  rw [e, IntKind.wrap_i64]
  omega
theorem wid_pow {s m : Int} (h0 : 0 ≤ s) (h3 : s ≤ 3) (hm0 : 0 ≤ m) (hm : m ≤ most s) : m.toNat < 256 ^ wid s := by
  rcases size_cases h0 h3 with rfl | rfl | rfl | rfl
  all_goals
    simp [most, wid] at hm ⊢
    omega
end Go.Proofs.YtdionedinmkeiaaDoor
namespace Go.Proofs.YtdionedinmkeiaaDoor
open Go Go.RowKit
theorem OwnB.bytesN {w : World} {base q : Nat} {v : Value} {l : List UInt8} (h : OwnB w base v l) (hq : q < base) : BytesN w q v l := ⟨h.bytes, fun _ e => by have := (h.lt q e).2; omega⟩
/-- Bytes lie in no field's block. -/
theorem Bytes.off {w : World} {D : Nat} {a b : Int} {c : Value} {t : TypeId} {fr : Nat × Nat} {v : Value} {l : List UInt8} (h : Bytes w v l) (hr : w.heap[D]? = some (.cells #[.int .i64 a, .int .i64 b, c] t fr)) (hc : ∀ x, c ≠ .int .u8 x) (h0 : 0 < l.length) : v.ownBlock ≠ some D := by
  obtain ⟨ad, cap, rfl, -, -, hr2⟩ := h
  obtain ⟨g, o, rfl, hcell⟩ := hr2 h0
  intro e
  injection e with e
  simp only at e
  subst e
  have h1 := hcell 0 h0
  rw [cell_of_row _ _ _ _ _ _ hr, Nat.add_zero] at h1
  match o, h1 with
  | 0, h1 => simp at h1
  | 1, h1 => simp at h1
  | 2, h1 =>
    simp at h1
    exact hc _ h1
  | o + 3, h1 => simp at h1
theorem BytesN.aside {w w1 : World} {q D : Nat} {a b : Int} {c : Value} {t : TypeId} {fr : Nat × Nat} {v : Value} {l : List UInt8} (h : BytesN w q v l) (hr : w.heap[D]? = some (.cells #[.int .i64 a, .int .i64 b, c] t fr)) (hc : ∀ x, c ≠ .int .u8 x) (hg : w.grownBy w1 (some D)) : BytesN w1 q v l :=
  ⟨(BytesN.grown (p := D) ⟨h.1, h.1.off hr hc⟩ hg).1, h.2⟩
theorem kb_new {w w1 w2 : World} {q D : Nat} (h : w.grownBy w1 (some q)) (hg : w1.grownBy w2 (some D)) (hD : w.heap.size ≤ D) : w.grownBy w2 (some q) :=
  ⟨hg.os.trans h.os, hg.tape.trans h.tape, hg.output.trans h.output, Nat.le_trans h.size hg.size, fun k hk hne => by
    rw [hg.block k (Nat.lt_of_lt_of_le hk h.size) (fun e => by injection e with e; omega)]
    exact h.block k hk hne⟩
theorem results_pair {fn : Func} {p u : Tmp} {ty : TypeId} (h : fn.results = #[.cell p ty, .tmp u]) (tmps : Array Value) (P : Program) (w : World) (g : Nat) (cs : Array Value)
    (hp : tmps.getD p undef = .pointer (some ⟨g, 0, none⟩)) (hl : (loadVar ty ⟨g, 0, none⟩).run P w = .ok (.agg cs) w) : (results fn tmps).run P w = .ok (.tuple #[.agg cs, tmps.getD u undef]) w := by
  have hp' : tmps[p]?.getD undef = .pointer (some ⟨g, 0, none⟩) := by simpa using hp
  simp [results, h, hp', asAddr, hl]
theorem enc_four (b : List UInt8) : enc ⟨4, 0, b⟩ = beN 2 b.length ++ b := rfl
theorem enc_num {s n : Int} (h0 : 0 ≤ s) (h3 : s ≤ 3) (b : List UInt8) : enc ⟨s, n, b⟩ = beN (wid s) n.toNat := by unfold enc; rw [if_neg (by simp only; omega)]
end Go.Proofs.YtdionedinmkeiaaDoor
