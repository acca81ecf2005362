/-
  Claims: the walks of Read and Parse.
  Claims: what Read and Parse give, in plain words.
  Claims: the walk of the document's Get at numbers.
  Claims: the walk of the document's Parse.
-/
import Derived.Test.YtdionedinmkeiaaDoorCa
import Derived.Test.YtdionedinmkeiaaDoorIp
import Derived.Test.YtdionedinmkeiaaDoorCb
import Derived.Test.YtdionedinmkeiaaDoorIa
import Derived.LoopN
namespace Go.Proofs.YtdionedinmkeiaaDoor
open Go Go.RowKit
/-- Bytes lie in no block of other cells. -/
theorem Bytes.offA {w : World} {D : Nat} {cs : Array Value} {t : TypeId} {fr : Nat × Nat} {v : Value} {l : List UInt8} (h : Bytes w v l) (hr : w.heap[D]? = some (.cells cs t fr)) (hc : ∀ (i : Nat) x, cs[i]? ≠ some (.int .u8 x)) (h0 : 0 < l.length) : v.ownBlock ≠ some D := by
  obtain ⟨ad, cap, rfl, -, -, hr2⟩ := h
  obtain ⟨g, o, rfl, hcell⟩ := hr2 h0
  intro e
  injection e with e
  simp only at e
  subst e
  have h1 := hcell 0 h0
  rw [cell_of_row _ _ _ _ _ _ hr] at h1
  exact hc _ _ h1
theorem four_off (a b c d : Int) (i : Nat) (x : Int) : (#[Value.int .i64 a, .int .i64 b, .int .i64 c, .int .i64 d] : Array Value)[i]? ≠ some (.int .u8 x) := by
  intro h
  match i, h with
  | 0, h => simp at h
  | 1, h => simp at h
  | 2, h => simp at h
  | 3, h => simp at h
  | i + 4, h => simp at h
/-- A reader's bytes and error, a field on. -/
def stepR (p : List UInt8 × Int) (s : Int) : List UInt8 × Int := (getR p.1 p.2 s).2
/-- The number that is read. -/
def numR (p : List UInt8 × Int) (s : Int) : Int := (getR p.1 p.2 s).1.n
theorem stepR_len (p : List UInt8 × Int) (s : Int) : (stepR p s).1.length ≤ p.1.length := by
  unfold stepR getR getF
  split
  · exact Nat.le_refl _
  · split
    · simp
    · split
      · split
        · simp
        · split
          · simp
          · split
            · simp
            · simp
      · split
        · simp
        · split
          · simp
          · simp
/-- A reader behind four fields. -/
def rdR (p : List UInt8 × Int) : List UInt8 × Int := stepR (stepR (stepR (stepR p 1) 0) 2) 1
/-- The four numbers that are read. -/
def rdN (p : List UInt8 × Int) : Cl := ⟨numR p 1, numR (stepR p 1) 0, numR (stepR (stepR p 1) 0) 2, numR (stepR (stepR (stepR p 1) 0) 2) 1⟩
/-- The error of Read. -/
def rdE (p : List UInt8 × Int) : Int := if (rdR p).2 ≠ 0 then (rdR p).2 else if okC (rdN p) = true then 0 else 3
/-- No claims. -/
def clZ : Cl := ⟨0, 0, 0, 0⟩
/-- The claims of Read. -/
def rdC (p : List UInt8 × Int) : Cl := if rdE p = 0 then rdN p else clZ
/-- The error of Parse. -/
def psE (b : List UInt8) : Int := if rdE (b, 0) ≠ 0 then rdE (b, 0) else if 0 < (rdR (b, 0)).1.length then 3 else 0
/-- The claims of Parse. -/
def psC (b : List UInt8) : Cl := if psE b = 0 then rdN (b, 0) else clZ
theorem rdE_zero {p : List UInt8 × Int} (h : rdE p = 0) : (rdR p).2 = 0 ∧ okC (rdN p) = true := by
  unfold rdE at h
  by_cases h1 : (rdR p).2 = 0
  · rw [if_neg (by rw [h1]; simp)] at h
    by_cases h2 : okC (rdN p) = true
    · exact ⟨h1, h2⟩
    · rw [if_neg h2] at h
      omega
  · rw [if_pos h1] at h
    exact absurd h h1
theorem rdR_len (p : List UInt8 × Int) : (rdR p).1.length ≤ p.1.length := Nat.le_trans (stepR_len _ _) (Nat.le_trans (stepR_len _ _) (Nat.le_trans (stepR_len _ _) (stepR_len _ _)))
end Go.Proofs.YtdionedinmkeiaaDoor
namespace Go.Proofs.YtdionedinmkeiaaDoor
open Go Go.RowKit
theorem valN_beN (k n : Nat) : valN (beN k n) = n % 256 ^ k := by
  induction k with
  | zero => simp [beN, valN, Nat.mod_one]
  | succ k ih =>
    rw [beN_succ, valN_cons, beN_length, ih, Nat.mod_pow_succ]
    have h : (UInt8.ofNat (n / 256 ^ k % 256)).toNat = n / 256 ^ k % 256 := by rw [UInt8.toNat_ofNat']; omega
    rw [h, Nat.mul_comm, Nat.add_comm]
theorem wid3 (s : Int) (h : s = 0 ∨ s = 1 ∨ s = 2) : wid s ≤ 4 := by rcases h with rfl | rfl | rfl <;> decide
theorem getR_short (l : List UInt8) (s : Int) (h : s = 0 ∨ s = 1 ∨ s = 2) (hl : l.length < wid s) : getR l 0 s = (Fd.zero, [], 4) := by
  unfold getR getF
  rw [if_neg (by simp), if_neg (by omega), if_neg (by omega), if_pos hl]
theorem getR_long (l : List UInt8) (s : Int) (h : s = 0 ∨ s = 1 ∨ s = 2) (hl : wid s ≤ l.length) : getR l 0 s = (⟨s, (valN (l.take (wid s)) : Int), []⟩, l.drop (wid s), 0) := by
  have h1 := valN_lt (l.take (wid s))
  have h2 : 256 ^ (l.take (wid s)).length ≤ 256 ^ 4 := Nat.pow_le_pow_right (by omega) (by rw [List.length_take]; have := wid3 s h; omega)
  unfold getR getF
  rw [if_neg (by simp), if_neg (by omega), if_neg (by omega), if_neg (by omega), if_neg (by omega)]
theorem stepR_bad (l : List UInt8) (e s : Int) (he : e ≠ 0) : stepR (l, e) s = (l, e) := by
  unfold stepR getR
  simp only
  rw [if_pos he]
theorem stepR_short (l : List UInt8) (s : Int) (h : s = 0 ∨ s = 1 ∨ s = 2) (hl : l.length < wid s) : stepR (l, 0) s = ([], 4) := by
  show (getR l 0 s).2 = _
  rw [getR_short l s h hl]
theorem stepR_long (l : List UInt8) (s : Int) (h : s = 0 ∨ s = 1 ∨ s = 2) (hl : wid s ≤ l.length) : stepR (l, 0) s = (l.drop (wid s), 0) := by
  show (getR l 0 s).2 = _
  rw [getR_long l s h hl]
theorem numR_long (l : List UInt8) (s : Int) (h : s = 0 ∨ s = 1 ∨ s = 2) (hl : wid s ≤ l.length) : numR (l, 0) s = (valN (l.take (wid s)) : Int) := by
  show (getR l 0 s).1.n = _
  rw [getR_long l s h hl]
/-- The numbers that nine bytes are. -/
def c9 (b : List UInt8) : Cl := ⟨(valN (b.take 2) : Int), (valN ((b.drop 2).take 1) : Int), (valN ((b.drop 3).take 4) : Int), (valN ((b.drop 7).take 2) : Int)⟩
theorem rd_short (b : List UInt8) (h : b.length < 9) : (rdR (b, 0)).2 = 4 := by
  unfold rdR
  by_cases h1 : b.length < 2
  · rw [stepR_short b 1 (by omega) h1, stepR_bad [] 4 _ (by omega), stepR_bad [] 4 _ (by omega), stepR_bad [] 4 _ (by omega)]
  rw [stepR_long b 1 (by omega) (by show 2 ≤ _; omega), show wid 1 = 2 from rfl]
  by_cases h2 : b.length < 3
  · rw [stepR_short _ 0 (by omega) (by rw [List.length_drop]; show _ < 1; omega), stepR_bad [] 4 _ (by omega), stepR_bad [] 4 _ (by omega)]
  rw [stepR_long _ 0 (by omega) (by rw [List.length_drop]; show 1 ≤ _; omega), show wid 0 = 1 from rfl, List.drop_drop]
  by_cases h3 : b.length < 7
  · rw [stepR_short _ 2 (by omega) (by rw [List.length_drop]; show _ < 4; omega), stepR_bad [] 4 _ (by omega)]
  rw [stepR_long _ 2 (by omega) (by rw [List.length_drop]; show 4 ≤ _; omega), show wid 2 = 4 from rfl, List.drop_drop]
  rw [stepR_short _ 1 (by omega) (by rw [List.length_drop]; show _ < 2; omega)]
theorem rd_long (b : List UInt8) (h : 9 ≤ b.length) : rdR (b, 0) = (b.drop 9, 0) ∧ rdN (b, 0) = c9 b := by
  have s1 : stepR (b, 0) 1 = (b.drop 2, 0) := stepR_long b 1 (by omega) (by show 2 ≤ _; omega)
  have s2 : stepR (b.drop 2, 0) 0 = (b.drop 3, 0) := by rw [stepR_long _ 0 (by omega) (by rw [List.length_drop]; show 1 ≤ _; omega), show wid 0 = 1 from rfl, List.drop_drop]
  have s3 : stepR (b.drop 3, 0) 2 = (b.drop 7, 0) := by rw [stepR_long _ 2 (by omega) (by rw [List.length_drop]; show 4 ≤ _; omega), show wid 2 = 4 from rfl, List.drop_drop]
  have s4 : stepR (b.drop 7, 0) 1 = (b.drop 9, 0) := by rw [stepR_long _ 1 (by omega) (by rw [List.length_drop]; show 2 ≤ _; omega), show wid 1 = 2 from rfl, List.drop_drop]
  refine ⟨by unfold rdR; rw [s1, s2, s3, s4], ?_⟩
  unfold rdN c9
  rw [s1, s2, s3, numR_long b 1 (by omega) (by show 2 ≤ _; omega), numR_long _ 0 (by omega) (by rw [List.length_drop]; show 1 ≤ _; omega), numR_long _ 2 (by omega) (by rw [List.length_drop]; show 4 ≤ _; omega), numR_long _ 1 (by omega) (by rw [List.length_drop]; show 2 ≤ _; omega)]
  rfl
/-- What the document's Parse tells. -/
def dE (b : List UInt8) : Int := if b.length < 9 then 4 else if okC (c9 b) = true then 0 else 3
theorem rdE_is (b : List UInt8) : rdE (b, 0) = dE b := by
  unfold dE rdE
  by_cases h : b.length < 9
  · rw [if_pos h, rd_short b h, if_pos (by omega)]
  · rw [if_neg h, (rd_long b (by omega)).1, (rd_long b (by omega)).2, if_neg (by simp)]
theorem psE_is (b : List UInt8) : psE b = if dE b = 0 ∧ 9 < b.length then 3 else dE b := by
  unfold psE
  rw [rdE_is]
  by_cases h0 : dE b = 0
  · have h9 : 9 ≤ b.length := by
      by_cases h : b.length < 9
      · unfold dE at h0
        rw [if_pos h] at h0
        omega
      · omega
    rw [if_neg (by rw [h0]; simp), (rd_long b h9).1, List.length_drop]
    by_cases hl : 9 < b.length
    · rw [if_pos (by omega), if_pos ⟨h0, hl⟩]
    · rw [if_neg (by omega), if_neg (by omega), h0]
  · rw [if_pos h0, if_neg (by omega)]
theorem psC_is (b : List UInt8) : psC b = if dE b = 0 ∧ b.length = 9 then c9 b else clZ := by
  have hp := psE_is b
  unfold psC
  by_cases h0 : dE b = 0
  · have h9 : 9 ≤ b.length := by
      by_cases h : b.length < 9
      · unfold dE at h0
        rw [if_pos h] at h0
        omega
      · omega
    by_cases hl : 9 < b.length
    · rw [if_pos ⟨h0, hl⟩] at hp
      rw [hp, if_neg (by omega), if_neg (by omega)]
    · rw [if_neg (by omega), h0] at hp
      rw [if_pos hp, if_pos (by omega), (rd_long b h9).2]
  · rw [if_neg (by omega)] at hp
    rw [hp, if_neg h0, if_neg (by omega)]
/-- Nine bytes are the bytes of the claims that they are. -/
theorem clB_c9 (b : List UInt8) (h : b.length = 9) : clB (c9 b) = b := by
  have h1 := beN_val (b.take 2)
  have h2 := beN_val ((b.drop 2).take 1)
  have h3 := beN_val ((b.drop 3).take 4)
  have h4 := beN_val ((b.drop 7).take 2)
  rw [show (b.take 2).length = 2 by rw [List.length_take]; omega] at h1
  rw [show ((b.drop 2).take 1).length = 1 by rw [List.length_take, List.length_drop]; omega] at h2
  rw [show ((b.drop 3).take 4).length = 4 by rw [List.length_take, List.length_drop]; omega] at h3
  rw [show ((b.drop 7).take 2).length = 2 by rw [List.length_take, List.length_drop]; omega] at h4
  unfold clB c9
  simp only [Int.toNat_natCast]
  rw [h1, h2, h3, h4]
  have e7 : (b.drop 7).take 2 = b.drop 7 := List.take_of_length_le (by rw [List.length_drop]; omega)
  have e3 : (b.drop 3).take 4 ++ b.drop 7 = b.drop 3 := by
    have := List.take_append_drop 4 (b.drop 3)
    rw [List.drop_drop] at this
    exact this
  have e2 : (b.drop 2).take 1 ++ b.drop 3 = b.drop 2 := by
    have := List.take_append_drop 1 (b.drop 2)
    rw [List.drop_drop] at this
    exact this
  rw [e7, List.append_assoc, e3, List.append_assoc, e2, List.take_append_drop]
theorem val_at (n : Int) (k : Nat) (h0 : 0 ≤ n) (h : n < 256 ^ k) : ((valN (beN k n.toNat) : Nat) : Int) = n := by
  rw [valN_beN, Nat.mod_eq_of_lt]
  · omega
  · have h1 : (256 : Int) ^ k = ((256 ^ k : Nat) : Int) := by simp
    rw [h1] at h
    generalize 256 ^ k = q at h ⊢
    omega
theorem c9_clB (c : Cl) (more : List UInt8) (h : okC c = true) : c9 (clB c ++ more) = c := by
  obtain ⟨i, r, x, s⟩ := c
  have hh := (okC_iff i r x s).mp h
  have t1 : (clB ⟨i, r, x, s⟩ ++ more).take 2 = beN 2 i.toNat := by
    unfold clB
    rw [List.append_assoc, List.append_assoc, List.append_assoc, List.take_left' (beN_length _ _)]
  have d1 : (clB ⟨i, r, x, s⟩ ++ more).drop 2 = beN 1 r.toNat ++ (beN 4 x.toNat ++ (beN 2 s.toNat ++ more)) := by
    unfold clB
    rw [List.append_assoc, List.append_assoc, List.append_assoc, List.drop_left' (beN_length _ _)]
  have d2 : (clB ⟨i, r, x, s⟩ ++ more).drop 3 = beN 4 x.toNat ++ (beN 2 s.toNat ++ more) := by
    rw [show 3 = 2 + 1 from rfl, ← List.drop_drop, d1, List.drop_left' (beN_length _ _)]
  have d3 : (clB ⟨i, r, x, s⟩ ++ more).drop 7 = beN 2 s.toNat ++ more := by
    rw [show 7 = 3 + 4 from rfl, ← List.drop_drop, d2, List.drop_left' (beN_length _ _)]
  unfold c9
  rw [t1, d1, d2, d3, List.take_left' (beN_length _ _), List.take_left' (beN_length _ _), List.take_left' (beN_length _ _)]
  rw [val_at i 2 (by omega) (by omega), val_at r 1 (by omega) (by omega), val_at x 4 (by omega) (by omega), val_at s 2 (by omega) (by omega)]
theorem clB_more (c : Cl) (more : List UInt8) : (clB c ++ more).length = 9 + more.length := by rw [List.length_append, clB_length]
theorem dE_clB (c : Cl) (more : List UInt8) (h : okC c = true) : dE (clB c ++ more) = 0 := by
  unfold dE
  rw [if_neg (by rw [clB_more]; omega), c9_clB c more h, if_pos h]
theorem ps_clB (c : Cl) (h : okC c = true) : psE (clB c) = 0 ∧ psC (clB c) = c := by
  have e := dE_clB c [] h
  have e2 := c9_clB c [] h
  rw [List.append_nil] at e e2
  have hl := clB_length c
  refine ⟨by rw [psE_is, if_neg (by omega), e], by rw [psC_is, if_pos ⟨e, hl⟩, e2]⟩
theorem ps_clB0 (c : Cl) (h : okC c = true) : psE (clB c ++ [0]) = 3 := by
  rw [psE_is, if_pos ⟨dE_clB c [0] h, by rw [clB_more]; simp⟩]
theorem rd_clB (c : Cl) (more : List UInt8) (h : okC c = true) : rdE (clB c ++ more, 0) = 0 ∧ rdC (clB c ++ more, 0) = c ∧ rdR (clB c ++ more, 0) = (more, 0) := by
  have hl := clB_more c more
  have e : rdE (clB c ++ more, 0) = 0 := by rw [rdE_is, dE_clB c more h]
  refine ⟨e, ?_, ?_⟩
  · unfold rdC
    rw [if_pos e, (rd_long _ (by omega)).2, c9_clB c more h]
  · rw [(rd_long _ (by omega)).1, List.drop_left' (clB_length c)]
end Go.Proofs.YtdionedinmkeiaaDoor
namespace Go.Proofs.YtdionedinmkeiaaDoor
open Go Go.RowKit
theorem results_three {fn : Func} {p u u2 : Tmp} {ty : TypeId} (h : fn.results = #[.cell p ty, .tmp u, .tmp u2]) (tmps : Array Value) (P : Program) (w : World) (g : Nat) (cs : Array Value)
    (hp : tmps.getD p undef = .pointer (some ⟨g, 0, none⟩)) (hl : (loadVar ty ⟨g, 0, none⟩).run P w = .ok (.agg cs) w) : (results fn tmps).run P w = .ok (.tuple #[.agg cs, tmps.getD u undef, tmps.getD u2 undef]) w := by
  have hp' : tmps[p]?.getD undef = .pointer (some ⟨g, 0, none⟩) := by simpa using hp
  simp [results, h, hp', asAddr, hl]
end Go.Proofs.YtdionedinmkeiaaDoor
namespace Go.Proofs.YtdionedinmkeiaaDoor
open Go Go.RowKit
/-- The claims that the document's Parse tells. -/
def dC (b : List UInt8) : Cl := if dE b = 0 then c9 b else clZ
theorem cutB (a : Option Addr) (n cap m : Nat) (hm : m ≤ n) (_ : n ≤ cap) (W : World) : (Instr.slice 22 (.slice a n cap) (some (.int .i64 (m : Int))) none none).run Tryd.prog W = .ok (.slice (if cap = m then a else a.map (·.add m)) (n - m) (cap - m)) W := by
  have he : Tryd.prog.elem 22 = 5 := by kernel_rfl
  have hs : ((sizeOf 5).run Tryd.prog W) = .ok 1 W := by kernel_rfl
  rw [run_slice_l W 22 a n cap (by rw [he]; exact Tryd.underlying22) .i64 (m : Int) (by omega) (by omega), he, hs]
  simp only [Result.andThen, sliced, Int.toNat_natCast, Nat.mul_one]
theorem Bytes.nowhere {w : World} {v : Value} {l : List UInt8} (h : Bytes w v l) : BytesN w w.heap.size v l := by
  refine ⟨h, fun h0 e => ?_⟩
  obtain ⟨a, cap, rfl, -, -, hr⟩ := h
  obtain ⟨c, o, rfl, hc⟩ := hr h0
  injection e with e
  simp only at e
  have := World.block_lt_of_cell? _ _ (hc 0 h0)
  simp only at this
  omega
/-- What is left of bytes: as a slice, and that it is cut so. -/
theorem cut_rest (l : List UInt8) (a : Option Addr) (n cap m n1 : Nat) (w : World) (h : Bytes w (.slice a n cap) l) (hm : m ≤ n) (h1 : n1 = n - m) :
    ∃ a1 c1, (∀ W, (Instr.slice 22 (.slice a n cap) (some (.int .i64 (m : Int))) none none).run Tryd.prog W = .ok (.slice a1 n1 c1) W) ∧ Bytes w (.slice a1 n1 c1) (l.drop m) := by
  subst h1
  exact ⟨_, _, fun W => cutB a n cap m hm (BytesN.cap h.nowhere).1 W, (h.nowhere.drop m hm).1⟩
/-- What stays while the document's claims are read. -/
structure PS (w : World) (D : Nat) (cs : Array Value) (W : World) : Prop where
  res : W.heap[D]? = some (.cells #[.int .i64 0, .int .i64 0, .int .i64 0, .int .i64 0] 24 (0, 0))
  arr : W.heap[D + 1]? = some (.cells cs 139 (0, 0))
  siz : W.heap[D + 2]? = some (.cells #[.int .i64 1, .int .i64 0, .int .i64 2, .int .i64 1] 139 (0, 0))
  below : Below D w W
theorem PS.lt {w : World} {D : Nat} {cs : Array Value} {W : World} (h : PS w D cs W) : D + 2 < W.heap.size := (Array.getElem?_eq_some_iff.1 h.siz).1
theorem PS.later {w : World} {D : Nat} {cs : Array Value} {W W1 : World} (h : PS w D cs W) (hb : Below W.heap.size W W1) : PS w D cs W1 :=
  have h0 := h.lt
  ⟨by rw [hb.block D (by omega)]; exact h.res, by rw [hb.block (D + 1) (by omega)]; exact h.arr, by rw [hb.block (D + 2) h0]; exact h.siz, h.below.trans (hb.mono (by omega))⟩
theorem PS.set {w : World} {D : Nat} {cs : Array Value} {W : World} (h : PS w D cs W) (i : Nat) (v : Value) : PS w D (cs.setIfInBounds i v) (W.setCell ⟨D + 1, i, none⟩ v) :=
  have hg := kb_set1 W (D + 1) i v
  have h0 := h.lt
  ⟨by rw [hg.block D (by omega) (fun e => by injection e with e; omega)]; exact h.res, by rw [heap_setCell_same _ _ _ _ _ _ h.arr], by rw [hg.block (D + 2) h0 (fun e => by injection e with e; omega)]; exact h.siz, h.below.setCell (by show D ≤ D + 1; omega) _⟩
theorem bytes_setA {D : Nat} {a b c d : Int} {W : World} {vb : Value} {l : List UInt8} (h : Bytes W vb l) (hp : W.heap[D]? = some (.cells #[.int .i64 a, .int .i64 b, .int .i64 c, .int .i64 d] 139 (0, 0))) (i : Nat) (v : Value) : Bytes (W.setCell ⟨D, i, none⟩ v) vb l :=
  (BytesN.grown (p := D) ⟨h, h.offA hp (four_off _ _ _ _)⟩ (kb_set1 _ _ _ _)).1
end Go.Proofs.YtdionedinmkeiaaDoor
