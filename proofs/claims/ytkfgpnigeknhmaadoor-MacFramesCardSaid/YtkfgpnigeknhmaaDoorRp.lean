/-
  Plain lists for the document's digest: a block's words as it makes them.
-/
import Derived.Test.YtkfgpnigeknhmaaDoorSt
namespace Go.Proofs.YtkfgpnigeknhmaaDoor
open Go
/-- One byte more in a word. -/
theorem byte_more (x : BitVec 32) (b : UInt8) : ((256 : Int) * uv x + ub b) % (4294967296 : Int) = uv (x <<< 8 + wide b) := by
  rw [ub_wide, ← uv_add]
  have h := uv_shl x 8
  simp only [Int.reducePow] at h
  rw [← h]
  omega
/-- A word of k bytes. -/
def wk (m : List UInt8) (o : Nat) : Nat → BitVec 32
  | 0 => 0
  | k + 1 => wk m o k <<< 8 + wide (m.getD (o + k) 0)
theorem wide_toNat (a : UInt8) : (wide a).toNat = a.toNat := by
  have := ub_wide a
  unfold ub uv at this
  omega
theorem shl_add (x : BitVec 32) (b : UInt8) : x <<< 8 + wide b = x <<< 8 ||| wide b := by
  refine BitVec.add_eq_or_of_and_eq_zero _ _ ?_
  ext i hi
  simp only [BitVec.getElem_and, BitVec.getElem_zero]
  by_cases h : i < 8
  · rw [BitVec.getElem_shiftLeft]; simp [h]
  · unfold wide
    rw [BitVec.getElem_setWidth]
    have hb : b.toBitVec.getLsbD i = false := BitVec.getLsbD_of_ge _ _ (by omega)
    simp [hb]
theorem be32_is (a b c d : UInt8) : ((((0 : BitVec 32) <<< 8 + wide a) <<< 8 + wide b) <<< 8 + wide c) <<< 8 + wide d = be32 a b c d := by
  rw [shl_add, shl_add, shl_add, shl_add]
  unfold be32
  simp only [BitVec.shiftLeft_or_distrib, ← BitVec.shiftLeft_add]
  simp
theorem wk_four (m : List UInt8) (o : Nat) : wk m o 4 = be32 (m.getD o 0) (m.getD (o + 1) 0) (m.getD (o + 2) 0) (m.getD (o + 3) 0) := be32_is _ _ _ _
/-- The 64 places when j words are made. -/
def stW (bl : List UInt8) : Nat → List (BitVec 32)
  | 0 => List.replicate 64 0
  | j + 1 => if j < 16 then (stW bl j).set j (blockWord bl j) else (stW bl j).set j (nextWord (stW bl j) j)
theorem stW_length (bl : List UInt8) (j : Nat) : (stW bl j).length = 64 := by
  induction j with
  | zero => rfl
  | succ j ih => rw [stW]; split <;> rw [List.length_set, ih]
theorem stW_fill (bl : List UInt8) (j : Nat) (h : j ≤ 16) : stW bl j = fillW bl j := by
  induction j with
  | zero => rfl
  | succ j ih => rw [stW, if_pos (by omega), ih (by omega)]; rfl
theorem stW_more (bl : List UInt8) (i : Nat) : stW bl (16 + i) = moreW bl i := by
  induction i with
  | zero => exact stW_fill bl 16 (by omega)
  | succ i ih => rw [← Nat.add_assoc, stW, if_neg (by omega), ih]; rfl
theorem stW_words (bl : List UInt8) : stW bl 64 = words bl := stW_more bl 48
theorem stW_zero (bl : List UInt8) (j i : Nat) (h : j ≤ i) : (stW bl j).getD i 0 = 0 := by
  induction j with
  | zero =>
    show (List.replicate 64 (0 : BitVec 32)).getD i 0 = 0
    rw [List.getD_eq_getElem?_getD, List.getElem?_replicate]; split <;> rfl
  | succ j ih =>
    have ih' := ih (by omega)
    rw [stW]
    rw [List.getD_eq_getElem?_getD] at ih' ⊢
    split <;> rw [List.getElem?_set_ne (by omega)] <;> exact ih'
theorem blk_word (m : List UInt8) (k j : Nat) (hj : j < 16) : blockWord (blk k m) j = wk m (64 * k + 4 * j) 4 := by
  have e : ∀ i, i < 64 → (blk k m).getD i 0 = m.getD (64 * k + i) 0 := fun i hi => by
    unfold blk
    rw [List.getD_eq_getElem?_getD, List.getD_eq_getElem?_getD, List.getElem?_take, if_pos hi, List.getElem?_drop]
  rw [wk_four]
  unfold blockWord
  rw [e _ (by omega), e _ (by omega), e _ (by omega), e _ (by omega)]
  rfl
theorem set_same (l : List (BitVec 32)) (i : Nat) (h : l.getD i 0 = 0) : l.set i 0 = l := by
  apply List.ext_getElem?
  intro n
  by_cases hn : i = n
  · subst hn
    rw [List.getElem?_set]
    by_cases hl : i < l.length
    · rw [if_pos rfl, if_pos hl]
      have : l[i] = 0 := by simpa [hl] using h
      rw [List.getElem?_eq_getElem hl, this]
    · rw [if_pos rfl, if_neg hl, List.getElem?_eq_none (by omega)]
  · rw [List.getElem?_set_ne hn]
theorem sig_uv (x : BitVec 32) : bits BinOp.xor IntKind.u32 (bits BinOp.xor IntKind.u32 (uv (x.rotateRight 7)) (uv (x.rotateRight 18))) (uv x / (8 : Int)) = uv (sig x 7 18 3) := by
  have h := uv_shr x 3
  simp only [Int.reducePow] at h
  rw [h, uv_xor, uv_xor]; rfl
theorem sig_uw (x : BitVec 32) : bits BinOp.xor IntKind.u32 (bits BinOp.xor IntKind.u32 (uv (x.rotateRight 17)) (uv (x.rotateRight 19))) (uv x / (1024 : Int)) = uv (sig x 17 19 10) := by
  have h := uv_shr x 10
  simp only [Int.reducePow] at h
  rw [h, uv_xor, uv_xor]; rfl
theorem tur_uv (x : BitVec 32) (a b c : Nat) : bits BinOp.xor IntKind.u32 (bits BinOp.xor IntKind.u32 (uv (x.rotateRight a)) (uv (x.rotateRight b))) (uv (x.rotateRight c)) = uv (tur x a b c) := by
  rw [uv_xor, uv_xor]; rfl
theorem four_sum (a b c d : BitVec 32) : (uv a + uv b + uv c + uv d) % (4294967296 : Int) = uv (a + b + c + d) := by
  rw [← uv_add, ← uv_add, ← uv_add]; omega
/-- The eight words of a round, as the document's answer has them. -/
theorem low_or (s : Eight) (x k : BitVec 32) : s.h + tur s.e 6 11 25 + ((s.e &&& s.f) ||| (~~~ s.e &&& s.g)) + k + x = low s x k := by
  rw [choose_or]
  unfold low
  generalize tur s.e 6 11 25 = a
  generalize (s.e &&& s.f) ^^^ (~~~ s.e &&& s.g) = b
  generalize s.h = h
  ac_rfl
theorem high_or (s : Eight) : tur s.a 2 13 22 + (((s.a &&& s.b) ||| (s.a &&& s.c)) ||| (s.b &&& s.c)) = high s := by
  rw [most_or]
  rfl
end Go.Proofs.YtkfgpnigeknhmaaDoor
