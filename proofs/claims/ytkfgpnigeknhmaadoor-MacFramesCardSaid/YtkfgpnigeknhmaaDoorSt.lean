/-
  What a digest keeps of its bytes: plain lists.
-/
import Derived.Test.YtkfgpnigeknhmaaDoorWd
namespace Go.Proofs.YtkfgpnigeknhmaaDoor
open Go Go.RowKit
/-- Block k of a list of bytes. -/
def blk (k : Nat) (bs : List UInt8) : List UInt8 := (bs.drop (64 * k)).take 64
/-- The words behind the first k blocks. -/
def hs : Nat → List UInt8 → List (BitVec 32)
  | 0, _ => hTab
  | k + 1, bs => mix (hs k bs) (blk k bs)
/-- Words as bytes. -/
def outOf (l : List (BitVec 32)) : List UInt8 := l.flatMap four
/-- SHA-256. -/
def sha (bs : List UInt8) : List UInt8 := outOf (hs ((bs.length + zerosOf bs.length + 9) / 64) (bs ++ padOf bs.length))
theorem hs_length (k : Nat) (bs : List UInt8) : (hs k bs).length = 8 := by
  induction k with
  | zero => rfl
  | succ k ih => rw [hs, mix_length, ih]
theorem blk_append (k : Nat) (bs q : List UInt8) (h : 64 * (k + 1) ≤ bs.length) : blk k (bs ++ q) = blk k bs := by
  unfold blk
  rw [List.drop_append_of_le_length (by omega), List.take_append_of_le_length (by simp; omega)]
theorem hs_append (k : Nat) (bs q : List UInt8) (h : 64 * k ≤ bs.length) : hs k (bs ++ q) = hs k bs := by
  induction k with
  | zero => rfl
  | succ k ih => rw [hs, hs, ih (by omega), blk_append k bs q (by omega)]
/-- What the words and the bytes that aren't a block yet say of all that was told. -/
structure StIs (bs : List UInt8) (ws : List (BitVec 32)) (rest : List UInt8) : Prop where
  w8 : ws.length = 8
  r64 : rest.length = 64
  tail : rest.take (bs.length % 64) = bs.drop (64 * (bs.length / 64))
  words : 64 ≤ bs.length → ws = hs (bs.length / 64) bs
theorem StIs.now {bs : List UInt8} {ws : List (BitVec 32)} {rest : List UInt8} (h : StIs bs ws rest) : (if bs.length < 64 then hTab else ws) = hs (bs.length / 64) bs := by
  by_cases h1 : bs.length < 64
  · rw [if_pos h1, Nat.div_eq_of_lt h1]; rfl
  · rw [if_neg h1]; exact h.words (by omega)
theorem StIs.zero : StIs [] (List.replicate 8 0) (List.replicate 64 0) := ⟨by simp, by simp, by simp, fun h => by simp at h⟩
/-- Bytes written into the 64 places from h on. -/
def fillR (rest : List UInt8) (h : Nat) (q : List UInt8) : List UInt8 := rest.take h ++ (q ++ rest.drop (h + q.length))
theorem fillR_length (rest : List UInt8) (h : Nat) (q : List UInt8) (hq : h + q.length ≤ rest.length) : (fillR rest h q).length = rest.length := by
  simp [fillR]; omega
theorem fillR_take (rest : List UInt8) (h : Nat) (q : List UInt8) (hq : h + q.length ≤ rest.length) : (fillR rest h q).take (h + q.length) = rest.take h ++ q := by
  unfold fillR
  rw [← List.append_assoc]
  have : (rest.take h ++ q).length = h + q.length := by simp; omega
  rw [← this, List.take_left]
theorem StIs.part {bs q : List UInt8} {ws : List (BitVec 32)} {rest : List UInt8} (h : StIs bs ws rest) (hq : bs.length % 64 + q.length < 64) : StIs (bs ++ q) ws (fillR rest (bs.length % 64) q) := by
  have e1 : (bs ++ q).length / 64 = bs.length / 64 := by simp; omega
  have e2 : (bs ++ q).length % 64 = bs.length % 64 + q.length := by simp; omega
  refine ⟨h.w8, by rw [fillR_length _ _ _ (by rw [h.r64]; omega)]; exact h.r64, ?_, ?_⟩
  · rw [e1, e2, fillR_take _ _ _ (by rw [h.r64]; omega), h.tail, List.drop_append_of_le_length (by omega)]
  · intro h64
    rw [e1, hs_append _ _ _ (by omega)]
    exact h.words (by have := e1; simp at h64; omega)
theorem StIs.full {bs q : List UInt8} {ws : List (BitVec 32)} {rest : List UInt8} (h : StIs bs ws rest) (hq : bs.length % 64 + q.length = 64) :
    StIs (bs ++ q) (mix (hs (bs.length / 64) bs) (fillR rest (bs.length % 64) q)) (fillR rest (bs.length % 64) q) := by
  have e1 : (bs ++ q).length / 64 = bs.length / 64 + 1 := by simp; omega
  have e2 : (bs ++ q).length % 64 = 0 := by simp; omega
  have hb : fillR rest (bs.length % 64) q = blk (bs.length / 64) (bs ++ q) := by
    have t := fillR_take rest (bs.length % 64) q (by rw [h.r64]; omega)
    have l := fillR_length rest (bs.length % 64) q (by rw [h.r64]; omega)
    rw [hq, List.take_of_length_le (by rw [l, h.r64]; omega), h.tail] at t
    rw [t]
    unfold blk
    rw [List.drop_append_of_le_length (by omega), List.take_of_length_le (by simp; omega)]
  refine ⟨by rw [mix_length]; exact hs_length _ _, by rw [fillR_length _ _ _ (by rw [h.r64]; omega)]; exact h.r64, ?_, ?_⟩
  · rw [e1, e2, List.take_zero, List.drop_of_length_le (by simp; omega)]
  · intro _
    rw [e1, hs, hs_append _ _ _ (by omega), ← hb]

/-- A state's cells. -/
def stC (ws : List (BitVec 32)) (rest : List UInt8) (t : Nat) : Array Value := ((u32s ws).toList ++ ((u8s rest).toList ++ [Value.int .u64 (t : Int)])).toArray
theorem stC_words (ws : List (BitVec 32)) (rest : List UInt8) (t : Nat) (i : Nat) (h8 : ws.length = 8) (hi : i < 8) : (stC ws rest t)[i]? = some (.int .u32 (uv (ws.getD i 0))) := by
  rw [stC, List.getElem?_toArray, List.getElem?_append_left (by simp [u32s_size]; omega)]
  have := u32s_get ws i (by omega)
  rwa [← Array.getElem?_toList] at this
theorem stC_rest (ws : List (BitVec 32)) (rest : List UInt8) (t : Nat) (i : Nat) (h8 : ws.length = 8) (h64 : rest.length = 64) (hi : i < 64) : (stC ws rest t)[8 + i]? = some (.int .u8 (ub (rest.getD i 0))) := by
  rw [stC, List.getElem?_toArray, List.getElem?_append_right (by simp [u32s_size]; omega)]
  rw [List.getElem?_append_left (by simp [u32s_size, u8s_size]; omega)]
  have := u8s_get rest i (by omega)
  rw [← Array.getElem?_toList] at this
  rw [show 8 + i - (u32s ws).toList.length = i by simp [u32s_size]; omega]
  exact this
theorem stC_told (ws : List (BitVec 32)) (rest : List UInt8) (t : Nat) (h8 : ws.length = 8) (h64 : rest.length = 64) : (stC ws rest t)[72]? = some (.int .u64 (t : Int)) := by
  rw [stC, List.getElem?_toArray, List.getElem?_append_right (by simp [u32s_size]; omega), List.getElem?_append_right (by simp [u32s_size, u8s_size]; omega)]
  simp [u32s_size, u8s_size, h8, h64]
theorem stC_size (ws : List (BitVec 32)) (rest : List UInt8) (t : Nat) (h8 : ws.length = 8) (h64 : rest.length = 64) : (stC ws rest t).size = 73 := by
  simp [stC, u32s_size, u8s_size, h8, h64]
/-- Bytes written into a state's places. -/
theorem stC_fill (ws : List (BitVec 32)) (rest : List UInt8) (t : Nat) (h : Nat) (q : List UInt8) (h8 : ws.length = 8) (h64 : rest.length = 64) (hq : h + q.length ≤ 64) :
    ((stC ws rest t).toList.take (8 + h) ++ ((u8s q).toList ++ (stC ws rest t).toList.drop (8 + h + (u8s q).toList.length))).toArray = stC ws (fillR rest h q) t := by
  have lw : (u32s ws).toList.length = 8 := by simp [u32s_size, h8]
  have lr : (u8s rest).toList.length = 64 := by simp [u8s_size, h64]
  have lq : (u8s q).toList.length = q.length := by simp [u8s_size]
  have m : ∀ l : List UInt8, (u8s l).toList = l.map fun x => Value.int .u8 (ub x) := fun l => by simp [u8s]
  unfold stC
  congr 1
  rw [show ((u32s ws).toList ++ ((u8s rest).toList ++ [Value.int .u64 (t : Int)])).toArray.toList = (u32s ws).toList ++ ((u8s rest).toList ++ [Value.int .u64 (t : Int)]) from rfl]
  rw [List.take_append, List.drop_append, lw, List.take_of_length_le (by omega), List.drop_of_length_le (by omega), List.nil_append]
  rw [show 8 + h - 8 = h by omega, show 8 + h + (u8s q).toList.length - 8 = h + q.length by omega]
  rw [List.take_append_of_le_length (by omega), List.drop_append_of_le_length (by omega)]
  simp only [fillR, m, List.map_append, List.map_take, List.map_drop, List.append_assoc]
theorem stC_set (ws : List (BitVec 32)) (rest : List UInt8) (t t' : Nat) (h8 : ws.length = 8) (h64 : rest.length = 64) : (stC ws rest t).setIfInBounds 72 (.int .u64 (t' : Int)) = stC ws rest t' := by
  have lw : (u32s ws).toList.length = 8 := by simp [u32s_size, h8]
  have lr : (u8s rest).toList.length = 64 := by simp [u8s_size, h64]
  unfold stC
  rw [List.setIfInBounds_toArray, List.set_append_right _ _ (by omega), List.set_append_right _ _ (by omega), lw, lr]
  rfl
theorem stC_spl (ws vs : List (BitVec 32)) (rest : List UInt8) (t : Nat) (h8 : ws.length = 8) (hv : vs.length = 8) : spl (stC ws rest t) 0 (u32s vs).toList = stC vs rest t := by
  have lw : (u32s ws).toList.length = 8 := by simp [u32s_size, h8]
  have lv : (u32s vs).toList.length = 8 := by simp [u32s_size, hv]
  apply Array.ext_getElem?
  intro i
  rw [spl_get, lv]
  have sz : (stC ws rest t).size = 8 + ((u8s rest).toList ++ [Value.int .u64 (t : Int)]).length := by unfold stC; rw [List.size_toArray, List.length_append, lw]
  by_cases hi : i < 8
  · rw [if_pos (by omega), stC, List.getElem?_toArray, List.getElem?_append_left (by omega)]; rfl
  · rw [if_neg (by omega)]
    unfold stC
    generalize (u8s rest).toList ++ [Value.int .u64 (t : Int)] = tl
    rw [List.getElem?_toArray, List.getElem?_toArray, List.getElem?_append_right (by omega), List.getElem?_append_right (by omega), lw, lv]
end Go.Proofs.YtkfgpnigeknhmaaDoor
