/-
  SHA-256 as plain functions on lists, and cells that hold lists of words and of bytes.
-/
import Derived.Test.YtkfgpnigeknhmaaDoorBv
import Derived.Laws.Rows
import Derived.Below
namespace Go.Proofs.YtkfgpnigeknhmaaDoor
open Go Go.RowKit
/-- Numbers of 32 bits as cells. -/
def u32s (l : List (BitVec 32)) : Array Value := (l.map fun x => Value.int .u32 (uv x)).toArray
/-- Bytes as cells. -/
def u8s (l : List UInt8) : Array Value := (l.map fun x => Value.int .u8 (ub x)).toArray
theorem u32s_get (l : List (BitVec 32)) (i : Nat) (h : i < l.length) : (u32s l)[i]? = some (.int .u32 (uv (l.getD i 0))) := by
  simp [u32s, h]
theorem u8s_get (l : List UInt8) (i : Nat) (h : i < l.length) : (u8s l)[i]? = some (.int .u8 (ub (l.getD i 0))) := by
  simp [u8s, h]
theorem u32s_set (l : List (BitVec 32)) (i : Nat) (x : BitVec 32) : (u32s l).setIfInBounds i (.int .u32 (uv x)) = u32s (l.set i x) := by
  simp [u32s, List.map_set]
theorem u8s_set (l : List UInt8) (i : Nat) (x : UInt8) : (u8s l).setIfInBounds i (.int .u8 (ub x)) = u8s (l.set i x) := by
  simp [u8s, List.map_set]
theorem u32s_size (l : List (BitVec 32)) : (u32s l).size = l.length := by simp [u32s]
theorem u8s_size (l : List UInt8) : (u8s l).size = l.length := by simp [u8s]

theorem hold (w : World) (o : Obj) (i : Nat) (h : i < w.heap.size) : (w.alloc o).heap[i]? = w.heap[i]? := by
  show (w.heap.push o)[i]? = w.heap[i]?
  rw [Array.getElem?_push, if_neg (Nat.ne_of_lt h)]
theorem hnew (w : World) (o : Obj) (i : Nat) (h : i = w.heap.size) : (w.alloc o).heap[i]? = some o := by
  subst h
  show (w.heap.push o)[w.heap.size]? = some o
  simp
/-- Two turns and a shift. -/
def sig (x : BitVec 32) (a b c : Nat) : BitVec 32 := x.rotateRight a ^^^ x.rotateRight b ^^^ x >>> c
/-- Three turns. -/
def tur (x : BitVec 32) (a b c : Nat) : BitVec 32 := x.rotateRight a ^^^ x.rotateRight b ^^^ x.rotateRight c

/-- A block's word i. -/
def blockWord (bs : List UInt8) (i : Nat) : BitVec 32 := be32 (bs.getD (4 * i) 0) (bs.getD (4 * i + 1) 0) (bs.getD (4 * i + 2) 0) (bs.getD (4 * i + 3) 0)
/-- The word that is made of the sixteen ahead of it. -/
def nextWord (l : List (BitVec 32)) (i : Nat) : BitVec 32 := l.getD (i - 16) 0 + sig (l.getD (i - 15) 0) 7 18 3 + l.getD (i - 7) 0 + sig (l.getD (i - 2) 0) 17 19 10
/-- The 64 words' places when k of the first sixteen are filled. -/
def fillW (bs : List UInt8) : Nat → List (BitVec 32)
  | 0 => List.replicate 64 0
  | k + 1 => (fillW bs k).set k (blockWord bs k)
/-- .. and k of the others. -/
def moreW (bs : List UInt8) : Nat → List (BitVec 32)
  | 0 => fillW bs 16
  | k + 1 => (moreW bs k).set (16 + k) (nextWord (moreW bs k) (16 + k))
/-- The 64 words of a block. -/
def words (bs : List UInt8) : List (BitVec 32) := moreW bs 48
theorem fillW_length (bs : List UInt8) (k : Nat) : (fillW bs k).length = 64 := by
  induction k with
  | zero => rfl
  | succ k ih => simp [fillW, ih]
theorem moreW_length (bs : List UInt8) (k : Nat) : (moreW bs k).length = 64 := by
  induction k with
  | zero => exact fillW_length bs 16
  | succ k ih => simp [moreW, ih]
theorem words_length (bs : List UInt8) : (words bs).length = 64 := moreW_length bs 48
/-- The words of the rounds. -/
def kTab : List (BitVec 32) := [0x428a2f98, 0x71374491, 0xb5c0fbcf, 0xe9b5dba5, 0x3956c25b, 0x59f111f1, 0x923f82a4, 0xab1c5ed5, 0xd807aa98, 0x12835b01, 0x243185be, 0x550c7dc3, 0x72be5d74, 0x80deb1fe, 0x9bdc06a7, 0xc19bf174, 0xe49b69c1, 0xefbe4786, 0x0fc19dc6, 0x240ca1cc, 0x2de92c6f, 0x4a7484aa, 0x5cb0a9dc, 0x76f988da, 0x983e5152, 0xa831c66d, 0xb00327c8, 0xbf597fc7, 0xc6e00bf3, 0xd5a79147, 0x06ca6351, 0x14292967, 0x27b70a85, 0x2e1b2138, 0x4d2c6dfc, 0x53380d13, 0x650a7354, 0x766a0abb, 0x81c2c92e, 0x92722c85, 0xa2bfe8a1, 0xa81a664b, 0xc24b8b70, 0xc76c51a3, 0xd192e819, 0xd6990624, 0xf40e3585, 0x106aa070, 0x19a4c116, 0x1e376c08, 0x2748774c, 0x34b0bcb5, 0x391c0cb3, 0x4ed8aa4a, 0x5b9cca4f, 0x682e6ff3, 0x748f82ee, 0x78a5636f, 0x84c87814, 0x8cc70208, 0x90befffa, 0xa4506ceb, 0xbef9a3f7, 0xc67178f2]
/-- The words to begin with. -/
def hTab : List (BitVec 32) := [0x6a09e667, 0xbb67ae85, 0x3c6ef372, 0xa54ff53a, 0x510e527f, 0x9b05688c, 0x1f83d9ab, 0x5be0cd19]
/-- The eight words of a round. -/
structure Eight where
  a : BitVec 32
  b : BitVec 32
  c : BitVec 32
  d : BitVec 32
  e : BitVec 32
  f : BitVec 32
  g : BitVec 32
  h : BitVec 32
/-- One round. -/
def low (s : Eight) (x k : BitVec 32) : BitVec 32 := s.h + x + k + tur s.e 6 11 25 + ((s.e &&& s.f) ^^^ (~~~ s.e &&& s.g))
def high (s : Eight) : BitVec 32 := tur s.a 2 13 22 + ((s.a &&& s.b) ^^^ (s.a &&& s.c) ^^^ (s.b &&& s.c))
def step (s : Eight) (x k : BitVec 32) : Eight := ⟨low s x k + high s, s.a, s.b, s.c, s.d + low s x k, s.e, s.f, s.g⟩
/-- The first n rounds. -/
def rnds (bs : List UInt8) (s : Eight) : Nat → Eight
  | 0 => s
  | n + 1 => step (rnds bs s n) ((words bs).getD n 0) (kTab.getD n 0)
def eightOf (l : List (BitVec 32)) : Eight := ⟨l.getD 0 0, l.getD 1 0, l.getD 2 0, l.getD 3 0, l.getD 4 0, l.getD 5 0, l.getD 6 0, l.getD 7 0⟩
def Eight.list (s : Eight) : List (BitVec 32) := [s.a, s.b, s.c, s.d, s.e, s.f, s.g, s.h]
/-- Words to which others have been added at the first n places. -/
def addW (l m : List (BitVec 32)) : Nat → List (BitVec 32)
  | 0 => l
  | n + 1 => (addW l m n).set n ((addW l m n).getD n 0 + m.getD n 0)
/-- The words behind one more block. -/
def mix (l : List (BitVec 32)) (bs : List UInt8) : List (BitVec 32) := addW l (rnds bs (eightOf l) 64).list 8
theorem addW_length (l m : List (BitVec 32)) (n : Nat) : (addW l m n).length = l.length := by
  induction n with
  | zero => rfl
  | succ n ih => simp [addW, ih]
theorem mix_length (l : List (BitVec 32)) (bs : List UInt8) : (mix l bs).length = l.length := addW_length _ _ _
end Go.Proofs.YtkfgpnigeknhmaaDoor
