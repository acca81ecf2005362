/-
  Words of 32 bits, SHA-256 as plain functions, and the walks of a block.
-/
import Derived.Laws.BitsAllLaws
import Derived.IntWalk
import Derived.Laws.Rows
import Derived.Below
import Derived.Test.YtaoekfomffebhaaDoorProg
import Derived.Test.YtaoekfomffebhaaDoorCa
import Derived.WalkKit
import Derived.ProofKit
import Derived.Handy
import Derived.PlainAid
import Derived.WalkLawsBesides
import Derived.Outline
import Derived.BigQuiet
import Derived.Deep.QuietTactic
import Derived.Lib.Hide
import Derived.Deep.MidRow
import Derived.Deep.RegionHeld3
import Derived.Deep.DrawnRows
import Derived.Deep.Cut
import Derived.Laws.MakeOwn
import Derived.Laws.CopyOwn
namespace Go.Proofs.YtaoekfomffebhaaDoor
open Go

theorem u32_add (x y : BitVec 32) : IntKind.u32.wrap ((x.toNat : Int) + (y.toNat : Int)) = ((x + y).toNat : Int) := by
  rw [IntKind.wrap_u32', BitVec.toNat_add]; omega
theorem u32_andb (x y : BitVec 32) : bits .and .u32 (x.toNat : Int) (y.toNat : Int) = ((x &&& y).toNat : Int) := by
  rw [u32_and_nat _ _ x.isLt y.isLt, BitVec.toNat_and]
theorem u32_orb (x y : BitVec 32) : bits .or .u32 (x.toNat : Int) (y.toNat : Int) = ((x ||| y).toNat : Int) := by
  rw [u32_or_nat _ _ x.isLt y.isLt, BitVec.toNat_or]
theorem u32_xorb (x y : BitVec 32) : bits .xor .u32 (x.toNat : Int) (y.toNat : Int) = ((x ^^^ y).toNat : Int) := by
  rw [u32_xor_nat _ _ x.isLt y.isLt, BitVec.toNat_xor]
theorem u32_shr (x : BitVec 32) (k : Nat) : (x.toNat : Int) / 2 ^ k = ((x >>> k).toNat : Int) := by
  rw [BitVec.toNat_ushiftRight, Nat.shiftRight_eq_div_pow]
  simp
theorem u32_shl (x : BitVec 32) (k : Nat) : IntKind.u32.wrap ((x.toNat : Int) * 2 ^ k) = ((x <<< k).toNat : Int) := by
  rw [IntKind.wrap_u32', BitVec.toNat_shiftLeft, Nat.shiftLeft_eq]
  simp
theorem u32_addm (x y : BitVec 32) : ((x.toNat : Int) + (y.toNat : Int)) % 4294967296 = ((x + y).toNat : Int) := by rw [← u32_add, IntKind.wrap_u32']
theorem u32_shlm (x : BitVec 32) (k : Nat) : (x.toNat : Int) * 2 ^ k % 4294967296 = ((x <<< k).toNat : Int) := by rw [← u32_shl, IntKind.wrap_u32']
theorem rot_or (x : BitVec 32) (k : Nat) (h1 : k < 32) : x <<< (32 - k) ||| x >>> k = x.rotateRight k := by
  rw [BitVec.rotateRight_def, Nat.mod_eq_of_lt h1, BitVec.or_comm]
theorem rot_count (k : Nat) (h0 : 0 < k) (h1 : k < 32) : bits .and .u64 (IntKind.u64.wrap (-(k : Int))) 31 = ((32 - k : Nat) : Int) := by
  have e : IntKind.u64.wrap (-(k : Int)) = ((18446744073709551616 - k : Nat) : Int) := by rw [IntKind.wrap_u64]; omega
  rw [e]
  have := u64_and_nat (18446744073709551616 - k) 31 (by omega) (by omega)
  rw [show ((31 : Nat) : Int) = 31 from rfl] at this
  rw [this, show (31 : Nat) = 2 ^ 5 - 1 from rfl, Nat.and_two_pow_sub_one_eq_mod]
  omega
/-- A number of 32 bits as the model's integer; kept shut, so that nothing is rewritten inside it. -/
def uv (x : BitVec 32) : Int := (x.toNat : Int)
theorem uv_nonneg (x : BitVec 32) : 0 ≤ uv x := by unfold uv; omega
theorem uv_le (x : BitVec 32) : uv x ≤ 4294967295 := by unfold uv; have := x.isLt; omega
theorem uv_add (x y : BitVec 32) : (uv x + uv y) % 4294967296 = uv (x + y) := u32_addm x y
theorem uv_and (x y : BitVec 32) : bits .and .u32 (uv x) (uv y) = uv (x &&& y) := u32_andb x y
theorem uv_or (x y : BitVec 32) : bits .or .u32 (uv x) (uv y) = uv (x ||| y) := u32_orb x y
theorem uv_xor (x y : BitVec 32) : bits .xor .u32 (uv x) (uv y) = uv (x ^^^ y) := u32_xorb x y
theorem uv_shr (x : BitVec 32) (k : Nat) : uv x / 2 ^ k = uv (x >>> k) := u32_shr x k
theorem uv_shl (x : BitVec 32) (k : Nat) : uv x * 2 ^ k % 4294967296 = uv (x <<< k) := u32_shlm x k
/-- A byte, as a number of 32 bits. -/
def wide (b : UInt8) : BitVec 32 := b.toBitVec.zeroExtend 32
theorem ub_wide (b : UInt8) : ub b = uv (wide b) := by
  unfold ub uv wide
  rw [BitVec.toNat_setWidth, UInt8.toNat_toBitVec]
  have := b.toNat_lt
  rw [Nat.mod_eq_of_lt (by omega)]
theorem uv_mod (x : BitVec 32) : uv x % 4294967296 = uv x := by have := uv_nonneg x; have := uv_le x; omega
/-- Four bytes, the highest first, as a number of 32 bits. -/
def be32 (a b c d : UInt8) : BitVec 32 := ((wide a <<< 24 ||| wide b <<< 16) ||| wide c <<< 8) ||| wide d
end Go.Proofs.YtaoekfomffebhaaDoor
namespace Go.Proofs.YtaoekfomffebhaaDoor
open Go Go.RowKit
/-- Numbers of 32 bits as cells. -/
def u32s (l : List (BitVec 32)) : Array Value := (l.map fun x => Value.int .u32 (uv x)).toArray
theorem u32s_get (l : List (BitVec 32)) (i : Nat) (h : i < l.length) : (u32s l)[i]? = some (.int .u32 (uv (l.getD i 0))) := by
  simp [u32s, h]
theorem u32s_set (l : List (BitVec 32)) (i : Nat) (x : BitVec 32) : (u32s l).setIfInBounds i (.int .u32 (uv x)) = u32s (l.set i x) := by
  simp [u32s, List.map_set]
theorem u32s_size (l : List (BitVec 32)) : (u32s l).size = l.length := by simp [u32s]
/-- Two turns and a shift. -/
def sig (x : BitVec 32) (a b c : Nat) : BitVec 32 := x.rotateRight a ^^^ x.rotateRight b ^^^ x >>> c
/-- Three turns. -/
def tur (x : BitVec 32) (a b c : Nat) : BitVec 32 := x.rotateRight a ^^^ x.rotateRight b ^^^ x.rotateRight c

/-- A block's word i. -/
def blockWord (bs : List UInt8) (i : Nat) : BitVec 32 := be32 (bs.getD (4 * i) 0) (bs.getD (4 * i + 1) 0) (bs.getD (4 * i + 2) 0) (bs.getD (4 * i + 3) 0)
/-- The word that is made of the sixteen ahead of it. -/
def nextWord (l : List (BitVec 32)) (i : Nat) : BitVec 32 := l.getD (i - 16) 0 + sig (l.getD (i - 15) 0) 7 18 3 + l.getD (i - 7) 0 + sig (l.getD (i - 2) 0) 17 19 10
/-- The 64 words' places when k of the first sixteen are filled. -/
def fillW (bs : List UInt8) : Nat → List (BitVec 32)
  | 0 => List.replicate 64 0
  | k + 1 => (fillW bs k).set k (blockWord bs k)
/-- .. and k of the others. -/
def moreW (bs : List UInt8) : Nat → List (BitVec 32)
  | 0 => fillW bs 16
  | k + 1 => (moreW bs k).set (16 + k) (nextWord (moreW bs k) (16 + k))
/-- The 64 words of a block. -/
def words (bs : List UInt8) : List (BitVec 32) := moreW bs 48
theorem fillW_length (bs : List UInt8) (k : Nat) : (fillW bs k).length = 64 := by
  induction k with
  | zero => rfl
  | succ k ih => simp [fillW, ih]
theorem moreW_length (bs : List UInt8) (k : Nat) : (moreW bs k).length = 64 := by
  induction k with
  | zero => exact fillW_length bs 16
  | succ k ih => simp [moreW, ih]
theorem words_length (bs : List UInt8) : (words bs).length = 64 := moreW_length bs 48
/-- The words of the rounds. -/
def kTab : List (BitVec 32) := [0x428a2f98, 0x71374491, 0xb5c0fbcf, 0xe9b5dba5, 0x3956c25b, 0x59f111f1, 0x923f82a4, 0xab1c5ed5, 0xd807aa98, 0x12835b01, 0x243185be, 0x550c7dc3, 0x72be5d74, 0x80deb1fe, 0x9bdc06a7, 0xc19bf174, 0xe49b69c1, 0xefbe4786, 0x0fc19dc6, 0x240ca1cc, 0x2de92c6f, 0x4a7484aa, 0x5cb0a9dc, 0x76f988da, 0x983e5152, 0xa831c66d, 0xb00327c8, 0xbf597fc7, 0xc6e00bf3, 0xd5a79147, 0x06ca6351, 0x14292967, 0x27b70a85, 0x2e1b2138, 0x4d2c6dfc, 0x53380d13, 0x650a7354, 0x766a0abb, 0x81c2c92e, 0x92722c85, 0xa2bfe8a1, 0xa81a664b, 0xc24b8b70, 0xc76c51a3, 0xd192e819, 0xd6990624, 0xf40e3585, 0x106aa070, 0x19a4c116, 0x1e376c08, 0x2748774c, 0x34b0bcb5, 0x391c0cb3, 0x4ed8aa4a, 0x5b9cca4f, 0x682e6ff3, 0x748f82ee, 0x78a5636f, 0x84c87814, 0x8cc70208, 0x90befffa, 0xa4506ceb, 0xbef9a3f7, 0xc67178f2]
/-- The words to begin with. -/
def hTab : List (BitVec 32) := [0x6a09e667, 0xbb67ae85, 0x3c6ef372, 0xa54ff53a, 0x510e527f, 0x9b05688c, 0x1f83d9ab, 0x5be0cd19]
/-- The eight words of a round. -/
structure Eight where
  a : BitVec 32
  b : BitVec 32
  c : BitVec 32
  d : BitVec 32
  e : BitVec 32
  f : BitVec 32
  g : BitVec 32
  h : BitVec 32
/-- One round. -/
def low (s : Eight) (x k : BitVec 32) : BitVec 32 := s.h + x + k + tur s.e 6 11 25 + ((s.e &&& s.f) ^^^ (~~~ s.e &&& s.g))
def high (s : Eight) : BitVec 32 := tur s.a 2 13 22 + ((s.a &&& s.b) ^^^ (s.a &&& s.c) ^^^ (s.b &&& s.c))
def step (s : Eight) (x k : BitVec 32) : Eight := ⟨low s x k + high s, s.a, s.b, s.c, s.d + low s x k, s.e, s.f, s.g⟩
/-- The first n rounds. -/
def rnds (bs : List UInt8) (s : Eight) : Nat → Eight
  | 0 => s
  | n + 1 => step (rnds bs s n) ((words bs).getD n 0) (kTab.getD n 0)
def eightOf (l : List (BitVec 32)) : Eight := ⟨l.getD 0 0, l.getD 1 0, l.getD 2 0, l.getD 3 0, l.getD 4 0, l.getD 5 0, l.getD 6 0, l.getD 7 0⟩
def Eight.list (s : Eight) : List (BitVec 32) := [s.a, s.b, s.c, s.d, s.e, s.f, s.g, s.h]
/-- Words to which others have been added at the first n places. -/
def addW (l m : List (BitVec 32)) : Nat → List (BitVec 32)
  | 0 => l
  | n + 1 => (addW l m n).set n ((addW l m n).getD n 0 + m.getD n 0)
/-- The words behind one more block. -/
def mix (l : List (BitVec 32)) (bs : List UInt8) : List (BitVec 32) := addW l (rnds bs (eightOf l) 64).list 8
theorem addW_length (l m : List (BitVec 32)) (n : Nat) : (addW l m n).length = l.length := by
  induction n with
  | zero => rfl
  | succ n ih => simp [addW, ih]
theorem mix_length (l : List (BitVec 32)) (bs : List UInt8) : (mix l bs).length = l.length := addW_length _ _ _
end Go.Proofs.YtaoekfomffebhaaDoor
namespace Go.Proofs.YtaoekfomffebhaaDoor
open Go Go.RowKit

theorem ret_u32 {a b : Int} (h : a = b) : Ending.returned (.int .u32 a) = .returned (.int .u32 b) := by rw [h]
theorem rotl_any (x : BitVec 32) (k : Nat) (w : World) (h0 : 0 < k) (h1 : k < 32) :
    Calls Tryd.prog 99 #[.int .u32 (uv x), .int .i64 (-(k : Int))] w fun e w' => e = .returned (.int .u32 (uv (x.rotateRight k))) ∧ w = w' := by
  have hb := rot_count k h0 h1
  have h2 : (0 : Int) ≤ ((32 - k : Nat) : Int) := by omega
  have h3 : ((32 - k : Nat) : Int) ≤ 32 := by omega
  have h4 : IntKind.u64.wrap (32 - ((32 - k : Nat) : Int)) = (k : Int) := by rw [IntKind.wrap_u64]; omega
  go_enter Tryd.func99, Tryd.ntmps99
  go_wp2
  go_ret
  exact ⟨ret_u32 (by rw [uv_shl, uv_shr, uv_or, rot_or x k h1]), rfl⟩
theorem rotl_q (x : BitVec 32) (k : Nat) (w : World) (h0 : 0 < k) (h1 : k < 32) :
    Calls Tryd.prog 99 #[.int .u32 (uv x), .int .i64 (-(k : Int))] w fun e w' => e = .returned (.int .u32 (uv (x.rotateRight k))) ∧ ∃ m, w' = w.drewN m :=
  (rotl_any x k w h0 h1).mono fun _ _ ⟨he, hw⟩ => ⟨he, 0, hw.symm⟩

theorem sigma_any (x : BitVec 32) (a b c : Nat) (w : World) (ha : 0 < a) (ha' : a < 32) (hb : 0 < b) (hb' : b < 32) (hc : c < 32) :
    Calls Tryd.prog 104 #[.int .u32 (uv x), .int .i64 (a : Int), .int .i64 (b : Int), .int .i64 (c : Int)] w fun e w' => e = .returned (.int .u32 (uv (sig x a b c))) ∧ ∃ n, w' = w.drewN n := by
  have h2 : (0 : Int) ≤ (c : Int) := by omega
  have h3 : (c : Int) ≤ 32 := by omega
  have h4 : IntKind.i64.wrap (-(a : Int)) = -(a : Int) := IntWalk.i64_in _ (by omega)
  have h5 : IntKind.i64.wrap (-(b : Int)) = -(b : Int) := IntWalk.i64_in _ (by omega)
  go_enter Tryd.func104, Tryd.ntmps104
  go_wp2
  go_quiet ((go_at_call 99; exact Calls.quiet_of (rotl_q _ _ _ (by omega) (by omega))))
  go_wp2
  go_ret
  exact ⟨ret_u32 (by rw [uv_shr, uv_xor, uv_xor]; rfl), _, rfl⟩

theorem turn_any (x : BitVec 32) (a b c : Nat) (w : World) (ha : 0 < a) (ha' : a < 32) (hb : 0 < b) (hb' : b < 32) (hc : 0 < c) (hc' : c < 32) :
    Calls Tryd.prog 98 #[.int .u32 (uv x), .int .i64 (a : Int), .int .i64 (b : Int), .int .i64 (c : Int)] w fun e w' => e = .returned (.int .u32 (uv (tur x a b c))) ∧ w = w' := by
  go_enter Tryd.func98, Tryd.ntmps98
  go_wp2_with (go_at_call 99; refine (rotl_any x _ _ (by omega) (by omega)).mono ?_; rintro e w' ⟨rfl, rfl⟩)
  go_ret
  exact ⟨ret_u32 (by rw [uv_xor, uv_xor]; rfl), rfl⟩

theorem get32_any (b off len cap : Nat) (x0 x1 x2 x3 : UInt8) (w : World) (hl : 4 ≤ len) (h0 : w.cell? ⟨b, off, none⟩ = some (.int .u8 (ub x0))) (h1 : w.cell? ⟨b, off + 1, none⟩ = some (.int .u8 (ub x1))) (h2 : w.cell? ⟨b, off + 2, none⟩ = some (.int .u8 (ub x2))) (h3 : w.cell? ⟨b, off + 3, none⟩ = some (.int .u8 (ub x3))) :
    Calls Tryd.prog 103 #[.slice (some ⟨b, off, none⟩) len cap] w fun e w' => e = .returned (.int .u32 (uv (be32 x0 x1 x2 x3))) ∧ ∃ n, w' = w.drewN n := by
  have g0 : (0 : Int) < (len : Int) := by omega
  have g1 : (1 : Int) < (len : Int) := by omega
  have g2 : (2 : Int) < (len : Int) := by omega
  have g3 : (3 : Int) < (len : Int) := by omega
  go_enter Tryd.func103, Tryd.ntmps103
  go_wp2
  go_quiet (fail)
  go_wp2
  go_ret
  refine ⟨ret_u32 ?_, _, rfl⟩
  have k24 := fun x => uv_shl x 24
  have k16 := fun x => uv_shl x 16
  have k8 := fun x => uv_shl x 8
  simp only [Int.reducePow] at k24 k16 k8
  simp only [ub_wide, uv_mod, k24, k16, k8, uv_or]
  rfl

/-- The world behind four bytes that were put. -/
def put4 (w : World) (b off : Nat) (x : BitVec 32) : World :=
  (((w.setCell ⟨b, off, none⟩ (.int .u8 (ub (byteOf x 3)))).setCell ⟨b, off + 1, none⟩ (.int .u8 (ub (byteOf x 2)))).setCell ⟨b, off + 2, none⟩ (.int .u8 (ub (byteOf x 1)))).setCell ⟨b, off + 3, none⟩ (.int .u8 (ub (byteOf x 0)))
end Go.Proofs.YtaoekfomffebhaaDoor
namespace Go.Proofs.YtaoekfomffebhaaDoor
open Go Go.RowKit
theorem one_u32s (l : List (BitVec 32)) : (u32s l).all (·.oneCell') = true := by
  simp [u32s, Value.oneCell']
end Go.Proofs.YtaoekfomffebhaaDoor
namespace Go.Proofs.YtaoekfomffebhaaDoor
open Go Go.RowKit
/-- 'x[l:]' of an array of 64 bytes, l inside it. -/
theorem sl64 (W : World) (b o n : Nat) (l : Int) (hl : l = (n : Int)) (hn : n < 64) :
    (Instr.sliceAt 124 (.pointer (some ⟨b, o, none⟩)) (some (.int .i64 l)) none none).run Tryd.prog W = .ok (.slice (some ⟨b, o + n, none⟩) (64 - n) (64 - n)) W := by
  subst hl
  have ha : Tryd.prog.arrayLen 124 = 64 := by kernel_rfl
  have he : Tryd.prog.elem 124 = 5 := by kernel_rfl
  have hs : ((sizeOf 5).run Tryd.prog W) = .ok 1 W := by kernel_rfl
  rw [run_sliceAt_array_l W 124 ⟨b, o, none⟩ (by rw [ha, he]; exact Tryd.underlying124) .i64 (n : Int) (by omega) (by rw [ha]; omega)]
  rw [he, hs, ha]
  have h1 : ¬ (64 = n) := by omega
  simp [slicedAt, h1, Result.andThen, Addr.add]
theorem sl64z (W : World) (b n : Nat) (l : Int) (hl : l = (n : Int)) (hn : n < 64) :
    (Instr.sliceAt 124 (.pointer (some ⟨b, 0, none⟩)) (some (.int .i64 l)) none none).run Tryd.prog W = .ok (.slice (some ⟨b, n, none⟩) (64 - n) (64 - n)) W := by
  have := sl64 W b 0 n l hl hn
  rwa [Nat.zero_add] at this
/-- The memory while a block's words are made. -/
def Spr (w : World) (bs : List UInt8) (l : List (BitVec 32)) (wr : World) : Prop :=
  Below w.heap.size w wr ∧ wr.heap.size = w.heap.size + 3 ∧ wr.heap[w.heap.size]? = some (.cells (u8s bs) 124 (0, 0)) ∧
  wr.heap[w.heap.size + 1]? = some (.cells (u32s (List.replicate 64 0)) 42 (0, 0)) ∧ wr.heap[w.heap.size + 1 + 1]? = some (.cells (u32s l) 42 (0, 0))
theorem Spr.step {w wr : World} {bs : List UInt8} {l : List (BitVec 32)} (h : Spr w bs l wr) (n k : Nat) (x : BitVec 32) :
    Spr w bs (l.set k x) ((wr.drewN n).setCell ⟨w.heap.size + 1 + 1, k, none⟩ (.int .u32 (uv x))) := by
  obtain ⟨h1, h2, h3, h4, h5⟩ := h
  refine ⟨(below_drewN h1 n).setCell (by simp only []; omega) _, by simpa using h2, ?_, ?_, ?_⟩
  · rw [heap_setCell_other _ _ _ _ (by simp only []; omega)]; exact h3
  · rw [heap_setCell_other _ _ _ _ (by simp only []; omega)]; exact h4
  · rw [heap_setCell_same (wr.drewN n) _ _ _ _ _ h5, u32s_set]
theorem Spr.start (w : World) (bs : List UInt8) : Spr w bs (List.replicate 64 0) (((w.alloc (.cells (u8s bs) 124)).alloc (.cells (u32s (List.replicate 64 0)) 42)).alloc (.cells (u32s (List.replicate 64 0)) 42)) := by
  refine ⟨(((Below.refl _ _).alloc (Nat.le_refl _) _).alloc (by simp) _).alloc (by simp; omega) _, by simp, ?_, ?_, ?_⟩
  · rw [hold _ _ _ (by simp; omega), hold _ _ _ (by simp), hnew _ _ _ rfl]
  · rw [hold _ _ _ (by simp), hnew _ _ _ (by simp)]
  · rw [hnew _ _ _ (by simp)]
theorem Spr.cell {w wr : World} {bs : List UInt8} {l : List (BitVec 32)} (h : Spr w bs l wr) (i : Nat) (hi : i < l.length) :
    wr.cell? ⟨w.heap.size + 1 + 1, i, none⟩ = some (.int .u32 (uv (l.getD i 0))) := by
  rw [cell_of_row _ _ _ _ _ _ h.2.2.2.2]; exact u32s_get _ _ hi
theorem Spr.frozen {w wr : World} {bs : List UInt8} {l : List (BitVec 32)} (h : Spr w bs l wr) (i : Nat) :
    wr.frozen? ⟨w.heap.size + 1 + 1, i, none⟩ = false := frozen_of_row _ _ _ _ _ h.2.2.2.2
theorem sigma_a (x : BitVec 32) (w : World) : Calls Tryd.prog 104 #[.int .u32 (uv x), .int .i64 7, .int .i64 18, .int .i64 3] w fun e w' => e = .returned (.int .u32 (uv (sig x 7 18 3))) ∧ ∃ n, w' = w.drewN n :=
  sigma_any x 7 18 3 w (by omega) (by omega) (by omega) (by omega) (by omega)
theorem sigma_b (x : BitVec 32) (w : World) : Calls Tryd.prog 104 #[.int .u32 (uv x), .int .i64 17, .int .i64 19, .int .i64 10] w fun e w' => e = .returned (.int .u32 (uv (sig x 17 19 10))) ∧ ∃ n, w' = w.drewN n :=
  sigma_any x 17 19 10 w (by omega) (by omega) (by omega) (by omega) (by omega)

theorem set4 {W : World} {B i a b c d : Nat} {x y z u v : Value} (ha : a ≠ i) (hb : b ≠ i) (hc : c ≠ i) (hd : d ≠ i)
    (h : W.cell? ⟨B, a, none⟩ = some x ∧ W.cell? ⟨B, b, none⟩ = some y ∧ W.cell? ⟨B, c, none⟩ = some z ∧ W.cell? ⟨B, d, none⟩ = some u) :
    (W.setCell ⟨B, i, none⟩ v).cell? ⟨B, a, none⟩ = some x ∧ (W.setCell ⟨B, i, none⟩ v).cell? ⟨B, b, none⟩ = some y ∧ (W.setCell ⟨B, i, none⟩ v).cell? ⟨B, c, none⟩ = some z ∧ (W.setCell ⟨B, i, none⟩ v).cell? ⟨B, d, none⟩ = some u := by
  have key : ∀ j, j ≠ i → (W.setCell ⟨B, i, none⟩ v).cell? ⟨B, j, none⟩ = W.cell? ⟨B, j, none⟩ := fun j hj => World.cell?_setCell_other _ _ _ _ (by intro e; injection e with _ e2; exact hj e2.symm)
  rw [key a ha, key b hb, key c hc, key d hd]
  exact h
attribute [local go_sem ↓] Go.wp_at_zero Go.wp_at_succ
set_option maxRecDepth 100000 in
set_option maxHeartbeats 1000000 in
theorem spread_any (bs : List UInt8) (w : World) (hl : bs.length = 64) :
    Calls Tryd.prog 100 #[.agg (u8s bs)] w fun e w' => e = .returned (.agg (u32s (words bs))) ∧ Below w.heap.size w w' := by
  have HL := Bx.mk hl
  clear hl
  go_enter Tryd.func100, Tryd.ntmps100
  go_wp2
  go_loopw [6] (fun i wr => ∃ k : Nat, k ≤ 16 ∧ i = .int .i64 k ∧ Spr w bs (fillW bs k) wr) (fun i _ => 16 - (intOf i).toNat)
  case atStart => exact ⟨0, Nat.zero_le _, rfl, Spr.start w bs⟩
  case round =>
    obtain ⟨k, hk, rfl, hs⟩ := hrel
    by_cases hlt : k < 16
    · have hsl := fun W => sl64z W w.heap.size (4 * k) (4 * (k : Int)) (by omega) (by omega)
      have c0 : wr.cell? ⟨w.heap.size, 4 * k, none⟩ = some (.int .u8 (ub (bs.getD (4 * k) 0))) := by
        rw [cell_of_row _ _ _ _ _ _ hs.2.2.1]; exact u8s_get _ _ (by rw [HL.out]; omega)
      have c1 : wr.cell? ⟨w.heap.size, 4 * k + 1, none⟩ = some (.int .u8 (ub (bs.getD (4 * k + 1) 0))) := by
        rw [cell_of_row _ _ _ _ _ _ hs.2.2.1]; exact u8s_get _ _ (by rw [HL.out]; omega)
      have c2 : wr.cell? ⟨w.heap.size, 4 * k + 2, none⟩ = some (.int .u8 (ub (bs.getD (4 * k + 2) 0))) := by
        rw [cell_of_row _ _ _ _ _ _ hs.2.2.1]; exact u8s_get _ _ (by rw [HL.out]; omega)
      have c3 : wr.cell? ⟨w.heap.size, 4 * k + 3, none⟩ = some (.int .u8 (ub (bs.getD (4 * k + 3) 0))) := by
        rw [cell_of_row _ _ _ _ _ _ hs.2.2.1]; exact u8s_get _ _ (by rw [HL.out]; omega)
      have cw := hs.cell k (by rw [fillW_length]; omega)
      have fw := hs.frozen k
      have HS := Bx.mk hs
      have hg : Bx (Calls Tryd.prog 103 #[.slice (some ⟨w.heap.size, 4 * k, none⟩) (64 - 4 * k) (64 - 4 * k)] wr fun e w' => e = .returned (.int .u32 (uv (blockWord bs k))) ∧ ∃ n, w' = wr.drewN n) :=
        Bx.mk (get32_any w.heap.size (4 * k) (64 - 4 * k) (64 - 4 * k) _ _ _ _ wr (by omega) c0 c1 c2 c3)
      clear hs c0 c1 c2 c3
      go_wp2_with fail
      refine hg.out.mono ?_
      rintro e w1 ⟨rfl, n, rfl⟩
      clear hg
      go_wp2
      go_roundw
      case rel => exact ⟨k + 1, by omega, by go_num, HS.out.step n k _⟩
      case measure => simp [intOf]; omega
    · have ek : k = 16 := by omega
      have HS : Bx (Spr w bs (fillW bs 16) wr) := Bx.mk (ek ▸ hs)
      clear ek
      clear hs
      obtain ⟨k0, rfl⟩ : ∃ k0 : Nat, k0 = k := ⟨_, rfl⟩
      obtain ⟨w0, rfl⟩ : ∃ w0 : World, w0 = wr := ⟨_, rfl⟩
      go_wp2
      go_loopw [5] (fun i wr => ∃ k : Nat, k ≤ 48 ∧ i = .int .i64 (16 + k : Nat) ∧ Spr w bs (moreW bs k) wr) (fun i _ => 64 - (intOf i).toNat)
      case atStart => exact ⟨0, Nat.zero_le _, rfl, HS.out⟩
      case round =>
        clear HS
        obtain ⟨k, hk, rfl, hs⟩ := hrel
        by_cases hlt : k < 48
        · have c0 := hs.cell (16 + k - 16) (by rw [moreW_length]; omega)
          have c1 := hs.cell (16 + k - 15) (by rw [moreW_length]; omega)
          have c2 := hs.cell (16 + k - 7) (by rw [moreW_length]; omega)
          have c3 := hs.cell (16 + k - 2) (by rw [moreW_length]; omega)
          have cw := hs.cell (16 + k) (by rw [moreW_length]; omega)
          have fw := hs.frozen (16 + k)
          have HS := Bx.mk hs
          clear hs
          obtain ⟨x0, hx0⟩ : ∃ x, (moreW bs k).getD (16 + k - 16) 0 = x := ⟨_, rfl⟩
          obtain ⟨x1, hx1⟩ : ∃ x, (moreW bs k).getD (16 + k - 15) 0 = x := ⟨_, rfl⟩
          obtain ⟨x2, hx2⟩ : ∃ x, (moreW bs k).getD (16 + k - 7) 0 = x := ⟨_, rfl⟩
          obtain ⟨x3, hx3⟩ : ∃ x, (moreW bs k).getD (16 + k - 2) 0 = x := ⟨_, rfl⟩
          obtain ⟨x4, hx4⟩ : ∃ x, (moreW bs k).getD (16 + k) 0 = x := ⟨_, rfl⟩
          have HN : Bx (nextWord (moreW bs k) (16 + k) = x0 + sig x1 7 18 3 + x2 + sig x3 17 19 10) := Bx.mk (by unfold nextWord; rw [hx0, hx1, hx2, hx3])
          rw [hx0] at c0
          rw [hx1] at c1
          rw [hx2] at c2
          rw [hx3] at c3
          rw [hx4] at cw
          clear hx0 hx1 hx2 hx3 hx4
          have HS2 : ∀ n, Bx (Spr w bs (moreW bs (k + 1)) ((wr.drewN n).setCell ⟨w.heap.size + 1 + 1, 16 + k, none⟩ (.int .u32 (uv (nextWord (moreW bs k) (16 + k)))))) := fun n => Bx.mk (HS.out.step n (16 + k) (nextWord (moreW bs k) (16 + k)))
          generalize hi : 16 + k = i at *
          have h64 : i < 64 := by omega
          have h16 : 16 ≤ i := by omega
          have HI := Bx.mk hi
          have HK := Bx.mk hlt
          have e16 : IntKind.i64.wrap ((i : Int) - 16) = ((i - 16 : Nat) : Int) := by rw [IntKind.wrap_i64]; omega
          have e15 : IntKind.i64.wrap ((i : Int) - 15) = ((i - 15 : Nat) : Int) := by rw [IntKind.wrap_i64]; omega
          have e7 : IntKind.i64.wrap ((i : Int) - 7) = ((i - 7 : Nat) : Int) := by rw [IntKind.wrap_i64]; omega
          have e2 : IntKind.i64.wrap ((i : Int) - 2) = ((i - 2 : Nat) : Int) := by rw [IntKind.wrap_i64]; omega
          have b16 : ((i - 16 : Nat) : Int) < 64 := by omega
          have b15 : ((i - 15 : Nat) : Int) < 64 := by omega
          have b7 : ((i - 7 : Nat) : Int) < 64 := by omega
          have b2 : ((i - 2 : Nat) : Int) < 64 := by omega
          have bi : (i : Int) < 64 := by omega
          have n16 : i - 16 ≠ i := by omega
          have n15 : i - 15 ≠ i := by omega
          have n7 : i - 7 ≠ i := by omega
          have n2 : i - 2 ≠ i := by omega
          clear hi hk hlt
          go_wp2
          go_region_held3 (fun w' => w'.cell? ⟨w.heap.size + 1 + 1, i - 16, none⟩ = some (.int .u32 (uv x0)) ∧ w'.cell? ⟨w.heap.size + 1 + 1, i - 15, none⟩ = some (.int .u32 (uv x1)) ∧ w'.cell? ⟨w.heap.size + 1 + 1, i - 7, none⟩ = some (.int .u32 (uv x2)) ∧ w'.cell? ⟨w.heap.size + 1 + 1, i - 2, none⟩ = some (.int .u32 (uv x3))) (first | exact set4 n16 n15 n7 n2 ⟨c0, c1, c2, c3⟩ | go_keep)
            (first | (go_at_call 104; (with_reducible refine (sigma_a _ _).mono ?_); rintro e w' ⟨rfl, n, rfl⟩) | (go_at_call 104; (with_reducible refine (sigma_b _ _).mono ?_); rintro e w' ⟨rfl, n, rfl⟩))
          go_wp2
          go_roundw
          case rel =>
            refine ⟨k + 1, by have := HK.out; omega, by have := HI.out; subst this; go_num, ?_⟩
            rw [uv_add, uv_add, uv_add, ← HN.out]
            exact (HS2 _).out
          case measure => simp [intOf]; omega
        · have hk48 : k = 48 := by omega
          rw [hk48] at hs
          clear hk48
          obtain ⟨l, hlw⟩ : ∃ l, moreW bs 48 = l := ⟨_, rfl⟩
          have HW : Bx (words bs = l) := Bx.mk hlw
          have HN : Bx (l.length = 64) := Bx.mk (by rw [← hlw]; exact moreW_length bs 48)
          rw [hlw] at hs
          clear hlw
          have HS := Bx.mk hs
          have HR := Bx.mk hs.2.2.2.2
          have HQ := Bx.mk hs.2.2.2.1
          clear hs
          have HI : Bx ((Tryd.prog.info? 42).map (·.size) = some (u32s (l)).size) := Bx.mk (by rw [u32s_size, HN.out]; kernel_rfl)
          have HT : Bx (wr.there (w.heap.size + 1) 0 (u32s l).size) := Bx.mk (there_row HQ.out 0 _ (by rw [u32s_size, u32s_size, HN.out]; simp))
          have HZ : Bx ((wr.setCells (w.heap.size + 1) 0 (u32s (l)).toList).heap[w.heap.size + 1]? = some (.cells (u32s (l)) 42 (0, 0))) := Bx.mk (heap_setCells_all HQ.out (by rw [u32s_size, u32s_size, HN.out]; simp))
          go_wp2_with (first | (refine wpList_load_row rfl 42 _ rfl (w.heap.size + 1 + 1) (by rfl) _ _ _ _ HR.out Tryd.underlying42 rfl HI.out ?_) | (refine wpList_store_mid rfl 42 _ _ rfl (w.heap.size + 1) 0 _ (by rfl) (by rfl) HT.out HI.out (one_u32s _) ?_))
          refine bodyPost_ret (results_cell_row rfl _ _ (w.heap.size + 1) _ (u32s (l)) _ _ rfl HZ.out Tryd.underlying42 rfl HI.out) rfl ?_
          exact ⟨by rw [HW.out], below_setCells (by omega) _ _ _ _ HS.out.1⟩
end Go.Proofs.YtaoekfomffebhaaDoor
namespace Go.Proofs.YtaoekfomffebhaaDoor
open Go Go.RowKit
/-- The program's table lies in its own block. -/
def Tab (w : World) : Prop := ∀ i, i < 64 → w.cell? ⟨1, i, none⟩ = some (.int .u32 (uv (kTab.getD i 0)))
theorem turn_a (x : BitVec 32) (w : World) : Calls Tryd.prog 98 #[.int .u32 (uv x), .int .i64 6, .int .i64 11, .int .i64 25] w fun e w' => e = .returned (.int .u32 (uv (tur x 6 11 25))) ∧ ∃ n, w' = w.drewN n :=
  (turn_any x 6 11 25 w (by omega) (by omega) (by omega) (by omega) (by omega) (by omega)).mono fun _ _ ⟨he, hw⟩ => ⟨he, 0, hw.symm⟩
theorem turn_b (x : BitVec 32) (w : World) : Calls Tryd.prog 98 #[.int .u32 (uv x), .int .i64 2, .int .i64 13, .int .i64 22] w fun e w' => e = .returned (.int .u32 (uv (tur x 2 13 22))) ∧ w = w' :=
  turn_any x 2 13 22 w (by omega) (by omega) (by omega) (by omega) (by omega) (by omega)
/-- The memory while a block is mixed in. -/
def Mxd (w : World) (l : List (BitVec 32)) (bs : List UInt8) (wr : World) : Prop :=
  Below w.heap.size w wr ∧ w.heap.size + 3 ≤ wr.heap.size ∧ wr.heap[w.heap.size]? = some (.cells (u32s l) 43 (0, 0)) ∧
  wr.heap[w.heap.size + 1]? = some (.cells (u8s bs) 124 (0, 0)) ∧ wr.heap[w.heap.size + 1 + 1]? = some (.cells (u32s (List.replicate 8 0)) 43 (0, 0))
theorem Mxd.start (w : World) (l : List (BitVec 32)) (bs : List UInt8) : Mxd w l bs (((w.alloc (.cells (u32s l) 43)).alloc (.cells (u8s bs) 124)).alloc (.cells (u32s (List.replicate 8 0)) 43)) := by
  refine ⟨(((Below.refl _ _).alloc (Nat.le_refl _) _).alloc (by simp) _).alloc (by simp; omega) _, by simp, ?_, ?_, ?_⟩
  · rw [hold _ _ _ (by simp; omega), hold _ _ _ (by simp), hnew _ _ _ rfl]
  · rw [hold _ _ _ (by simp), hnew _ _ _ (by simp)]
  · rw [hnew _ _ _ (by simp)]
theorem Mxd.cell {w wr : World} {l : List (BitVec 32)} {bs : List UInt8} (h : Mxd w l bs wr) (i : Nat) (hi : i < l.length) :
    wr.cell? ⟨w.heap.size, i, none⟩ = some (.int .u32 (uv (l.getD i 0))) := by
  rw [cell_of_row _ _ _ _ _ _ h.2.2.1]; exact u32s_get _ _ hi
theorem Mxd.later {w w1 w2 : World} {l : List (BitVec 32)} {bs : List UInt8} (h : Mxd w l bs w1) {n : Nat} (hb : Below (w1.drewN n).heap.size (w1.drewN n) w2) : Mxd w l bs w2 := by
  obtain ⟨h1, h2, h3, h4, h5⟩ := h
  have hb' : Below w1.heap.size w1 w2 := ⟨hb.os, hb.tape, hb.output, hb.size, hb.block⟩
  exact ⟨h1.trans (hb'.mono (by omega)), Nat.le_trans h2 hb'.size, by rw [hb'.block _ (by omega)]; exact h3, by rw [hb'.block _ (by omega)]; exact h4, by rw [hb'.block _ (by omega)]; exact h5⟩
theorem Mxd.drewN {w w1 : World} {l : List (BitVec 32)} {bs : List UInt8} (h : Mxd w l bs w1) (n : Nat) : Mxd w l bs (w1.drewN n) :=
  ⟨below_drewN h.1 n, h.2.1, h.2.2.1, h.2.2.2.1, h.2.2.2.2⟩
theorem Tab.later {w w1 : World} (h : Tab w) {B : Nat} (hb : Below B w w1) (h0 : 1 < B) : Tab w1 := fun i hi => by
  rw [hb.cell (p := ⟨1, i, none⟩) h0]; exact h i hi
theorem Mxd.step {w wr : World} {l : List (BitVec 32)} {bs : List UInt8} (h : Mxd w l bs wr) (k : Nat) (x : BitVec 32) :
    Mxd w (l.set k x) bs (wr.setCell ⟨w.heap.size, k, none⟩ (.int .u32 (uv x))) := by
  obtain ⟨h1, h2, h3, h4, h5⟩ := h
  refine ⟨h1.setCell (Nat.le_refl _) _, by simpa using h2, ?_, ?_, ?_⟩
  · rw [heap_setCell_same wr _ _ _ _ _ h3, u32s_set]
  · rw [heap_setCell_other _ _ _ _ (by simp only []; omega)]; exact h4
  · rw [heap_setCell_other _ _ _ _ (by simp only []; omega)]; exact h5
theorem Mxd.frozen {w wr : World} {l : List (BitVec 32)} {bs : List UInt8} (h : Mxd w l bs wr) (i : Nat) : wr.frozen? ⟨w.heap.size, i, none⟩ = false := frozen_of_row _ _ _ _ _ h.2.2.1
theorem uv_notl (x : BitVec 32) : bits .xor .u32 (if IntKind.u32.signed = true then -1 else IntKind.u32.max) (uv x) = uv (~~~ x) := by
  have h := uv_xor (BitVec.allOnes 32) x
  rw [show uv (BitVec.allOnes 32) = (if IntKind.u32.signed = true then -1 else IntKind.u32.max) from rfl] at h
  rw [h, BitVec.allOnes_xor]
theorem low_uv (s : Eight) (x k : BitVec 32) : (uv s.h + uv x + uv k + uv (tur s.e 6 11 25) +
      bits BinOp.xor IntKind.u32 (bits BinOp.and IntKind.u32 (uv s.e) (uv s.f)) (bits BinOp.and IntKind.u32 (bits BinOp.xor IntKind.u32 (if IntKind.u32.signed = true then -1 else IntKind.u32.max) (uv s.e)) (uv s.g))) % 4294967296 = uv (low s x k) := by
  rw [uv_notl, uv_and, uv_and, uv_xor]
  unfold low
  rw [← uv_add, ← uv_add, ← uv_add, ← uv_add]
  omega
theorem high_uv (s : Eight) : (uv (tur s.a 2 13 22) + bits BinOp.xor IntKind.u32 (bits BinOp.xor IntKind.u32 (bits BinOp.and IntKind.u32 (uv s.a) (uv s.b)) (bits BinOp.and IntKind.u32 (uv s.a) (uv s.c))) (bits BinOp.and IntKind.u32 (uv s.b) (uv s.c))) % 4294967296 = uv (high s) := by
  rw [uv_and, uv_and, uv_and, uv_xor, uv_xor, uv_add]
  rfl
/-- What holds at the head of each of the 64 rounds. -/
def Rnd (w : World) (l : List (BitVec 32)) (bs : List UInt8) (s : Eight) (a b c d e f g h i : Value) (wr : World) : Prop :=
  ∃ k : Nat, k ≤ 64 ∧ a = .int .u32 (uv (rnds bs s k).a) ∧ b = .int .u32 (uv (rnds bs s k).b) ∧ c = .int .u32 (uv (rnds bs s k).c) ∧ d = .int .u32 (uv (rnds bs s k).d) ∧
    e = .int .u32 (uv (rnds bs s k).e) ∧ f = .int .u32 (uv (rnds bs s k).f) ∧ g = .int .u32 (uv (rnds bs s k).g) ∧ h = .int .u32 (uv (rnds bs s k).h) ∧ i = .int .i64 k ∧ Mxd w l bs wr ∧ Tab wr
/-- 'x[i]' of an array of words. -/
theorem idx_row (t n : Nat) (l : List (BitVec 32)) (hu : Tryd.prog.underlying t = some (.array n 41)) (hn : n = l.length) (k : Nat) (hk : k < l.length) (W : World) :
    (Instr.index t (.agg (u32s l)) (.int .i64 (k : Int))).run Tryd.prog W = .ok (.int .u32 (uv (l.getD k 0))) W := by
  have hs : ((sizeOf 41).run Tryd.prog W) = .ok 1 W := by kernel_rfl
  have hc : 0 ≤ (k : Int) ∧ (k : Int) < (n : Int) := by omega
  have ha : (isAgg 41).run Tryd.prog W = .ok false W := by kernel_rfl
  simp only [Instr.index, asIntOf, run_underlying hu, Sem.run_bind, Sem.run_pure, Result.andThen_ok, if_pos hc, hs, part, ha, Int.toNat_natCast, Nat.mul_one, u32s_get l k hk]
  rfl
set_option maxRecDepth 100000 in
set_option maxHeartbeats 1000000 in
theorem mixed_any (l : List (BitVec 32)) (bs : List UInt8) (w : World) (hl : l.length = 8) (hb : bs.length = 64) (hT : Tab w) (h0 : 1 < w.heap.size) :
    Calls Tryd.prog 89 #[.agg (u32s l), .agg (u8s bs)] w fun e w' => e = .returned (.agg (u32s (mix l bs))) ∧ Below w.heap.size w w' := by
  have HS : Bx (Mxd w l bs (((w.alloc (Obj.cells (u32s l) 43)).alloc (Obj.cells (u8s bs) 124)).alloc (Obj.cells #[Value.int .u32 0, Value.int .u32 0, Value.int .u32 0, Value.int .u32 0, Value.int .u32 0, Value.int .u32 0, Value.int .u32 0, Value.int .u32 0] 43))) := Bx.mk (Mxd.start w l bs)
  have HL := Bx.mk hl
  have HB := Bx.mk hb
  have HT := Bx.mk hT
  clear hl hb hT
  go_enter Tryd.func89, Tryd.ntmps89
  go_wp2
  generalize ((w.alloc (Obj.cells (u32s l) 43)).alloc (Obj.cells (u8s bs) 124)).alloc (Obj.cells #[Value.int .u32 0, Value.int .u32 0, Value.int .u32 0, Value.int .u32 0, Value.int .u32 0, Value.int .u32 0, Value.int .u32 0, Value.int .u32 0] 43) = w1 at *
  have c0 := HS.out.cell 0 (by have := HL.out; omega)
  have c1 := HS.out.cell 1 (by have := HL.out; omega)
  have c2 := HS.out.cell 2 (by have := HL.out; omega)
  have c3 := HS.out.cell 3 (by have := HL.out; omega)
  have c4 := HS.out.cell 4 (by have := HL.out; omega)
  have c5 := HS.out.cell 5 (by have := HL.out; omega)
  have c6 := HS.out.cell 6 (by have := HL.out; omega)
  have c7 := HS.out.cell 7 (by have := HL.out; omega)
  obtain ⟨s, hs⟩ : ∃ s, eightOf l = s := ⟨_, rfl⟩
  have HE := Bx.mk hs
  rw [show l.getD 0 0 = s.a by rw [← hs]; rfl] at c0
  rw [show l.getD 1 0 = s.b by rw [← hs]; rfl] at c1
  rw [show l.getD 2 0 = s.c by rw [← hs]; rfl] at c2
  rw [show l.getD 3 0 = s.d by rw [← hs]; rfl] at c3
  rw [show l.getD 4 0 = s.e by rw [← hs]; rfl] at c4
  rw [show l.getD 5 0 = s.f by rw [← hs]; rfl] at c5
  rw [show l.getD 6 0 = s.g by rw [← hs]; rfl] at c6
  rw [show l.getD 7 0 = s.h by rw [← hs]; rfl] at c7
  clear hs
  go_quiet (fail)
  go_wp2
  go_quiet (fail)
  clear c0 c1 c2 c3 c4 c5 c6 c7
  go_outline
  have HI : Bx ((Tryd.prog.info? 124).map (·.size) = some (u8s bs).size) := Bx.mk (by rw [u8s_size, HB.out]; kernel_rfl)
  go_wp2_with (first | (refine wpList_load_row rfl 124 _ rfl (w.heap.size + 1) (by rfl) _ _ _ _ HS.out.2.2.2.1 Tryd.underlying124 rfl HI.out ?_) | (go_at_call 100; (with_reducible refine (spread_any _ _ HB.out).mono ?_); rintro e w2 ⟨rfl, hb2⟩))
  have HM : Bx (Mxd w l bs w2) := Bx.mk (HS.out.later hb2)
  have HT2 : Bx (Tab w2) := Bx.mk (HT.out.later HM.out.1 h0)
  clear hb2 HS HT HI
  obtain ⟨ws, hws⟩ : ∃ ws, words bs = ws := ⟨_, rfl⟩
  have HW := Bx.mk hws
  have HWL : Bx (ws.length = 64) := Bx.mk (by rw [← hws]; exact words_length bs)
  rw [hws]
  clear hws
  go_loopw [6, 7, 8, 9, 10, 11, 12, 13, 38] (fun a b c d e f g h i wr => Rnd w l bs s a b c d e f g h i wr) (fun _ _ _ _ _ _ _ _ i _ => 64 - (intOf i).toNat)
  case atStart => exact ⟨0, Nat.zero_le _, rfl, rfl, rfl, rfl, rfl, rfl, rfl, rfl, rfl, HM.out, HT2.out⟩
  case round =>
    clear HM HT2
    obtain ⟨k, hk, rfl, rfl, rfl, rfl, rfl, rfl, rfl, rfl, rfl, hM, hT⟩ := hrel
    have HM := Bx.mk hM
    have HT := Bx.mk hT
    clear hM hT
    by_cases hlt : k < 64
    · have hix := fun W => idx_row 42 64 ws Tryd.underlying42 HWL.out.symm k (by rw [HWL.out]; exact hlt) W
      have ct := HT.out k hlt
      obtain ⟨x, hx⟩ : ∃ x, ws.getD k 0 = x := ⟨_, rfl⟩
      obtain ⟨y, hy⟩ : ∃ y, kTab.getD k 0 = y := ⟨_, rfl⟩
      obtain ⟨r, hr⟩ : ∃ r, rnds bs s k = r := ⟨_, rfl⟩
      have HN : Bx (rnds bs s (k + 1) = step r x y) := Bx.mk (by show step (rnds bs s k) ((words bs).getD k 0) (kTab.getD k 0) = _; rw [HW.out, hx, hy, hr])
      rw [hx] at hix
      rw [hy] at ct
      rw [hr]
      clear hx hy hr
      have hk1 : (k : Int) < 64 := by omega
      go_wp2
      go_quiet ((go_at_call 98; exact Calls.quiet_of (turn_a _ _)))
      go_wp2_with (go_at_call 98; (with_reducible refine (turn_b _ _).mono ?_); rintro e w' ⟨rfl, rfl⟩)
      go_roundw
      case rel =>
        refine ⟨k + 1, by omega, ?_, ?_, ?_, ?_, ?_, ?_, ?_, ?_, by go_num, HM.out.drewN _, fun i hi => HT.out i hi⟩
        all_goals rw [HN.out]
        · rw [low_uv, high_uv, uv_add]; rfl
        · rfl
        · rfl
        · rfl
        · rw [low_uv, uv_add]; rfl
        · rfl
        · rfl
        · rfl
      case measure => simp [intOf]; omega
    · have ek : k = 64 := by omega
      obtain ⟨r, hr⟩ : ∃ r, rnds bs s k = r := ⟨_, rfl⟩
      have HR : Bx (rnds bs (eightOf l) 64 = r) := Bx.mk (by rw [HE.out, ← ek]; exact hr)
      rw [hr]
      clear hr ek HT
      obtain ⟨k0, rfl⟩ : ∃ k0 : Nat, k0 = k := ⟨_, rfl⟩
      obtain ⟨w0, rfl⟩ : ∃ w0 : World, w0 = wr := ⟨_, rfl⟩
      go_wp2
      go_loopw [99] (fun i wr => ∃ k : Nat, k ≤ 8 ∧ i = .int .i64 k ∧ Mxd w (addW l r.list k) bs wr) (fun i _ => 8 - (intOf i).toNat)
      case atStart => exact ⟨0, Nat.zero_le _, rfl, HM.out⟩
      case round =>
        clear HM
        obtain ⟨k, hk, rfl, hM⟩ := hrel
        have HM := Bx.mk hM
        clear hM
        by_cases hlt : k < 8
        · have hix : ∀ W, (Instr.index 43 (.agg #[.int .u32 (uv r.a), .int .u32 (uv r.b), .int .u32 (uv r.c), .int .u32 (uv r.d), .int .u32 (uv r.e), .int .u32 (uv r.f), .int .u32 (uv r.g), .int .u32 (uv r.h)]) (.int .i64 (k : Int))).run Tryd.prog W = .ok (.int .u32 (uv (r.list.getD k 0))) W := fun W => idx_row 43 8 r.list Tryd.underlying43 rfl k hlt W
          have ca := HM.out.cell k (by rw [addW_length, HL.out]; omega)
          have fa := HM.out.frozen k
          have HN : Bx (Mxd w (addW l r.list (k + 1)) bs (wr.setCell ⟨w.heap.size, k, none⟩ (.int .u32 (uv ((addW l r.list k).getD k 0 + r.list.getD k 0))))) := Bx.mk (HM.out.step k _)
          obtain ⟨x, hx⟩ : ∃ x, (addW l r.list k).getD k 0 = x := ⟨_, rfl⟩
          obtain ⟨y, hy⟩ : ∃ y, r.list.getD k 0 = y := ⟨_, rfl⟩
          rw [hx] at ca HN
          rw [hy] at hix HN
          clear hx hy
          have hk1 : (k : Int) < 8 := by omega
          go_wp2
          go_roundw
          case rel => exact ⟨k + 1, by omega, by go_num, by rw [uv_add]; exact HN.out⟩
          case measure => simp [intOf]; omega
        · have ek : k = 8 := by omega
          obtain ⟨m, hm⟩ : ∃ m, addW l r.list k = m := ⟨_, rfl⟩
          have HX : Bx (mix l bs = m) := Bx.mk (by unfold mix; rw [HR.out, ← ek]; exact hm)
          have HN : Bx (m.length = 8) := Bx.mk (by rw [← hm, addW_length]; exact HL.out)
          have HZ : Bx (Mxd w m bs wr) := Bx.mk (hm ▸ HM.out)
          clear ek hm HM
          have HI : Bx ((Tryd.prog.info? 43).map (·.size) = some (u32s m).size) := Bx.mk (by rw [u32s_size, HN.out]; kernel_rfl)
          have HQ : Bx (wr.there (w.heap.size + 1 + 1) 0 (u32s m).size) := Bx.mk (there_row HZ.out.2.2.2.2 0 _ (by rw [u32s_size, u32s_size, HN.out]; simp))
          have HY : Bx ((wr.setCells (w.heap.size + 1 + 1) 0 (u32s m).toList).heap[w.heap.size + 1 + 1]? = some (.cells (u32s m) 43 (0, 0))) := Bx.mk (heap_setCells_all HZ.out.2.2.2.2 (by rw [u32s_size, u32s_size, HN.out]; simp))
          go_wp2_with (first | (refine wpList_load_row rfl 43 _ rfl w.heap.size (by rfl) _ _ _ _ HZ.out.2.2.1 Tryd.underlying43 rfl HI.out ?_) | (refine wpList_store_mid rfl 43 _ _ rfl (w.heap.size + 1 + 1) 0 _ (by rfl) (by rfl) HQ.out HI.out (one_u32s _) ?_))
          refine bodyPost_ret (results_cell_row rfl _ _ (w.heap.size + 1 + 1) _ (u32s m) _ _ rfl HY.out Tryd.underlying43 rfl HI.out) rfl ?_
          exact ⟨by rw [HX.out], below_setCells (by omega) _ _ _ _ HZ.out.1⟩
end Go.Proofs.YtaoekfomffebhaaDoor
namespace Go.Proofs.YtaoekfomffebhaaDoor
open Go Go.RowKit
/-- Four bytes written into a list. -/
def putL (l : List UInt8) (off : Nat) (x : BitVec 32) : List UInt8 := (((l.set off (byteOf x 3)).set (off + 1) (byteOf x 2)).set (off + 2) (byteOf x 1)).set (off + 3) (byteOf x 0)
theorem put4_row {w : World} {b : Nat} {l : List UInt8} {t : TypeId} (h : w.heap[b]? = some (.cells (u8s l) t (0, 0))) (off : Nat) (x : BitVec 32) :
    (put4 w b off x).heap[b]? = some (.cells (u8s (putL l off x)) t (0, 0)) := by
  have h1 := heap_setCell_same w b off _ t (.int .u8 (ub (byteOf x 3))) h
  rw [u8s_set] at h1
  have h2 := heap_setCell_same _ b (off + 1) _ t (.int .u8 (ub (byteOf x 2))) h1
  rw [u8s_set] at h2
  have h3 := heap_setCell_same _ b (off + 2) _ t (.int .u8 (ub (byteOf x 1))) h2
  rw [u8s_set] at h3
  have h4 := heap_setCell_same _ b (off + 3) _ t (.int .u8 (ub (byteOf x 0))) h3
  rw [u8s_set] at h4
  exact h4
theorem put4_other (w : World) (b off : Nat) (x : BitVec 32) (k : Nat) (h : k ≠ b) : (put4 w b off x).heap[k]? = w.heap[k]? := by
  unfold put4
  rw [heap_setCell_other _ _ _ _ h, heap_setCell_other _ _ _ _ h, heap_setCell_other _ _ _ _ h, heap_setCell_other _ _ _ _ h]
theorem put4_below {B : Nat} {a w : World} (h : Below B a w) (b off : Nat) (x : BitVec 32) (hb : B ≤ b) : Below B a (put4 w b off x) :=
  (((h.setCell hb _).setCell hb _).setCell hb _).setCell hb _
theorem hTab_cells : u32s hTab = #[.int .u32 1779033703, .int .u32 3144134277, .int .u32 1013904242, .int .u32 2773480762, .int .u32 1359893119, .int .u32 2600822924, .int .u32 528734635, .int .u32 1541459225] := by kernel_rfl
theorem firstWords_any (w : World) : Calls Tryd.prog 101 #[] w fun e w' => e = .returned (.agg (u32s hTab)) ∧ Below w.heap.size w w' := by
  go_enter Tryd.func101, Tryd.ntmps101
  go_wp2
  rw [hTab_cells]
  refine bodyPost_ret (results_cell_row rfl _ _ w.heap.size _ _ _ _ rfl (hnew _ _ _ rfl) Tryd.underlying43 rfl (by kernel_rfl)) rfl ⟨rfl, (Below.refl _ _).alloc (Nat.le_refl _) _⟩
end Go.Proofs.YtaoekfomffebhaaDoor
namespace Go.Proofs.YtaoekfomffebhaaDoor
open Go Go.RowKit
/-- Block k of a list of bytes. -/
def blk (k : Nat) (bs : List UInt8) : List UInt8 := (bs.drop (64 * k)).take 64
/-- The words behind the first k blocks. -/
def hs : Nat → List UInt8 → List (BitVec 32)
  | 0, _ => hTab
  | k + 1, bs => mix (hs k bs) (blk k bs)
theorem hs_length (k : Nat) (bs : List UInt8) : (hs k bs).length = 8 := by
  induction k with
  | zero => rfl
  | succ k ih => rw [hs, mix_length, ih]
theorem blk_append (k : Nat) (bs q : List UInt8) (h : 64 * (k + 1) ≤ bs.length) : blk k (bs ++ q) = blk k bs := by
  unfold blk
  rw [List.drop_append_of_le_length (by omega), List.take_append_of_le_length (by simp; omega)]
theorem hs_append (k : Nat) (bs q : List UInt8) (h : 64 * k ≤ bs.length) : hs k (bs ++ q) = hs k bs := by
  induction k with
  | zero => rfl
  | succ k ih => rw [hs, hs, ih (by omega), blk_append k bs q (by omega)]
/-- What the words and the bytes that aren't a block yet say of all that was told. -/
structure StIs (bs : List UInt8) (ws : List (BitVec 32)) (rest : List UInt8) : Prop where
  w8 : ws.length = 8
  r64 : rest.length = 64
  tail : rest.take (bs.length % 64) = bs.drop (64 * (bs.length / 64))
  words : 64 ≤ bs.length → ws = hs (bs.length / 64) bs
theorem StIs.now {bs : List UInt8} {ws : List (BitVec 32)} {rest : List UInt8} (h : StIs bs ws rest) : (if bs.length < 64 then hTab else ws) = hs (bs.length / 64) bs := by
  by_cases h1 : bs.length < 64
  · rw [if_pos h1, Nat.div_eq_of_lt h1]; rfl
  · rw [if_neg h1]; exact h.words (by omega)
theorem StIs.zero : StIs [] (List.replicate 8 0) (List.replicate 64 0) := ⟨by simp, by simp, by simp, fun h => by simp at h⟩
/-- Bytes written into the 64 places from h on. -/
def fillR (rest : List UInt8) (h : Nat) (q : List UInt8) : List UInt8 := rest.take h ++ (q ++ rest.drop (h + q.length))
theorem fillR_length (rest : List UInt8) (h : Nat) (q : List UInt8) (hq : h + q.length ≤ rest.length) : (fillR rest h q).length = rest.length := by
  simp [fillR]; omega
theorem fillR_take (rest : List UInt8) (h : Nat) (q : List UInt8) (hq : h + q.length ≤ rest.length) : (fillR rest h q).take (h + q.length) = rest.take h ++ q := by
  unfold fillR
  rw [← List.append_assoc]
  have : (rest.take h ++ q).length = h + q.length := by simp; omega
  rw [← this, List.take_left]
theorem StIs.part {bs q : List UInt8} {ws : List (BitVec 32)} {rest : List UInt8} (h : StIs bs ws rest) (hq : bs.length % 64 + q.length < 64) : StIs (bs ++ q) ws (fillR rest (bs.length % 64) q) := by
  have e1 : (bs ++ q).length / 64 = bs.length / 64 := by simp; omega
  have e2 : (bs ++ q).length % 64 = bs.length % 64 + q.length := by simp; omega
  refine ⟨h.w8, by rw [fillR_length _ _ _ (by rw [h.r64]; omega)]; exact h.r64, ?_, ?_⟩
  · rw [e1, e2, fillR_take _ _ _ (by rw [h.r64]; omega), h.tail, List.drop_append_of_le_length (by omega)]
  · intro h64
    rw [e1, hs_append _ _ _ (by omega)]
    exact h.words (by have := e1; simp at h64; omega)
theorem StIs.full {bs q : List UInt8} {ws : List (BitVec 32)} {rest : List UInt8} (h : StIs bs ws rest) (hq : bs.length % 64 + q.length = 64) :
    StIs (bs ++ q) (mix (hs (bs.length / 64) bs) (fillR rest (bs.length % 64) q)) (fillR rest (bs.length % 64) q) := by
  have e1 : (bs ++ q).length / 64 = bs.length / 64 + 1 := by simp; omega
  have e2 : (bs ++ q).length % 64 = 0 := by simp; omega
  have hb : fillR rest (bs.length % 64) q = blk (bs.length / 64) (bs ++ q) := by
    have t := fillR_take rest (bs.length % 64) q (by rw [h.r64]; omega)
    have l := fillR_length rest (bs.length % 64) q (by rw [h.r64]; omega)
    rw [hq, List.take_of_length_le (by rw [l, h.r64]; omega), h.tail] at t
    rw [t]
    unfold blk
    rw [List.drop_append_of_le_length (by omega), List.take_of_length_le (by simp; omega)]
  refine ⟨by rw [mix_length]; exact hs_length _ _, by rw [fillR_length _ _ _ (by rw [h.r64]; omega)]; exact h.r64, ?_, ?_⟩
  · rw [e1, e2, List.take_zero, List.drop_of_length_le (by simp; omega)]
  · intro _
    rw [e1, hs, hs_append _ _ _ (by omega), ← hb]

/-- A state's cells. -/
def stC (ws : List (BitVec 32)) (rest : List UInt8) (t : Nat) : Array Value := ((u32s ws).toList ++ ((u8s rest).toList ++ [Value.int .u64 (t : Int)])).toArray
theorem stC_words (ws : List (BitVec 32)) (rest : List UInt8) (t : Nat) (i : Nat) (h8 : ws.length = 8) (hi : i < 8) : (stC ws rest t)[i]? = some (.int .u32 (uv (ws.getD i 0))) := by
  rw [stC, List.getElem?_toArray, List.getElem?_append_left (by simp [u32s_size]; omega)]
  have := u32s_get ws i (by omega)
  rwa [← Array.getElem?_toList] at this
theorem stC_rest (ws : List (BitVec 32)) (rest : List UInt8) (t : Nat) (i : Nat) (h8 : ws.length = 8) (h64 : rest.length = 64) (hi : i < 64) : (stC ws rest t)[8 + i]? = some (.int .u8 (ub (rest.getD i 0))) := by
  rw [stC, List.getElem?_toArray, List.getElem?_append_right (by simp [u32s_size]; omega)]
  rw [List.getElem?_append_left (by simp [u32s_size, u8s_size]; omega)]
  have := u8s_get rest i (by omega)
  rw [← Array.getElem?_toList] at this
  rw [show 8 + i - (u32s ws).toList.length = i by simp [u32s_size]; omega]
  exact this
theorem stC_told (ws : List (BitVec 32)) (rest : List UInt8) (t : Nat) (h8 : ws.length = 8) (h64 : rest.length = 64) : (stC ws rest t)[72]? = some (.int .u64 (t : Int)) := by
  rw [stC, List.getElem?_toArray, List.getElem?_append_right (by simp [u32s_size]; omega), List.getElem?_append_right (by simp [u32s_size, u8s_size]; omega)]
  simp [u32s_size, u8s_size, h8, h64]
theorem stC_size (ws : List (BitVec 32)) (rest : List UInt8) (t : Nat) (h8 : ws.length = 8) (h64 : rest.length = 64) : (stC ws rest t).size = 73 := by
  simp [stC, u32s_size, u8s_size, h8, h64]
/-- Bytes written into a state's places. -/
theorem stC_fill (ws : List (BitVec 32)) (rest : List UInt8) (t : Nat) (h : Nat) (q : List UInt8) (h8 : ws.length = 8) (h64 : rest.length = 64) (hq : h + q.length ≤ 64) :
    ((stC ws rest t).toList.take (8 + h) ++ ((u8s q).toList ++ (stC ws rest t).toList.drop (8 + h + (u8s q).toList.length))).toArray = stC ws (fillR rest h q) t := by
  have lw : (u32s ws).toList.length = 8 := by simp [u32s_size, h8]
  have lr : (u8s rest).toList.length = 64 := by simp [u8s_size, h64]
  have lq : (u8s q).toList.length = q.length := by simp [u8s_size]
  have m : ∀ l : List UInt8, (u8s l).toList = l.map fun x => Value.int .u8 (ub x) := fun l => by simp [u8s]
  unfold stC
  congr 1
  rw [show ((u32s ws).toList ++ ((u8s rest).toList ++ [Value.int .u64 (t : Int)])).toArray.toList = (u32s ws).toList ++ ((u8s rest).toList ++ [Value.int .u64 (t : Int)]) from rfl]
  rw [List.take_append, List.drop_append, lw, List.take_of_length_le (by omega), List.drop_of_length_le (by omega), List.nil_append]
  rw [show 8 + h - 8 = h by omega, show 8 + h + (u8s q).toList.length - 8 = h + q.length by omega]
  rw [List.take_append_of_le_length (by omega), List.drop_append_of_le_length (by omega)]
  simp only [fillR, m, List.map_append, List.map_take, List.map_drop, List.append_assoc]
theorem stC_set (ws : List (BitVec 32)) (rest : List UInt8) (t t' : Nat) (h8 : ws.length = 8) (h64 : rest.length = 64) : (stC ws rest t).setIfInBounds 72 (.int .u64 (t' : Int)) = stC ws rest t' := by
  have lw : (u32s ws).toList.length = 8 := by simp [u32s_size, h8]
  have lr : (u8s rest).toList.length = 64 := by simp [u8s_size, h64]
  unfold stC
  rw [List.setIfInBounds_toArray, List.set_append_right _ _ (by omega), List.set_append_right _ _ (by omega), lw, lr]
  rfl
theorem stC_spl (ws vs : List (BitVec 32)) (rest : List UInt8) (t : Nat) (h8 : ws.length = 8) (hv : vs.length = 8) : spl (stC ws rest t) 0 (u32s vs).toList = stC vs rest t := by
  have lw : (u32s ws).toList.length = 8 := by simp [u32s_size, h8]
  have lv : (u32s vs).toList.length = 8 := by simp [u32s_size, hv]
  apply Array.ext_getElem?
  intro i
  rw [spl_get, lv]
  have sz : (stC ws rest t).size = 8 + ((u8s rest).toList ++ [Value.int .u64 (t : Int)]).length := by unfold stC; rw [List.size_toArray, List.length_append, lw]
  by_cases hi : i < 8
  · rw [if_pos (by omega), stC, List.getElem?_toArray, List.getElem?_append_left (by omega)]; rfl
  · rw [if_neg (by omega)]
    unfold stC
    generalize (u8s rest).toList ++ [Value.int .u64 (t : Int)] = tl
    rw [List.getElem?_toArray, List.getElem?_toArray, List.getElem?_append_right (by omega), List.getElem?_append_right (by omega), lw, lv]
end Go.Proofs.YtaoekfomffebhaaDoor
namespace Go.Proofs.YtaoekfomffebhaaDoor
open Go Go.RowKit
theorem st_range {w : World} {b : Nat} {t : TypeId} {ws : List (BitVec 32)} {rest : List UInt8} {n : Nat} (h : w.heap[b]? = some (.cells (stC ws rest n) t (0, 0))) (h8 : ws.length = 8) : w.rangeAt b 0 (u32s ws).toList := fun j v hv => by
  rw [cell_of_row _ _ _ _ _ _ h, Nat.zero_add]
  have hj : j < 8 := by have := (List.getElem?_eq_some_iff.1 hv).1; simpa [u32s_size, h8] using this
  rw [stC_words ws rest n j h8 hj]
  rw [Array.getElem?_toList, u32s_get ws j (by omega)] at hv
  exact hv
theorem st_range8 {w : World} {b : Nat} {t : TypeId} {ws : List (BitVec 32)} {rest : List UInt8} {n : Nat} (h : w.heap[b]? = some (.cells (stC ws rest n) t (0, 0))) (h8 : ws.length = 8) (h64 : rest.length = 64) : w.rangeAt b 8 (u8s rest).toList := fun j v hv => by
  rw [cell_of_row _ _ _ _ _ _ h]
  have hj : j < 64 := by have := (List.getElem?_eq_some_iff.1 hv).1; simpa [u8s_size, h64] using this
  rw [stC_rest ws rest n j h8 h64 hj]
  rw [Array.getElem?_toList, u8s_get rest j (by omega)] at hv
  exact hv
theorem back_u32s (l : List (BitVec 32)) : (u32s l).toList.toArray = u32s l := by simp
theorem zero8 : (u32s (List.replicate 8 0)) = #[.int .u32 0, .int .u32 0, .int .u32 0, .int .u32 0, .int .u32 0, .int .u32 0, .int .u32 0, .int .u32 0] := by kernel_rfl
set_option maxRecDepth 100000 in
set_option maxHeartbeats 400000 in
theorem now_any (b : Nat) (t : TypeId) (ws : List (BitVec 32)) (rest : List UInt8) (n : Nat) (w : World) (h : w.heap[b]? = some (.cells (stC ws rest n) t (0, 0))) (h8 : ws.length = 8) (h64 : rest.length = 64) (hn : n < 2305843009213693952) :
    Calls Tryd.prog 90 #[.pointer (some ⟨b, 0, none⟩)] w fun e w' => e = .returned (.agg (u32s (if n < 64 then hTab else ws))) ∧ Below w.heap.size w w' := by
  have hb : b < w.heap.size := (Array.getElem?_eq_some_iff.1 h).1
  have ct : w.cell? ⟨b, 72, none⟩ = some (.int .u64 (n : Int)) := by rw [cell_of_row _ _ _ _ _ _ h]; exact stC_told ws rest n h8 h64
  have HR : Bx ((w.alloc (.cells #[.int .u32 0, .int .u32 0, .int .u32 0, .int .u32 0, .int .u32 0, .int .u32 0, .int .u32 0, .int .u32 0] 43)).rangeAt b 0 (u32s ws).toList) := Bx.mk (World.rangeAt_alloc (st_range h h8) _)
  have HZ : Bx ((w.alloc (.cells #[.int .u32 0, .int .u32 0, .int .u32 0, .int .u32 0, .int .u32 0, .int .u32 0, .int .u32 0, .int .u32 0] 43)).heap[w.heap.size]? = some (.cells (u32s (List.replicate 8 0)) 43 (0, 0))) := Bx.mk (by rw [hnew _ _ _ rfl, zero8])
  have HL : Bx (Below w.heap.size w (w.alloc (.cells #[.int .u32 0, .int .u32 0, .int .u32 0, .int .u32 0, .int .u32 0, .int .u32 0, .int .u32 0, .int .u32 0] 43))) := Bx.mk ((Below.refl _ _).alloc (Nat.le_refl _) _)
  have H8 := Bx.mk h8
  clear h h8 h64
  by_cases hlt : n < 64
  · rw [if_pos hlt]
    have hfw : Bx (∀ w : World, Calls Tryd.prog 101 #[] w fun e w' => e = .returned (.agg (u32s hTab)) ∧ Below w.heap.size w w') := Bx.mk firstWords_any
    have hfl : Bx (hTab.length = 8) := Bx.mk rfl
    generalize hTab = H at *
    go_enter Tryd.func90, Tryd.ntmps90
    go_wp2_with fail
    refine (hfw.out _).mono ?_
    rintro e w1 ⟨rfl, hb1⟩
    have HQ : Bx (w1.heap[w.heap.size]? = some (.cells (u32s (List.replicate 8 0)) 43 (0, 0))) := Bx.mk (by rw [hb1.block _ (by simp)]; exact HZ.out)
    have HW : Bx (Below w.heap.size w w1) := Bx.mk (HL.out.trans (hb1.mono (by simp)))
    clear hb1 HZ HR HL
    have HI : Bx ((Tryd.prog.info? 43).map (·.size) = some (u32s H).size) := Bx.mk (by rw [u32s_size, hfl.out]; kernel_rfl)
    have HT : Bx (w1.there w.heap.size 0 (u32s H).size) := Bx.mk (there_row HQ.out 0 _ (by rw [u32s_size, u32s_size]; rw [hfl.out]; simp))
    have HY : Bx ((w1.setCells w.heap.size 0 (u32s H).toList).heap[w.heap.size]? = some (.cells (u32s H) 43 (0, 0))) := Bx.mk (heap_setCells_all HQ.out (by rw [u32s_size, u32s_size]; rw [hfl.out]; simp))
    go_wp2_with (refine wpList_store_mid rfl 43 _ _ rfl w.heap.size 0 _ (by rfl) (by rfl) HT.out HI.out (one_u32s _) ?_)
    refine bodyPost_ret (results_cell_row rfl _ _ w.heap.size _ (u32s H) _ _ rfl HY.out Tryd.underlying43 rfl HI.out) rfl ?_
    exact ⟨rfl, below_setCells (Nat.le_refl _) _ _ _ _ HW.out⟩
  · rw [if_neg hlt]
    have HI : Bx ((Tryd.prog.info? 43).map (·.size) = some (u32s ws).size) := Bx.mk (by rw [u32s_size, H8.out]; kernel_rfl)
    have HJ : Bx ((Tryd.prog.info? 43).map (·.size) = some (u32s ws).toList.length) := Bx.mk (by rw [Array.length_toList]; exact HI.out)
    have HT : Bx ((w.alloc (.cells #[.int .u32 0, .int .u32 0, .int .u32 0, .int .u32 0, .int .u32 0, .int .u32 0, .int .u32 0, .int .u32 0] 43)).there w.heap.size 0 (u32s ws).size) := Bx.mk (there_row HZ.out 0 _ (by rw [u32s_size, u32s_size, H8.out]; simp))
    have HY : Bx (((w.alloc (.cells #[.int .u32 0, .int .u32 0, .int .u32 0, .int .u32 0, .int .u32 0, .int .u32 0, .int .u32 0, .int .u32 0] 43)).setCells w.heap.size 0 (u32s ws).toList).heap[w.heap.size]? = some (.cells (u32s ws) 43 (0, 0))) := Bx.mk (heap_setCells_all HZ.out (by rw [u32s_size, u32s_size, H8.out]; simp))
    go_enter Tryd.func90, Tryd.ntmps90
    go_wp2_with (first | (refine wpList_load_mid rfl 43 _ rfl b 0 (by rfl) (u32s ws).toList _ HR.out Tryd.underlying43 rfl HJ.out ?_; rw [back_u32s]) | (refine wpList_store_mid rfl 43 _ _ rfl w.heap.size 0 (u32s ws) (by rfl) (by rfl) HT.out HI.out (one_u32s _) ?_))
    refine bodyPost_ret (results_cell_row rfl _ _ w.heap.size _ (u32s ws) _ _ rfl HY.out Tryd.underlying43 rfl HI.out) rfl ?_
    exact ⟨rfl, below_setCells (Nat.le_refl _) _ _ _ _ HL.out⟩
end Go.Proofs.YtaoekfomffebhaaDoor
namespace Go.Proofs.YtaoekfomffebhaaDoor
open Go Go.RowKit
theorem sl_bytes (w : World) (b c o L cap n : Nat) (ps : List UInt8) (hL : L = ps.length) (hcap : L ≤ cap) (hn : n ≤ L) (hne : c ≠ b)
    (hcell : ∀ j, j < ps.length → w.cell? ⟨c, o + j, none⟩ = some (.int .u8 (ub (ps.getD j 0)))) :
    ∃ v, (∀ W : World, (Instr.slice 26 (.slice (some ⟨c, o, none⟩) L cap) (some (.int .i64 (n : Int))) none none).run Tryd.prog W = .ok v W) ∧ BytesAt w b v (ps.drop n) ∧ lenV v = L - n := by
  subst hL
  have he : Tryd.prog.elem 26 = 5 := by kernel_rfl
  refine ⟨sliced (some ⟨c, o, none⟩) n ps.length cap 1, fun W => ?_, ?_, rfl⟩
  · have hs : ((sizeOf 5).run Tryd.prog W) = .ok 1 W := by kernel_rfl
    rw [run_slice_l W 26 (some ⟨c, o, none⟩) ps.length cap (by rw [he]; exact Tryd.underlying26) .i64 (n : Int) (by omega) (by omega), he, hs]
    rfl
  · refine ⟨_, _, by rw [List.length_drop]; rfl, by simp; omega, fun hp => ?_⟩
    rw [List.length_drop] at hp
    refine ⟨c, o + n, hne, ?_, fun j hj => ?_⟩
    · rw [if_neg (by omega)]
      simp [Addr.add]
    · rw [List.length_drop] at hj
      rw [show o + n + j = o + (n + j) by omega, hcell (n + j) (by omega)]
      simp
/-- The builtin copy into a state's places. -/
theorem wpList_copy_st {w : World} {ops : Array Oper} {rst : List Oper} {o : Oper} {a : Act} {Q : Exit → Act → World → Prop} (hgd : o.guard = none) (d s : Operand)
    (ho : o.op = .call { callee := .builtin .copy, args := #[d, s], argTypes := #[26, 26] }) (b h n c off L cap dcap : Nat) (T : TypeId) (ws : List (BitVec 32)) (rest ps : List UInt8) (t : Nat)
    (hd : a.eval d = .slice (some ⟨b, 8 + h, none⟩) (64 - h) dcap) (hs : a.eval s = .slice (some ⟨c, off, none⟩) L cap) (hL : L = ps.length)
    (hg : w.heap[b]? = some (.cells (stC ws rest t) T (0, 0))) (h8 : ws.length = 8) (h64 : rest.length = 64) (hh : h < 64) (hn : n = min L (64 - h))
    (hcell : ∀ j, j < ps.length → w.cell? ⟨c, off + j, none⟩ = some (.int .u8 (ub (ps.getD j 0))))
    (k : ∀ w2 : World, w2.heap[b]? = some (.cells (stC ws (fillR rest h (ps.take n)) t) T (0, 0)) → w.grownBy w2 (some b) → wpList Tryd.prog ops Q rst (a.put o.dst (.int .i64 (n : Int))) w2) : wpList Tryd.prog ops Q (o :: rst) a w := by
  have lq : (ps.take n).length = n := by simp; omega
  have lc : (u8s (ps.take n)).toList.length = n := by rw [Array.length_toList, u8s_size, lq]
  refine wpList_copy_own hgd d s _ _ ho 5 Tryd.underlying26 (by kernel_rfl) b (8 + h) (64 - h) dcap ⟨c, off, none⟩ L cap hd hs _ T hg (u8s (ps.take n)).toList (by rw [lc, hn]) ?_ ?_ ?_ ?_
  · intro j v hv
    have hj : j < n := by have := (List.getElem?_eq_some_iff.1 hv).1; omega
    rw [Array.getElem?_toList, u8s_get _ _ (by omega)] at hv
    rw [show (⟨c, off, none⟩ : Addr).add j = ⟨c, off + j, none⟩ by simp [Addr.add], hcell j (by omega)]
    rw [← hv]
    simp [hj]
  · rw [lc, stC_size ws rest t h8 h64]; omega
  · have := one_u8s (ps.take n)
    intro v hv
    rw [Array.all_eq_true'] at this
    exact this v (by simpa using hv)
  · have e := stC_fill ws rest t h (ps.take n) h8 h64 (by omega)
    rw [e, lc]
    refine k _ ?_ ?_
    · show (w.heap.modify b _)[b]? = _; rw [Array.getElem?_modify, if_pos rfl, hg]; rfl
    · exact ⟨rfl, rfl, rfl, by simp [World.setRow], fun i _ hne => setRow_other w b i _ (fun e => hne (by rw [e]))⟩
end Go.Proofs.YtaoekfomffebhaaDoor
