/-
  Plain lemmas: numbers of 32 bits as BitVec 32, in the forms in which a walk leaves them.
-/
import Derived.Laws.BitsAllLaws
import Derived.IntWalk
namespace Go.Proofs.YtkfgpnigeknhmaaDoor
open Go

/-- A fact that is put away: the walk sees nothing of it. -/
structure Bx (p : Prop) : Prop where
  out : p

theorem u32_add (x y : BitVec 32) : IntKind.u32.wrap ((x.toNat : Int) + (y.toNat : Int)) = ((x + y).toNat : Int) := by
  rw [IntKind.wrap_u32', BitVec.toNat_add]; omega
theorem u32_andb (x y : BitVec 32) : bits .and .u32 (x.toNat : Int) (y.toNat : Int) = ((x &&& y).toNat : Int) := by
  rw [u32_and_nat _ _ x.isLt y.isLt, BitVec.toNat_and]
theorem u32_orb (x y : BitVec 32) : bits .or .u32 (x.toNat : Int) (y.toNat : Int) = ((x ||| y).toNat : Int) := by
  rw [u32_or_nat _ _ x.isLt y.isLt, BitVec.toNat_or]
theorem u32_xorb (x y : BitVec 32) : bits .xor .u32 (x.toNat : Int) (y.toNat : Int) = ((x ^^^ y).toNat : Int) := by
  rw [u32_xor_nat _ _ x.isLt y.isLt, BitVec.toNat_xor]
theorem u32_notb (x : BitVec 32) : bits .xor .u32 (x.toNat : Int) 4294967295 = ((~~~ x).toNat : Int) := by
  have h := u32_xorb x (BitVec.allOnes 32)
  rw [show ((BitVec.allOnes 32).toNat : Int) = 4294967295 from rfl] at h
  rw [h, BitVec.xor_allOnes]
theorem u32_shr (x : BitVec 32) (k : Nat) : (x.toNat : Int) / 2 ^ k = ((x >>> k).toNat : Int) := by
  rw [BitVec.toNat_ushiftRight, Nat.shiftRight_eq_div_pow]
  simp
theorem u32_shl (x : BitVec 32) (k : Nat) : IntKind.u32.wrap ((x.toNat : Int) * 2 ^ k) = ((x <<< k).toNat : Int) := by
  rw [IntKind.wrap_u32', BitVec.toNat_shiftLeft, Nat.shiftLeft_eq]
  simp
theorem u32_addm (x y : BitVec 32) : ((x.toNat : Int) + (y.toNat : Int)) % 4294967296 = ((x + y).toNat : Int) := by rw [← u32_add, IntKind.wrap_u32']
theorem u32_shlm (x : BitVec 32) (k : Nat) : (x.toNat : Int) * 2 ^ k % 4294967296 = ((x <<< k).toNat : Int) := by rw [← u32_shl, IntKind.wrap_u32']
theorem rot_or (x : BitVec 32) (k : Nat) (h1 : k < 32) : x <<< (32 - k) ||| x >>> k = x.rotateRight k := by
  rw [BitVec.rotateRight_def, Nat.mod_eq_of_lt h1, BitVec.or_comm]
theorem rot_or' (x : BitVec 32) (k : Nat) (h1 : k < 32) : x >>> k ||| x <<< (32 - k) = x.rotateRight k := by
  rw [BitVec.rotateRight_def, Nat.mod_eq_of_lt h1]
theorem rot_count (k : Nat) (h0 : 0 < k) (h1 : k < 32) : bits .and .u64 (IntKind.u64.wrap (-(k : Int))) 31 = ((32 - k : Nat) : Int) := by
  have e : IntKind.u64.wrap (-(k : Int)) = ((18446744073709551616 - k : Nat) : Int) := by rw [IntKind.wrap_u64]; omega
  rw [e]
  have := u64_and_nat (18446744073709551616 - k) 31 (by omega) (by omega)
  rw [show ((31 : Nat) : Int) = 31 from rfl] at this
  rw [this, show (31 : Nat) = 2 ^ 5 - 1 from rfl, Nat.and_two_pow_sub_one_eq_mod]
  omega
/-- A number of 32 bits as the model's integer; kept shut, so that nothing is rewritten inside it. -/
def uv (x : BitVec 32) : Int := (x.toNat : Int)
/-- A byte as the model's integer. -/
def ub (b : UInt8) : Int := (b.toNat : Int)
theorem uv_nonneg (x : BitVec 32) : 0 ≤ uv x := by unfold uv; omega
theorem uv_le (x : BitVec 32) : uv x ≤ 4294967295 := by unfold uv; have := x.isLt; omega
theorem ub_nonneg (b : UInt8) : 0 ≤ ub b := by unfold ub; omega
theorem ub_le (b : UInt8) : ub b ≤ 255 := by unfold ub; have := b.toNat_lt; omega
theorem uv_inj {x y : BitVec 32} (h : uv x = uv y) : x = y := by unfold uv at h; exact BitVec.eq_of_toNat_eq (by omega)
theorem ub_inj {x y : UInt8} (h : ub x = ub y) : x = y := by unfold ub at h; exact UInt8.toNat_inj.mp (by omega)
theorem uv_add (x y : BitVec 32) : (uv x + uv y) % 4294967296 = uv (x + y) := u32_addm x y
theorem uv_addw (x y : BitVec 32) : IntKind.u32.wrap (uv x + uv y) = uv (x + y) := u32_add x y
theorem uv_and (x y : BitVec 32) : bits .and .u32 (uv x) (uv y) = uv (x &&& y) := u32_andb x y
theorem uv_or (x y : BitVec 32) : bits .or .u32 (uv x) (uv y) = uv (x ||| y) := u32_orb x y
theorem uv_xor (x y : BitVec 32) : bits .xor .u32 (uv x) (uv y) = uv (x ^^^ y) := u32_xorb x y
theorem uv_not (x : BitVec 32) : bits .xor .u32 (uv x) 4294967295 = uv (~~~ x) := u32_notb x
theorem uv_shr (x : BitVec 32) (k : Nat) : uv x / 2 ^ k = uv (x >>> k) := u32_shr x k
theorem uv_shl (x : BitVec 32) (k : Nat) : uv x * 2 ^ k % 4294967296 = uv (x <<< k) := u32_shlm x k
theorem uv_shlw (x : BitVec 32) (k : Nat) : IntKind.u32.wrap (uv x * 2 ^ k) = uv (x <<< k) := u32_shl x k
/-- A byte, as a number of 32 bits. -/
def wide (b : UInt8) : BitVec 32 := b.toBitVec.zeroExtend 32
theorem ub_wide (b : UInt8) : ub b = uv (wide b) := by
  unfold ub uv wide
  rw [BitVec.toNat_setWidth, UInt8.toNat_toBitVec]
  have := b.toNat_lt
  rw [Nat.mod_eq_of_lt (by omega)]
theorem uv_mod (x : BitVec 32) : uv x % 4294967296 = uv x := by have := uv_nonneg x; have := uv_le x; omega
/-- Four bytes, the highest first, as a number of 32 bits. -/
def be32 (a b c d : UInt8) : BitVec 32 := ((wide a <<< 24 ||| wide b <<< 16) ||| wide c <<< 8) ||| wide d
/-- Byte k of a number of 32 bits, counted from below. -/
def byteOf (x : BitVec 32) (k : Nat) : UInt8 := UInt8.ofBitVec ((x >>> (8 * k)).truncate 8)
theorem byteOf_toNat (x : BitVec 32) (k : Nat) : (byteOf x k).toNat = x.toNat / 2 ^ (8 * k) % 256 := by
  unfold byteOf
  rw [UInt8.toNat_ofBitVec, BitVec.toNat_setWidth, BitVec.toNat_ushiftRight, Nat.shiftRight_eq_div_pow]
theorem uv_byte (x : BitVec 32) (k : Nat) : uv x / 2 ^ (8 * k) % 256 = ub (byteOf x k) := by
  unfold uv ub
  rw [byteOf_toNat]
  simp
theorem uv_byte0 (x : BitVec 32) : uv x % 256 = ub (byteOf x 0) := by have := uv_byte x 0; simpa using this
theorem uv_byte1 (x : BitVec 32) : uv x / 256 % 256 = ub (byteOf x 1) := uv_byte x 1
theorem uv_byte2 (x : BitVec 32) : uv x / 65536 % 256 = ub (byteOf x 2) := uv_byte x 2
theorem uv_byte3 (x : BitVec 32) : uv x / 16777216 % 256 = ub (byteOf x 3) := uv_byte x 3
theorem choose_or (e f g : BitVec 32) : (e &&& f) ||| ((~~~ e) &&& g) = (e &&& f) ^^^ ((~~~ e) &&& g) := by
  ext i hi
  simp only [BitVec.getElem_or, BitVec.getElem_xor, BitVec.getElem_and, BitVec.getElem_not]
  cases e[i] <;> simp
theorem most_or (a b c : BitVec 32) : ((a &&& b) ||| (a &&& c)) ||| (b &&& c) = ((a &&& b) ^^^ (a &&& c)) ^^^ (b &&& c) := by
  ext i hi
  simp only [BitVec.getElem_or, BitVec.getElem_xor, BitVec.getElem_and]
  cases a[i] <;> cases b[i] <;> cases c[i] <;> rfl
end Go.Proofs.YtkfgpnigeknhmaaDoor
