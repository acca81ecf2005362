/-
  The walks of a reader, whole.
  The walks of numbers that are read of any bytes.
  The walks of fields that are got of any bytes.
  The walks of a reader over any bytes.
  The walks of a reader's numbers and bytes, and of its end.
-/
import Derived.Test.YtdionedinmkeiaaDoorIm
import Derived.Test.YtdionedinmkeiaaDoorIi
namespace Go.Proofs.YtdionedinmkeiaaDoor
open Go Go.RowKit
/-- The zero field. -/
def fZero : Value := .agg #[.int .i64 0, .int .i64 0, .slice none 0 0]
theorem set_same3 (W : World) (a b c : Value) (t : TypeId) : ((W.alloc (.cells #[a, b, c] t)).setCells W.heap.size 0 [a, b, c]).heap[W.heap.size]? = some (.cells #[a, b, c] t (0, 0)) := heap_setCells_all (ds := #[a, b, c]) (hnew _ _ _ rfl) rfl
theorem fld1 (W : World) : (Instr.field 136 (.agg #[.int .i64 0, .int .i64 0, .slice none 0 0]) 1).run Tryd.prog W = .ok (.int .i64 0) W := by kernel_rfl
theorem fld2 (W : World) : (Instr.field 136 (.agg #[.int .i64 0, .int .i64 0, .slice none 0 0]) 2).run Tryd.prog W = .ok (.slice none 0 0) W := by kernel_rfl
end Go.Proofs.YtdionedinmkeiaaDoor
namespace Go.Proofs.YtdionedinmkeiaaDoor
open Go Go.RowKit
/-- The number that bytes say, the highest first. -/
def valN (l : List UInt8) : Nat := l.foldl (fun a x => a * 256 + x.toNat) 0
theorem valN_snoc (l : List UInt8) (x : UInt8) : valN (l ++ [x]) = valN l * 256 + x.toNat := by simp [valN]
theorem fold_lt (l : List UInt8) : ∀ a : Nat, l.foldl (fun a x => a * 256 + x.toNat) a < (a + 1) * 256 ^ l.length := by
  induction l with
  | nil => intro a; simp
  | cons x l ih =>
    intro a
    have h := ih (a * 256 + x.toNat)
    have hx := x.toNat_lt
    rw [List.foldl_cons, List.length_cons, Nat.pow_succ']
    refine Nat.lt_of_lt_of_le h ?_
    rw [← Nat.mul_assoc]
    exact Nat.mul_le_mul_right _ (by omega)
theorem valN_lt (l : List UInt8) : valN l < 256 ^ l.length := by
  have h := fold_lt l 0
  rw [Nat.zero_add, Nat.one_mul] at h
  exact h
theorem valN_take (l : List UInt8) (k : Nat) (hk : k < l.length) : valN (l.take (k + 1)) = valN (l.take k) * 256 + (l.getD k 0).toNat := by
  rw [List.take_add_one, List.getElem?_eq_getElem hk, List.getD_eq_getElem?_getD, List.getElem?_eq_getElem hk]
  exact valN_snoc _ _
/-- Seven bytes and one more. -/
theorem or_wrap (x y : Nat) (hx : x < 72057594037927936) (hy : y < 256) : bits .or .i64 (IntKind.i64.wrap ((x : Int) * 256)) (y : Int) = IntKind.i64.wrap (((x * 256 + y : Nat)) : Int) := by
  show IntKind.i64.wrap ((BitVec.ofInt 64 (IntKind.i64.wrap ((x : Int) * 256)) ||| BitVec.ofInt 64 (y : Int)).toNat : Int) = _
  have e0 : BitVec.ofInt 64 (IntKind.i64.wrap ((x : Int) * 256)) = BitVec.ofNat 64 (x * 256) := by
    apply BitVec.eq_of_toNat_eq
    rw [BitVec.toNat_ofInt, BitVec.toNat_ofNat, IntKind.wrap_i64]
    omega
  rw [e0, BitVec.toNat_or, BitVec.ofInt_natCast, BitVec.toNat_ofNat, BitVec.toNat_ofNat, Nat.mod_eq_of_lt (by omega), Nat.mod_eq_of_lt (by omega)]
  have h := Nat.two_pow_add_eq_or_of_lt (i := 8) (b := y) (by omega) x
  have e : x * 256 ||| y = x * 256 + y := by
    rw [Nat.mul_comm x 256]
    exact h.symm
  rw [e]
/-- What comes of a number: itself, or an error. -/
def numT (x : Nat) : Value := if 9223372036854775807 < x then .tuple #[.int .i64 0, .int .i64 3] else .tuple #[.int .i64 (x : Int), .int .i64 0]
end Go.Proofs.YtdionedinmkeiaaDoor
namespace Go.Proofs.YtdionedinmkeiaaDoor
open Go Go.RowKit
theorem clone_nil (w : World) : Calls Tryd.prog 80 #[.slice none 0 0] w fun e w' => e = .returned (.slice none 0 0) ∧ w' = w := by
  have hq := nil_nil
  go_enter Tryd.func80, Tryd.ntmps80
  go_wp2
  go_ret
  exact ⟨rfl, rfl⟩
/-- The count of bytes. -/
theorem two_lt (l : List UInt8) : valN (l.take 2) < 65536 := by
  have h := valN_lt (l.take 2)
  exact Nat.lt_of_lt_of_le h (Nat.le_trans (Nat.pow_le_pow_right (by omega) (by rw [List.length_take]; omega : (l.take 2).length ≤ 2)) (by decide))
theorem numT_small (x : Nat) (h : x ≤ 9223372036854775807) : numT x = .tuple #[.int .i64 (x : Int), .int .i64 0] := by unfold numT; rw [if_neg (by omega)]
theorem numT_big (x : Nat) (h : 9223372036854775807 < x) : numT x = .tuple #[.int .i64 0, .int .i64 3] := by unfold numT; rw [if_pos h]
end Go.Proofs.YtdionedinmkeiaaDoor
namespace Go.Proofs.YtdionedinmkeiaaDoor
open Go Go.RowKit
theorem fold_acc (l : List UInt8) : ∀ a : Nat, l.foldl (fun a x => a * 256 + x.toNat) a = a * 256 ^ l.length + valN l := by
  induction l with
  | nil => intro a; simp [valN]
  | cons x l ih =>
    intro a
    have h1 := ih (a * 256 + x.toNat)
    have h2 := ih (0 * 256 + x.toNat)
    have h3 : valN (x :: l) = (0 * 256 + x.toNat) * 256 ^ l.length + valN l := h2
    rw [List.foldl_cons, h1, h3, List.length_cons, Nat.pow_succ', Nat.add_mul, Nat.zero_mul, Nat.zero_add, Nat.mul_assoc, Nat.add_assoc]
theorem valN_cons (x : UInt8) (l : List UInt8) : valN (x :: l) = x.toNat * 256 ^ l.length + valN l := by
  have h : valN (x :: l) = (0 * 256 + x.toNat) * 256 ^ l.length + valN l := fold_acc l (0 * 256 + x.toNat)
  rw [h, Nat.zero_mul, Nat.zero_add]
theorem beN_mod (k : Nat) : ∀ (d v x : Nat), beN k (x * 256 ^ (k + d) + v) = beN k v := by
  induction k with
  | zero => intro d v x; rfl
  | succ k ih =>
    intro d v x
    rw [beN_succ, beN_succ]
    have e1 : x * 256 ^ (k + 1 + d) + v = x * 256 ^ (k + (d + 1)) + v := by rw [show k + 1 + d = k + (d + 1) by omega]
    rw [e1, ih (d + 1) v x]
    congr 2
    rw [Nat.pow_add, show x * (256 ^ k * 256 ^ (d + 1)) + v = v + 256 ^ k * (x * 256 ^ (d + 1)) by rw [Nat.add_comm, Nat.mul_left_comm], Nat.add_mul_div_left _ _ (Nat.pow_pos (by omega)), Nat.pow_succ, ← Nat.mul_assoc, Nat.add_mul_mod_self_right]
theorem beN_val (l : List UInt8) : beN l.length (valN l) = l := by
  induction l with
  | nil => rfl
  | cons x l ih =>
    rw [List.length_cons, beN_succ, valN_cons]
    have hv := valN_lt l
    have hp : 0 < 256 ^ l.length := Nat.pow_pos (by omega)
    have hx := x.toNat_lt
    have h1 : (x.toNat * 256 ^ l.length + valN l) / 256 ^ l.length % 256 = x.toNat := by
      rw [Nat.add_comm, Nat.add_mul_div_right _ _ hp, Nat.div_eq_of_lt hv]
      omega
    have h2 := beN_mod l.length 0 (valN l) x.toNat
    rw [Nat.add_zero] at h2
    rw [h1, h2, ih]
    congr 1
    exact UInt8.toNat_inj.mp (by rw [UInt8.toNat_ofNat']; omega)
/-- What is got of bytes: the field, the bytes behind it, the error. -/
def getF (l : List UInt8) (s : Int) : Fd × List UInt8 × Int :=
  if s < 0 ∨ 4 < s then (Fd.zero, [], 13)
  else if s = 4 then
    (if l.length < 2 then (Fd.zero, [], 4) else if 512 < valN (l.take 2) then (Fd.zero, [], 3) else if l.length - 2 < valN (l.take 2) then (Fd.zero, [], 4)
     else (⟨4, 0, (l.drop 2).take (valN (l.take 2))⟩, (l.drop 2).drop (valN (l.take 2)), 0))
  else if l.length < wid s then (Fd.zero, [], 4) else if 9223372036854775807 < valN (l.take (wid s)) then (Fd.zero, [], 3) else (⟨s, (valN (l.take (wid s)) : Int), []⟩, l.drop (wid s), 0)
theorem zero_isF (W : World) : IsF W fZero Fd.zero := ⟨_, rfl, Bytes.nil _⟩
end Go.Proofs.YtdionedinmkeiaaDoor
namespace Go.Proofs.YtdionedinmkeiaaDoor
open Go Go.RowKit
theorem fld1g (a b : Int) (x : Option Addr) (n c : Nat) (W : World) : (Instr.field 136 (.agg #[.int .i64 a, .int .i64 b, .slice x n c]) 1).run Tryd.prog W = .ok (.int .i64 b) W := by kernel_rfl
theorem fld2g (a b : Int) (x : Option Addr) (n c : Nat) (W : World) : (Instr.field 136 (.agg #[.int .i64 a, .int .i64 b, .slice x n c]) 2).run Tryd.prog W = .ok (.slice x n c) W := by kernel_rfl
/-- What a reader's Get does: nothing behind an error. -/
def getR (l : List UInt8) (er s : Int) : Fd × List UInt8 × Int := if er ≠ 0 then (Fd.zero, l, er) else getF l s
/-- What a reader's Bytes does. -/
def bytR (l : List UInt8) (er longest : Int) : List UInt8 × List UInt8 × Int :=
  if longest < ((getR l er 4).1.b.length : Int) then ([], if (getR l er 4).2.2 = 0 then ([], 3) else ((getR l er 4).2.1, (getR l er 4).2.2)) else ((getR l er 4).1.b, (getR l er 4).2)
end Go.Proofs.YtdionedinmkeiaaDoor
