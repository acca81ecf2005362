/-
  The walks of the small functions on words.
-/
import Derived.Test.YtkfgpnigeknhmaaDoorProg
import Derived.Test.YtkfgpnigeknhmaaDoorSha
import Derived.WalkKit
import Derived.ProofKit
import Derived.Handy
import Derived.PlainAid
import Derived.WalkLawsBesides
import Derived.Outline
import Derived.BigQuiet
import Derived.Deep.QuietTactic
import Derived.Lib.Hide
namespace Go.Proofs.YtkfgpnigeknhmaaDoor
open Go Go.RowKit

theorem ret_u32 {a b : Int} (h : a = b) : Ending.returned (.int .u32 a) = .returned (.int .u32 b) := by rw [h]
/-- A quiet call in a quiet region, whatever has been drawn ahead of it. -/
theorem qz {P : Program} {f : FuncId} {args : Array Value} {w : World} {a n : Nat} {v : Value}
    (h : Calls P f args (w.drewN (a + n)) fun e w' => e = .returned v ∧ ∃ m, w' = (w.drewN (a + n)).drewN m) :
    Calls P f args (w.drewN (a + n)) fun e w'' => e = .returned v ∧ ∃ m, w'' = w.drewN (a + m) :=
  h.mono fun _ _ ⟨he, m, hm⟩ => ⟨he, n + m, by rw [hm, World.drewN_drewN, Nat.add_assoc]⟩

theorem rotl_any (x : BitVec 32) (k : Nat) (w : World) (h0 : 0 < k) (h1 : k < 32) :
    Calls Tryd.prog 60 #[.int .u32 (uv x), .int .i64 (-(k : Int))] w fun e w' => e = .returned (.int .u32 (uv (x.rotateRight k))) ∧ w = w' := by
  have hb := rot_count k h0 h1
  have h2 : (0 : Int) ≤ ((32 - k : Nat) : Int) := by omega
  have h3 : ((32 - k : Nat) : Int) ≤ 32 := by omega
  have h4 : IntKind.u64.wrap (32 - ((32 - k : Nat) : Int)) = (k : Int) := by rw [IntKind.wrap_u64]; omega
  go_enter Tryd.func60, Tryd.ntmps60
  go_wp2
  go_ret
  exact ⟨ret_u32 (by rw [uv_shl, uv_shr, uv_or, rot_or x k h1]), rfl⟩
theorem rotl_q (x : BitVec 32) (k : Nat) (w : World) (h0 : 0 < k) (h1 : k < 32) :
    Calls Tryd.prog 60 #[.int .u32 (uv x), .int .i64 (-(k : Int))] w fun e w' => e = .returned (.int .u32 (uv (x.rotateRight k))) ∧ ∃ m, w' = w.drewN m :=
  (rotl_any x k w h0 h1).mono fun _ _ ⟨he, hw⟩ => ⟨he, 0, hw.symm⟩

theorem right_any (x : BitVec 32) (k : Nat) (w : World) (h0 : 0 < k) (h1 : k < 32) :
    Calls Tryd.prog 40 #[.int .u32 (uv x), .int .i64 (k : Int)] w fun e w' => e = .returned (.int .u32 (uv (x.rotateRight k))) ∧ ∃ n, w' = w.drewN n := by
  have h2 : (0 : Int) ≤ (k : Int) := by omega
  have h3 : (k : Int) ≤ 32 := by omega
  have h4 : IntKind.i64.wrap (32 - (k : Int)) = ((32 - k : Nat) : Int) := by rw [IntKind.wrap_i64]; omega
  have h5 : (0 : Int) ≤ ((32 - k : Nat) : Int) := by omega
  have h6 : ((32 - k : Nat) : Int) ≤ 32 := by omega
  go_enter Tryd.func40, Tryd.ntmps40
  go_wp2
  go_quiet (fail)
  go_wp2
  go_ret
  exact ⟨ret_u32 (by rw [uv_shl, uv_shr, uv_or, rot_or' x k h1]), _, rfl⟩

theorem sigma_any (x : BitVec 32) (a b c : Nat) (w : World) (ha : 0 < a) (ha' : a < 32) (hb : 0 < b) (hb' : b < 32) (hc : c < 32) :
    Calls Tryd.prog 64 #[.int .u32 (uv x), .int .i64 (a : Int), .int .i64 (b : Int), .int .i64 (c : Int)] w fun e w' => e = .returned (.int .u32 (uv (sig x a b c))) ∧ ∃ n, w' = w.drewN n := by
  have h2 : (0 : Int) ≤ (c : Int) := by omega
  have h3 : (c : Int) ≤ 32 := by omega
  have h4 : IntKind.i64.wrap (-(a : Int)) = -(a : Int) := IntWalk.i64_in _ (by omega)
  have h5 : IntKind.i64.wrap (-(b : Int)) = -(b : Int) := IntWalk.i64_in _ (by omega)
  go_enter Tryd.func64, Tryd.ntmps64
  go_wp2
  go_quiet ((go_at_call 60; exact Calls.quiet_of (rotl_q _ _ _ (by omega) (by omega))))
  go_wp2
  go_ret
  exact ⟨ret_u32 (by rw [uv_shr, uv_xor, uv_xor]; rfl), _, rfl⟩

theorem turn_any (x : BitVec 32) (a b c : Nat) (w : World) (ha : 0 < a) (ha' : a < 32) (hb : 0 < b) (hb' : b < 32) (hc : 0 < c) (hc' : c < 32) :
    Calls Tryd.prog 59 #[.int .u32 (uv x), .int .i64 (a : Int), .int .i64 (b : Int), .int .i64 (c : Int)] w fun e w' => e = .returned (.int .u32 (uv (tur x a b c))) ∧ w = w' := by
  go_enter Tryd.func59, Tryd.ntmps59
  go_wp2_with (go_at_call 60; refine (rotl_any x _ _ (by omega) (by omega)).mono ?_; rintro e w' ⟨rfl, rfl⟩)
  go_ret
  exact ⟨ret_u32 (by rw [uv_xor, uv_xor]; rfl), rfl⟩

theorem get32_any (b off len cap : Nat) (x0 x1 x2 x3 : UInt8) (w : World) (hl : 4 ≤ len) (h0 : w.cell? ⟨b, off, none⟩ = some (.int .u8 (ub x0))) (h1 : w.cell? ⟨b, off + 1, none⟩ = some (.int .u8 (ub x1))) (h2 : w.cell? ⟨b, off + 2, none⟩ = some (.int .u8 (ub x2))) (h3 : w.cell? ⟨b, off + 3, none⟩ = some (.int .u8 (ub x3))) :
    Calls Tryd.prog 63 #[.slice (some ⟨b, off, none⟩) len cap] w fun e w' => e = .returned (.int .u32 (uv (be32 x0 x1 x2 x3))) ∧ ∃ n, w' = w.drewN n := by
  have g0 : (0 : Int) < (len : Int) := by omega
  have g1 : (1 : Int) < (len : Int) := by omega
  have g2 : (2 : Int) < (len : Int) := by omega
  have g3 : (3 : Int) < (len : Int) := by omega
  go_enter Tryd.func63, Tryd.ntmps63
  go_wp2
  go_quiet (fail)
  go_wp2
  go_ret
  refine ⟨ret_u32 ?_, _, rfl⟩
  have k24 := fun x => uv_shl x 24
  have k16 := fun x => uv_shl x 16
  have k8 := fun x => uv_shl x 8
  simp only [Int.reducePow] at k24 k16 k8
  simp only [ub_wide, uv_mod, k24, k16, k8, uv_or]
  rfl

/-- The world behind four bytes that were put. -/
def put4 (w : World) (b off : Nat) (x : BitVec 32) : World :=
  (((w.setCell ⟨b, off, none⟩ (.int .u8 (ub (byteOf x 3)))).setCell ⟨b, off + 1, none⟩ (.int .u8 (ub (byteOf x 2)))).setCell ⟨b, off + 2, none⟩ (.int .u8 (ub (byteOf x 1)))).setCell ⟨b, off + 3, none⟩ (.int .u8 (ub (byteOf x 0)))
theorem put32_any (b off len cap : Nat) (x : BitVec 32) (w : World) (hl : 4 ≤ len) (v0 v1 v2 v3 : Value) (h0 : w.cell? ⟨b, off, none⟩ = some v0) (h1 : w.cell? ⟨b, off + 1, none⟩ = some v1) (h2 : w.cell? ⟨b, off + 2, none⟩ = some v2) (h3 : w.cell? ⟨b, off + 3, none⟩ = some v3)
    (f0 : w.frozen? ⟨b, off, none⟩ = false) (f1 : w.frozen? ⟨b, off + 1, none⟩ = false) (f2 : w.frozen? ⟨b, off + 2, none⟩ = false) (f3 : w.frozen? ⟨b, off + 3, none⟩ = false) :
    Calls Tryd.prog 55 #[.slice (some ⟨b, off, none⟩) len cap, .int .u32 (uv x)] w fun e w' => e = .returned (.tuple #[]) ∧ w' = put4 w b off x := by
  have g0 : (0 : Int) < (len : Int) := by omega
  have g1 : (1 : Int) < (len : Int) := by omega
  have g2 : (2 : Int) < (len : Int) := by omega
  have g3 : (3 : Int) < (len : Int) := by omega
  go_enter Tryd.func55, Tryd.ntmps55
  go_wp2
  go_end0
  refine ⟨rfl, ?_⟩
  simp only [uv_byte0, uv_byte1, uv_byte2, uv_byte3]
  rfl
end Go.Proofs.YtkfgpnigeknhmaaDoor
