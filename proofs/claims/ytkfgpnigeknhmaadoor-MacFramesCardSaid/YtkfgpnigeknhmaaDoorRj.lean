/-
  The document's digest: the bytes at the end.
-/
import Derived.Test.YtkfgpnigeknhmaaDoorRf
namespace Go.Proofs.YtkfgpnigeknhmaaDoor
open Go Go.RowKit
/-- The bytes, when i of them are made. -/
def outB (hl : List (BitVec 32)) : Nat → List UInt8
  | 0 => List.replicate 32 0
  | i + 1 => (outB hl i).set i (byteOf (hl.getD (i / 4) 0) (3 - i % 4))
theorem outB_length (hl : List (BitVec 32)) (i : Nat) : (outB hl i).length = 32 := by
  induction i with
  | zero => rfl
  | succ i ih => rw [outB, List.length_set, ih]
theorem outB_at (a b c d e f g i : BitVec 32) : outB [a, b, c, d, e, f, g, i] 32 = outOf [a, b, c, d, e, f, g, i] := by kernel_rfl
theorem outB_all (ws : List (BitVec 32)) (h : ws.length = 8) : outB ws 32 = outOf ws := by
  match ws, h with
  | [a, b, c, d, e, f, g, i], _ => exact outB_at a b c d e f g i
theorem out_byte (x : BitVec 32) (i sh : Nat) (h : sh = 24 - 8 * (i % 4)) : uv x / 2 ^ sh % 256 = ub (byteOf x (3 - i % 4)) := by
  rw [← uv_byte, h, show 24 - 8 * (i % 4) = 8 * (3 - i % 4) by omega]
/-- What holds at the head of each byte. -/
structure I8 (v2 v4 v5 v9 : Value) (Hb Ob : Nat) (W0 : World) (hl : List (BitVec 32)) (k : Nat) (a : Act) (wr : World) : Prop where
  lv : Lv v2 v4 v5 (.pointer (some ⟨Hb, 0, none⟩)) v9 a
  s24 : a.eval (.tmp 24) = .pointer (some ⟨Ob, 0, none⟩)
  s25 : a.eval (.tmp 25) = .int .i64 (k : Int)
  row : wr.heap[Ob]? = some (.cells (u8s (outB hl k)) 26 (0, 0))
  kept : W0.grownBy wr (some Ob)
set_option maxRecDepth 100000 in
set_option maxHeartbeats 1000000 in
theorem round8 (v2 v4 v5 v9 : Value) (Hb Ob : Nat) (W0 : World) (hl : List (BitVec 32)) (Q : Exit → Act → World → Prop)
    (hV : ∀ i, i < 8 → W0.cell? ⟨Hb, i, none⟩ = some (.int .u32 (uv (hl.getD i 0)))) (hv : Hb ≠ Ob)
    (k : Nat) (hk : k < 32) (a : Act) (wr : World) (h : I8 v2 v4 v5 v9 Hb Ob W0 hl k a wr) :
    Code.wp Tryd.prog (loopAt Tryd.f12.body 7) (Exit.then (fun a' w' => I8 v2 v4 v5 v9 Hb Ob W0 hl (k + 1) a' w') Q) a wr := by
  have c1 : ∃ v, wr.cell? ⟨Ob, k, none⟩ = some v := ⟨_, by rw [cell_of_row _ _ _ _ _ _ h.row]; exact u8s_get _ _ (by rw [outB_length]; exact hk)⟩
  obtain ⟨v1, c1⟩ := c1
  have f1 := frozen_of_row wr Ob k _ _ h.row
  have c2 := h.kept.cell (hV (k / 4) (by omega)) (by simpa using hv)
  have HS : Bx ((wr.setCell ⟨Ob, k, none⟩ (.int .u8 (ub (byteOf (hl.getD (k / 4) 0) (3 - k % 4))))).heap[Ob]? = some (.cells (u8s (outB hl (k + 1))) 26 (0, 0))) := Bx.mk (by
    rw [heap_setCell_same wr _ _ _ _ _ h.row, u8s_set]; rfl)
  have HK := Bx.mk h.kept
  obtain ⟨x, rfl, hx⟩ := open266 h.lv.fr
  have e2 := (hx 2).symm.trans h.lv.s2
  have e4 := (hx 4).symm.trans h.lv.s4
  have e5 := (hx 5).symm.trans h.lv.s5
  have e8 := (hx 8).symm.trans h.lv.s8
  have e9 := (hx 9).symm.trans h.lv.s9
  have e24 := (hx 24).symm.trans h.s24
  have e25 := (hx 25).symm.trans h.s25
  clear h hx hV hv
  rw [e2, e4, e5, e8, e9, e24, e25]
  clear e2 e4 e5 e8 e9 e24 e25
  generalize hl.getD (k / 4) 0 = x0 at *
  obtain ⟨sh, hsh⟩ : ∃ sh, sh = 24 - 8 * (k % 4) := ⟨_, rfl⟩
  have HX := Bx.mk (out_byte x0 k sh hsh)
  obtain ⟨kd, hkd⟩ : ∃ kd, k / 4 = kd := ⟨_, rfl⟩
  rw [hkd] at c2
  have q1 : (k : Int) / 4 = (kd : Int) := by omega
  have q2 : (kd : Int) < 8 := by omega
  have q3 : 24 - 8 * ((k : Int) % 4) = (sh : Int) := by omega
  have q4 : (sh : Int) ≤ 24 := by omega
  have HD := Bx.mk hkd
  have HH := Bx.mk hsh
  clear hkd hsh
  have hk1 : (k : Int) < 32 := by omega
  conv => arg 2; whnf
  go_wp2
  rw [HX.out]
  exact ⟨⟨⟨rfl, rfl⟩, rfl, rfl, rfl, rfl, rfl⟩, rfl, by go_num, HS.out, kb_trans HK.out (kb_setCell _ _ _)⟩
set_option maxRecDepth 100000 in
theorem last8 (v2 v4 v5 v9 : Value) (Hb Ob : Nat) (W0 : World) (hl : List (BitVec 32)) (Q : Exit → Act → World → Prop) (N : Act → World → Prop)
    (hq : ∀ a' w', I8 v2 v4 v5 v9 Hb Ob W0 hl 32 a' w' → Q (.exit 14) a' w') (a : Act) (wr : World) (h : I8 v2 v4 v5 v9 Hb Ob W0 hl 32 a wr) :
    Code.wp Tryd.prog (loopAt Tryd.f12.body 7) (Exit.then N Q) a wr := by
  have HR := Bx.mk h.row
  have HK := Bx.mk h.kept
  have HQ := Bx.mk hq
  clear hq
  obtain ⟨x, rfl, hx⟩ := open266 h.lv.fr
  have e2 := (hx 2).symm.trans h.lv.s2
  have e4 := (hx 4).symm.trans h.lv.s4
  have e5 := (hx 5).symm.trans h.lv.s5
  have e8 := (hx 8).symm.trans h.lv.s8
  have e9 := (hx 9).symm.trans h.lv.s9
  have e24 := (hx 24).symm.trans h.s24
  have e25 : x 25 = .int .i64 32 := (hx 25).symm.trans h.s25
  clear h hx 
  rw [e2, e4, e5, e8, e9, e24, e25]
  clear e2 e4 e5 e8 e9 e24 e25
  conv => arg 2; whnf
  go_wp2
  exact HQ.out _ _ ⟨⟨⟨rfl, rfl⟩, rfl, rfl, rfl, rfl, rfl⟩, rfl, rfl, HR.out, HK.out⟩
/-- The 32 bytes. -/
theorem loop8 (v2 v4 v5 v9 : Value) (Hb Ob : Nat) (W0 : World) (hl : List (BitVec 32)) (Q : Exit → Act → World → Prop)
    (hV : ∀ i, i < 8 → W0.cell? ⟨Hb, i, none⟩ = some (.int .u32 (uv (hl.getD i 0)))) (hv : Hb ≠ Ob)
    (a : Act) (wr : World) (h : I8 v2 v4 v5 v9 Hb Ob W0 hl 0 a wr) (hq : ∀ a' w', I8 v2 v4 v5 v9 Hb Ob W0 hl 32 a' w' → Q (.exit 14) a' w') :
    Code.wp Tryd.prog (.loop (loopAt Tryd.f12.body 7)) Q a wr :=
  wp_count 32 (fun q => I8 v2 v4 v5 v9 Hb Ob W0 hl q) 0 (by omega) h (fun q a w hlt hI => round8 v2 v4 v5 v9 Hb Ob W0 hl Q hV hv q hlt a w hI) (fun a w hI => last8 v2 v4 v5 v9 Hb Ob W0 hl Q _ hq a w hI)
end Go.Proofs.YtkfgpnigeknhmaaDoor
