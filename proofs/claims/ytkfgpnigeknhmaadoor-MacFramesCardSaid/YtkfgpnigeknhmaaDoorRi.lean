/-
  The document's digest: what is added behind a block, and the bytes at the end.
-/
import Derived.Test.YtkfgpnigeknhmaaDoorRf
namespace Go.Proofs.YtkfgpnigeknhmaaDoor
open Go Go.RowKit
/-- What holds while a block's words are added. -/
structure I7 (v2 v4 v5 v9 : Value) (Hb Vb : Nat) (W0 : World) (hl rl : List (BitVec 32)) (k : Nat) (a : Act) (wr : World) : Prop where
  lv : Lv v2 v4 v5 (.pointer (some ⟨Hb, 0, none⟩)) v9 a
  s15 : a.eval (.tmp 15) = .pointer (some ⟨Vb, 0, none⟩)
  s23 : a.eval (.tmp 23) = .int .i64 (k : Int)
  row : wr.heap[Hb]? = some (.cells (u32s (addW hl rl k)) 30 (0, 0))
  kept : W0.grownBy wr (some Hb)
set_option maxRecDepth 100000 in
set_option maxHeartbeats 1000000 in
theorem round7 (v2 v4 v5 v9 : Value) (Hb Vb : Nat) (W0 : World) (hl rl : List (BitVec 32)) (Q : Exit → Act → World → Prop)
    (hV : ∀ i, i < 8 → W0.cell? ⟨Vb, i, none⟩ = some (.int .u32 (uv (rl.getD i 0)))) (hv : Vb ≠ Hb) (hh : hl.length = 8)
    (k : Nat) (hk : k < 8) (a : Act) (wr : World) (h : I7 v2 v4 v5 v9 Hb Vb W0 hl rl k a wr) :
    Code.wp Tryd.prog (loopAt Tryd.f12.body 6) (Exit.then (fun a' w' => I7 v2 v4 v5 v9 Hb Vb W0 hl rl (k + 1) a' w') Q) a wr := by
  have c1 := cell_u32 h.row k (by rw [addW_length]; omega)
  have f1 := frozen_of_row wr Hb k _ _ h.row
  have c2 := h.kept.cell (hV k hk) (by simpa using hv)
  have HS : Bx (∀ n, ((wr.drewN n).setCell ⟨Hb, k, none⟩ (.int .u32 (uv ((addW hl rl k).getD k 0 + rl.getD k 0)))).heap[Hb]? = some (.cells (u32s (addW hl rl (k + 1))) 30 (0, 0))) := Bx.mk (fun n => by
    rw [heap_setCell_same (wr.drewN n) _ _ _ _ _ h.row, u32s_set]; rfl)
  have HK := Bx.mk h.kept
  obtain ⟨x, rfl, hx⟩ := open266 h.lv.fr
  have e2 := (hx 2).symm.trans h.lv.s2
  have e4 := (hx 4).symm.trans h.lv.s4
  have e5 := (hx 5).symm.trans h.lv.s5
  have e8 := (hx 8).symm.trans h.lv.s8
  have e9 := (hx 9).symm.trans h.lv.s9
  have e15 := (hx 15).symm.trans h.s15
  have e23 := (hx 23).symm.trans h.s23
  clear h hx hV hv hh
  rw [e2, e4, e5, e8, e9, e15, e23]
  clear e2 e4 e5 e8 e9 e15 e23
  generalize (addW hl rl k).getD k 0 = x0 at *
  generalize rl.getD k 0 = y0 at *
  have hk1 : (k : Int) < 8 := by omega
  conv => arg 2; whnf
  go_wp2
  go_still_tail 9, (by kernel_rfl)
  change wpList _ _ _ _ _ (wr.drewN 1)
  go_wp2
  exact ⟨⟨⟨rfl, rfl⟩, rfl, rfl, rfl, rfl, rfl⟩, rfl, by go_num, by rw [uv_add]; exact HS.out _, kb_trans (kb_trans HK.out (kb_drewN _ _ _)) (kb_setCell _ _ _)⟩
set_option maxRecDepth 100000 in
theorem last7 (v2 v4 v5 v9 : Value) (Hb Vb : Nat) (W0 : World) (hl rl : List (BitVec 32)) (Q : Exit → Act → World → Prop) (N : Act → World → Prop)
    (hq : ∀ a' w', I7 v2 v4 v5 v9 Hb Vb W0 hl rl 8 a' w' → Q (.exit 12) a' w') (a : Act) (wr : World) (h : I7 v2 v4 v5 v9 Hb Vb W0 hl rl 8 a wr) :
    Code.wp Tryd.prog (loopAt Tryd.f12.body 6) (Exit.then N Q) a wr := by
  have HR := Bx.mk h.row
  have HK := Bx.mk h.kept
  have HQ := Bx.mk hq
  clear hq
  obtain ⟨x, rfl, hx⟩ := open266 h.lv.fr
  have e2 := (hx 2).symm.trans h.lv.s2
  have e4 := (hx 4).symm.trans h.lv.s4
  have e5 := (hx 5).symm.trans h.lv.s5
  have e8 := (hx 8).symm.trans h.lv.s8
  have e9 := (hx 9).symm.trans h.lv.s9
  have e15 := (hx 15).symm.trans h.s15
  have e23 : x 23 = .int .i64 8 := (hx 23).symm.trans h.s23
  clear h hx 
  rw [e2, e4, e5, e8, e9, e15, e23]
  clear e2 e4 e5 e8 e9 e15 e23
  conv => arg 2; whnf
  go_wp2
  exact HQ.out _ _ ⟨⟨⟨rfl, rfl⟩, rfl, rfl, rfl, rfl, rfl⟩, rfl, rfl, HR.out, HK.out⟩
/-- A block's words are added. -/
theorem loop7 (v2 v4 v5 v9 : Value) (Hb Vb : Nat) (W0 : World) (hl rl : List (BitVec 32)) (Q : Exit → Act → World → Prop)
    (hV : ∀ i, i < 8 → W0.cell? ⟨Vb, i, none⟩ = some (.int .u32 (uv (rl.getD i 0)))) (hv : Vb ≠ Hb) (hh : hl.length = 8)
    (a : Act) (wr : World) (h : I7 v2 v4 v5 v9 Hb Vb W0 hl rl 0 a wr) (hq : ∀ a' w', I7 v2 v4 v5 v9 Hb Vb W0 hl rl 8 a' w' → Q (.exit 12) a' w') :
    Code.wp Tryd.prog (.loop (loopAt Tryd.f12.body 6)) Q a wr :=
  wp_count 8 (fun q => I7 v2 v4 v5 v9 Hb Vb W0 hl rl q) 0 (by omega) h (fun q a w hlt hI => round7 v2 v4 v5 v9 Hb Vb W0 hl rl Q hV hv hh q hlt a w hI) (fun a w hI => last7 v2 v4 v5 v9 Hb Vb W0 hl rl Q _ hq a w hI)
end Go.Proofs.YtkfgpnigeknhmaaDoor
