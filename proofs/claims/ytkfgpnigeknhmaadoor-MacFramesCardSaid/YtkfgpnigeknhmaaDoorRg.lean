/-
  The document's digest: the 64 rounds of a block.
-/
import Derived.Test.YtkfgpnigeknhmaaDoorRf
namespace Go.Proofs.YtkfgpnigeknhmaaDoor
open Go Go.RowKit
/-- What holds at the head of each of the 64 rounds. -/
structure I6 (v2 v4 v5 v8 v9 : Value) (Wb Vb : Nat) (W0 : World) (bl : List UInt8) (s : Eight) (k : Nat) (a : Act) (wr : World) : Prop where
  lv : Lv v2 v4 v5 v8 v9 a
  s10 : a.eval (.tmp 10) = .pointer (some ⟨Wb, 0, none⟩)
  s15 : a.eval (.tmp 15) = .pointer (some ⟨Vb, 0, none⟩)
  s16 : a.eval (.tmp 16) = .int .i64 (k : Int)
  row : wr.heap[Vb]? = some (.cells (u32s (rnds bl s k).list) 30 (0, 0))
  kept : W0.grownBy wr (some Vb)
set_option maxRecDepth 100000 in
set_option maxHeartbeats 1000000 in
theorem round6 (v4 v5 v8 v9 : Value) (Tb Wb Vb : Nat) (W0 : World) (bl : List UInt8) (s : Eight) (Q : Exit → Act → World → Prop)
    (hT : ∀ i, i < 64 → W0.cell? ⟨Tb, i, none⟩ = some (.int .u32 (uv (kTab.getD i 0)))) (hW : ∀ i, i < 64 → W0.cell? ⟨Wb, i, none⟩ = some (.int .u32 (uv ((words bl).getD i 0)))) (ht : Tb ≠ Vb) (hw : Wb ≠ Vb)
    (k : Nat) (hk : k < 64) (a : Act) (wr : World) (h : I6 (.pointer (some ⟨Tb, 0, none⟩)) v4 v5 v8 v9 Wb Vb W0 bl s k a wr) :
    Code.wp Tryd.prog (loopAt Tryd.f12.body 5) (Exit.then (fun a' w' => I6 (.pointer (some ⟨Tb, 0, none⟩)) v4 v5 v8 v9 Wb Vb W0 bl s (k + 1) a' w') Q) a wr := by
  have ct := h.kept.cell (hT k hk) (by simpa using ht)
  have cw := h.kept.cell (hW k hk) (by simpa using hw)
  have c0 := cell_u32 h.row 0 (by rw [eight_len]; omega)
  have c1 := cell_u32 h.row 1 (by rw [eight_len]; omega)
  have c2 := cell_u32 h.row 2 (by rw [eight_len]; omega)
  have c3 := cell_u32 h.row 3 (by rw [eight_len]; omega)
  have c4 := cell_u32 h.row 4 (by rw [eight_len]; omega)
  have c5 := cell_u32 h.row 5 (by rw [eight_len]; omega)
  have c6 := cell_u32 h.row 6 (by rw [eight_len]; omega)
  have c7 := cell_u32 h.row 7 (by rw [eight_len]; omega)
  have HN : Bx (rnds bl s (k + 1) = step (rnds bl s k) ((words bl).getD k 0) (kTab.getD k 0)) := Bx.mk rfl
  generalize (words bl).getD k 0 = x0 at *
  generalize kTab.getD k 0 = y0 at *
  have HR := Bx.mk h.row
  have HK := Bx.mk h.kept
  obtain ⟨x, rfl, hx⟩ := open266 h.lv.fr
  have e2 := (hx 2).symm.trans h.lv.s2
  have e4 := (hx 4).symm.trans h.lv.s4
  have e5 := (hx 5).symm.trans h.lv.s5
  have e8 := (hx 8).symm.trans h.lv.s8
  have e9 := (hx 9).symm.trans h.lv.s9
  have e10 := (hx 10).symm.trans h.s10
  have e15 := (hx 15).symm.trans h.s15
  have e16 := (hx 16).symm.trans h.s16
  clear h hx hT hW ht hw
  rw [e2, e4, e5, e8, e9, e10, e15, e16]
  clear e2 e4 e5 e8 e9 e10 e15 e16
  generalize rnds bl s k = r at *
  change _ = some (Value.int .u32 (uv r.a)) at c0
  change _ = some (Value.int .u32 (uv r.b)) at c1
  change _ = some (Value.int .u32 (uv r.c)) at c2
  change _ = some (Value.int .u32 (uv r.d)) at c3
  change _ = some (Value.int .u32 (uv r.e)) at c4
  change _ = some (Value.int .u32 (uv r.f)) at c5
  change _ = some (Value.int .u32 (uv r.g)) at c6
  change _ = some (Value.int .u32 (uv r.h)) at c7
  have hk1 : (k : Int) < 64 := by omega
  conv => arg 2; whnf
  go_wp2
  go_big_quiet ((go_at_call 40; with_reducible exact Calls.quiet_of (right_int _ _ _ (by decide) (by decide))))
  go_wp2
  go_big_quiet (fail)
  go_wp2
  go_big_quiet ((go_at_call 40; with_reducible exact qz (right_int _ _ _ (by decide) (by decide))))
  go_upto_region 35 with (fail)
  rw [low_doc, high_doc]
  have HI : Bx ((Tryd.prog.info? 30).map (·.size) = some (u32s (step r x0 y0).list).size) := Bx.mk (by rw [u32s_size]; kernel_rfl)
  have HZ : Bx ((u32s (step r x0 y0).list).size = (u32s r.list).size) := Bx.mk (by rw [u32s_size, u32s_size]; rfl)
  go_wp2_with (refine wpList_store_new rfl 30 _ _ rfl Vb (u32s (step r x0 y0).list) _ _ (by rfl) (agg8 r x0 y0 _ _ (uv_add _ _) (uv_add _ _)) HR.out HZ.out HI.out (one_u32s _) ?_; intro w5 hw5 hr5; have H5 : Bx (W0.grownBy w5 (some Vb)) := Bx.mk (by rw [hw5]; exact kb_trans (kb_trans HK.out (kb_drewN _ _ _)) (kb_setCells _ _ _)); have H6 := Bx.mk hr5; clear hw5 hr5)
  exact ⟨⟨⟨rfl, rfl⟩, rfl, rfl, rfl, rfl, rfl⟩, rfl, rfl, by go_num, by rw [HN.out]; exact H6.out, H5.out⟩
set_option maxRecDepth 100000 in
set_option maxHeartbeats 1000000 in
theorem last6 (v2 v4 v5 v8 v9 : Value) (Wb Vb : Nat) (W0 : World) (bl : List UInt8) (s : Eight) (Q : Exit → Act → World → Prop)
    (a : Act) (wr : World) (h : I6 v2 v4 v5 v8 v9 Wb Vb W0 bl s 64 a wr) (hq : ∀ a' w', I6 v2 v4 v5 v8 v9 Wb Vb W0 bl s 64 a' w' → Q (.exit 10) a' w') (N : Act → World → Prop) :
    Code.wp Tryd.prog (loopAt Tryd.f12.body 5) (Exit.then N Q) a wr := by
  have HR := Bx.mk h.row
  have HK := Bx.mk h.kept
  obtain ⟨x, rfl, hx⟩ := open266 h.lv.fr
  have e2 := (hx 2).symm.trans h.lv.s2
  have e4 := (hx 4).symm.trans h.lv.s4
  have e5 := (hx 5).symm.trans h.lv.s5
  have e8 := (hx 8).symm.trans h.lv.s8
  have e9 := (hx 9).symm.trans h.lv.s9
  have e10 := (hx 10).symm.trans h.s10
  have e15 := (hx 15).symm.trans h.s15
  have e16 : x 16 = .int .i64 64 := (hx 16).symm.trans h.s16
  clear h hx
  rw [e2, e4, e5, e8, e9, e10, e15, e16]
  clear e2 e4 e5 e8 e9 e10 e15 e16
  conv => arg 2; whnf
  have HQ := Bx.mk hq
  clear hq
  go_wp2
  exact HQ.out _ _ ⟨⟨⟨rfl, rfl⟩, rfl, rfl, rfl, rfl, rfl⟩, rfl, rfl, rfl, HR.out, HK.out⟩
/-- The 64 rounds. -/
theorem loop6 (v4 v5 v8 v9 : Value) (Tb Wb Vb : Nat) (W0 : World) (bl : List UInt8) (s : Eight) (Q : Exit → Act → World → Prop)
    (hT : ∀ i, i < 64 → W0.cell? ⟨Tb, i, none⟩ = some (.int .u32 (uv (kTab.getD i 0)))) (hW : ∀ i, i < 64 → W0.cell? ⟨Wb, i, none⟩ = some (.int .u32 (uv ((words bl).getD i 0)))) (ht : Tb ≠ Vb) (hw : Wb ≠ Vb)
    (a : Act) (wr : World) (h : I6 (.pointer (some ⟨Tb, 0, none⟩)) v4 v5 v8 v9 Wb Vb W0 bl s 0 a wr)
    (hq : ∀ a' w', I6 (.pointer (some ⟨Tb, 0, none⟩)) v4 v5 v8 v9 Wb Vb W0 bl s 64 a' w' → Q (.exit 10) a' w') :
    Code.wp Tryd.prog (.loop (loopAt Tryd.f12.body 5)) Q a wr := by
  refine wp_loop (fun a w => ∃ k, k ≤ 64 ∧ I6 (.pointer (some ⟨Tb, 0, none⟩)) v4 v5 v8 v9 Wb Vb W0 bl s k a w) (fun a _ => 64 - (intOf (a.eval (.tmp 16))).toNat) ⟨0, by omega, h⟩ ?_
  rintro a w ⟨k, hk, hI⟩
  by_cases hlt : k < 64
  · refine wp_mono (round6 v4 v5 v8 v9 Tb Wb Vb W0 bl s Q hT hW ht hw k hlt a w hI) ?_
    rintro (_ | _ | _ | _ | _ | _) a' w' hq'
    case normal => exact ⟨⟨k + 1, by omega, hq'⟩, by rw [hI.s16, I6.s16 hq']; simp only [intOf]; omega⟩
    all_goals exact hq'
  · have e : k = 64 := by omega
    subst e
    exact last6 _ _ _ _ _ _ _ _ _ _ _ a w hI hq _
end Go.Proofs.YtkfgpnigeknhmaaDoor
