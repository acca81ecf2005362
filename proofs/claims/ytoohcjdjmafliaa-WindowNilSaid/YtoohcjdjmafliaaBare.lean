/-
  WindowNil, whole.
-/
import Derived.Test.YtoohcjdjmafliaaW11
import Derived.Test.YtoohcjdjmafliaaW3
namespace Go.Proofs.Ytoohcjdjmafliaa
open Go Go.RowKit
theorem nns_one (W : World) (n : Nn) (T : TypeId) : NnsR (W.alloc (.cells #[.int .i64 n.b, .int .i64 n.c] T)) (.slice (some ⟨W.heap.size, 0, none⟩) 1 1) [n] := by
  have h := nnc_new W n T
  refine ⟨_, 1, rfl, Nat.le_refl _, (fun h => by cases h), fun _ => ⟨_, 0, rfl, fun k hk => ?_⟩⟩
  have hk0 : k = 0 := by simpa using hk
  subst hk0
  exact ⟨h 0 _ rfl, h 1 _ rfl⟩
set_option maxRecDepth 100000 in
set_option maxHeartbeats 4000000 in
theorem wnil_all (n : Nn) (w : World) : Calls Try.prog 7 #[nv n] w fun e w' => e = .returned (.bool true) ∧ Below w.heap.size w w' := by
  have HKn := Bx.mk fun (W : World) => known12_any W
  have HTo := Bx.mk fun (W : World) => to12_any n W
  have HLk := Bx.mk fun (W : World) => look_nil n W
  have HTk := Bx.mk fun (W : World) => take_nil n W
  have HLa := Bx.mk fun (W : World) => latest_nil W
  have HNx := Bx.mk fun (W : World) => next_nil12 W
  have HBo := Bx.mk fun (W : World) => cboot_nil W
  have HTa := Bx.mk fun (v : Value) (W : World) (h : NnsR W v [n]) => taken_any12 (.pointer none) (fun _ => 11) v [n] W h (by simp) (fun W n _ => look_nil n W)
  have R0 : Bx (BoxN 29 w.heap.size n (w.alloc (.cells #[.int .i64 n.b, .int .i64 n.c] 29)) ∧ Below w.heap.size w (w.alloc (.cells #[.int .i64 n.b, .int .i64 n.c] 29))) := Bx.mk ⟨hnew _ _ _ rfl, below_a _⟩
  obtain ⟨b, c⟩ := n
  unfold nv Nn.zero at *
  simp only at HTo HLk HTk HLa HNx HTa R0 ⊢
  go_enter Try.func7, Try.ntmps7
  go_wp2_with fail
  refine (HNx.out _).mono ?_
  rintro e w1 ⟨rfl, hb⟩
  have R1 : Bx (BoxN 29 w.heap.size ⟨b, c⟩ (w1.alloc (.cells #[.int .i64 0, .int .i64 0] 24)) ∧ Below w.heap.size w (w1.alloc (.cells #[.int .i64 0, .int .i64 0] 24))) := Bx.mk (by
    have h1 := R0.out.1.later hb
    have h2 := R0.out.2.trans (hb.mono R0.out.2.size)
    exact ⟨h1.later (below_a _), h2.trans ((below_a _).mono h2.size)⟩)
  clear hb R0
  go_wp2_with fail
  skip -- M1
  refine (HKn.out _).mono ?_
  rintro e w2 ⟨rfl, hb⟩
  have R2 := Bx.mk (And.intro (R1.out.1.later hb) (R1.out.2.trans (hb.mono R1.out.2.size)))
  clear hb R1
  obtain ⟨x0, x1⟩ := R2.out.1.cells
  go_wp2_with fail
  refine (HTo.out _).mono ?_
  rintro e w3 ⟨rfl, hb⟩
  have R3 := Bx.mk (And.intro (R2.out.1.later hb) (R2.out.2.trans (hb.mono R2.out.2.size)))
  clear hb R2 x0 x1
  obtain ⟨x0, x1⟩ := R3.out.1.cells
  go_wp2_with fail
  refine (HLk.out _).mono ?_
  rintro e w4 ⟨rfl, hb⟩
  have R4 := Bx.mk (And.intro (R3.out.1.later hb) (R3.out.2.trans (hb.mono R3.out.2.size)))
  clear hb R3 x0 x1
  obtain ⟨x0, x1⟩ := R4.out.1.cells
  go_wp2_with fail
  refine (HTo.out _).mono ?_
  rintro e w5 ⟨rfl, hb⟩
  have R5 := Bx.mk (And.intro (R4.out.1.later hb) (R4.out.2.trans (hb.mono R4.out.2.size)))
  clear hb R4 x0 x1
  obtain ⟨x0, x1⟩ := R5.out.1.cells
  go_wp2_with fail
  refine (HTk.out _).mono ?_
  rintro e w6 ⟨rfl, hb⟩
  have R6 := Bx.mk (And.intro (R5.out.1.later hb) (R5.out.2.trans (hb.mono R5.out.2.size)))
  clear hb R5 x0 x1
  obtain ⟨x0, x1⟩ := R6.out.1.cells
  go_wp2_with fail
  refine (HLa.out _).mono ?_
  rintro e w7 ⟨rfl, hb⟩
  have R7 := Bx.mk (And.intro (R6.out.1.later hb) (R6.out.2.trans (hb.mono R6.out.2.size)))
  clear hb R6 x0 x1
  obtain ⟨x0, x1⟩ := R7.out.1.cells
  go_wp2_with fail
  refine (HTo.out _).mono ?_
  rintro e w8 ⟨rfl, hb⟩
  have R8 := Bx.mk (And.intro (R7.out.1.later hb) (R7.out.2.trans (hb.mono R7.out.2.size)))
  clear hb R7 x0 x1
  obtain ⟨x0, x1⟩ := R8.out.1.cells
  go_wp2_with fail
  skip -- M2
  have R9 : Bx (BoxN 29 w.heap.size ⟨b, c⟩ (w8.alloc (.cells #[.int .i64 b, .int .i64 c] 24)) ∧ Below w.heap.size w (w8.alloc (.cells #[.int .i64 b, .int .i64 c] 24)) ∧ NnsR (w8.alloc (.cells #[.int .i64 b, .int .i64 c] 24)) (.slice (some ⟨w8.heap.size, 0, none⟩) 1 1) [⟨b, c⟩]) := Bx.mk ⟨R8.out.1.later (below_a _), R8.out.2.trans ((below_a _).mono R8.out.2.size), nns_one w8 ⟨b, c⟩ 24⟩
  clear R8 x0 x1
  have T := HTa.out _ _ R9.out.2.2
  rw [show ([(⟨b, c⟩ : Nn)].countP fun n => decide ((11 : Int) = 8)) = 0 by simp] at T
  refine T.mono ?_
  rintro e w10 ⟨rfl, hb⟩
  have R10 := Bx.mk (R9.out.2.1.trans (hb.mono R9.out.2.1.size))
  clear hb R9 T
  go_wp2_with fail
  refine (HBo.out _).mono ?_
  rintro e w11 ⟨rfl, rfl⟩
  go_wp2
  go_ret
  exact ⟨rfl, R10.out⟩
end Go.Proofs.Ytoohcjdjmafliaa
namespace Go.Proofs.Ytoohcjdjmafliaa
open Go
/-- A world to begin with. -/
noncomputable def laidWorld (os : Os) : World := World.holding Try.prog os ⟨#[], #[], []⟩
end Go.Proofs.Ytoohcjdjmafliaa
