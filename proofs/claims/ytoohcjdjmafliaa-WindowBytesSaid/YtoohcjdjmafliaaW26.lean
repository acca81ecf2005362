/-
  A window's Take.
-/
import Derived.Test.YtoohcjdjmafliaaW4
namespace Go.Proofs.Ytoohcjdjmafliaa
open Go Go.RowKit
theorem take_err (q : Nat) (s : Ws) (n : Nn) (w : World) (h : WinB w q s) (hs : s.ok) (he : lookW s n ≠ 0) : Calls Try.prog 12 #[.pointer (some ⟨q, 0, none⟩), nv n] w fun e w' => e = .returned (.int .i64 (lookW s n)) ∧ Below w.heap.size w w' := by
  have HBl : Bx (Below w.heap.size w (w.alloc (.cells #[.int .i64 n.b, .int .i64 n.c] 24))) := Bx.mk (below_a _)
  have HL := Bx.mk (look_any q s n _ (h.later (below_a (.cells #[.int .i64 n.b, .int .i64 n.c] 24))) hs)
  generalize lookW s n = z at *
  obtain ⟨b, c⟩ := n
  unfold nv at HL ⊢
  clear h hs
  go_enter Try.func12, Try.ntmps12
  go_wp2_with fail
  refine HL.out.mono ?_
  rintro e w1 ⟨rfl, hb⟩
  have HB1 := Bx.mk (HBl.out.trans (hb.mono HBl.out.size))
  clear hb HBl HL
  go_wp2
  go_ret
  exact ⟨rfl, HB1.out⟩
theorem rise_any (q : Nat) (s : Ws) (n : Nn) (w : World) (h : WinB w q s) (hs : s.ok) (hn : okN n = true) (hl : lessN s.n n = true) : Calls Try.prog 33 #[.pointer (some ⟨q, 0, none⟩), nv n] w fun e w' => e = .returned (.tuple #[]) ∧ WinB w' q (riseW s n) ∧ w.grownBy w' (some q) := by
  unfold lessN at hl
  have hl := of_decide_eq_true hl
  by_cases hb : n.b = s.n.b
  · exact rise_same q s n w h hs hn hb (by omega)
  · exact rise_other q s n w h hs hn hb
set_option maxRecDepth 100000 in
set_option maxHeartbeats 4000000 in
theorem take_up (q : Nat) (s r : Ws) (n : Nn) (w : World) (h : WinB w q s) (hs : s.ok) (h0 : lookW s n = 0) (hok : okN n = true) (hl : lessN s.n n = true) (hr : r = riseW s n) (hro : r.ok) (hrb : n.b = r.n.b → r.n.c - n.c < 64) :
    Calls Try.prog 12 #[.pointer (some ⟨q, 0, none⟩), nv n] w fun e w' => e = .returned (.int .i64 0) ∧ WinB w' q ⟨r.n, r.t ||| bitW r n⟩ ∧ w.grownBy w' (some q) := by
  obtain ⟨X, hX⟩ : ∃ X, w.heap.size = X := ⟨_, rfl⟩
  have hXq : X ≠ q := by have := h.lt; omega
  have R1 : Bx (WinB (w.alloc (.cells #[.int .i64 n.b, .int .i64 n.c] 24)) q s ∧ BoxN 24 X n (w.alloc (.cells #[.int .i64 n.b, .int .i64 n.c] 24)) ∧ w.grownBy (w.alloc (.cells #[.int .i64 n.b, .int .i64 n.c] 24)) (some q)) := Bx.mk ⟨h.later (below_a _), hnew _ _ _ hX.symm, kb_below _ (below_a _)⟩
  have HL := Bx.mk (look_any q s n _ R1.out.1 hs)
  rw [h0] at HL
  have HLe := Bx.mk fun (W : World) => wless_any s.n n W
  rw [hl] at HLe
  have HBi := Bx.mk fun (W : World) (h : WinB W q r) => bit_any12 q r n W h hro hok hrb
  have HRi := Bx.mk fun (W : World) (h : WinB W q s) => rise_any q s n W h hs hok hl
  rw [← hr] at HRi
  have HOr := tv_or r.t (bitW r n)
  clear h hs h0 hok hl hr hro hrb
  generalize r.t ||| bitW r n = y at *
  generalize bitW r n = z at *
  obtain ⟨b, c⟩ := n
  obtain ⟨⟨B, C⟩, T⟩ := s
  unfold nv at HL HLe HBi HRi ⊢
  simp only at HL HLe HBi HRi ⊢
  go_enter Try.func12, Try.ntmps12
  go_wp2_with fail
  refine HL.out.mono ?_
  rintro e w2 ⟨rfl, hb⟩
  have R2 : Bx (WinB w2 q ⟨⟨B, C⟩, T⟩ ∧ BoxN 24 X ⟨b, c⟩ w2 ∧ w.grownBy w2 (some q)) := Bx.mk ⟨R1.out.1.later hb, R1.out.2.1.later hb, kb_trans R1.out.2.2 (kb_below _ hb)⟩
  clear hb R1 HL
  obtain ⟨x0, x1⟩ := R2.out.2.1.cells
  go_upto_region 4 with fail
  clear x0 x1
  have RD : Bx (WinB w2.drew q ⟨⟨B, C⟩, T⟩ ∧ BoxN 24 X ⟨b, c⟩ w2.drew ∧ w.grownBy w2.drew (some q)) := Bx.mk ⟨R2.out.1.later (Below.refl _ _).drew, R2.out.2.1.later (Below.refl _ _).drew, kb_trans R2.out.2.2 (kb_below _ (Below.refl _ _).drew)⟩
  refine wp_region_noPanic ?_
  refine wp_region_held_drew (S := fun W => W.rangeAt q 0 [.int .i64 B, .int .i64 C] ∧ W.rangeAt X 0 [.int .i64 b, .int .i64 c]) (by kernel_rfl) (⟨RD.out.1.range, RD.out.2.1.range⟩) (fun hHeld => ?_)
  have R0 := RD
  clear RD R2
  generalize w2.drew = W0 at *
  refine takeL 0 (v := ?_) rfl (by kernel_rfl) (by kernel_rfl) (by kernel_rfl) (fun _ _ _ h => h) (Or.inl ⟨by rfl, ?_⟩) hHeld ?_
  rotate_left 1
  · (intro w hSw; go_simp; try with_reducible rfl)
  try simp only [Act.put, List.setIfInBounds_toArray, List.set_cons_zero, List.set_cons_succ]
  refine takeL 1 (v := ?_) rfl (by kernel_rfl) (by kernel_rfl) (by kernel_rfl) (fun _ _ _ h => h) (Or.inl ⟨by rfl, ?_⟩) hHeld ?_
  rotate_left 1
  · (intro w hSw; go_simp; try with_reducible rfl)
  try simp only [Act.put, List.setIfInBounds_toArray, List.set_cons_zero, List.set_cons_succ]
  refine takeL 2 (v := ?_) rfl (by kernel_rfl) (by kernel_rfl) (by kernel_rfl) (fun _ _ _ h => h) (Or.inl ⟨by rfl, ?_⟩) hHeld ?_
  rotate_left 1
  · (intro w hSw; go_simp; try with_reducible rfl)
  try simp only [Act.put, List.setIfInBounds_toArray, List.set_cons_zero, List.set_cons_succ]
  refine takeL 3 rfl (by kernel_rfl) (by kernel_rfl) (by kernel_rfl) (fun _ _ _ h => h) (yieldsIf_load_mid (by rfl) _ _ rfl _ _ rfl _ _ (fun w hSw => hSw.1) Try.underlying24 rfl (by kernel_rfl)) hHeld ?_
  try simp only [Act.put, List.setIfInBounds_toArray, List.set_cons_zero, List.set_cons_succ]
  refine takeL 4 rfl (by kernel_rfl) (by kernel_rfl) (by kernel_rfl) (fun _ _ _ h => h) (yieldsIf_load_mid (by rfl) _ _ rfl _ _ rfl _ _ (fun w hSw => hSw.2) Try.underlying24 rfl (by kernel_rfl)) hHeld ?_
  try simp only [Act.put, List.setIfInBounds_toArray, List.set_cons_zero, List.set_cons_succ]
  refine stepL 5 (by kernel_rfl) rfl (fun K hK => ?_)
  go_simp
  refine (HLe.out W0).mono ?_
  rintro e W1 ⟨rfl, hb⟩
  show K _ _
  have R1 : Bx (WinB W1 q ⟨⟨B, C⟩, T⟩ ∧ BoxN 24 X ⟨b, c⟩ W1 ∧ w.grownBy W1 (some q)) := Bx.mk ⟨R0.out.1.later hb, R0.out.2.1.later hb, kb_trans R0.out.2.2 (kb_below _ hb)⟩
  clear hb R0
  refine hK.out _ _ (⟨R1.out.1.range, R1.out.2.1.range⟩) (fun hHeld => ?_)
  clear hK K
  try simp only [Act.put, List.setIfInBounds_toArray, List.set_cons_zero, List.set_cons_succ]
  refine wpAnyH_done (by kernel_rfl) ?_ _
  refine NoPanic.normal ?_
  clear hHeld
  obtain ⟨x0, x1⟩ := R1.out.2.1.cells
  go_wp2_with fail
  refine (HRi.out _ R1.out.1).mono ?_
  rintro e w6 ⟨rfl, hw, hg⟩
  have R6 : Bx (WinB w6 q r ∧ BoxN 24 X ⟨b, c⟩ w6 ∧ w.grownBy w6 (some q)) := Bx.mk ⟨hw, R1.out.2.1.aside hg hXq, kb_trans R1.out.2.2 hg⟩
  clear hw hg R1 x0 x1
  go_upto_region 6 with fail
  have RD : Bx (WinB w6.drew q r ∧ BoxN 24 X ⟨b, c⟩ w6.drew ∧ w.grownBy w6.drew (some q)) := Bx.mk ⟨R6.out.1.later (Below.refl _ _).drew, R6.out.2.1.later (Below.refl _ _).drew, kb_trans R6.out.2.2 (kb_below _ (Below.refl _ _).drew)⟩
  refine wp_region_noPanic ?_
  refine wp_region_held_drew (S := fun W => W.rangeAt X 0 [.int .i64 b, .int .i64 c]) (by kernel_rfl) (RD.out.2.1.range) (fun hHeld => ?_)
  have R0 := RD
  clear RD R6
  generalize w6.drew = W0 at *
  refine takeL 0 (v := ?_) rfl (by kernel_rfl) (by kernel_rfl) (by kernel_rfl) (fun _ _ _ h => h) (Or.inl ⟨by rfl, ?_⟩) hHeld ?_
  rotate_left 1
  · (intro w hSw; go_simp; try with_reducible rfl)
  try simp only [Act.put, List.setIfInBounds_toArray, List.set_cons_zero, List.set_cons_succ]
  refine takeL 1 (v := ?_) rfl (by kernel_rfl) (by kernel_rfl) (by kernel_rfl) (fun _ _ _ h => h) (Or.inl ⟨by rfl, ?_⟩) hHeld ?_
  rotate_left 1
  · (intro w hSw; go_simp; try with_reducible rfl)
  try simp only [Act.put, List.setIfInBounds_toArray, List.set_cons_zero, List.set_cons_succ]
  refine takeL 2 (v := ?_) rfl (by kernel_rfl) (by kernel_rfl) (by kernel_rfl) (fun _ _ _ h => h) (Or.inl ⟨by rfl, ?_⟩) hHeld ?_
  rotate_left 1
  · (intro w hSw; go_simp; try with_reducible rfl)
  try simp only [Act.put, List.setIfInBounds_toArray, List.set_cons_zero, List.set_cons_succ]
  refine takeL 4 (v := ?_) rfl (by kernel_rfl) (by kernel_rfl) (by kernel_rfl) (fun _ _ _ h => h) (Or.inl ⟨by rfl, ?_⟩) hHeld ?_
  rotate_left 1
  · (intro w hSw; go_simp; try with_reducible rfl)
  try simp only [Act.put, List.setIfInBounds_toArray, List.set_cons_zero, List.set_cons_succ]
  refine takeL 5 rfl (by kernel_rfl) (by kernel_rfl) (by kernel_rfl) (fun _ _ _ h => h) (yieldsIf_load_mid (by rfl) _ _ rfl _ _ rfl _ _ (fun w hSw => hSw) Try.underlying24 rfl (by kernel_rfl)) hHeld ?_
  try simp only [Act.put, List.setIfInBounds_toArray, List.set_cons_zero, List.set_cons_succ]
  refine wpAnyH_ready (rs := [3, 6]) (by kernel_rfl) (by simp) ?_
  refine consM 3 rfl (fun K hK => ?_) (consM 6 rfl (fun K hK => ?_) AllReadyH.nil)
  · have cu := R0.out.1.cells.2.2
    go_simp
    refine hK.out _ _ R0.out.2.1.range (fun hHeld => ?_)
    clear hK K cu
    try simp only [Act.put, List.setIfInBounds_toArray, List.set_cons_zero, List.set_cons_succ]
    refine stepL 6 (by kernel_rfl) rfl (fun K hK => ?_)
    go_simp
    refine (HBi.out W0 R0.out.1).mono ?_
    rintro e W1 ⟨rfl, hb⟩
    show K _ _
    have R1 : Bx (WinB W1 q r ∧ BoxN 24 X ⟨b, c⟩ W1 ∧ w.grownBy W1 (some q)) := Bx.mk ⟨R0.out.1.later hb, R0.out.2.1.later hb, kb_trans R0.out.2.2 (kb_below _ hb)⟩
    clear hb R0
    refine hK.out _ _ (R1.out.2.1.range) (fun hHeld => ?_)
    clear hK K
    try simp only [Act.put, List.setIfInBounds_toArray, List.set_cons_zero, List.set_cons_succ]
    refine takeL 7 (v := ?_) rfl (by kernel_rfl) (by kernel_rfl) (by kernel_rfl) (fun _ _ _ h => h) (Or.inl ⟨by rfl, ?_⟩) hHeld ?_
    rotate_left 1
    · (intro w hSw; go_simp; try with_reducible rfl)
    try simp only [Act.put, List.setIfInBounds_toArray, List.set_cons_zero, List.set_cons_succ]
    refine takeL 8 (v := ?_) rfl (by kernel_rfl) (by kernel_rfl) (by kernel_rfl) (fun _ _ _ h => h) (Or.inl ⟨by rfl, ?_⟩) hHeld ?_
    rotate_left 1
    · (intro w hSw; go_simp; try with_reducible rfl)
    try simp only [Act.put, List.setIfInBounds_toArray, List.set_cons_zero, List.set_cons_succ]
    refine takeL 9 (v := ?_) rfl (by kernel_rfl) (by kernel_rfl) (by kernel_rfl) (fun _ _ _ h => h) (Or.inl ⟨by rfl, ?_⟩) hHeld ?_
    rotate_left 1
    · (intro w hSw; go_simp; try with_reducible rfl)
    try simp only [Act.put, List.setIfInBounds_toArray, List.set_cons_zero, List.set_cons_succ]
    refine stepL 10 (by kernel_rfl) rfl (fun K hK => ?_)
    have cu := R1.out.1.cells.2.2
    have fu := R1.out.1.frozen 2
    have RZ : Bx (WinB (W1.setCell ⟨q, 2, none⟩ (.int .u64 (tv y))) q ⟨r.n, y⟩ ∧ BoxN 24 X ⟨b, c⟩ (W1.setCell ⟨q, 2, none⟩ (.int .u64 (tv y))) ∧ w.grownBy (W1.setCell ⟨q, 2, none⟩ (.int .u64 (tv y))) (some q)) := Bx.mk ⟨R1.out.1.setT y, R1.out.2.1.aside (kb_setCell _ 2 _) hXq, kb_trans R1.out.2.2 (kb_setCell _ 2 _)⟩
    go_simp
    refine hK.out _ _ RZ.out.2.1.range (fun hHeld => ?_)
    clear hK K cu fu R1
    try simp only [Act.put, List.setIfInBounds_toArray, List.set_cons_zero, List.set_cons_succ]
    generalize W1.setCell ⟨q, 2, none⟩ (.int .u64 (tv y)) = WZ at *
    refine wpAnyH_done (by kernel_rfl) ?_ _
    refine NoPanic.normal ?_
    clear hHeld
    go_wp2
    go_ret
    exact ⟨rfl, RZ.out.1, RZ.out.2.2⟩
  · go_simp
    refine (HBi.out W0 R0.out.1).mono ?_
    rintro e W1 ⟨rfl, hb⟩
    show K _ _
    have R1 : Bx (WinB W1 q r ∧ BoxN 24 X ⟨b, c⟩ W1 ∧ w.grownBy W1 (some q)) := Bx.mk ⟨R0.out.1.later hb, R0.out.2.1.later hb, kb_trans R0.out.2.2 (kb_below _ hb)⟩
    clear hb R0
    refine hK.out _ _ (R1.out.2.1.range) (fun hHeld => ?_)
    clear hK K
    try simp only [Act.put, List.setIfInBounds_toArray, List.set_cons_zero, List.set_cons_succ]
    refine stepL 3 (by kernel_rfl) rfl (fun K hK => ?_)
    have cu := R1.out.1.cells.2.2
    go_simp
    refine hK.out _ _ R1.out.2.1.range (fun hHeld => ?_)
    clear hK K cu
    try simp only [Act.put, List.setIfInBounds_toArray, List.set_cons_zero, List.set_cons_succ]
    refine takeL 7 (v := ?_) rfl (by kernel_rfl) (by kernel_rfl) (by kernel_rfl) (fun _ _ _ h => h) (Or.inl ⟨by rfl, ?_⟩) hHeld ?_
    rotate_left 1
    · (intro w hSw; go_simp; try with_reducible rfl)
    try simp only [Act.put, List.setIfInBounds_toArray, List.set_cons_zero, List.set_cons_succ]
    refine takeL 8 (v := ?_) rfl (by kernel_rfl) (by kernel_rfl) (by kernel_rfl) (fun _ _ _ h => h) (Or.inl ⟨by rfl, ?_⟩) hHeld ?_
    rotate_left 1
    · (intro w hSw; go_simp; try with_reducible rfl)
    try simp only [Act.put, List.setIfInBounds_toArray, List.set_cons_zero, List.set_cons_succ]
    refine takeL 9 (v := ?_) rfl (by kernel_rfl) (by kernel_rfl) (by kernel_rfl) (fun _ _ _ h => h) (Or.inl ⟨by rfl, ?_⟩) hHeld ?_
    rotate_left 1
    · (intro w hSw; go_simp; try with_reducible rfl)
    try simp only [Act.put, List.setIfInBounds_toArray, List.set_cons_zero, List.set_cons_succ]
    refine stepL 10 (by kernel_rfl) rfl (fun K hK => ?_)
    have cu := R1.out.1.cells.2.2
    have fu := R1.out.1.frozen 2
    have RZ : Bx (WinB (W1.setCell ⟨q, 2, none⟩ (.int .u64 (tv y))) q ⟨r.n, y⟩ ∧ BoxN 24 X ⟨b, c⟩ (W1.setCell ⟨q, 2, none⟩ (.int .u64 (tv y))) ∧ w.grownBy (W1.setCell ⟨q, 2, none⟩ (.int .u64 (tv y))) (some q)) := Bx.mk ⟨R1.out.1.setT y, R1.out.2.1.aside (kb_setCell _ 2 _) hXq, kb_trans R1.out.2.2 (kb_setCell _ 2 _)⟩
    go_simp
    refine hK.out _ _ RZ.out.2.1.range (fun hHeld => ?_)
    clear hK K cu fu R1
    try simp only [Act.put, List.setIfInBounds_toArray, List.set_cons_zero, List.set_cons_succ]
    generalize W1.setCell ⟨q, 2, none⟩ (.int .u64 (tv y)) = WZ at *
    refine wpAnyH_done (by kernel_rfl) ?_ _
    refine NoPanic.normal ?_
    clear hHeld
    go_wp2
    go_ret
    exact ⟨rfl, RZ.out.1, RZ.out.2.2⟩
set_option maxRecDepth 100000 in
set_option maxHeartbeats 4000000 in
theorem take_in (q : Nat) (s r : Ws) (n : Nn) (w : World) (h : WinB w q s) (hs : s.ok) (h0 : lookW s n = 0) (hok : okN n = true) (hl : lessN s.n n = false) (hr : r = s) (hro : r.ok) (hrb : n.b = r.n.b → r.n.c - n.c < 64) :
    Calls Try.prog 12 #[.pointer (some ⟨q, 0, none⟩), nv n] w fun e w' => e = .returned (.int .i64 0) ∧ WinB w' q ⟨r.n, r.t ||| bitW r n⟩ ∧ w.grownBy w' (some q) := by
  obtain ⟨X, hX⟩ : ∃ X, w.heap.size = X := ⟨_, rfl⟩
  have hXq : X ≠ q := by have := h.lt; omega
  have R1 : Bx (WinB (w.alloc (.cells #[.int .i64 n.b, .int .i64 n.c] 24)) q s ∧ BoxN 24 X n (w.alloc (.cells #[.int .i64 n.b, .int .i64 n.c] 24)) ∧ w.grownBy (w.alloc (.cells #[.int .i64 n.b, .int .i64 n.c] 24)) (some q)) := Bx.mk ⟨h.later (below_a _), hnew _ _ _ hX.symm, kb_below _ (below_a _)⟩
  have HL := Bx.mk (look_any q s n _ R1.out.1 hs)
  rw [h0] at HL
  have HLe := Bx.mk fun (W : World) => wless_any s.n n W
  rw [hl] at HLe
  have HBi := Bx.mk fun (W : World) (h : WinB W q r) => bit_any12 q r n W h hro hok hrb
  have HEq := Bx.mk hr.symm

  have HOr := tv_or r.t (bitW r n)
  clear h hs h0 hok hl hr hro hrb
  generalize r.t ||| bitW r n = y at *
  generalize bitW r n = z at *
  obtain ⟨b, c⟩ := n
  obtain ⟨⟨B, C⟩, T⟩ := s
  unfold nv at HL HLe HBi ⊢
  simp only at HL HLe HBi ⊢
  go_enter Try.func12, Try.ntmps12
  go_wp2_with fail
  refine HL.out.mono ?_
  rintro e w2 ⟨rfl, hb⟩
  have R2 : Bx (WinB w2 q ⟨⟨B, C⟩, T⟩ ∧ BoxN 24 X ⟨b, c⟩ w2 ∧ w.grownBy w2 (some q)) := Bx.mk ⟨R1.out.1.later hb, R1.out.2.1.later hb, kb_trans R1.out.2.2 (kb_below _ hb)⟩
  clear hb R1 HL
  obtain ⟨x0, x1⟩ := R2.out.2.1.cells
  go_upto_region 4 with fail
  clear x0 x1
  have RD : Bx (WinB w2.drew q ⟨⟨B, C⟩, T⟩ ∧ BoxN 24 X ⟨b, c⟩ w2.drew ∧ w.grownBy w2.drew (some q)) := Bx.mk ⟨R2.out.1.later (Below.refl _ _).drew, R2.out.2.1.later (Below.refl _ _).drew, kb_trans R2.out.2.2 (kb_below _ (Below.refl _ _).drew)⟩
  refine wp_region_noPanic ?_
  refine wp_region_held_drew (S := fun W => W.rangeAt q 0 [.int .i64 B, .int .i64 C] ∧ W.rangeAt X 0 [.int .i64 b, .int .i64 c]) (by kernel_rfl) (⟨RD.out.1.range, RD.out.2.1.range⟩) (fun hHeld => ?_)
  have R0 := RD
  clear RD R2
  generalize w2.drew = W0 at *
  refine takeL 0 (v := ?_) rfl (by kernel_rfl) (by kernel_rfl) (by kernel_rfl) (fun _ _ _ h => h) (Or.inl ⟨by rfl, ?_⟩) hHeld ?_
  rotate_left 1
  · (intro w hSw; go_simp; try with_reducible rfl)
  try simp only [Act.put, List.setIfInBounds_toArray, List.set_cons_zero, List.set_cons_succ]
  refine takeL 1 (v := ?_) rfl (by kernel_rfl) (by kernel_rfl) (by kernel_rfl) (fun _ _ _ h => h) (Or.inl ⟨by rfl, ?_⟩) hHeld ?_
  rotate_left 1
  · (intro w hSw; go_simp; try with_reducible rfl)
  try simp only [Act.put, List.setIfInBounds_toArray, List.set_cons_zero, List.set_cons_succ]
  refine takeL 2 (v := ?_) rfl (by kernel_rfl) (by kernel_rfl) (by kernel_rfl) (fun _ _ _ h => h) (Or.inl ⟨by rfl, ?_⟩) hHeld ?_
  rotate_left 1
  · (intro w hSw; go_simp; try with_reducible rfl)
  try simp only [Act.put, List.setIfInBounds_toArray, List.set_cons_zero, List.set_cons_succ]
  refine takeL 3 rfl (by kernel_rfl) (by kernel_rfl) (by kernel_rfl) (fun _ _ _ h => h) (yieldsIf_load_mid (by rfl) _ _ rfl _ _ rfl _ _ (fun w hSw => hSw.1) Try.underlying24 rfl (by kernel_rfl)) hHeld ?_
  try simp only [Act.put, List.setIfInBounds_toArray, List.set_cons_zero, List.set_cons_succ]
  refine takeL 4 rfl (by kernel_rfl) (by kernel_rfl) (by kernel_rfl) (fun _ _ _ h => h) (yieldsIf_load_mid (by rfl) _ _ rfl _ _ rfl _ _ (fun w hSw => hSw.2) Try.underlying24 rfl (by kernel_rfl)) hHeld ?_
  try simp only [Act.put, List.setIfInBounds_toArray, List.set_cons_zero, List.set_cons_succ]
  refine stepL 5 (by kernel_rfl) rfl (fun K hK => ?_)
  go_simp
  refine (HLe.out W0).mono ?_
  rintro e W1 ⟨rfl, hb⟩
  show K _ _
  have R1 : Bx (WinB W1 q ⟨⟨B, C⟩, T⟩ ∧ BoxN 24 X ⟨b, c⟩ W1 ∧ w.grownBy W1 (some q)) := Bx.mk ⟨R0.out.1.later hb, R0.out.2.1.later hb, kb_trans R0.out.2.2 (kb_below _ hb)⟩
  clear hb R0
  refine hK.out _ _ (⟨R1.out.1.range, R1.out.2.1.range⟩) (fun hHeld => ?_)
  clear hK K
  try simp only [Act.put, List.setIfInBounds_toArray, List.set_cons_zero, List.set_cons_succ]
  refine wpAnyH_done (by kernel_rfl) ?_ _
  refine NoPanic.normal ?_
  clear hHeld
  obtain ⟨x0, x1⟩ := R1.out.2.1.cells
  go_upto_region 6 with fail
  have R6 : Bx (WinB W1 q r ∧ BoxN 24 X ⟨b, c⟩ W1 ∧ w.grownBy W1 (some q)) := Bx.mk (by rw [← HEq.out]; exact R1.out)
  clear R1
  have RD : Bx (WinB W1.drew q r ∧ BoxN 24 X ⟨b, c⟩ W1.drew ∧ w.grownBy W1.drew (some q)) := Bx.mk ⟨R6.out.1.later (Below.refl _ _).drew, R6.out.2.1.later (Below.refl _ _).drew, kb_trans R6.out.2.2 (kb_below _ (Below.refl _ _).drew)⟩
  refine wp_region_noPanic ?_
  refine wp_region_held_drew (S := fun W => W.rangeAt X 0 [.int .i64 b, .int .i64 c]) (by kernel_rfl) (RD.out.2.1.range) (fun hHeld => ?_)
  have R0 := RD
  clear RD R6
  generalize W1.drew = W0 at *
  refine takeL 0 (v := ?_) rfl (by kernel_rfl) (by kernel_rfl) (by kernel_rfl) (fun _ _ _ h => h) (Or.inl ⟨by rfl, ?_⟩) hHeld ?_
  rotate_left 1
  · (intro w hSw; go_simp; try with_reducible rfl)
  try simp only [Act.put, List.setIfInBounds_toArray, List.set_cons_zero, List.set_cons_succ]
  refine takeL 1 (v := ?_) rfl (by kernel_rfl) (by kernel_rfl) (by kernel_rfl) (fun _ _ _ h => h) (Or.inl ⟨by rfl, ?_⟩) hHeld ?_
  rotate_left 1
  · (intro w hSw; go_simp; try with_reducible rfl)
  try simp only [Act.put, List.setIfInBounds_toArray, List.set_cons_zero, List.set_cons_succ]
  refine takeL 2 (v := ?_) rfl (by kernel_rfl) (by kernel_rfl) (by kernel_rfl) (fun _ _ _ h => h) (Or.inl ⟨by rfl, ?_⟩) hHeld ?_
  rotate_left 1
  · (intro w hSw; go_simp; try with_reducible rfl)
  try simp only [Act.put, List.setIfInBounds_toArray, List.set_cons_zero, List.set_cons_succ]
  refine takeL 4 (v := ?_) rfl (by kernel_rfl) (by kernel_rfl) (by kernel_rfl) (fun _ _ _ h => h) (Or.inl ⟨by rfl, ?_⟩) hHeld ?_
  rotate_left 1
  · (intro w hSw; go_simp; try with_reducible rfl)
  try simp only [Act.put, List.setIfInBounds_toArray, List.set_cons_zero, List.set_cons_succ]
  refine takeL 5 rfl (by kernel_rfl) (by kernel_rfl) (by kernel_rfl) (fun _ _ _ h => h) (yieldsIf_load_mid (by rfl) _ _ rfl _ _ rfl _ _ (fun w hSw => hSw) Try.underlying24 rfl (by kernel_rfl)) hHeld ?_
  try simp only [Act.put, List.setIfInBounds_toArray, List.set_cons_zero, List.set_cons_succ]
  refine wpAnyH_ready (rs := [3, 6]) (by kernel_rfl) (by simp) ?_
  refine consM 3 rfl (fun K hK => ?_) (consM 6 rfl (fun K hK => ?_) AllReadyH.nil)
  · have cu := R0.out.1.cells.2.2
    go_simp
    refine hK.out _ _ R0.out.2.1.range (fun hHeld => ?_)
    clear hK K cu
    try simp only [Act.put, List.setIfInBounds_toArray, List.set_cons_zero, List.set_cons_succ]
    refine stepL 6 (by kernel_rfl) rfl (fun K hK => ?_)
    go_simp
    refine (HBi.out W0 R0.out.1).mono ?_
    rintro e W1 ⟨rfl, hb⟩
    show K _ _
    have R1 : Bx (WinB W1 q r ∧ BoxN 24 X ⟨b, c⟩ W1 ∧ w.grownBy W1 (some q)) := Bx.mk ⟨R0.out.1.later hb, R0.out.2.1.later hb, kb_trans R0.out.2.2 (kb_below _ hb)⟩
    clear hb R0
    refine hK.out _ _ (R1.out.2.1.range) (fun hHeld => ?_)
    clear hK K
    try simp only [Act.put, List.setIfInBounds_toArray, List.set_cons_zero, List.set_cons_succ]
    refine takeL 7 (v := ?_) rfl (by kernel_rfl) (by kernel_rfl) (by kernel_rfl) (fun _ _ _ h => h) (Or.inl ⟨by rfl, ?_⟩) hHeld ?_
    rotate_left 1
    · (intro w hSw; go_simp; try with_reducible rfl)
    try simp only [Act.put, List.setIfInBounds_toArray, List.set_cons_zero, List.set_cons_succ]
    refine takeL 8 (v := ?_) rfl (by kernel_rfl) (by kernel_rfl) (by kernel_rfl) (fun _ _ _ h => h) (Or.inl ⟨by rfl, ?_⟩) hHeld ?_
    rotate_left 1
    · (intro w hSw; go_simp; try with_reducible rfl)
    try simp only [Act.put, List.setIfInBounds_toArray, List.set_cons_zero, List.set_cons_succ]
    refine takeL 9 (v := ?_) rfl (by kernel_rfl) (by kernel_rfl) (by kernel_rfl) (fun _ _ _ h => h) (Or.inl ⟨by rfl, ?_⟩) hHeld ?_
    rotate_left 1
    · (intro w hSw; go_simp; try with_reducible rfl)
    try simp only [Act.put, List.setIfInBounds_toArray, List.set_cons_zero, List.set_cons_succ]
    refine stepL 10 (by kernel_rfl) rfl (fun K hK => ?_)
    have cu := R1.out.1.cells.2.2
    have fu := R1.out.1.frozen 2
    have RZ : Bx (WinB (W1.setCell ⟨q, 2, none⟩ (.int .u64 (tv y))) q ⟨r.n, y⟩ ∧ BoxN 24 X ⟨b, c⟩ (W1.setCell ⟨q, 2, none⟩ (.int .u64 (tv y))) ∧ w.grownBy (W1.setCell ⟨q, 2, none⟩ (.int .u64 (tv y))) (some q)) := Bx.mk ⟨R1.out.1.setT y, R1.out.2.1.aside (kb_setCell _ 2 _) hXq, kb_trans R1.out.2.2 (kb_setCell _ 2 _)⟩
    go_simp
    refine hK.out _ _ RZ.out.2.1.range (fun hHeld => ?_)
    clear hK K cu fu R1
    try simp only [Act.put, List.setIfInBounds_toArray, List.set_cons_zero, List.set_cons_succ]
    generalize W1.setCell ⟨q, 2, none⟩ (.int .u64 (tv y)) = WZ at *
    refine wpAnyH_done (by kernel_rfl) ?_ _
    refine NoPanic.normal ?_
    clear hHeld
    go_wp2
    go_ret
    exact ⟨rfl, RZ.out.1, RZ.out.2.2⟩
  · go_simp
    refine (HBi.out W0 R0.out.1).mono ?_
    rintro e W1 ⟨rfl, hb⟩
    show K _ _
    have R1 : Bx (WinB W1 q r ∧ BoxN 24 X ⟨b, c⟩ W1 ∧ w.grownBy W1 (some q)) := Bx.mk ⟨R0.out.1.later hb, R0.out.2.1.later hb, kb_trans R0.out.2.2 (kb_below _ hb)⟩
    clear hb R0
    refine hK.out _ _ (R1.out.2.1.range) (fun hHeld => ?_)
    clear hK K
    try simp only [Act.put, List.setIfInBounds_toArray, List.set_cons_zero, List.set_cons_succ]
    refine stepL 3 (by kernel_rfl) rfl (fun K hK => ?_)
    have cu := R1.out.1.cells.2.2
    go_simp
    refine hK.out _ _ R1.out.2.1.range (fun hHeld => ?_)
    clear hK K cu
    try simp only [Act.put, List.setIfInBounds_toArray, List.set_cons_zero, List.set_cons_succ]
    refine takeL 7 (v := ?_) rfl (by kernel_rfl) (by kernel_rfl) (by kernel_rfl) (fun _ _ _ h => h) (Or.inl ⟨by rfl, ?_⟩) hHeld ?_
    rotate_left 1
    · (intro w hSw; go_simp; try with_reducible rfl)
    try simp only [Act.put, List.setIfInBounds_toArray, List.set_cons_zero, List.set_cons_succ]
    refine takeL 8 (v := ?_) rfl (by kernel_rfl) (by kernel_rfl) (by kernel_rfl) (fun _ _ _ h => h) (Or.inl ⟨by rfl, ?_⟩) hHeld ?_
    rotate_left 1
    · (intro w hSw; go_simp; try with_reducible rfl)
    try simp only [Act.put, List.setIfInBounds_toArray, List.set_cons_zero, List.set_cons_succ]
    refine takeL 9 (v := ?_) rfl (by kernel_rfl) (by kernel_rfl) (by kernel_rfl) (fun _ _ _ h => h) (Or.inl ⟨by rfl, ?_⟩) hHeld ?_
    rotate_left 1
    · (intro w hSw; go_simp; try with_reducible rfl)
    try simp only [Act.put, List.setIfInBounds_toArray, List.set_cons_zero, List.set_cons_succ]
    refine stepL 10 (by kernel_rfl) rfl (fun K hK => ?_)
    have cu := R1.out.1.cells.2.2
    have fu := R1.out.1.frozen 2
    have RZ : Bx (WinB (W1.setCell ⟨q, 2, none⟩ (.int .u64 (tv y))) q ⟨r.n, y⟩ ∧ BoxN 24 X ⟨b, c⟩ (W1.setCell ⟨q, 2, none⟩ (.int .u64 (tv y))) ∧ w.grownBy (W1.setCell ⟨q, 2, none⟩ (.int .u64 (tv y))) (some q)) := Bx.mk ⟨R1.out.1.setT y, R1.out.2.1.aside (kb_setCell _ 2 _) hXq, kb_trans R1.out.2.2 (kb_setCell _ 2 _)⟩
    go_simp
    refine hK.out _ _ RZ.out.2.1.range (fun hHeld => ?_)
    clear hK K cu fu R1
    try simp only [Act.put, List.setIfInBounds_toArray, List.set_cons_zero, List.set_cons_succ]
    generalize W1.setCell ⟨q, 2, none⟩ (.int .u64 (tv y)) = WZ at *
    refine wpAnyH_done (by kernel_rfl) ?_ _
    refine NoPanic.normal ?_
    clear hHeld
    go_wp2
    go_ret
    exact ⟨rfl, RZ.out.1, RZ.out.2.2⟩
theorem take_any12 (q : Nat) (s : Ws) (n : Nn) (w : World) (h : WinB w q s) (hs : s.ok) :
    Calls Try.prog 12 #[.pointer (some ⟨q, 0, none⟩), nv n] w fun e w' => e = .returned (.int .i64 (lookW s n)) ∧ WinB w' q (takeW s n) ∧ w.grownBy w' (some q) := by
  by_cases h0 : lookW s n = 0
  · have hok : okN n = true := by
      unfold lookW at h0
      split at h0
      · omega
      · rename_i h1; simpa using h1
    have hfo : forgW s n = false := by
      unfold lookW at h0
      rw [if_neg (by rw [hok]; simp)] at h0
      split at h0
      · omega
      · rename_i h1; simpa using h1
    obtain ⟨n1, n2, n3, n4⟩ := (okN_iff n).1 hok
    unfold takeW
    rw [if_pos h0, h0]
    cases hl : lessN s.n n with
    | true =>
      rw [if_pos rfl]
      exact take_up q s (riseW s n) n w h hs h0 hok hl rfl ⟨by show 0 ≤ n.b; omega, n2, by show 0 ≤ n.c; omega, n4⟩ (fun _ => by show n.c - n.c < 64; omega)
    | false =>
      rw [if_neg (by simp)]
      exact take_in q s s n w h hs h0 hok hl rfl hs (fun e => forgW_false hfo e)
  · have e1 : takeW s n = s := by unfold takeW; rw [if_neg h0]
    rw [e1]
    refine (take_err q s n w h hs h0).mono ?_
    rintro e w' ⟨h1, h2⟩
    exact ⟨h1, h.later h2, kb_below _ h2⟩
end Go.Proofs.Ytoohcjdjmafliaa
namespace Go.Proofs.Ytoohcjdjmafliaa
open Go Go.RowKit
/-- The greatest of all. -/
def latN (l : List Nn) : Nn := l.foldl (fun a x => if lessN a x = true then x else a) Nn.zero
theorem takeN_succ (m : List Nn) (k : Nat) (h : k < m.length) : m.take (k + 1) = m.take k ++ [m.getD k Nn.zero] := by
  rw [List.take_succ_eq_append_getElem h, List.getD_eq_getElem?_getD, List.getElem?_eq_getElem h]; rfl
theorem latN_snoc (m : List Nn) (x : Nn) : latN (m ++ [x]) = if lessN (latN m) x = true then x else latN m := by
  unfold latN; rw [List.foldl_append]; rfl
theorem latN_succ (m : List Nn) (k : Nat) (h : k < m.length) : latN (m.take (k + 1)) = if lessN (latN (m.take k)) (m.getD k Nn.zero) = true then m.getD k Nn.zero else latN (m.take k) := by
  rw [takeN_succ m k h, latN_snoc]
theorem BoxN.store {T : TypeId} {X : Nat} {n : Nn} {W : World} (h : BoxN T X n W) (b c : Int) : BoxN T X ⟨b, c⟩ ((W.setCell ⟨X, 0, none⟩ (.int .i64 b)).setCell ⟨X, 1, none⟩ (.int .i64 c)) := by
  have := heap_setCells_same X _ [.int .i64 b, .int .i64 c] 0 W _ h
  exact this
theorem BoxN.frozen {T : TypeId} {X : Nat} {n : Nn} {W : World} (h : BoxN T X n W) (i : Nat) : W.frozen? ⟨X, i, none⟩ = false := frozen_of_row _ _ _ _ _ h
theorem below_set2 {B X : Nat} {a W : World} (h : Below B a W) (hX : B ≤ X) (u v : Value) : Below B a ((W.setCell ⟨X, 0, none⟩ u).setCell ⟨X, 1, none⟩ v) := below_setCells hX [u, v] 0 a W h
theorem grown_set2 (X : Nat) (W : World) (u v : Value) : W.grownBy ((W.setCell ⟨X, 0, none⟩ u).setCell ⟨X, 1, none⟩ v) (some X) := kb_setCells [u, v] 0 W
end Go.Proofs.Ytoohcjdjmafliaa
namespace Go.Proofs.Ytoohcjdjmafliaa
open Go Go.RowKit
theorem lessN_iff (a b : Nn) : lessN a b = true ↔ a.b < b.b ∨ a.b = b.b ∧ a.c < b.c := by
  unfold lessN
  exact decide_eq_true_iff
theorem lessN_irrefl (a : Nn) : lessN a a = false := by
  cases h : lessN a a
  · rfl
  · have := (lessN_iff a a).1 h; omega
theorem lessN_trans {a b c : Nn} (h1 : lessN a b = true) (h2 : lessN b c = true) : lessN a c = true := by
  rw [lessN_iff] at *
  omega
/-- None is greater than the latest. -/
theorem latN_max (m : List Nn) : ∀ x ∈ m, lessN (latN m) x = false := by
  have key : ∀ k, k ≤ m.length → ∀ x ∈ m.take k, lessN (latN (m.take k)) x = false := by
    intro k
    induction k with
    | zero => intro _ x hx; simp at hx
    | succ k ih =>
      intro hk x hx
      rw [takeN_succ m k (by omega)] at hx
      rw [latN_succ m k (by omega)]
      generalize m.getD k Nn.zero = y at *
      cases hl : lessN (latN (m.take k)) y with
      | true =>
        rw [if_pos rfl]
        rcases List.mem_append.1 hx with hx | hx
        · have h1 := ih (by omega) x hx
          cases h2 : lessN y x
          · rfl
          · rw [lessN_trans hl h2] at h1; cases h1
        · rw [List.mem_singleton.1 hx]; exact lessN_irrefl y
      | false =>
        rw [if_neg (by simp)]
        rcases List.mem_append.1 hx with hx | hx
        · exact ih (by omega) x hx
        · rw [List.mem_singleton.1 hx]; exact hl
  have := key m.length (Nat.le_refl _)
  rwa [List.take_length] at this
/-- What a window and a list of nonces hold alike. -/
structure RelW (m : List Nn) (s : Ws) : Prop where
  lat : s.n = latN m
  ok : ∀ x ∈ m, okN x = true
  bits : ∀ d : Nat, d < 64 → s.t.getLsbD d = decide ((⟨s.n.b, s.n.c - (d : Int)⟩ : Nn) ∈ m)
theorem RelW.start : RelW [] Ws.zero := ⟨rfl, fun x hx => by simp at hx, fun d hd => by simp [Ws.zero]⟩
theorem RelW.none {m : List Nn} {s : Ws} (h : RelW m s) {x : Nn} (hx : s.n.b < x.b ∨ s.n.b = x.b ∧ s.n.c < x.c) : x ∉ m := fun hm => by
  have h1 := latN_max m x hm
  rw [← h.lat, (lessN_iff _ _).2 hx] at h1
  cases h1
theorem RelW.take {m : List Nn} {s : Ws} (h : RelW m s) {n : Nn} (h0 : lookW s n = 0) : RelW (m ++ [n]) (takeW s n) := by
  have hok : okN n = true := by
    unfold lookW at h0
    split at h0
    · omega
    · rename_i h1; simpa using h1
  have hfo : forgW s n = false := by
    unfold lookW at h0
    rw [if_neg (by rw [hok]; simp)] at h0
    split at h0
    · omega
    · rename_i h1; simpa using h1
  obtain ⟨n1, n2, n3, n4⟩ := (okN_iff n).1 hok
  have hf : ¬ (n.b < s.n.b ∨ n.b = s.n.b ∧ 64 ≤ s.n.c - n.c) := by unfold forgW at hfo; exact of_decide_eq_false hfo
  have hmem : ∀ x : Nn, decide (x ∈ m ++ [n]) = (decide (x ∈ m) || decide (x = n)) := fun x => by
    by_cases h1 : x ∈ m <;> by_cases h2 : x = n <;> simp [h1, h2]
  have hok' : ∀ x ∈ m ++ [n], okN x = true := fun x hx => by
    rcases List.mem_append.1 hx with hx | hx
    · exact h.ok x hx
    · rw [List.mem_singleton.1 hx]; exact hok
  unfold takeW
  rw [if_pos h0]
  cases hl : lessN s.n n with
  | true =>
    rw [if_pos rfl]
    have hl' := (lessN_iff _ _).1 hl
    refine ⟨?_, hok', ?_⟩
    · show n = _
      rw [latN_snoc, ← h.lat, hl, if_pos rfl]
    · intro d hd
      show ((riseW s n).t ||| bitW (riseW s n) n).getLsbD d = decide ((⟨n.b, n.c - (d : Int)⟩ : Nn) ∈ m ++ [n])
      have e1 : bitW (riseW s n) n = 1#64 := by
        unfold bitW
        rw [if_pos ⟨rfl, Int.le_refl _⟩, show (riseW s n).n.c - n.c = 0 from Int.sub_self _]
        rfl
      rw [e1, BitVec.getLsbD_or, hmem]
      have e2 : (1#64).getLsbD d = decide ((⟨n.b, n.c - (d : Int)⟩ : Nn) = n) := by
        rw [BitVec.getLsbD_one]
        by_cases hd0 : d = 0
        · subst hd0
          have e0 : (⟨n.b, n.c - ((0 : Nat) : Int)⟩ : Nn) = n := Nn.ext' rfl (by show n.c - ((0 : Nat) : Int) = n.c; omega)
          rw [e0]
          simp
        · have e0 : ¬ (⟨n.b, n.c - (d : Int)⟩ : Nn) = n := fun e => by have := ((Nn.eq_iff _ _).1 e).2; simp only at this; omega
          rw [decide_eq_false e0]
          simp [hd0]
      rw [e2]
      congr 1
      unfold riseW
      by_cases hb : n.b = s.n.b
      · show (if n.b = s.n.b then s.t <<< (n.c - s.n.c).toNat else 0#64).getLsbD d = _
        rw [if_pos hb]
        obtain ⟨k, hk⟩ : ∃ k : Nat, n.c - s.n.c = (k : Int) := ⟨(n.c - s.n.c).toNat, by omega⟩
        rw [hk, Int.toNat_natCast, BitVec.getLsbD_shiftLeft]
        by_cases hdk : d < k
        · have e0 : (⟨n.b, n.c - (d : Int)⟩ : Nn) ∉ m := h.none (.inr ⟨hb.symm, by show s.n.c < n.c - (d : Int); omega⟩)
          rw [decide_eq_false e0]
          simp [hdk]
        · have hb2 := h.bits (d - k) (by omega)
          rw [hb2, hb]
          have e3 : s.n.c - ((d - k : Nat) : Int) = n.c - (d : Int) := by omega
          rw [e3]
          simp [hd, hdk]
      · show (if n.b = s.n.b then s.t <<< (n.c - s.n.c).toNat else 0#64).getLsbD d = _
        have e0 : (⟨n.b, n.c - (d : Int)⟩ : Nn) ∉ m := h.none (.inl (by show s.n.b < n.b; omega))
        rw [if_neg hb, decide_eq_false e0]
        simp
  | false =>
    rw [if_neg (by simp)]
    have hl' : ¬ (s.n.b < n.b ∨ s.n.b = n.b ∧ s.n.c < n.c) := fun e => by rw [(lessN_iff _ _).2 e] at hl; cases hl
    have hb : n.b = s.n.b := by omega
    refine ⟨?_, hok', ?_⟩
    · show s.n = _
      rw [latN_snoc, ← h.lat, hl, if_neg (by simp)]
    · intro d hd
      show (s.t ||| bitW s n).getLsbD d = decide ((⟨s.n.b, s.n.c - (d : Int)⟩ : Nn) ∈ m ++ [n])
      rw [BitVec.getLsbD_or, hmem, h.bits d hd]
      congr 1
      unfold bitW
      rw [if_pos ⟨hb, by omega⟩]
      obtain ⟨k, hk⟩ : ∃ k : Nat, s.n.c - n.c = (k : Int) := ⟨(s.n.c - n.c).toNat, by omega⟩
      rw [hk, Int.toNat_natCast, BitVec.getLsbD_shiftLeft, BitVec.getLsbD_one]
      by_cases e : d = k
      · subst e
        have e0 : (⟨s.n.b, s.n.c - (d : Int)⟩ : Nn) = n := Nn.ext' hb.symm (by show s.n.c - (d : Int) = n.c; omega)
        rw [decide_eq_true e0]
        simp [hd]
      · have e0 : ¬ (⟨s.n.b, s.n.c - (d : Int)⟩ : Nn) = n := fun e' => by have := ((Nn.eq_iff _ _).1 e').2; simp only at this; omega
        rw [decide_eq_false e0]
        by_cases h2 : d < k
        · simp [h2]
        · have : d - k ≠ 0 := by omega
          simp [this]
end Go.Proofs.Ytoohcjdjmafliaa
namespace Go.Proofs.Ytoohcjdjmafliaa
open Go Go.RowKit
/-- A counter in its block. -/
def CouB (W : World) (p : Nat) (n : Nn) : Prop := W.heap[p]? = some (.cells #[.int .i64 n.b, .int .i64 n.c] 70 (0, 0))
theorem CouB.lt {W : World} {p : Nat} {n : Nn} (h : CouB W p n) : p < W.heap.size := (Array.getElem?_eq_some_iff.1 h).1
theorem CouB.later {W W1 : World} {p : Nat} {n : Nn} (h : CouB W p n) (hb : Below W.heap.size W W1) : CouB W1 p n := (hb.block p h.lt).trans h
theorem CouB.aside {W W1 : World} {p q : Nat} {n : Nn} (h : CouB W p n) (hg : W.grownBy W1 (some q)) (hne : p ≠ q) : CouB W1 p n := (hg.block p h.lt (fun e => hne (by injection e))).trans h
theorem CouB.cells {W : World} {p : Nat} {n : Nn} (h : CouB W p n) : W.cell? ⟨p, 0, none⟩ = some (.int .i64 n.b) ∧ W.cell? ⟨p, 1, none⟩ = some (.int .i64 n.c) :=
  ⟨by rw [cell_of_row _ _ _ _ _ _ h]; rfl, by rw [cell_of_row _ _ _ _ _ _ h]; rfl⟩
theorem CouB.frozen {W : World} {p : Nat} {n : Nn} (h : CouB W p n) (i : Nat) : W.frozen? ⟨p, i, none⟩ = false := frozen_of_row _ _ _ _ _ h
end Go.Proofs.Ytoohcjdjmafliaa
namespace Go.Proofs.Ytoohcjdjmafliaa
open Go Go.RowKit
/-- A window that was made behind a world. -/
structure WP (w : World) (q : Nat) (s : Ws) (W : World) : Prop where
  below : Below w.heap.size w W
  win : WinB W q s
  ge : w.heap.size ≤ q
  ok : s.ok
theorem WP.later {w : World} {q : Nat} {s : Ws} {W W1 : World} (h : WP w q s W) (hb : Below W.heap.size W W1) : WP w q s W1 := ⟨h.below.trans (hb.mono h.below.size), h.win.later hb, h.ge, h.ok⟩
theorem WP.aside {w : World} {q p : Nat} {s : Ws} {W W1 : World} (h : WP w q s W) (hg : W.grownBy W1 (some p)) (hp : w.heap.size ≤ p) (hne : q ≠ p) : WP w q s W1 := ⟨h.below.trans (grown_belowW hg hp h.below.size), h.win.aside hg hne, h.ge, h.ok⟩
theorem WP.row {w : World} {q : Nat} {s : Ws} {W W1 : World} {T : TypeId} {v : Value} {l : List Nn} (h : WP w q s W) (hT : T ≠ 27) (ho : OwnN T W w.heap.size v l) (hg : W.grownBy W1 v.ownBlock) : WP w q s W1 := ⟨h.below.trans (ownN_below ho hg h.below.size), h.win.row hT ho hg, h.ge, h.ok⟩
theorem WP.start (w : World) : WP w w.heap.size Ws.zero (w.alloc (.cells #[.int .i64 0, .int .i64 0, .int .u64 0] 27)) := ⟨below_a _, winB_new w, Nat.le_refl _, zero_ok⟩
theorem WP.take {w : World} {q : Nat} {s : Ws} {W : World} (h : WP w q s W) (n : Nn) : Calls Try.prog 12 #[.pointer (some ⟨q, 0, none⟩), nv n] W fun e W' => e = .returned (.int .i64 (lookW s n)) ∧ WP w q (takeW s n) W' ∧ W.grownBy W' (some q) := by
  refine (take_any12 q s n W h.win h.ok).mono ?_
  rintro e W' ⟨h1, h2, h3⟩
  exact ⟨h1, ⟨h.below.trans (grown_belowW h3 h.ge h.below.size), h2, h.ge, takeW_ok h.ok⟩, h3⟩
theorem known12_facts : lookW Ws.zero ⟨1, 5⟩ = 0 ∧ lookW (takeW Ws.zero ⟨1, 5⟩) ⟨1, 3⟩ = 0 ∧ lookW (takeW (takeW Ws.zero ⟨1, 5⟩) ⟨1, 3⟩) ⟨1, 5⟩ = 8 ∧ lookW (takeW (takeW (takeW Ws.zero ⟨1, 5⟩) ⟨1, 3⟩) ⟨1, 5⟩) ⟨1, 70⟩ = 0 ∧ lookW (takeW (takeW (takeW (takeW Ws.zero ⟨1, 5⟩) ⟨1, 3⟩) ⟨1, 5⟩) ⟨1, 70⟩) ⟨1, 6⟩ = 9 := by decide +kernel
set_option maxRecDepth 100000 in
set_option maxHeartbeats 4000000 in
theorem known12_any (w : World) : Calls Try.prog 16 #[] w fun e w' => e = .returned (.bool true) ∧ Below w.heap.size w w' := by
  have HK := Bx.mk known12_facts
  have R0 := Bx.mk (WP.start w)
  go_enter Try.func16, Try.ntmps16
  go_wp2_with fail
  have T0 := R0.out.take ⟨1, 5⟩
  rw [HK.out.1] at T0
  refine T0.mono ?_
  rintro e w1 ⟨rfl, hw, -⟩
  have R1 := Bx.mk hw
  clear hw T0 R0
  go_wp2_with fail
  have T1 := R1.out.take ⟨1, 3⟩
  rw [HK.out.2.1] at T1
  refine T1.mono ?_
  rintro e w2 ⟨rfl, hw, -⟩
  have R2 := Bx.mk hw
  clear hw T1 R1
  go_wp2_with fail
  have T2 := R2.out.take ⟨1, 5⟩
  rw [HK.out.2.2.1] at T2
  refine T2.mono ?_
  rintro e w3 ⟨rfl, hw, -⟩
  have R3 := Bx.mk hw
  clear hw T2 R2
  go_wp2_with fail
  have T3 := R3.out.take ⟨1, 70⟩
  rw [HK.out.2.2.2.1] at T3
  refine T3.mono ?_
  rintro e w4 ⟨rfl, hw, -⟩
  have R4 := Bx.mk hw
  clear hw T3 R3
  go_wp2_with fail
  have T4 := R4.out.take ⟨1, 6⟩
  rw [HK.out.2.2.2.2] at T4
  refine T4.mono ?_
  rintro e w5 ⟨rfl, hw, -⟩
  have R5 := Bx.mk hw
  clear hw T4 R4
  go_wp2
  go_ret
  exact ⟨rfl, R5.out.below⟩
end Go.Proofs.Ytoohcjdjmafliaa
namespace Go.Proofs.Ytoohcjdjmafliaa
open Go Go.RowKit
theorem yieldsIf_build12 {P : Program} {ops : Array Oper} {S : World → Prop} {o : Oper} {a : Act} (hw : Region.wanted o (yielded ops a.tmps) = true) (t : TypeId) (parts : Array (Nat × Operand)) (ho : o.op = .build t parts) (cells : Array Value)
    (hf : P.built t (parts.map fun (i, x) => (i, a.eval x)).toList = some cells) : YieldsIf P ops S o (.agg cells) a :=
  .inl ⟨hw, fun w _ => by
    unfold execOp
    simp only [ho, Sem.run_bind, run_build w t _ cells hf, Result.andThen_ok]
    rfl⟩
theorem getR_long12 (l : List UInt8) (s : Int) (h0 : 0 ≤ s) (h3 : s ≤ 2) (hl : wid s ≤ l.length) : getR l 0 s = (⟨s, (valN (l.take (wid s)) : Int), []⟩, l.drop (wid s), 0) := by
  have h1 := valN_lt (l.take (wid s))
  have h2 : (l.take (wid s)).length ≤ 4 := by
    rw [List.length_take]
    have : wid s ≤ 4 := by
      have : s = 0 ∨ s = 1 ∨ s = 2 := by omega
      rcases this with rfl | rfl | rfl <;> decide
    omega
  have h4 : 256 ^ (l.take (wid s)).length ≤ 256 ^ 4 := Nat.pow_le_pow_right (by decide) h2
  have h5 : (256 : Nat) ^ 4 = 4294967296 := by decide
  unfold getR getF
  rw [if_neg (by simp), if_neg (by omega), if_neg (by omega), if_neg (by omega), if_neg (by omega)]
theorem getR_short12 (l : List UInt8) (s : Int) (h0 : 0 ≤ s) (h3 : s ≤ 2) (hl : l.length < wid s) : getR l 0 s = (Fd.zero, [], 4) := by
  unfold getR getF
  rw [if_neg (by simp), if_neg (by omega), if_neg (by omega), if_pos hl]
theorem wid_one : wid 1 = 2 := rfl
theorem wid_two : wid 2 = 4 := rfl
theorem nr_short (bs : List UInt8) (h : bs.length < 6) : nrE (bs, 0) = 4 ∧ nrC (bs, 0) = Nn.zero := by
  have he : (nrR (bs, 0)).2 = 4 := by
    unfold nrR stepR
    by_cases h2 : bs.length < 2
    · rw [getR_short12 bs 1 (by omega) (by omega) (by rw [wid_one]; exact h2)]
      rfl
    · rw [getR_long12 bs 1 (by omega) (by omega) (by rw [wid_one]; omega)]
      show (getR (bs.drop (wid 1)) 0 2).2.2 = 4
      rw [getR_short12 _ 2 (by omega) (by omega) (by rw [List.length_drop, wid_one, wid_two]; omega)]
  have h1 : nrE (bs, 0) = 4 := by unfold nrE; rw [if_pos (by rw [he]; decide), he]
  exact ⟨h1, by unfold nrC; rw [if_neg (by rw [h1]; decide)]⟩
theorem nr_long (bs : List UInt8) (h : 6 ≤ bs.length) : nrN (bs, 0) = ⟨(valN (bs.take 2) : Int), (valN ((bs.drop 2).take 4) : Int)⟩ ∧ nrR (bs, 0) = (bs.drop 6, 0) := by
  have h1 := getR_long12 bs 1 (by omega) (by omega) (by rw [wid_one]; omega)
  have h2 := getR_long12 (bs.drop 2) 2 (by omega) (by omega) (by rw [List.length_drop, wid_two]; omega)
  rw [wid_one] at h1
  rw [wid_two] at h2
  have hs : stepR (bs, 0) 1 = (bs.drop 2, 0) := by unfold stepR; rw [h1]
  refine ⟨?_, ?_⟩
  · unfold nrN
    rw [hs]
    unfold numR
    rw [h1, h2]
  · unfold nrR
    rw [hs]
    unfold stepR
    rw [h2, List.drop_drop]
theorem nr_num (bs : List UInt8) (h : 6 ≤ bs.length) : nrN (bs, 0) = ⟨256 * ub (bs.getD 0 0) + ub (bs.getD 1 0), 16777216 * ub (bs.getD 2 0) + 65536 * ub (bs.getD 3 0) + 256 * ub (bs.getD 4 0) + ub (bs.getD 5 0)⟩ := by
  rw [(nr_long bs h).1]
  match bs, h with
  | b0 :: b1 :: b2 :: b3 :: b4 :: b5 :: r, _ =>
    simp [valN, ub]
    omega
theorem nr_err (bs : List UInt8) (h : 6 ≤ bs.length) : nrE (bs, 0) = if okN (nrN (bs, 0)) = true then 0 else 3 := by
  unfold nrE
  rw [(nr_long bs h).2, if_neg (by simp)]
theorem nr_back (n : Nn) (h : okN n = true) : nrE (nB n, 0) = 0 ∧ nrC (nB n, 0) = n := by
  obtain ⟨h1, h2, h3, h4⟩ := (okN_iff n).1 h
  have hn : nrN (nB n, 0) = n := by
    rw [(nr_long (nB n) (by rw [nB_length]; exact Nat.le_refl _)).1]
    unfold nB
    rw [List.take_append_of_le_length (by rw [beN_length]; exact Nat.le_refl _), List.take_of_length_le (by rw [beN_length]; exact Nat.le_refl _), List.drop_append_of_le_length (by rw [beN_length]; exact Nat.le_refl _), List.drop_of_length_le (by rw [beN_length]; exact Nat.le_refl _), List.nil_append, List.take_of_length_le (by rw [beN_length]; exact Nat.le_refl _), valN_beN, valN_beN]
    exact Nn.ext' (by show ((n.b.toNat % 256 ^ 2 : Nat) : Int) = n.b; omega) (by show ((n.c.toNat % 256 ^ 4 : Nat) : Int) = n.c; omega)
  have he : nrE (nB n, 0) = 0 := by rw [nr_err _ (by rw [nB_length]; exact Nat.le_refl _), hn, if_pos h]
  exact ⟨he, by unfold nrC; rw [if_pos he, hn]⟩
theorem chk_num12 (s n : Int) (h0 : 0 ≤ s) (h3 : s ≤ 3) (h1 : 0 ≤ n) (h2 : n ≤ most s) : chk (fNum s n) = 0 := by
  unfold chk fNum
  simp only
  rw [if_neg (by omega), if_neg (by omega), if_neg (by simp; omega)]
theorem enc_num12 (s n : Int) (h3 : s ≤ 3) : enc (fNum s n) = beN (wid s) n.toNat := by unfold enc fNum; simp only; rw [if_neg (by omega)]
/-- Two nonces in their blocks. -/
structure WBf (w : World) (n o : Nn) (W : World) : Prop where
  x : BoxN 29 w.heap.size n W
  y : BoxN 29 (w.heap.size + 1) o W
  bel : Below w.heap.size w W
theorem WBf.later {w : World} {n o : Nn} {W W1 : World} (h : WBf w n o W) (hb : Below W.heap.size W W1) : WBf w n o W1 := ⟨h.x.later hb, h.y.later hb, h.bel.trans (hb.mono h.bel.size)⟩
theorem WBf.start (w : World) (n o : Nn) : WBf w n o ((w.alloc (.cells #[.int .i64 n.b, .int .i64 n.c] 29)).alloc (.cells #[.int .i64 o.b, .int .i64 o.c] 29)) :=
  ⟨(hold _ _ _ (by simp)).trans (hnew _ _ _ rfl), hnew _ _ _ (by simp), (below_a _).trans ((below_a _).mono (by simp))⟩
theorem six_later {W W1 : World} {cb ob : Nat} {v0 v1 v2 v3 v4 v5 : Value} (h : W.cell? ⟨cb, ob, none⟩ = some v0 ∧ W.cell? ⟨cb, ob + 1, none⟩ = some v1 ∧ W.cell? ⟨cb, ob + 2, none⟩ = some v2 ∧ W.cell? ⟨cb, ob + 3, none⟩ = some v3 ∧ W.cell? ⟨cb, ob + 4, none⟩ = some v4 ∧ W.cell? ⟨cb, ob + 5, none⟩ = some v5) (hb : Below W.heap.size W W1) :
    W1.cell? ⟨cb, ob, none⟩ = some v0 ∧ W1.cell? ⟨cb, ob + 1, none⟩ = some v1 ∧ W1.cell? ⟨cb, ob + 2, none⟩ = some v2 ∧ W1.cell? ⟨cb, ob + 3, none⟩ = some v3 ∧ W1.cell? ⟨cb, ob + 4, none⟩ = some v4 ∧ W1.cell? ⟨cb, ob + 5, none⟩ = some v5 := by
  have key : ∀ (i : Nat) (v : Value), W.cell? ⟨cb, i, none⟩ = some v → W1.cell? ⟨cb, i, none⟩ = some v := fun i v h => (hb.cell (p := ⟨cb, i, none⟩) (World.block_lt_of_cell? _ _ h)).trans h
  exact ⟨key _ _ h.1, key _ _ h.2.1, key _ _ h.2.2.1, key _ _ h.2.2.2.1, key _ _ h.2.2.2.2.1, key _ _ h.2.2.2.2.2⟩
theorem six_aside {W W1 : World} {cb ob D : Nat} {v0 v1 v2 v3 v4 v5 : Value} (h : W.cell? ⟨cb, ob, none⟩ = some v0 ∧ W.cell? ⟨cb, ob + 1, none⟩ = some v1 ∧ W.cell? ⟨cb, ob + 2, none⟩ = some v2 ∧ W.cell? ⟨cb, ob + 3, none⟩ = some v3 ∧ W.cell? ⟨cb, ob + 4, none⟩ = some v4 ∧ W.cell? ⟨cb, ob + 5, none⟩ = some v5) (hg : W.grownBy W1 (some D)) (hne : cb ≠ D) :
    W1.cell? ⟨cb, ob, none⟩ = some v0 ∧ W1.cell? ⟨cb, ob + 1, none⟩ = some v1 ∧ W1.cell? ⟨cb, ob + 2, none⟩ = some v2 ∧ W1.cell? ⟨cb, ob + 3, none⟩ = some v3 ∧ W1.cell? ⟨cb, ob + 4, none⟩ = some v4 ∧ W1.cell? ⟨cb, ob + 5, none⟩ = some v5 := by
  have key : ∀ (i : Nat) (v : Value), W.cell? ⟨cb, i, none⟩ = some v → W1.cell? ⟨cb, i, none⟩ = some v := fun i v h => by
    have hb := hg.block cb (World.block_lt_of_cell? _ _ h) (fun e => hne (by injection e))
    rw [← h]
    unfold World.cell?
    rw [hb]
  exact ⟨key _ _ h.1, key _ _ h.2.1, key _ _ h.2.2.1, key _ _ h.2.2.2.1, key _ _ h.2.2.2.2.1, key _ _ h.2.2.2.2.2⟩
theorem bytes_six {W : World} {cb ob m cap : Nat} {ys : List UInt8} (h : Bytes W (.slice (some ⟨cb, ob, none⟩) m cap) ys) (hm : 6 ≤ m) : ∀ k, k < 6 → W.cell? ⟨cb, ob + k, none⟩ = some (.int .u8 (ub (ys.getD k 0))) := fun k hk => by
  obtain ⟨c, o, ha, hc⟩ := h.cell k (by omega)
  injection ha with ha
  injection ha with e1 e2
  subst e1 e2
  exact hc
theorem same12 (n : Nn) (W : World) (va vb : Value) (ha : Bytes W va (nB n)) (hb : Bytes W vb (nB n)) : Calls Try.prog 29 #[va, vb] W fun e w' => e = .returned (.bool true) ∧ Below W.heap.size W w' := by
  have h := same_any (nB n) (nB n) va vb W ha hb (by rw [nB_length]; decide) (by rw [nB_length]; decide)
  refine h.mono ?_
  rintro e w' ⟨rfl, nd, rfl⟩
  exact ⟨by simp, below_drewN (Below.refl _ _) nd⟩
end Go.Proofs.Ytoohcjdjmafliaa
