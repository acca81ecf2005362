/-
  A window at the head of a greater block: a nonce is taken.
-/
import Derived.Test.YtdbdpehagkglfaaH4
import Derived.Test.YtdbdpehagkglfaaCu
import Derived.Maps.AppendAt
import Derived.Test.YtdbdpehagkglfaaH6
import Derived.Shelf.Abstract
namespace Go.Proofs.Ytdbdpehagkglfaa
open Go Go.RowKit
variable {xE : List Value} {KT : TypeId}
theorem takeE_err (q : Nat) (s : Ws) (n : Nn) (w : World) (h : WinE xE KT w q s) (hs : s.ok) (he : lookW s n ≠ 0) : Calls Try.prog 43 #[.pointer (some ⟨q, 0, none⟩), nv n] w fun e w' => e = .returned (.int .i64 (lookW s n)) ∧ Below w.heap.size w w' := by
  have HBl : Bx (Below w.heap.size w (w.alloc (.cells #[.int .i64 n.b, .int .i64 n.c] 51))) := Bx.mk (below_a _)
  have HL := Bx.mk (lookE_any q s n _ (h.later (below_a (.cells #[.int .i64 n.b, .int .i64 n.c] 51))) hs)
  generalize lookW s n = z at *
  obtain ⟨b, c⟩ := n
  unfold nv at HL ⊢
  clear h hs
  go_enter Try.func43, Try.ntmps43
  go_wp2_with fail
  refine HL.out.mono ?_
  rintro e w1 ⟨rfl, hb⟩
  have HB1 := Bx.mk (HBl.out.trans (hb.mono HBl.out.size))
  clear hb HBl HL
  go_wp2
  go_ret
  exact ⟨rfl, HB1.out⟩
theorem riseE_any (q : Nat) (s : Ws) (n : Nn) (w : World) (h : WinE xE KT w q s) (hs : s.ok) (hn : okN n = true) (hl : lessN s.n n = true) : Calls Try.prog 58 #[.pointer (some ⟨q, 0, none⟩), nv n] w fun e w' => e = .returned (.tuple #[]) ∧ WinE xE KT w' q (riseW s n) ∧ w.grownBy w' (some q) := by
  unfold lessN at hl
  have hl := of_decide_eq_true hl
  by_cases hb : n.b = s.n.b
  · exact riseE_same q s n w h hs hn hb (by omega)
  · exact riseE_other q s n w h hs hn hb
set_option maxRecDepth 100000 in
set_option maxHeartbeats 4000000 in
theorem takeE_up (q : Nat) (s r : Ws) (n : Nn) (w : World) (h : WinE xE KT w q s) (hs : s.ok) (h0 : lookW s n = 0) (hok : okN n = true) (hl : lessN s.n n = true) (hr : r = riseW s n) (hro : r.ok) (hrb : n.b = r.n.b → r.n.c - n.c < 64) :
    Calls Try.prog 43 #[.pointer (some ⟨q, 0, none⟩), nv n] w fun e w' => e = .returned (.int .i64 0) ∧ WinE xE KT w' q ⟨r.n, r.t ||| bitW r n⟩ ∧ w.grownBy w' (some q) := by
  obtain ⟨X, hX⟩ : ∃ X, w.heap.size = X := ⟨_, rfl⟩
  have hXq : X ≠ q := by have := h.lt; omega
  have R1 : Bx (WinE xE KT (w.alloc (.cells #[.int .i64 n.b, .int .i64 n.c] 51)) q s ∧ BoxN 51 X n (w.alloc (.cells #[.int .i64 n.b, .int .i64 n.c] 51)) ∧ w.grownBy (w.alloc (.cells #[.int .i64 n.b, .int .i64 n.c] 51)) (some q)) := Bx.mk ⟨h.later (below_a _), hnew _ _ _ hX.symm, kb_below _ (below_a _)⟩
  have HL := Bx.mk (lookE_any q s n _ R1.out.1 hs)
  rw [h0] at HL
  have HLe := Bx.mk fun (W : World) => wless_any s.n n W
  rw [hl] at HLe
  have HBi := Bx.mk fun (W : World) (h : WinE xE KT W q r) => bitE12 q r n W h hro hok hrb
  have HRi := Bx.mk fun (W : World) (h : WinE xE KT W q s) => riseE_any q s n W h hs hok hl
  rw [← hr] at HRi
  have HOr := tv_or r.t (bitW r n)
  clear h hs h0 hok hl hr hro hrb
  generalize r.t ||| bitW r n = y at *
  generalize bitW r n = z at *
  obtain ⟨b, c⟩ := n
  obtain ⟨⟨B, C⟩, T⟩ := s
  unfold nv at HL HLe HBi HRi ⊢
  simp only at HL HLe HBi HRi ⊢
  go_enter Try.func43, Try.ntmps43
  go_wp2_with fail
  refine HL.out.mono ?_
  rintro e w2 ⟨rfl, hb⟩
  have R2 : Bx (WinE xE KT w2 q ⟨⟨B, C⟩, T⟩ ∧ BoxN 51 X ⟨b, c⟩ w2 ∧ w.grownBy w2 (some q)) := Bx.mk ⟨R1.out.1.later hb, R1.out.2.1.later hb, kb_trans R1.out.2.2 (kb_below _ hb)⟩
  clear hb R1 HL
  obtain ⟨x0, x1⟩ := R2.out.2.1.cells
  go_upto_region 4 with fail
  clear x0 x1
  have RD : Bx (WinE xE KT w2.drew q ⟨⟨B, C⟩, T⟩ ∧ BoxN 51 X ⟨b, c⟩ w2.drew ∧ w.grownBy w2.drew (some q)) := Bx.mk ⟨R2.out.1.later (Below.refl _ _).drew, R2.out.2.1.later (Below.refl _ _).drew, kb_trans R2.out.2.2 (kb_below _ (Below.refl _ _).drew)⟩
  refine wp_region_noPanic ?_
  refine wp_region_held_drew (S := fun W => W.rangeAt q 0 [.int .i64 B, .int .i64 C] ∧ W.rangeAt X 0 [.int .i64 b, .int .i64 c]) (by kernel_rfl) (⟨RD.out.1.range, RD.out.2.1.range⟩) (fun hHeld => ?_)
  have R0 := RD
  clear RD R2
  generalize w2.drew = W0 at *
  refine takeL 0 (v := ?_) rfl (by kernel_rfl) (by kernel_rfl) (by kernel_rfl) (fun _ _ _ h => h) (Or.inl ⟨by rfl, ?_⟩) hHeld ?_
  rotate_left 1
  · (intro w hSw; go_simp; try with_reducible rfl)
  try simp only [Act.put, List.setIfInBounds_toArray, List.set_cons_zero, List.set_cons_succ]
  refine takeL 1 (v := ?_) rfl (by kernel_rfl) (by kernel_rfl) (by kernel_rfl) (fun _ _ _ h => h) (Or.inl ⟨by rfl, ?_⟩) hHeld ?_
  rotate_left 1
  · (intro w hSw; go_simp; try with_reducible rfl)
  try simp only [Act.put, List.setIfInBounds_toArray, List.set_cons_zero, List.set_cons_succ]
  refine takeL 2 (v := ?_) rfl (by kernel_rfl) (by kernel_rfl) (by kernel_rfl) (fun _ _ _ h => h) (Or.inl ⟨by rfl, ?_⟩) hHeld ?_
  rotate_left 1
  · (intro w hSw; go_simp; try with_reducible rfl)
  try simp only [Act.put, List.setIfInBounds_toArray, List.set_cons_zero, List.set_cons_succ]
  refine takeL 3 rfl (by kernel_rfl) (by kernel_rfl) (by kernel_rfl) (fun _ _ _ h => h) (yieldsIf_load_mid (by rfl) _ _ rfl _ _ rfl _ _ (fun w hSw => hSw.1) Try.underlying51 rfl (by kernel_rfl)) hHeld ?_
  try simp only [Act.put, List.setIfInBounds_toArray, List.set_cons_zero, List.set_cons_succ]
  refine takeL 4 rfl (by kernel_rfl) (by kernel_rfl) (by kernel_rfl) (fun _ _ _ h => h) (yieldsIf_load_mid (by rfl) _ _ rfl _ _ rfl _ _ (fun w hSw => hSw.2) Try.underlying51 rfl (by kernel_rfl)) hHeld ?_
  try simp only [Act.put, List.setIfInBounds_toArray, List.set_cons_zero, List.set_cons_succ]
  refine stepL 5 (by kernel_rfl) rfl (fun K hK => ?_)
  go_simp
  refine (HLe.out W0).mono ?_
  rintro e W1 ⟨rfl, hb⟩
  show K _ _
  have R1 : Bx (WinE xE KT W1 q ⟨⟨B, C⟩, T⟩ ∧ BoxN 51 X ⟨b, c⟩ W1 ∧ w.grownBy W1 (some q)) := Bx.mk ⟨R0.out.1.later hb, R0.out.2.1.later hb, kb_trans R0.out.2.2 (kb_below _ hb)⟩
  clear hb R0
  refine hK.out _ _ (⟨R1.out.1.range, R1.out.2.1.range⟩) (fun hHeld => ?_)
  clear hK K
  try simp only [Act.put, List.setIfInBounds_toArray, List.set_cons_zero, List.set_cons_succ]
  refine wpAnyH_done (by kernel_rfl) ?_ _
  refine NoPanic.normal ?_
  clear hHeld
  obtain ⟨x0, x1⟩ := R1.out.2.1.cells
  go_wp2_with fail
  refine (HRi.out _ R1.out.1).mono ?_
  rintro e w6 ⟨rfl, hw, hg⟩
  have R6 : Bx (WinE xE KT w6 q r ∧ BoxN 51 X ⟨b, c⟩ w6 ∧ w.grownBy w6 (some q)) := Bx.mk ⟨hw, R1.out.2.1.aside hg hXq, kb_trans R1.out.2.2 hg⟩
  clear hw hg R1 x0 x1
  go_upto_region 6 with fail
  have RD : Bx (WinE xE KT w6.drew q r ∧ BoxN 51 X ⟨b, c⟩ w6.drew ∧ w.grownBy w6.drew (some q)) := Bx.mk ⟨R6.out.1.later (Below.refl _ _).drew, R6.out.2.1.later (Below.refl _ _).drew, kb_trans R6.out.2.2 (kb_below _ (Below.refl _ _).drew)⟩
  refine wp_region_noPanic ?_
  refine wp_region_held_drew (S := fun W => W.rangeAt X 0 [.int .i64 b, .int .i64 c]) (by kernel_rfl) (RD.out.2.1.range) (fun hHeld => ?_)
  have R0 := RD
  clear RD R6
  generalize w6.drew = W0 at *
  refine takeL 0 (v := ?_) rfl (by kernel_rfl) (by kernel_rfl) (by kernel_rfl) (fun _ _ _ h => h) (Or.inl ⟨by rfl, ?_⟩) hHeld ?_
  rotate_left 1
  · (intro w hSw; go_simp; try with_reducible rfl)
  try simp only [Act.put, List.setIfInBounds_toArray, List.set_cons_zero, List.set_cons_succ]
  refine takeL 1 (v := ?_) rfl (by kernel_rfl) (by kernel_rfl) (by kernel_rfl) (fun _ _ _ h => h) (Or.inl ⟨by rfl, ?_⟩) hHeld ?_
  rotate_left 1
  · (intro w hSw; go_simp; try with_reducible rfl)
  try simp only [Act.put, List.setIfInBounds_toArray, List.set_cons_zero, List.set_cons_succ]
  refine takeL 2 (v := ?_) rfl (by kernel_rfl) (by kernel_rfl) (by kernel_rfl) (fun _ _ _ h => h) (Or.inl ⟨by rfl, ?_⟩) hHeld ?_
  rotate_left 1
  · (intro w hSw; go_simp; try with_reducible rfl)
  try simp only [Act.put, List.setIfInBounds_toArray, List.set_cons_zero, List.set_cons_succ]
  refine takeL 4 (v := ?_) rfl (by kernel_rfl) (by kernel_rfl) (by kernel_rfl) (fun _ _ _ h => h) (Or.inl ⟨by rfl, ?_⟩) hHeld ?_
  rotate_left 1
  · (intro w hSw; go_simp; try with_reducible rfl)
  try simp only [Act.put, List.setIfInBounds_toArray, List.set_cons_zero, List.set_cons_succ]
  refine takeL 5 rfl (by kernel_rfl) (by kernel_rfl) (by kernel_rfl) (fun _ _ _ h => h) (yieldsIf_load_mid (by rfl) _ _ rfl _ _ rfl _ _ (fun w hSw => hSw) Try.underlying51 rfl (by kernel_rfl)) hHeld ?_
  try simp only [Act.put, List.setIfInBounds_toArray, List.set_cons_zero, List.set_cons_succ]
  refine wpAnyH_ready (rs := [3, 6]) (by kernel_rfl) (by simp) ?_
  refine consM 3 rfl (fun K hK => ?_) (consM 6 rfl (fun K hK => ?_) AllReadyH.nil)
  · have cu := R0.out.1.cells.2.2
    go_simp
    refine hK.out _ _ R0.out.2.1.range (fun hHeld => ?_)
    clear hK K cu
    try simp only [Act.put, List.setIfInBounds_toArray, List.set_cons_zero, List.set_cons_succ]
    refine stepL 6 (by kernel_rfl) rfl (fun K hK => ?_)
    go_simp
    refine (HBi.out W0 R0.out.1).mono ?_
    rintro e W1 ⟨rfl, hb⟩
    show K _ _
    have R1 : Bx (WinE xE KT W1 q r ∧ BoxN 51 X ⟨b, c⟩ W1 ∧ w.grownBy W1 (some q)) := Bx.mk ⟨R0.out.1.later hb, R0.out.2.1.later hb, kb_trans R0.out.2.2 (kb_below _ hb)⟩
    clear hb R0
    refine hK.out _ _ (R1.out.2.1.range) (fun hHeld => ?_)
    clear hK K
    try simp only [Act.put, List.setIfInBounds_toArray, List.set_cons_zero, List.set_cons_succ]
    refine takeL 7 (v := ?_) rfl (by kernel_rfl) (by kernel_rfl) (by kernel_rfl) (fun _ _ _ h => h) (Or.inl ⟨by rfl, ?_⟩) hHeld ?_
    rotate_left 1
    · (intro w hSw; go_simp; try with_reducible rfl)
    try simp only [Act.put, List.setIfInBounds_toArray, List.set_cons_zero, List.set_cons_succ]
    refine takeL 8 (v := ?_) rfl (by kernel_rfl) (by kernel_rfl) (by kernel_rfl) (fun _ _ _ h => h) (Or.inl ⟨by rfl, ?_⟩) hHeld ?_
    rotate_left 1
    · (intro w hSw; go_simp; try with_reducible rfl)
    try simp only [Act.put, List.setIfInBounds_toArray, List.set_cons_zero, List.set_cons_succ]
    refine takeL 9 (v := ?_) rfl (by kernel_rfl) (by kernel_rfl) (by kernel_rfl) (fun _ _ _ h => h) (Or.inl ⟨by rfl, ?_⟩) hHeld ?_
    rotate_left 1
    · (intro w hSw; go_simp; try with_reducible rfl)
    try simp only [Act.put, List.setIfInBounds_toArray, List.set_cons_zero, List.set_cons_succ]
    refine stepL 10 (by kernel_rfl) rfl (fun K hK => ?_)
    have cu := R1.out.1.cells.2.2
    have fu := R1.out.1.frozen 2
    have RZ : Bx (WinE xE KT (W1.setCell ⟨q, 2, none⟩ (.int .u64 (tv y))) q ⟨r.n, y⟩ ∧ BoxN 51 X ⟨b, c⟩ (W1.setCell ⟨q, 2, none⟩ (.int .u64 (tv y))) ∧ w.grownBy (W1.setCell ⟨q, 2, none⟩ (.int .u64 (tv y))) (some q)) := Bx.mk ⟨R1.out.1.setT y, R1.out.2.1.aside (kb_setCell _ 2 _) hXq, kb_trans R1.out.2.2 (kb_setCell _ 2 _)⟩
    go_simp
    refine hK.out _ _ RZ.out.2.1.range (fun hHeld => ?_)
    clear hK K cu fu R1
    try simp only [Act.put, List.setIfInBounds_toArray, List.set_cons_zero, List.set_cons_succ]
    generalize W1.setCell ⟨q, 2, none⟩ (.int .u64 (tv y)) = WZ at *
    refine wpAnyH_done (by kernel_rfl) ?_ _
    refine NoPanic.normal ?_
    clear hHeld
    go_wp2
    go_ret
    exact ⟨rfl, RZ.out.1, RZ.out.2.2⟩
  · go_simp
    refine (HBi.out W0 R0.out.1).mono ?_
    rintro e W1 ⟨rfl, hb⟩
    show K _ _
    have R1 : Bx (WinE xE KT W1 q r ∧ BoxN 51 X ⟨b, c⟩ W1 ∧ w.grownBy W1 (some q)) := Bx.mk ⟨R0.out.1.later hb, R0.out.2.1.later hb, kb_trans R0.out.2.2 (kb_below _ hb)⟩
    clear hb R0
    refine hK.out _ _ (R1.out.2.1.range) (fun hHeld => ?_)
    clear hK K
    try simp only [Act.put, List.setIfInBounds_toArray, List.set_cons_zero, List.set_cons_succ]
    refine stepL 3 (by kernel_rfl) rfl (fun K hK => ?_)
    have cu := R1.out.1.cells.2.2
    go_simp
    refine hK.out _ _ R1.out.2.1.range (fun hHeld => ?_)
    clear hK K cu
    try simp only [Act.put, List.setIfInBounds_toArray, List.set_cons_zero, List.set_cons_succ]
    refine takeL 7 (v := ?_) rfl (by kernel_rfl) (by kernel_rfl) (by kernel_rfl) (fun _ _ _ h => h) (Or.inl ⟨by rfl, ?_⟩) hHeld ?_
    rotate_left 1
    · (intro w hSw; go_simp; try with_reducible rfl)
    try simp only [Act.put, List.setIfInBounds_toArray, List.set_cons_zero, List.set_cons_succ]
    refine takeL 8 (v := ?_) rfl (by kernel_rfl) (by kernel_rfl) (by kernel_rfl) (fun _ _ _ h => h) (Or.inl ⟨by rfl, ?_⟩) hHeld ?_
    rotate_left 1
    · (intro w hSw; go_simp; try with_reducible rfl)
    try simp only [Act.put, List.setIfInBounds_toArray, List.set_cons_zero, List.set_cons_succ]
    refine takeL 9 (v := ?_) rfl (by kernel_rfl) (by kernel_rfl) (by kernel_rfl) (fun _ _ _ h => h) (Or.inl ⟨by rfl, ?_⟩) hHeld ?_
    rotate_left 1
    · (intro w hSw; go_simp; try with_reducible rfl)
    try simp only [Act.put, List.setIfInBounds_toArray, List.set_cons_zero, List.set_cons_succ]
    refine stepL 10 (by kernel_rfl) rfl (fun K hK => ?_)
    have cu := R1.out.1.cells.2.2
    have fu := R1.out.1.frozen 2
    have RZ : Bx (WinE xE KT (W1.setCell ⟨q, 2, none⟩ (.int .u64 (tv y))) q ⟨r.n, y⟩ ∧ BoxN 51 X ⟨b, c⟩ (W1.setCell ⟨q, 2, none⟩ (.int .u64 (tv y))) ∧ w.grownBy (W1.setCell ⟨q, 2, none⟩ (.int .u64 (tv y))) (some q)) := Bx.mk ⟨R1.out.1.setT y, R1.out.2.1.aside (kb_setCell _ 2 _) hXq, kb_trans R1.out.2.2 (kb_setCell _ 2 _)⟩
    go_simp
    refine hK.out _ _ RZ.out.2.1.range (fun hHeld => ?_)
    clear hK K cu fu R1
    try simp only [Act.put, List.setIfInBounds_toArray, List.set_cons_zero, List.set_cons_succ]
    generalize W1.setCell ⟨q, 2, none⟩ (.int .u64 (tv y)) = WZ at *
    refine wpAnyH_done (by kernel_rfl) ?_ _
    refine NoPanic.normal ?_
    clear hHeld
    go_wp2
    go_ret
    exact ⟨rfl, RZ.out.1, RZ.out.2.2⟩
set_option maxRecDepth 100000 in
set_option maxHeartbeats 4000000 in
theorem takeE_in (q : Nat) (s r : Ws) (n : Nn) (w : World) (h : WinE xE KT w q s) (hs : s.ok) (h0 : lookW s n = 0) (hok : okN n = true) (hl : lessN s.n n = false) (hr : r = s) (hro : r.ok) (hrb : n.b = r.n.b → r.n.c - n.c < 64) :
    Calls Try.prog 43 #[.pointer (some ⟨q, 0, none⟩), nv n] w fun e w' => e = .returned (.int .i64 0) ∧ WinE xE KT w' q ⟨r.n, r.t ||| bitW r n⟩ ∧ w.grownBy w' (some q) := by
  obtain ⟨X, hX⟩ : ∃ X, w.heap.size = X := ⟨_, rfl⟩
  have hXq : X ≠ q := by have := h.lt; omega
  have R1 : Bx (WinE xE KT (w.alloc (.cells #[.int .i64 n.b, .int .i64 n.c] 51)) q s ∧ BoxN 51 X n (w.alloc (.cells #[.int .i64 n.b, .int .i64 n.c] 51)) ∧ w.grownBy (w.alloc (.cells #[.int .i64 n.b, .int .i64 n.c] 51)) (some q)) := Bx.mk ⟨h.later (below_a _), hnew _ _ _ hX.symm, kb_below _ (below_a _)⟩
  have HL := Bx.mk (lookE_any q s n _ R1.out.1 hs)
  rw [h0] at HL
  have HLe := Bx.mk fun (W : World) => wless_any s.n n W
  rw [hl] at HLe
  have HBi := Bx.mk fun (W : World) (h : WinE xE KT W q r) => bitE12 q r n W h hro hok hrb
  have HEq := Bx.mk hr.symm

  have HOr := tv_or r.t (bitW r n)
  clear h hs h0 hok hl hr hro hrb
  generalize r.t ||| bitW r n = y at *
  generalize bitW r n = z at *
  obtain ⟨b, c⟩ := n
  obtain ⟨⟨B, C⟩, T⟩ := s
  unfold nv at HL HLe HBi ⊢
  simp only at HL HLe HBi ⊢
  go_enter Try.func43, Try.ntmps43
  go_wp2_with fail
  refine HL.out.mono ?_
  rintro e w2 ⟨rfl, hb⟩
  have R2 : Bx (WinE xE KT w2 q ⟨⟨B, C⟩, T⟩ ∧ BoxN 51 X ⟨b, c⟩ w2 ∧ w.grownBy w2 (some q)) := Bx.mk ⟨R1.out.1.later hb, R1.out.2.1.later hb, kb_trans R1.out.2.2 (kb_below _ hb)⟩
  clear hb R1 HL
  obtain ⟨x0, x1⟩ := R2.out.2.1.cells
  go_upto_region 4 with fail
  clear x0 x1
  have RD : Bx (WinE xE KT w2.drew q ⟨⟨B, C⟩, T⟩ ∧ BoxN 51 X ⟨b, c⟩ w2.drew ∧ w.grownBy w2.drew (some q)) := Bx.mk ⟨R2.out.1.later (Below.refl _ _).drew, R2.out.2.1.later (Below.refl _ _).drew, kb_trans R2.out.2.2 (kb_below _ (Below.refl _ _).drew)⟩
  refine wp_region_noPanic ?_
  refine wp_region_held_drew (S := fun W => W.rangeAt q 0 [.int .i64 B, .int .i64 C] ∧ W.rangeAt X 0 [.int .i64 b, .int .i64 c]) (by kernel_rfl) (⟨RD.out.1.range, RD.out.2.1.range⟩) (fun hHeld => ?_)
  have R0 := RD
  clear RD R2
  generalize w2.drew = W0 at *
  refine takeL 0 (v := ?_) rfl (by kernel_rfl) (by kernel_rfl) (by kernel_rfl) (fun _ _ _ h => h) (Or.inl ⟨by rfl, ?_⟩) hHeld ?_
  rotate_left 1
  · (intro w hSw; go_simp; try with_reducible rfl)
  try simp only [Act.put, List.setIfInBounds_toArray, List.set_cons_zero, List.set_cons_succ]
  refine takeL 1 (v := ?_) rfl (by kernel_rfl) (by kernel_rfl) (by kernel_rfl) (fun _ _ _ h => h) (Or.inl ⟨by rfl, ?_⟩) hHeld ?_
  rotate_left 1
  · (intro w hSw; go_simp; try with_reducible rfl)
  try simp only [Act.put, List.setIfInBounds_toArray, List.set_cons_zero, List.set_cons_succ]
  refine takeL 2 (v := ?_) rfl (by kernel_rfl) (by kernel_rfl) (by kernel_rfl) (fun _ _ _ h => h) (Or.inl ⟨by rfl, ?_⟩) hHeld ?_
  rotate_left 1
  · (intro w hSw; go_simp; try with_reducible rfl)
  try simp only [Act.put, List.setIfInBounds_toArray, List.set_cons_zero, List.set_cons_succ]
  refine takeL 3 rfl (by kernel_rfl) (by kernel_rfl) (by kernel_rfl) (fun _ _ _ h => h) (yieldsIf_load_mid (by rfl) _ _ rfl _ _ rfl _ _ (fun w hSw => hSw.1) Try.underlying51 rfl (by kernel_rfl)) hHeld ?_
  try simp only [Act.put, List.setIfInBounds_toArray, List.set_cons_zero, List.set_cons_succ]
  refine takeL 4 rfl (by kernel_rfl) (by kernel_rfl) (by kernel_rfl) (fun _ _ _ h => h) (yieldsIf_load_mid (by rfl) _ _ rfl _ _ rfl _ _ (fun w hSw => hSw.2) Try.underlying51 rfl (by kernel_rfl)) hHeld ?_
  try simp only [Act.put, List.setIfInBounds_toArray, List.set_cons_zero, List.set_cons_succ]
  refine stepL 5 (by kernel_rfl) rfl (fun K hK => ?_)
  go_simp
  refine (HLe.out W0).mono ?_
  rintro e W1 ⟨rfl, hb⟩
  show K _ _
  have R1 : Bx (WinE xE KT W1 q ⟨⟨B, C⟩, T⟩ ∧ BoxN 51 X ⟨b, c⟩ W1 ∧ w.grownBy W1 (some q)) := Bx.mk ⟨R0.out.1.later hb, R0.out.2.1.later hb, kb_trans R0.out.2.2 (kb_below _ hb)⟩
  clear hb R0
  refine hK.out _ _ (⟨R1.out.1.range, R1.out.2.1.range⟩) (fun hHeld => ?_)
  clear hK K
  try simp only [Act.put, List.setIfInBounds_toArray, List.set_cons_zero, List.set_cons_succ]
  refine wpAnyH_done (by kernel_rfl) ?_ _
  refine NoPanic.normal ?_
  clear hHeld
  obtain ⟨x0, x1⟩ := R1.out.2.1.cells
  go_upto_region 6 with fail
  have R6 : Bx (WinE xE KT W1 q r ∧ BoxN 51 X ⟨b, c⟩ W1 ∧ w.grownBy W1 (some q)) := Bx.mk (by rw [← HEq.out]; exact R1.out)
  clear R1
  have RD : Bx (WinE xE KT W1.drew q r ∧ BoxN 51 X ⟨b, c⟩ W1.drew ∧ w.grownBy W1.drew (some q)) := Bx.mk ⟨R6.out.1.later (Below.refl _ _).drew, R6.out.2.1.later (Below.refl _ _).drew, kb_trans R6.out.2.2 (kb_below _ (Below.refl _ _).drew)⟩
  refine wp_region_noPanic ?_
  refine wp_region_held_drew (S := fun W => W.rangeAt X 0 [.int .i64 b, .int .i64 c]) (by kernel_rfl) (RD.out.2.1.range) (fun hHeld => ?_)
  have R0 := RD
  clear RD R6
  generalize W1.drew = W0 at *
  refine takeL 0 (v := ?_) rfl (by kernel_rfl) (by kernel_rfl) (by kernel_rfl) (fun _ _ _ h => h) (Or.inl ⟨by rfl, ?_⟩) hHeld ?_
  rotate_left 1
  · (intro w hSw; go_simp; try with_reducible rfl)
  try simp only [Act.put, List.setIfInBounds_toArray, List.set_cons_zero, List.set_cons_succ]
  refine takeL 1 (v := ?_) rfl (by kernel_rfl) (by kernel_rfl) (by kernel_rfl) (fun _ _ _ h => h) (Or.inl ⟨by rfl, ?_⟩) hHeld ?_
  rotate_left 1
  · (intro w hSw; go_simp; try with_reducible rfl)
  try simp only [Act.put, List.setIfInBounds_toArray, List.set_cons_zero, List.set_cons_succ]
  refine takeL 2 (v := ?_) rfl (by kernel_rfl) (by kernel_rfl) (by kernel_rfl) (fun _ _ _ h => h) (Or.inl ⟨by rfl, ?_⟩) hHeld ?_
  rotate_left 1
  · (intro w hSw; go_simp; try with_reducible rfl)
  try simp only [Act.put, List.setIfInBounds_toArray, List.set_cons_zero, List.set_cons_succ]
  refine takeL 4 (v := ?_) rfl (by kernel_rfl) (by kernel_rfl) (by kernel_rfl) (fun _ _ _ h => h) (Or.inl ⟨by rfl, ?_⟩) hHeld ?_
  rotate_left 1
  · (intro w hSw; go_simp; try with_reducible rfl)
  try simp only [Act.put, List.setIfInBounds_toArray, List.set_cons_zero, List.set_cons_succ]
  refine takeL 5 rfl (by kernel_rfl) (by kernel_rfl) (by kernel_rfl) (fun _ _ _ h => h) (yieldsIf_load_mid (by rfl) _ _ rfl _ _ rfl _ _ (fun w hSw => hSw) Try.underlying51 rfl (by kernel_rfl)) hHeld ?_
  try simp only [Act.put, List.setIfInBounds_toArray, List.set_cons_zero, List.set_cons_succ]
  refine wpAnyH_ready (rs := [3, 6]) (by kernel_rfl) (by simp) ?_
  refine consM 3 rfl (fun K hK => ?_) (consM 6 rfl (fun K hK => ?_) AllReadyH.nil)
  · have cu := R0.out.1.cells.2.2
    go_simp
    refine hK.out _ _ R0.out.2.1.range (fun hHeld => ?_)
    clear hK K cu
    try simp only [Act.put, List.setIfInBounds_toArray, List.set_cons_zero, List.set_cons_succ]
    refine stepL 6 (by kernel_rfl) rfl (fun K hK => ?_)
    go_simp
    refine (HBi.out W0 R0.out.1).mono ?_
    rintro e W1 ⟨rfl, hb⟩
    show K _ _
    have R1 : Bx (WinE xE KT W1 q r ∧ BoxN 51 X ⟨b, c⟩ W1 ∧ w.grownBy W1 (some q)) := Bx.mk ⟨R0.out.1.later hb, R0.out.2.1.later hb, kb_trans R0.out.2.2 (kb_below _ hb)⟩
    clear hb R0
    refine hK.out _ _ (R1.out.2.1.range) (fun hHeld => ?_)
    clear hK K
    try simp only [Act.put, List.setIfInBounds_toArray, List.set_cons_zero, List.set_cons_succ]
    refine takeL 7 (v := ?_) rfl (by kernel_rfl) (by kernel_rfl) (by kernel_rfl) (fun _ _ _ h => h) (Or.inl ⟨by rfl, ?_⟩) hHeld ?_
    rotate_left 1
    · (intro w hSw; go_simp; try with_reducible rfl)
    try simp only [Act.put, List.setIfInBounds_toArray, List.set_cons_zero, List.set_cons_succ]
    refine takeL 8 (v := ?_) rfl (by kernel_rfl) (by kernel_rfl) (by kernel_rfl) (fun _ _ _ h => h) (Or.inl ⟨by rfl, ?_⟩) hHeld ?_
    rotate_left 1
    · (intro w hSw; go_simp; try with_reducible rfl)
    try simp only [Act.put, List.setIfInBounds_toArray, List.set_cons_zero, List.set_cons_succ]
    refine takeL 9 (v := ?_) rfl (by kernel_rfl) (by kernel_rfl) (by kernel_rfl) (fun _ _ _ h => h) (Or.inl ⟨by rfl, ?_⟩) hHeld ?_
    rotate_left 1
    · (intro w hSw; go_simp; try with_reducible rfl)
    try simp only [Act.put, List.setIfInBounds_toArray, List.set_cons_zero, List.set_cons_succ]
    refine stepL 10 (by kernel_rfl) rfl (fun K hK => ?_)
    have cu := R1.out.1.cells.2.2
    have fu := R1.out.1.frozen 2
    have RZ : Bx (WinE xE KT (W1.setCell ⟨q, 2, none⟩ (.int .u64 (tv y))) q ⟨r.n, y⟩ ∧ BoxN 51 X ⟨b, c⟩ (W1.setCell ⟨q, 2, none⟩ (.int .u64 (tv y))) ∧ w.grownBy (W1.setCell ⟨q, 2, none⟩ (.int .u64 (tv y))) (some q)) := Bx.mk ⟨R1.out.1.setT y, R1.out.2.1.aside (kb_setCell _ 2 _) hXq, kb_trans R1.out.2.2 (kb_setCell _ 2 _)⟩
    go_simp
    refine hK.out _ _ RZ.out.2.1.range (fun hHeld => ?_)
    clear hK K cu fu R1
    try simp only [Act.put, List.setIfInBounds_toArray, List.set_cons_zero, List.set_cons_succ]
    generalize W1.setCell ⟨q, 2, none⟩ (.int .u64 (tv y)) = WZ at *
    refine wpAnyH_done (by kernel_rfl) ?_ _
    refine NoPanic.normal ?_
    clear hHeld
    go_wp2
    go_ret
    exact ⟨rfl, RZ.out.1, RZ.out.2.2⟩
  · go_simp
    refine (HBi.out W0 R0.out.1).mono ?_
    rintro e W1 ⟨rfl, hb⟩
    show K _ _
    have R1 : Bx (WinE xE KT W1 q r ∧ BoxN 51 X ⟨b, c⟩ W1 ∧ w.grownBy W1 (some q)) := Bx.mk ⟨R0.out.1.later hb, R0.out.2.1.later hb, kb_trans R0.out.2.2 (kb_below _ hb)⟩
    clear hb R0
    refine hK.out _ _ (R1.out.2.1.range) (fun hHeld => ?_)
    clear hK K
    try simp only [Act.put, List.setIfInBounds_toArray, List.set_cons_zero, List.set_cons_succ]
    refine stepL 3 (by kernel_rfl) rfl (fun K hK => ?_)
    have cu := R1.out.1.cells.2.2
    go_simp
    refine hK.out _ _ R1.out.2.1.range (fun hHeld => ?_)
    clear hK K cu
    try simp only [Act.put, List.setIfInBounds_toArray, List.set_cons_zero, List.set_cons_succ]
    refine takeL 7 (v := ?_) rfl (by kernel_rfl) (by kernel_rfl) (by kernel_rfl) (fun _ _ _ h => h) (Or.inl ⟨by rfl, ?_⟩) hHeld ?_
    rotate_left 1
    · (intro w hSw; go_simp; try with_reducible rfl)
    try simp only [Act.put, List.setIfInBounds_toArray, List.set_cons_zero, List.set_cons_succ]
    refine takeL 8 (v := ?_) rfl (by kernel_rfl) (by kernel_rfl) (by kernel_rfl) (fun _ _ _ h => h) (Or.inl ⟨by rfl, ?_⟩) hHeld ?_
    rotate_left 1
    · (intro w hSw; go_simp; try with_reducible rfl)
    try simp only [Act.put, List.setIfInBounds_toArray, List.set_cons_zero, List.set_cons_succ]
    refine takeL 9 (v := ?_) rfl (by kernel_rfl) (by kernel_rfl) (by kernel_rfl) (fun _ _ _ h => h) (Or.inl ⟨by rfl, ?_⟩) hHeld ?_
    rotate_left 1
    · (intro w hSw; go_simp; try with_reducible rfl)
    try simp only [Act.put, List.setIfInBounds_toArray, List.set_cons_zero, List.set_cons_succ]
    refine stepL 10 (by kernel_rfl) rfl (fun K hK => ?_)
    have cu := R1.out.1.cells.2.2
    have fu := R1.out.1.frozen 2
    have RZ : Bx (WinE xE KT (W1.setCell ⟨q, 2, none⟩ (.int .u64 (tv y))) q ⟨r.n, y⟩ ∧ BoxN 51 X ⟨b, c⟩ (W1.setCell ⟨q, 2, none⟩ (.int .u64 (tv y))) ∧ w.grownBy (W1.setCell ⟨q, 2, none⟩ (.int .u64 (tv y))) (some q)) := Bx.mk ⟨R1.out.1.setT y, R1.out.2.1.aside (kb_setCell _ 2 _) hXq, kb_trans R1.out.2.2 (kb_setCell _ 2 _)⟩
    go_simp
    refine hK.out _ _ RZ.out.2.1.range (fun hHeld => ?_)
    clear hK K cu fu R1
    try simp only [Act.put, List.setIfInBounds_toArray, List.set_cons_zero, List.set_cons_succ]
    generalize W1.setCell ⟨q, 2, none⟩ (.int .u64 (tv y)) = WZ at *
    refine wpAnyH_done (by kernel_rfl) ?_ _
    refine NoPanic.normal ?_
    clear hHeld
    go_wp2
    go_ret
    exact ⟨rfl, RZ.out.1, RZ.out.2.2⟩
theorem takeE_any (q : Nat) (s : Ws) (n : Nn) (w : World) (h : WinE xE KT w q s) (hs : s.ok) :
    Calls Try.prog 43 #[.pointer (some ⟨q, 0, none⟩), nv n] w fun e w' => e = .returned (.int .i64 (lookW s n)) ∧ WinE xE KT w' q (takeW s n) ∧ w.grownBy w' (some q) := by
  by_cases h0 : lookW s n = 0
  · have hok : okN n = true := by
      unfold lookW at h0
      split at h0
      · omega
      · rename_i h1; simpa using h1
    have hfo : forgW s n = false := by
      unfold lookW at h0
      rw [if_neg (by rw [hok]; simp)] at h0
      split at h0
      · omega
      · rename_i h1; simpa using h1
    obtain ⟨n1, n2, n3, n4⟩ := (okN_iff n).1 hok
    unfold takeW
    rw [if_pos h0, h0]
    cases hl : lessN s.n n with
    | true =>
      rw [if_pos rfl]
      exact takeE_up q s (riseW s n) n w h hs h0 hok hl rfl ⟨by show 0 ≤ n.b; omega, n2, by show 0 ≤ n.c; omega, n4⟩ (fun _ => by show n.c - n.c < 64; omega)
    | false =>
      rw [if_neg (by simp)]
      exact takeE_in q s s n w h hs h0 hok hl rfl hs (fun e => forgW_false hfo e)
  · have e1 : takeW s n = s := by unfold takeW; rw [if_neg h0]
    rw [e1]
    refine (takeE_err q s n w h hs h0).mono ?_
    rintro e w' ⟨h1, h2⟩
    exact ⟨h1, h.later h2, kb_below _ h2⟩
end Go.Proofs.Ytdbdpehagkglfaa
namespace Go.Proofs.Ytdbdpehagkglfaa
open Go Go.RowKit
/-- A type of elements of n cells, of nb bytes each. -/
structure ElT (ST T : TypeId) (n nb : Nat) : Prop where
  und : Try.prog.underlying ST = some (.slice T)
  inf : ∃ i z, Try.prog.info? T = some i ∧ i.zero = some z ∧ i.size = n ∧ i.bytes = nb ∧ z.cells.size = n
  pos : 0 < n
  few : nb ≤ 1000
theorem elT_of {ST T : TypeId} {n nb : Nat} (z : Value) (hu : Try.prog.underlying ST = some (.slice T)) (hi : (Try.prog.info? T).map (fun i => (i.zero, i.size, i.bytes)) = some (some z, n, nb)) (hz : z.cells.size = n) (hp : 0 < n) (hb : nb ≤ 1000) : ElT ST T n nb := by
  refine ⟨hu, ?_, hp, hb⟩
  cases h : Try.prog.info? T with
  | none => rw [h] at hi; cases hi
  | some i =>
    rw [h] at hi
    injection hi with hi
    injection hi with h1 hi
    injection hi with h2 h3
    exact ⟨i, z, rfl, h1, h2, h3, hz⟩
theorem yieldsIf_build {P : Program} {ops : Array Oper} {S : World → Prop} {o : Oper} {a : Act} (hw : Region.wanted o (yielded ops a.tmps) = true) (t : TypeId) (parts : Array (Nat × Operand)) (ho : o.op = .build t parts) (cells : Array Value)
    (hf : P.built t (parts.map fun (i, x) => (i, a.eval x)).toList = some cells) : YieldsIf P ops S o (.agg cells) a :=
  .inl ⟨hw, fun w _ => by
    unfold execOp
    simp only [ho, Sem.run_bind, run_build w t _ cells hf, Result.andThen_ok]
    rfl⟩
section
variable {α : Type}
/-- An own row of such elements. -/
def OwnG (T : TypeId) (n : Nat) (enc : α → List Value) (w : World) (base : Nat) (v : Value) (l : List α) : Prop := w.ownsRow base T n v l.length (l.flatMap enc)
variable {T : TypeId} {n : Nat} {enc : α → List Value} {w w1 : World} {base : Nat} {v : Value} {l : List α}
theorem OwnG.nil (T : TypeId) (n : Nat) (enc : α → List Value) (w : World) (base : Nat) : OwnG T n enc w base (.slice none 0 0) [] := ⟨by simp, .inl ⟨rfl, rfl⟩⟩
theorem OwnG.lt (h : OwnG T n enc w base v l) : ∀ g, v.ownBlock = some g → g < w.heap.size ∧ base ≤ g := fun g hg => by
  rcases h.2 with ⟨hv, _⟩ | ⟨g', cap, cur, hv, hb, hh, _⟩
  · rw [hv] at hg; cases hg
  · rw [hv] at hg
    injection hg with hg
    subst hg
    exact ⟨(Array.getElem?_eq_some_iff.1 hh).1, hb⟩
theorem OwnG.kept (h : OwnG T n enc w base v l) (hb : ∀ g cs fr, base ≤ g → w.heap[g]? = some (.cells cs T fr) → w1.heap[g]? = some (.cells cs T fr)) : OwnG T n enc w1 base v l := by
  refine ⟨h.1, ?_⟩
  rcases h.2 with h0 | ⟨g, cap, cur, hv, hb', hh, hr⟩
  · exact .inl h0
  · exact .inr ⟨g, cap, cur, hv, hb', hb g _ _ hb' hh, hr⟩
theorem OwnG.later (h : OwnG T n enc w base v l) (hb : Below w.heap.size w w1) : OwnG T n enc w1 base v l := h.kept fun g cs fr _ h0 => by rw [hb.block g (Array.getElem?_eq_some_iff.1 h0).1]; exact h0
theorem OwnG.weak {base' : Nat} (h : OwnG T n enc w base v l) (hb : base' ≤ base) : OwnG T n enc w base' v l := by
  refine ⟨h.1, ?_⟩
  rcases h.2 with h0 | ⟨g, cap, cur, hv, hb', hh⟩
  · exact .inl h0
  · exact .inr ⟨g, cap, cur, hv, Nat.le_trans hb hb', hh⟩
theorem OwnG.form (h : OwnG T n enc w base v l) : ∃ a cap, v = .slice a l.length cap ∧ l.length ≤ cap ∧ (a = none → cap = 0) := by
  rcases h.2 with ⟨hv, h0⟩ | ⟨g, cap, cur, hv, _, _, h1, _⟩
  · exact ⟨none, 0, by rw [hv, h0], by omega, fun _ => rfl⟩
  · exact ⟨_, cap, hv, h1, fun h => by cases h⟩
theorem OwnG.kind (h : OwnG T n enc w base v l) : ∀ g, v.ownBlock = some g → ∃ cs fr, w.heap[g]? = some (.cells cs T fr) := fun g hg => by
  rcases h.2 with ⟨hv, _⟩ | ⟨g', cap, cur, hv, _, hh, _⟩
  · rw [hv] at hg; cases hg
  · rw [hv] at hg
    injection hg with hg
    subst hg
    exact ⟨_, _, hh⟩
theorem OwnG.below (h : OwnG T n enc w base v l) (hg : w.grownBy w1 v.ownBlock) (hb : base ≤ w.heap.size) : Below base w w1 :=
  ⟨hg.os, hg.tape, hg.output, hg.size, fun i hi => hg.block i (by omega) (fun e => by have := (h.lt i e.symm).2; omega)⟩
/-- It stays where a block changes that holds no such elements. -/
theorem OwnG.aside {o : Option Nat} (h : OwnG T n enc w base v l) (hm : ∀ M cs fr, o = some M → w.heap[M]? ≠ some (.cells cs T fr)) (hg : w.grownBy w1 o) : OwnG T n enc w1 base v l := h.kept fun g cs fr _ h0 => by
  rw [hg.block g (Array.getElem?_eq_some_iff.1 h0).1 (fun e => hm g cs fr e.symm h0)]
  exact h0
theorem flat_get (henc : ∀ x, (enc x).length = n) (l : List α) : ∀ (k : Nat) (hk : k < l.length) (j : Nat), j < n → (l.flatMap enc)[k * n + j]? = (enc l[k])[j]? := by
  induction l with
  | nil => intro k hk; simp at hk
  | cons x l ih =>
    intro k hk j hj
    rw [List.flatMap_cons]
    cases k with
    | zero => rw [Nat.zero_mul, Nat.zero_add, List.getElem?_append_left (by rw [henc]; exact hj)]; rfl
    | succ k =>
      have e1 : (k + 1) * n + j - n = k * n + j := by rw [Nat.succ_mul]; omega
      rw [List.getElem?_append_right (by rw [henc, Nat.succ_mul]; omega), henc, e1, ih k (by simpa using hk) j hj]
      rfl
theorem flat_set (henc : ∀ x, (enc x).length = n) (l : List α) : ∀ (k : Nat) (hk : k < l.length) (j : Nat) (u : Value) (y : α), j < n → enc y = (enc l[k]).set j u → (l.set k y).flatMap enc = (l.flatMap enc).set (k * n + j) u := by
  induction l with
  | nil => intro k hk; simp at hk
  | cons x l ih =>
    intro k hk j u y hj he
    cases k with
    | zero =>
      rw [Nat.zero_mul, Nat.zero_add, List.set_cons_zero, List.flatMap_cons, List.flatMap_cons, List.set_append_left _ _ (by rw [henc]; exact hj), he]
      rfl
    | succ k =>
      have e1 : (k + 1) * n + j - n = k * n + j := by rw [Nat.succ_mul]; omega
      rw [List.set_cons_succ, List.flatMap_cons, List.flatMap_cons, List.set_append_right _ _ (by rw [henc, Nat.succ_mul]; omega), henc, e1, ih k (by simpa using hk) j u y hj he]
theorem OwnG.start (h : OwnG T n enc w base v l) (hp : 0 < l.length) : ∃ g cap, v = .slice (some ⟨g, 0, none⟩) l.length cap := by
  rcases h.2 with ⟨_, h0⟩ | ⟨g, cap, cur, hv, _⟩
  · omega
  · exact ⟨g, cap, hv⟩
theorem OwnG.at_ {g len cap : Nat} (h : OwnG T n enc w base (.slice (some ⟨g, 0, none⟩) len cap) l) (henc : ∀ x, (enc x).length = n) (k : Nat) (hk : k < l.length) : w.rangeAt g (k * n) (enc l[k]) := fun j u hj => by
  rcases h.2 with ⟨h1, _⟩ | ⟨g', cap', cur, hv, _, hg, hc1, hc2, hc3, hc4⟩
  · cases h1
  · injection hv with hv1 hv2 hv3
    injection hv1 with hv1
    injection hv1 with hv1
    subst hv1
    have hjn : j < n := by have := (List.getElem?_eq_some_iff.1 hj).1; rwa [henc] at this
    have h1 := flat_get henc l k hk j hjn
    rw [hj, ← hc4] at h1
    rw [cell_of_row _ _ _ _ _ _ hg, ← Array.getElem?_toList]
    rw [List.getElem?_take] at h1
    split at h1
    · exact h1
    · cases h1
theorem OwnG.frozen {g len cap : Nat} (h : OwnG T n enc w base (.slice (some ⟨g, 0, none⟩) len cap) l) (i : Nat) : w.frozen? ⟨g, i, none⟩ = false := by
  rcases h.2 with ⟨h1, _⟩ | ⟨g', cap', cur, hv, _, hg, _⟩
  · cases h1
  · injection hv with hv1 hv2 hv3
    injection hv1 with hv1
    injection hv1 with hv1
    subst hv1
    exact frozen_of_row _ _ _ _ _ hg
/-- One cell of one element set. -/
theorem OwnG.set {g len cap : Nat} (h : OwnG T n enc w base (.slice (some ⟨g, 0, none⟩) len cap) l) (henc : ∀ x, (enc x).length = n) (k : Nat) (hk : k < l.length) (j : Nat) (hj : j < n) (u : Value) (y : α) (he : enc y = (enc l[k]).set j u) :
    OwnG T n enc (w.setCell ⟨g, k * n + j, none⟩ u) base (.slice (some ⟨g, 0, none⟩) len cap) (l.set k y) := by
  rcases h.2 with ⟨h1, _⟩ | ⟨g', cap', cur, hv, hb, hg, hc1, hc2, hc3, hc4⟩
  · cases h1
  · injection hv with hv1 hv2 hv3
    injection hv1 with hv1
    injection hv1 with hv1
    subst hv1
    subst hv3
    have hr : (w.setCell ⟨g, k * n + j, none⟩ u).heap[g]? = some (.cells (cur.setIfInBounds (k * n + j) u) T (0, 0)) := heap_setCells_same g _ [u] (k * n + j) w _ hg
    refine ⟨by rw [flat_set henc l k hk j u y hj he, List.length_set, List.length_set]; exact h.1, .inr ⟨g, cap, _, by rw [List.length_set, hv2], hb, hr, by rw [List.length_set]; exact hc1, hc2, by rw [Array.size_setIfInBounds]; exact hc3, ?_⟩⟩
    rw [Array.toList_setIfInBounds, List.length_set, flat_set henc l k hk j u y hj he, ← hc4, List.take_set]
theorem run_apG {ST : TypeId} {nb : Nat} (E : ElT ST T n nb) (hown : OwnG T n enc w base v l) (g o cp : Nat) (e : α) (henc : (enc e).length = n) (hone : ∀ u ∈ enc e, u.oneCell' = true) (hr : w.rangeAt g o (enc e)) (hn : l.length ≤ 1000) (hbase : base ≤ w.heap.size) (ty : TypeId) :
    ∃ v' w', (Builtin.append_ #[ST, ST] ty #[v, .slice (some ⟨g, o, none⟩) 1 cp]).run Try.prog w = .ok v' w' ∧ OwnG T n enc w' base v' (l ++ [e]) ∧ w.grownBy w' v.ownBlock := by
  obtain ⟨i, z, h1, h2, h3, h4, h5⟩ := E.inf
  have hbytes : (l.length + 1) * nb ≤ 140737488355328 := Nat.le_trans (Nat.mul_le_mul (show l.length + 1 ≤ 1001 by omega) E.few) (by decide)
  obtain ⟨v', w', hrun, h6, h7, _, _⟩ := run_append_own_at (P := Try.prog) w base ST ty T i z n nb E.und h1 h2 h3 h4 h5 E.pos v l.length (l.flatMap enc) hown ⟨g, o, none⟩ 1 cp (enc e) (by rw [henc]; omega)
    (fun j u hu => by rw [show (⟨g, o, none⟩ : Addr).add j = ⟨g, o + j, none⟩ by unfold Addr.add; split <;> simp_all]; exact hr j u hu) hone (by simp only [maxLen]; omega) hbytes hbase
  refine ⟨v', w', hrun, ?_, h7⟩
  unfold OwnG
  rw [List.length_append, List.flatMap_append]
  simpa using h6
theorem wpList_apG {ST : TypeId} {nb : Nat} (E : ElT ST T n nb) {ops : Array Oper} {rest : List Oper} {o : Oper} {a : Act} {Q : Exit → Act → World → Prop} (hgd : o.guard = none) (sl x : Operand)
    (ho : o.op = .call { callee := .builtin .append, args := #[sl, x], argTypes := #[ST, ST] }) (base : Nat) (v : Value) (l : List α) (hs : a.eval sl = v) (hown : OwnG T n enc w base v l) (g of : Nat) (e : α) (cp : Nat) (hx : a.eval x = .slice (some ⟨g, of, none⟩) 1 cp) (hr : w.rangeAt g of (enc e))
    (henc : (enc e).length = n) (hone : ∀ u ∈ enc e, u.oneCell' = true) (hn : l.length ≤ 1000) (hbase : base ≤ w.heap.size)
    (h : ∀ v' w', OwnG T n enc w' base v' (l ++ [e]) → w.grownBy w' v.ownBlock → wpList Try.prog ops Q rest (a.put o.dst v') w') : wpList Try.prog ops Q (o :: rest) a w := by
  refine wpList_plain hgd fun K hK => ?_
  obtain ⟨v', w', hrun, h1, h2⟩ := run_apG E hown g of cp e henc hone hr hn hbase o.type
  unfold Oper.wp
  simp [execOp, ho, resolve, invoke, builtin, hs, hx, hrun, Result.andThen]
  exact hK _ _ (h v' w' h1 h2)
end
end Go.Proofs.Ytdbdpehagkglfaa
namespace Go.Proofs.Ytdbdpehagkglfaa
open Go Go.RowKit Go.Maps
/-- How a pointer to a block reads. -/
def RPp : Value → Option (DataW Unit × List MemPlace)
  | .pointer (some ⟨p, 0, none⟩) => some (.lit (.int .i64 p), [])
  | _ => none
theorem RPp_ptr (p : Nat) : RPp (ptr p) = some (.lit (.int .i64 p), []) := rfl
theorem RPp_inv {v : Value} {y : DataW Unit × List MemPlace} (h : RPp v = some y) : ∃ p : Nat, v = ptr p ∧ y = (.lit (.int .i64 p), []) := by
  unfold RPp at h
  split at h
  · rename_i p
    exact ⟨p, rfl, (Option.some.inj h).symm⟩
  · cases h
/-- Which keys a map's datum has, and what stands there. -/
structure KeysP (D : DataW Unit) (l : List (Cl × Nat)) : Prop where
  has : ∀ x ∈ l, ∀ kl, keyOf Try.prog 34 (clV x.1) = some kl → Maps.has D kl = true
  key : ∀ kl, Maps.has D kl = true → ∃ x ∈ l, keyOf Try.prog 34 (clV x.1) = some kl
  at_ : ∀ x ∈ l, ∀ kl, keyOf Try.prog 34 (clV x.1) = some kl → ∀ zd, D.atKey kl zd = .lit (.int .i64 x.2)
set_option maxRecDepth 100000 in
theorem MapL.ownsP {W : World} {M : Nat} {l : List (Cl × Nat)} (m : MapL W M l) (hl : l.length ≤ 1000) : ∃ D : DataW Unit, W.ownsMap Try.prog 34 RPp M l.length D ∧ KeysP D l ∧ Maps.size D = l.length := by
  obtain ⟨es, clock, hb, hs, he⟩ := m.st
  have hsz : es.size = l.length := by have := congrArg List.length he; simpa using this
  have hvp : ∀ x ∈ es.toList, ∃ p, x.val = ptr p := fun x hx => by
    obtain ⟨j, hj⟩ := List.mem_iff_getElem?.1 hx
    obtain ⟨y, -, -, h3⟩ := map_at he hj
    exact ⟨_, h3⟩
  have hrd : ∀ x ∈ es.toList, ∃ y, Go.WideElems.rd Try.prog 34 RPp x = some y := fun x hx => by
    obtain ⟨kl, hk⟩ := map_keys he m.wf x hx
    obtain ⟨p, hp⟩ := hvp x hx
    exact ⟨_, Go.WideElems.rd_mk (key := x.key) (val := x.val) hk (by rw [hp]; exact RPp_ptr p)⟩
  have F : Go.WideElems.Fit Try.prog 34 RPp es clock := ⟨by rw [hsz]; unfold maxLen; omega, hs, hrd⟩
  refine ⟨_, ⟨es, clock, hb, F, by omega, rfl⟩, ⟨?_, ?_, ?_⟩, ?_⟩
  · intro x hx kl hk
    have h1 : (clV x.1, ptr x.2) ∈ es.toList.map fun e => (e.key, e.val) := by rw [he]; exact List.mem_map.2 ⟨x, hx, rfl⟩
    obtain ⟨e, hm, h2⟩ := List.mem_map.1 h1
    injection h2 with h3 h4
    obtain ⟨y, hy⟩ := hrd e hm
    have hk2 := Go.WideElems.rd_key hy
    rw [h3, hk] at hk2
    refine List.any_eq_true.2 ⟨Go.WideElems.rg Try.prog 34 RPp e, mem_sorted.2 (List.mem_map.2 ⟨e, hm, rfl⟩), ?_⟩
    rw [Go.WideElems.rg_of hy, ← Option.some.inj hk2]
    exact WideAt.sameKey_self (clKeyed.key hk)
  · intro kl hh
    obtain ⟨p, hp, hpk⟩ := List.any_eq_true.1 hh
    obtain ⟨e, hm, rfl⟩ := List.mem_map.1 (mem_sorted.1 hp)
    obtain ⟨y, hy⟩ := hrd e hm
    have hk2 := Go.WideElems.rd_key hy
    rw [Go.WideElems.rg_of hy] at hpk
    have h5 := WideAt.sameKey_eq hpk
    obtain ⟨j, hj⟩ := List.mem_iff_getElem?.1 hm
    obtain ⟨x, hx, h6, -⟩ := map_at he hj
    exact ⟨x, List.mem_of_getElem? hx, by rw [← h6, hk2, h5]⟩
  · intro x hx kl hk zd
    have h1 : (clV x.1, ptr x.2) ∈ es.toList.map fun e => (e.key, e.val) := by rw [he]; exact List.mem_map.2 ⟨x, hx, rfl⟩
    obtain ⟨e, hm, h2⟩ := List.mem_map.1 h1
    injection h2 with h3 h4
    exact Go.WideElems.atKey_some clLaw F hk hm h3 (z := (.lit (.int .i64 x.2), [])) (by rw [h4]; exact RPp_ptr x.2) zd
  · simp [Maps.size, length_sorted, hsz]
/-- What has come so far, and what is left. -/
structure CollP (l : List (Cl × Nat)) (left : Lit → Bool) (ss : List (Cl × Nat)) : Prop where
  nd : (ss.map (·.1)).Nodup
  sub : ∀ x ∈ ss, x ∈ l
  lft : ∀ x ∈ l, ∀ kl, keyOf Try.prog 34 (clV x.1) = some kl → x ∉ ss → left kl = true
  key : ∀ kl, left kl = true → ∃ x ∈ l, keyOf Try.prog 34 (clV x.1) = some kl ∧ x ∉ ss
theorem CollP.start {l : List (Cl × Nat)} {D : DataW Unit} (h : KeysP D l) : CollP l (Maps.has D) [] :=
  ⟨List.nodup_nil, (fun c hc => by cases hc), (fun x hx kl hk _ => h.has x hx kl hk), (fun kl hk => by
    obtain ⟨x, hx, h2⟩ := h.key kl hk
    exact ⟨x, hx, h2, List.not_mem_nil⟩)⟩
theorem pair_of_key {l : List (Cl × Nat)} (nd : l.Pairwise (fun x y => x.1 ≠ y.1)) {x y : Cl × Nat} (hx : x ∈ l) (hy : y ∈ l) (h : x.1 = y.1) : x = y := by
  have h1 := atC_some nd hx
  have h2 := atC_some nd hy
  rw [h, h2] at h1
  exact Prod.ext h (Option.some.inj h1).symm
theorem CollP.step {l : List (Cl × Nat)} (nd : l.Pairwise (fun x y => x.1 ≠ y.1)) {D : DataW Unit} (hD : KeysP D l) {left : Lit → Bool} {ss : List (Cl × Nat)} (h : CollP l left ss) {v u : Value} {kl : Lit} {y : DataW Unit × List MemPlace} (hk : keyOf Try.prog 34 v = some kl) (hl : left kl = true) (hv : RPp u = some y) (hat : ∀ zd, D.atKey kl zd = y.1) :
    ∃ x, x ∈ l ∧ v = clV x.1 ∧ u = ptr x.2 ∧ CollP l (fun z => left z && !z.sameKey kl) (ss ++ [x]) := by
  obtain ⟨x, hx, h2, h3⟩ := h.key kl hl
  obtain ⟨p, rfl, rfl⟩ := RPp_inv hv
  have hp : p = x.2 := by
    have h5 : (DataW.lit (.int .i64 (p : Int)) : DataW Unit) = .lit (.int .i64 (x.2 : Int)) := (hat .nil).symm.trans (hD.at_ x hx kl h2 .nil)
    have h6 : (p : Int) = (x.2 : Int) := by simpa using h5
    omega
  subst hp
  refine ⟨x, hx, clKeyed.inj hk h2, rfl, ⟨?_, ?_, ?_, ?_⟩⟩
  · rw [List.map_append, List.nodup_append]
    exact ⟨h.nd, by simp, fun a ha b hb e => by
      obtain rfl : b = x.1 := by simpa using hb
      subst e
      obtain ⟨z, hz, h6⟩ := List.mem_map.1 ha
      exact h3 (pair_of_key nd (h.sub z hz) hx h6 ▸ hz)⟩
  · intro c hc
    rcases List.mem_append.1 hc with hc | hc
    · exact h.sub c hc
    · obtain rfl : c = x := by simpa using hc
      exact hx
  · intro y hy ky hky hn
    have hn1 : y ∉ ss := fun e => hn (List.mem_append.2 (.inl e))
    have hn2 : y.1 ≠ x.1 := fun e => hn (List.mem_append.2 (.inr (by simp [pair_of_key nd hy hx e])))
    have hs : ky.sameKey kl = false := by
      cases hs : ky.sameKey kl
      · rfl
      · have e1 := WideAt.sameKey_eq hs
        exact absurd (clV_inj (clKeyed.inj hky (e1 ▸ h2))) hn2
    rw [h.lft y hy ky hky hn1, hs]
    rfl
  · intro z hz
    rw [Bool.and_eq_true] at hz
    obtain ⟨y, hy, hky, hn⟩ := h.key z hz.1
    refine ⟨y, hy, hky, fun hm => ?_⟩
    rcases List.mem_append.1 hm with hm | hm
    · exact hn hm
    · have e1 : y = x := by simpa using hm
      rw [e1, h2] at hky
      have e2 := Option.some.inj hky
      rw [← e2, WideAt.sameKey_self (clKeyed.key h2)] at hz
      simp at hz
theorem CollP.perm {l : List (Cl × Nat)} {left : Lit → Bool} {ss : List (Cl × Nat)} (h : CollP l left ss) (wf : ∀ x ∈ l, Cl64 x.1) (nd : l.Pairwise (fun x y => x.1 ≠ y.1)) (h0 : ∀ kl, left kl = false) : ss.Perm l := by
  refine (List.perm_ext_iff_of_nodup (List.Pairwise.of_map _ (fun a b hab e => hab (by rw [e])) h.nd) (nd.imp (fun {a b} hab e => hab (by rw [e])))).2 fun x => ⟨fun hc => h.sub x hc, fun hx => ?_⟩
  obtain ⟨kl, hk⟩ := key_cl x.1 (wf x hx)
  cases Classical.em (x ∈ ss) with
  | inl hm => exact hm
  | inr hm =>
    have := h.lft x hx kl hk hm
    rw [h0 kl] at this
    cases this
theorem elCl : ElT 41 34 4 32 := elT_of (.agg #[.int .i64 0, .int .i64 0, .int .i64 0, .int .i64 0]) Try.underlying41 (by kernel_rfl) rfl (by decide) (by decide)
end Go.Proofs.Ytdbdpehagkglfaa
namespace Go.Proofs.Ytdbdpehagkglfaa
open Go Go.RowKit
/-- What a book's calls may change: maps, entries, books. -/
def soft (o : Obj) : Prop := (∃ es clock, o = .map es clock) ∨ ∃ cs T fr, o = .cells cs T fr ∧ (T = 80 ∨ T = 71)
theorem hard_cells {cs : Array Value} {T : TypeId} {fr : Nat × Nat} (h1 : T ≠ 80) (h2 : T ≠ 71) : ¬ soft (.cells cs T fr) := by
  rintro (⟨_, _, h⟩ | ⟨cs', T', fr', h, h3⟩)
  · cases h
  · injection h with _ h
    subst h
    rcases h3 with h3 | h3
    · exact h1 h3
    · exact h2 h3
/-- What stays while a book changes that is not older than B. -/
structure KB (B : Nat) (W W1 : World) : Prop where
  os : W1.os = W.os
  tape : W1.tape = W.tape
  output : W1.output = W.output
  size : W.heap.size ≤ W1.heap.size
  block : ∀ i o, W.heap[i]? = some o → (i < B ∨ ¬ soft o) → W1.heap[i]? = some o
theorem KB.refl (B : Nat) (W : World) : KB B W W := ⟨rfl, rfl, rfl, Nat.le_refl _, fun _ _ h _ => h⟩
theorem KB.trans {B : Nat} {W W1 W2 : World} (h : KB B W W1) (k : KB B W1 W2) : KB B W W2 :=
  ⟨k.os.trans h.os, k.tape.trans h.tape, k.output.trans h.output, Nat.le_trans h.size k.size, fun i o h0 h1 => k.block i o (h.block i o h0 h1) h1⟩
theorem KB.of {B : Nat} {W W1 : World} (h : Below W.heap.size W W1) : KB B W W1 :=
  ⟨h.os, h.tape, h.output, h.size, fun i o h0 _ => by rw [h.block i (Array.getElem?_eq_some_iff.1 h0).1]; exact h0⟩
theorem KB.by_ {B : Nat} {W W1 : World} {j : Nat} (h : W.grownBy W1 (some j)) (hj : B ≤ j) (hs : ∀ o, W.heap[j]? = some o → soft o) : KB B W W1 :=
  ⟨h.os, h.tape, h.output, h.size, fun i o h0 h1 => by
    rw [h.block i (Array.getElem?_eq_some_iff.1 h0).1 (fun e => ?_)]
    · exact h0
    · injection e with e
      subst e
      rcases h1 with h1 | h1
      · omega
      · exact h1 (hs o h0)⟩
theorem KB.below {B : Nat} {W W1 : World} (h : KB B W W1) (hB : B ≤ W.heap.size) : Below B W W1 :=
  ⟨h.os, h.tape, h.output, h.size, fun i hi => by
    have h1 := Array.getElem?_eq_getElem (show i < W.heap.size by omega)
    rw [h1]
    exact h.block i _ h1 (.inl hi)⟩
theorem OwnB.keepB {B base : Nat} {W W1 : World} {v : Value} {bs : List UInt8} (h : OwnB W base v bs) (k : KB B W W1) : OwnB W1 base v bs := by
  obtain ⟨h1, h2⟩ := h
  refine ⟨h1, ?_⟩
  rcases h2 with h0 | ⟨g, cap, cur, hv', hb', hg, hr'⟩
  · exact .inl h0
  · exact .inr ⟨g, cap, cur, hv', hb', k.block g _ hg (.inr (hard_cells (by decide) (by decide))), hr'⟩
theorem KeyO.keepB {B base : Nat} {W W1 : World} {v : Value} {bs : List UInt8} (h : KeyO W base v bs) (k : KB B W W1) : KeyO W1 base v bs := by
  obtain ⟨p, s, hv, hp, hr, ho⟩ := h
  exact ⟨p, s, hv, hp, k.block p _ hr (.inr (hard_cells (by decide) (by decide))), ho.keepB k⟩
theorem OwnG.keepB {α : Type} {T : TypeId} {n : Nat} {enc : α → List Value} {B base : Nat} {W W1 : World} {v : Value} {l : List α} (h : OwnG T n enc W base v l) (k : KB B W W1) (h1 : T ≠ 80) (h2 : T ≠ 71) : OwnG T n enc W1 base v l :=
  h.kept fun g _ _ _ h0 => k.block g _ h0 (.inr (hard_cells h1 h2))
theorem OwnN.keepB {T : TypeId} {B base : Nat} {W W1 : World} {v : Value} {l : List Nn} (h : OwnN T W base v l) (k : KB B W W1) (h1 : T ≠ 80) (h2 : T ≠ 71) : OwnN T W1 base v l :=
  h.kept fun g _ _ _ h0 => k.block g _ h0 (.inr (hard_cells h1 h2))
/-- An entry: whose it is, where it lies, its window, its key, when it was asked for. -/
structure En where
  c : Cl
  p : Nat
  s : Ws
  k : Option (List UInt8)
  a : Int
/-- The key of an entry. -/
def KeyAt (B : Nat) (W : World) (k : Option (List UInt8)) (kv : Value) : Prop := (k = none ∧ kv = .pointer none) ∨ ∃ bs, k = some bs ∧ KeyO W B kv bs ∧ bs.length ≤ 1000
theorem KeyAt.later {B : Nat} {W W1 : World} {k : Option (List UInt8)} {kv : Value} (h : KeyAt B W k kv) (hb : Below W.heap.size W W1) : KeyAt B W1 k kv := by
  rcases h with h | ⟨bs, h1, h2, h3⟩
  · exact .inl h
  · exact .inr ⟨bs, h1, h2.later hb, h3⟩
theorem KeyAt.keepB {B B' : Nat} {W W1 : World} {k : Option (List UInt8)} {kv : Value} (h : KeyAt B W k kv) (kb : KB B' W W1) : KeyAt B W1 k kv := by
  rcases h with h | ⟨bs, h1, h2, h3⟩
  · exact .inl h
  · exact .inr ⟨bs, h1, h2.keepB kb, h3⟩
/-- An entry in its block. -/
structure EntAt (B : Nat) (W : World) (e : En) : Prop where
  row : ∃ kv, WinE [kv, .int .i64 e.a] 80 W e.p e.s ∧ KeyAt B W e.k kv
  ok : e.s.ok
  old : B ≤ e.p
  fit : Cl64 e.c
  asked : 0 ≤ e.a ∧ e.a ≤ 1073741824
theorem EntAt.later {B : Nat} {W W1 : World} {e : En} (h : EntAt B W e) (hb : Below W.heap.size W W1) : EntAt B W1 e := by
  obtain ⟨⟨kv, h1, h2⟩, h3, h4, h5, h6⟩ := h
  exact ⟨⟨kv, h1.later hb, h2.later hb⟩, h3, h4, h5, h6⟩
theorem EntAt.lt {B : Nat} {W : World} {e : En} (h : EntAt B W e) : e.p < W.heap.size := by
  obtain ⟨⟨kv, h1, h2⟩, _⟩ := h
  exact h1.lt
/-- It stays where its own block stays, and the keys do. -/
theorem EntAt.keepB {B B' : Nat} {W W1 : World} {e : En} (h : EntAt B W e) (k : KB B' W W1) (hb : W1.heap[e.p]? = W.heap[e.p]?) : EntAt B W1 e := by
  obtain ⟨⟨kv, h1, h2⟩, h3, h4, h5, h6⟩ := h
  exact ⟨⟨kv, hb.trans h1, h2.keepB k⟩, h3, h4, h5, h6⟩
/-- Whose entries lie where. -/
def prsE (l : List En) : List (Cl × Nat) := l.map fun e => (e.c, e.p)
/-- A book's map, nil or not. -/
def MapB (B : Nat) (W : World) (mb : Option Nat) (ml : List (Cl × Nat)) : Prop := (mb = none ∧ ml = []) ∨ ∃ M, mb = some M ∧ B ≤ M ∧ MapL W M ml
theorem MapL.lt {W : World} {M : Nat} {l : List (Cl × Nat)} (m : MapL W M l) : M < W.heap.size := by obtain ⟨es, clock, hb, -, -⟩ := m.st; exact (Array.getElem?_eq_some_iff.1 hb).1
theorem MapL.soft {W : World} {M : Nat} {l : List (Cl × Nat)} (m : MapL W M l) : ∀ o, W.heap[M]? = some o → soft o := fun o h => by
  obtain ⟨es, clock, hb, -, -⟩ := m.st
  rw [hb] at h
  injection h with h
  subst h
  exact .inl ⟨_, _, rfl⟩
theorem MapB.later {B : Nat} {W W1 : World} {mb : Option Nat} {ml : List (Cl × Nat)} (h : MapB B W mb ml) (hb : Below W.heap.size W W1) : MapB B W1 mb ml := by
  rcases h with h | ⟨M, h1, h2, h3⟩
  · exact .inl h
  · exact .inr ⟨M, h1, h2, h3.later (hb.block M h3.lt)⟩
/-- A book, with its entries. -/
structure BookAt (B Q : Nat) (l : List En) (W : World) : Prop where
  row : ∃ mb ml, W.heap[Q]? = some (.cells #[.map mb] 71 (0, 0)) ∧ MapB B W mb ml ∧ ml.Perm (prsE l)
  ent : ∀ e ∈ l, EntAt B W e
  dist : l.Pairwise (fun x y => x.p ≠ y.p)
  keys : l.Pairwise (fun x y => x.c ≠ y.c)
  qB : B ≤ Q
theorem BookAt.lt {B Q : Nat} {l : List En} {W : World} (h : BookAt B Q l W) : Q < W.heap.size := by
  obtain ⟨mb, ml, h1, -⟩ := h.row
  exact (Array.getElem?_eq_some_iff.1 h1).1
theorem BookAt.later {B Q : Nat} {l : List En} {W W1 : World} (h : BookAt B Q l W) (hb : Below W.heap.size W W1) : BookAt B Q l W1 := by
  obtain ⟨mb, ml, h1, h2, h3⟩ := h.row
  exact ⟨⟨mb, ml, (hb.block Q (Array.getElem?_eq_some_iff.1 h1).1).trans h1, h2.later hb, h3⟩, fun e he => (h.ent e he).later hb, h.dist, h.keys, h.qB⟩
theorem BookAt.perm {B Q : Nat} {l l' : List En} {W : World} (h : BookAt B Q l W) (hp : l.Perm l') : BookAt B Q l' W := by
  obtain ⟨mb, ml, h1, h2, h3⟩ := h.row
  exact ⟨⟨mb, ml, h1, h2, h3.trans (hp.map _)⟩, fun e he => h.ent e (hp.mem_iff.2 he), (hp.pairwise_iff (fun {a b} hab => Ne.symm hab)).1 h.dist, (hp.pairwise_iff (fun {a b} hab => Ne.symm hab)).1 h.keys, h.qB⟩
theorem MapB.nd {B : Nat} {W : World} {mb : Option Nat} {ml : List (Cl × Nat)} (h : MapB B W mb ml) : ml.Pairwise (fun x y => x.1 ≠ y.1) := by
  rcases h with ⟨_, rfl⟩ | ⟨M, _, _, h3⟩
  · exact List.Pairwise.nil
  · exact h3.nd
theorem MapB.look {B : Nat} {W : World} {mb : Option Nat} {ml : List (Cl × Nat)} (h : MapB B W mb ml) (c : Cl) (hc : Cl64 c) : (Instr.lookup 69 (.map mb) (clV c) false).run Try.prog W = .ok (ptrO (atC ml c)) W := by
  have hz : ∀ W : World, (zeroValue 75).run Try.prog W = .ok (.pointer none) W := fun W => by kernel_rfl
  rcases h with ⟨rfl, rfl⟩ | ⟨M, rfl, _, h3⟩
  · have := look_nilG _ _ Try.underlying69 hz c hc false W
    simpa [atC, ptrO] using this
  · have := h3.lookG _ _ Try.underlying69 hz c hc false
    simpa using this
theorem MapB.len {B : Nat} {W : World} {mb : Option Nat} {ml : List (Cl × Nat)} (h : MapB B W mb ml) (ty : TypeId) : (Builtin.len_ #[69] ty #[.map mb]).run Try.prog W = .ok (.int .i64 (ml.length : Int)) W := by
  rcases h with ⟨rfl, rfl⟩ | ⟨M, rfl, _, h3⟩
  · kernel_rfl
  · exact h3.lenG _ _ Try.underlying69 ty
theorem atC_of_mem {ml : List (Cl × Nat)} {l : List En} (nd : ml.Pairwise (fun x y => x.1 ≠ y.1)) (hp : ml.Perm (prsE l)) {e : En} (he : e ∈ l) : atC ml e.c = some e.p := atC_some nd (x := (e.c, e.p)) (hp.mem_iff.2 (List.mem_map.2 ⟨e, he, rfl⟩))
theorem atC_of_out {ml : List (Cl × Nat)} {l : List En} (hp : ml.Perm (prsE l)) {c : Cl} (hn : ∀ e ∈ l, e.c ≠ c) : atC ml c = none := atC_none fun x hx => by
  obtain ⟨e, he, rfl⟩ := List.mem_map.1 (hp.mem_iff.1 hx)
  exact hn e he
/-- Where the entry of these claims lies. -/
def posE (l : List En) (c : Cl) : Option Nat := (l.find? fun e => decide (e.c = c)).map (·.p)
theorem posE_in {l : List En} (hk : l.Pairwise (fun x y => x.c ≠ y.c)) {e : En} (he : e ∈ l) : posE l e.c = some e.p := by
  induction l with
  | nil => cases he
  | cons y l ih =>
    obtain ⟨h1, h2⟩ := List.pairwise_cons.1 hk
    unfold posE
    rw [List.find?_cons]
    rcases List.mem_cons.1 he with rfl | he
    · simp
    · rw [show decide (y.c = e.c) = false from decide_eq_false (h1 e he)]
      exact ih h2 he
theorem posE_out {l : List En} {c : Cl} (hn : ∀ e ∈ l, e.c ≠ c) : posE l c = none := by
  unfold posE
  rw [List.find?_eq_none.2 (fun x hx => by simpa using hn x hx)]
  rfl
/-- What a look-up in the book's map hands back. -/
theorem BookAt.look {B Q : Nat} {l : List En} {W : World} (h : BookAt B Q l W) (c : Cl) (hc : Cl64 c) : ∃ mb, W.cell? ⟨Q, 0, none⟩ = some (.map mb) ∧ (Instr.lookup 69 (.map mb) (clV c) false).run Try.prog W = .ok (ptrO (posE l c)) W ∧ ∀ ty, (Builtin.len_ #[69] ty #[.map mb]).run Try.prog W = .ok (.int .i64 (l.length : Int)) W := by
  obtain ⟨mb, ml, h1, h2, h3⟩ := h.row
  refine ⟨mb, by rw [cell_of_row _ _ _ _ _ _ h1]; rfl, ?_, fun ty => ?_⟩
  · have := h2.look c hc
    by_cases hin : ∃ e ∈ l, e.c = c
    · obtain ⟨e, he, rfl⟩ := hin
      rw [posE_in h.keys he]
      rw [atC_of_mem h2.nd h3 he] at this
      exact this
    · have hn : ∀ e ∈ l, e.c ≠ c := fun e he hc => hin ⟨e, he, hc⟩
      rw [posE_out hn]
      rw [atC_of_out h3 hn] at this
      exact this
  · have := h2.len ty
    rw [h3.length_eq] at this
    simpa [prsE] using this
/-- The same in every later world. -/
theorem BookAt.looks {B Q : Nat} {l : List En} {w : World} (h : BookAt B Q l w) (c : Cl) (hc : Cl64 c) : ∃ mb, ∀ W, Below w.heap.size w W → W.cell? ⟨Q, 0, none⟩ = some (.map mb) ∧ (Instr.lookup 69 (.map mb) (clV c) false).run Try.prog W = .ok (ptrO (posE l c)) W ∧ ∀ ty, (Builtin.len_ #[69] ty #[.map mb]).run Try.prog W = .ok (.int .i64 (l.length : Int)) W := by
  obtain ⟨mb, hm, -⟩ := h.look c hc
  refine ⟨mb, fun W hb => ?_⟩
  obtain ⟨mb2, h1, h2, h3⟩ := (h.later hb).look c hc
  have h4 : W.cell? ⟨Q, 0, none⟩ = some (.map mb) := (hb.cell (p := ⟨Q, 0, none⟩) h.lt).trans hm
  rw [h4] at h1
  injection h1 with h1
  injection h1 with h1
  subst h1
  exact ⟨h4, h2, h3⟩
end Go.Proofs.Ytdbdpehagkglfaa
