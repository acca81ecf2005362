/-
  A window's Look.
-/
import Derived.Test.YtoohcjdjmafliaaW3
namespace Go.Proofs.Ytoohcjdjmafliaa
open Go Go.RowKit
/-- May a nonce be taken? -/
def lookW (s : Ws) (n : Nn) : Int := if okN n = false then 10 else if forgW s n = true then 9 else if s.t &&& bitW s n = 0#64 then 0 else 8
/-- A window behind a Take. -/
def takeW (s : Ws) (n : Nn) : Ws := if lookW s n = 0 then ⟨(if lessN s.n n = true then riseW s n else s).n, (if lessN s.n n = true then riseW s n else s).t ||| bitW (if lessN s.n n = true then riseW s n else s) n⟩ else s
theorem forgW_false {s : Ws} {n : Nn} (h : forgW s n = false) (hb : n.b = s.n.b) : s.n.c - n.c < 64 := by
  unfold forgW at h
  have := of_decide_eq_false h
  omega
theorem takeW_ok {s : Ws} {n : Nn} (h : s.ok) : (takeW s n).ok := by
  unfold takeW
  split
  · rename_i h0
    have hok : okN n = true := by
      unfold lookW at h0
      split at h0
      · omega
      · rename_i h1; simpa using h1
    obtain ⟨h1, h2, h3, h4⟩ := (okN_iff n).1 hok
    split
    · exact ⟨by show 0 ≤ n.b; omega, h2, by show 0 ≤ n.c; omega, h4⟩
    · exact h
  · exact h
theorem zero_ok : Ws.zero.ok := by unfold Ws.zero Ws.ok Nn.zero; simp
set_option maxRecDepth 100000 in
set_option maxHeartbeats 4000000 in
theorem look_any (q : Nat) (s : Ws) (n : Nn) (w : World) (h : WinB w q s) (hs : s.ok) : Calls Try.prog 10 #[.pointer (some ⟨q, 0, none⟩), nv n] w fun e w' => e = .returned (.int .i64 (lookW s n)) ∧ Below w.heap.size w w' := by
  have R1 : Bx (WinB (w.alloc (.cells #[.int .i64 n.b, .int .i64 n.c] 24)) q s ∧ BoxN 24 w.heap.size n (w.alloc (.cells #[.int .i64 n.b, .int .i64 n.c] 24)) ∧ Below w.heap.size w (w.alloc (.cells #[.int .i64 n.b, .int .i64 n.c] 24))) := Bx.mk ⟨h.later (below_a _), hnew _ _ _ rfl, below_a _⟩
  have HCh := Bx.mk fun (W : World) => check_any n W
  have HFo := Bx.mk fun (hn : okN n = true) (W : World) (h : WinB W q s) => forgot_any q s n W h hs hn
  have HBit := Bx.mk fun (hn : okN n = true) (hf : forgW s n = false) (W : World) (h : WinB W q s) => bit_any12 q s n W h hs hn (fun e => forgW_false hf e)
  clear h hs
  unfold lookW
  cases hok : okN n with
  | false =>
    rw [hok] at HCh
    obtain ⟨b, c⟩ := n
    unfold nv at HCh ⊢
    clear HFo HBit hok
    rw [if_pos rfl]
    go_enter Try.func10, Try.ntmps10
    go_wp2_with fail
    refine (HCh.out _).mono ?_
    rintro e w2 ⟨rfl, hb⟩
    have R2 := Bx.mk (R1.out.2.2.trans (hb.mono R1.out.2.2.size))
    clear hb R1 HCh
    go_wp2
    go_ret
    exact ⟨rfl, R2.out⟩
  | true =>
    rw [hok] at HCh
    have HFo := Bx.mk (HFo.out hok)
    have HBit := Bx.mk (HBit.out hok)
    clear hok
    rw [if_neg (by simp)]
    cases hf : forgW s n with
    | true =>
      rw [hf] at HFo
      clear hf HBit
      rw [if_pos rfl]
      obtain ⟨b, c⟩ := n
      unfold nv at HCh HFo ⊢
      go_enter Try.func10, Try.ntmps10
      go_wp2_with fail
      refine (HCh.out _).mono ?_
      rintro e w2 ⟨rfl, hb⟩
      have R2 := Bx.mk (And.intro (R1.out.1.later hb) (And.intro (R1.out.2.1.later hb) (R1.out.2.2.trans (hb.mono R1.out.2.2.size))))
      clear hb R1 HCh
      obtain ⟨x0, x1⟩ := R2.out.2.1.cells
      go_wp2_with fail
      refine (HFo.out _ R2.out.1).mono ?_
      rintro e w3 ⟨rfl, hb⟩
      have R3 := Bx.mk (R2.out.2.2.trans (hb.mono R2.out.2.2.size))
      clear hb R2 HFo x0 x1
      go_wp2
      go_ret
      exact ⟨rfl, R3.out⟩
    | false =>
      rw [hf] at HFo
      have HBit := Bx.mk (HBit.out hf)
      clear hf
      rw [if_neg (by simp)]
      have HV := Bx.mk (tv_eq (s.t &&& bitW s n))
      have HAnd := tv_and s.t (bitW s n)
      generalize bitW s n = z at *
      obtain ⟨b, c⟩ := n
      obtain ⟨⟨B, C⟩, T⟩ := s
      unfold nv at HCh HFo HBit ⊢
      simp only at HAnd HV ⊢
      obtain ⟨X, hX⟩ : ∃ X, w.heap.size = X := ⟨_, rfl⟩
      rw [hX] at R1 ⊢
      generalize T &&& z = y at *
      by_cases hy : y = 0#64
      · rw [if_pos hy]
        have h0 : tv y = 0 := HV.out.2 hy
        rw [h0] at HAnd
        clear hy h0 HV
        go_enter Try.func10, Try.ntmps10
        go_wp2_with fail
        refine (HCh.out _).mono ?_
        rintro e w2 ⟨rfl, hb⟩
        have R2 := Bx.mk (And.intro (R1.out.1.later hb) (And.intro (R1.out.2.1.later hb) (R1.out.2.2.trans (hb.mono (hX ▸ R1.out.2.2.size)))))
        clear hb R1 HCh
        obtain ⟨x0, x1⟩ := R2.out.2.1.cells
        go_wp2_with fail
        refine (HFo.out _ R2.out.1).mono ?_
        rintro e w3 ⟨rfl, hb⟩
        have R3 := Bx.mk (And.intro (R2.out.1.later hb) (And.intro (R2.out.2.1.later hb) (R2.out.2.2.trans (hb.mono (hX ▸ R2.out.2.2.size)))))
        clear hb R2 HFo x0 x1
        go_upto_region 8 with fail
        skip -- M1
        refine wp_region_noPanic ?_
        refine wp_region_held_drew (S := fun W => W.cell? ⟨q, 2, none⟩ = some (.int .u64 (tv T)) ∧ W.rangeAt X 0 [.int .i64 b, .int .i64 c]) (by kernel_rfl) (⟨(R3.out.1.later (Below.refl _ _).drew).cells.2.2, (R3.out.2.1.later (Below.refl _ _).drew).range⟩) (fun hHeld => ?_)
        have R0 : Bx (WinB w3.drew q ⟨⟨B, C⟩, T⟩ ∧ BoxN 24 X ⟨b, c⟩ w3.drew ∧ Below X w w3.drew) := Bx.mk ⟨R3.out.1.later (Below.refl _ _).drew, R3.out.2.1.later (Below.refl _ _).drew, R3.out.2.2.drew⟩
        generalize w3.drew = W0 at *
        clear R3
        refine takeL 0 (v := ?_) rfl (by kernel_rfl) (by kernel_rfl) (by kernel_rfl) (fun _ _ _ h => h) (Or.inl ⟨by rfl, ?_⟩) hHeld ?_
        rotate_left 1
        · (intro w hSw; go_simp; try with_reducible rfl)
        try simp only [Act.put, List.setIfInBounds_toArray, List.set_cons_zero, List.set_cons_succ]
        refine takeL 1 (v := ?_) rfl (by kernel_rfl) (by kernel_rfl) (by kernel_rfl) (fun _ _ _ h => h) (Or.inl ⟨by rfl, ?_⟩) hHeld ?_
        rotate_left 1
        · (intro w hSw; go_simp; try with_reducible rfl)
        try simp only [Act.put, List.setIfInBounds_toArray, List.set_cons_zero, List.set_cons_succ]
        refine takeL 2 (v := ?_) rfl (by kernel_rfl) (by kernel_rfl) (by kernel_rfl) (fun _ _ _ h => h) (Or.inl ⟨by rfl, ?_⟩) hHeld ?_
        rotate_left 1
        · (intro w hSw; go_simp; try with_reducible rfl)
        try simp only [Act.put, List.setIfInBounds_toArray, List.set_cons_zero, List.set_cons_succ]
        refine takeL 3 (v := ?_) rfl (by kernel_rfl) (by kernel_rfl) (by kernel_rfl) (fun _ _ _ h => h) (Or.inl ⟨by rfl, ?_⟩) hHeld ?_
        rotate_left 1
        · (intro w hSw; obtain ⟨q1, q2⟩ := hSw; clear q2; go_simp; try with_reducible rfl)
        try simp only [Act.put, List.setIfInBounds_toArray, List.set_cons_zero, List.set_cons_succ]
        refine takeL 4 (v := ?_) rfl (by kernel_rfl) (by kernel_rfl) (by kernel_rfl) (fun _ _ _ h => h) (Or.inl ⟨by rfl, ?_⟩) hHeld ?_
        rotate_left 1
        · (intro w hSw; go_simp; try with_reducible rfl)
        try simp only [Act.put, List.setIfInBounds_toArray, List.set_cons_zero, List.set_cons_succ]
        refine takeL 5 rfl (by kernel_rfl) (by kernel_rfl) (by kernel_rfl) (fun _ _ _ h => h) (yieldsIf_load_mid (by rfl) _ _ rfl _ _ rfl _ _ (fun w hSw => hSw.2) Try.underlying24 rfl (by kernel_rfl)) hHeld ?_
        try simp only [Act.put, List.setIfInBounds_toArray, List.set_cons_zero, List.set_cons_succ]
        refine stepL 6 (by kernel_rfl) rfl (fun K hK => ?_)
        go_simp
        refine (HBit.out W0 R0.out.1).mono ?_
        rintro e W1 ⟨rfl, hb⟩
        show K _ _
        have R1 : Bx (WinB W1 q ⟨⟨B, C⟩, T⟩ ∧ BoxN 24 X ⟨b, c⟩ W1 ∧ Below X w W1) := Bx.mk ⟨R0.out.1.later hb, R0.out.2.1.later hb, R0.out.2.2.trans (hb.mono (hX ▸ R0.out.2.2.size))⟩
        clear hb R0
        refine hK.out _ _ (⟨R1.out.1.cells.2.2, R1.out.2.1.range⟩) (fun hHeld => ?_)
        clear hK K
        try simp only [Act.put, List.setIfInBounds_toArray, List.set_cons_zero, List.set_cons_succ]
        refine takeL 7 (v := ?_) rfl (by kernel_rfl) (by kernel_rfl) (by kernel_rfl) (fun _ _ _ h => h) (Or.inl ⟨by rfl, ?_⟩) hHeld ?_
        rotate_left 1
        · (intro w hSw; go_simp; try with_reducible rfl)
        try simp only [Act.put, List.setIfInBounds_toArray, List.set_cons_zero, List.set_cons_succ]
        refine takeL 8 (v := ?_) rfl (by kernel_rfl) (by kernel_rfl) (by kernel_rfl) (fun _ _ _ h => h) (Or.inl ⟨by rfl, ?_⟩) hHeld ?_
        rotate_left 1
        · (intro w hSw; go_simp; try with_reducible rfl)
        try simp only [Act.put, List.setIfInBounds_toArray, List.set_cons_zero, List.set_cons_succ]
        refine takeL 9 (v := ?_) rfl (by kernel_rfl) (by kernel_rfl) (by kernel_rfl) (fun _ _ _ h => h) (Or.inl ⟨by rfl, ?_⟩) hHeld ?_
        rotate_left 1
        · (intro w hSw; go_simp; try with_reducible rfl)
        try simp only [Act.put, List.setIfInBounds_toArray, List.set_cons_zero, List.set_cons_succ]
        refine wpAnyH_done (by kernel_rfl) ?_ _
        refine NoPanic.normal ?_
        clear hHeld
        go_wp2
        go_ret
        exact ⟨rfl, R1.out.2.2⟩
      · rw [if_neg hy]
        have h0 : ¬ tv y = 0 := fun h => hy (HV.out.1 h)
        clear hy HV
        go_enter Try.func10, Try.ntmps10
        go_wp2_with fail
        refine (HCh.out _).mono ?_
        rintro e w2 ⟨rfl, hb⟩
        have R2 := Bx.mk (And.intro (R1.out.1.later hb) (And.intro (R1.out.2.1.later hb) (R1.out.2.2.trans (hb.mono (hX ▸ R1.out.2.2.size)))))
        clear hb R1 HCh
        obtain ⟨x0, x1⟩ := R2.out.2.1.cells
        go_wp2_with fail
        refine (HFo.out _ R2.out.1).mono ?_
        rintro e w3 ⟨rfl, hb⟩
        have R3 := Bx.mk (And.intro (R2.out.1.later hb) (And.intro (R2.out.2.1.later hb) (R2.out.2.2.trans (hb.mono (hX ▸ R2.out.2.2.size)))))
        clear hb R2 HFo x0 x1
        go_upto_region 8 with fail
        refine wp_region_noPanic ?_
        refine wp_region_held_drew (S := fun W => W.cell? ⟨q, 2, none⟩ = some (.int .u64 (tv T)) ∧ W.rangeAt X 0 [.int .i64 b, .int .i64 c]) (by kernel_rfl) (⟨(R3.out.1.later (Below.refl _ _).drew).cells.2.2, (R3.out.2.1.later (Below.refl _ _).drew).range⟩) (fun hHeld => ?_)
        have R0 : Bx (WinB w3.drew q ⟨⟨B, C⟩, T⟩ ∧ BoxN 24 X ⟨b, c⟩ w3.drew ∧ Below X w w3.drew) := Bx.mk ⟨R3.out.1.later (Below.refl _ _).drew, R3.out.2.1.later (Below.refl _ _).drew, R3.out.2.2.drew⟩
        generalize w3.drew = W0 at *
        clear R3
        refine takeL 0 (v := ?_) rfl (by kernel_rfl) (by kernel_rfl) (by kernel_rfl) (fun _ _ _ h => h) (Or.inl ⟨by rfl, ?_⟩) hHeld ?_
        rotate_left 1
        · (intro w hSw; go_simp; try with_reducible rfl)
        try simp only [Act.put, List.setIfInBounds_toArray, List.set_cons_zero, List.set_cons_succ]
        refine takeL 1 (v := ?_) rfl (by kernel_rfl) (by kernel_rfl) (by kernel_rfl) (fun _ _ _ h => h) (Or.inl ⟨by rfl, ?_⟩) hHeld ?_
        rotate_left 1
        · (intro w hSw; go_simp; try with_reducible rfl)
        try simp only [Act.put, List.setIfInBounds_toArray, List.set_cons_zero, List.set_cons_succ]
        refine takeL 2 (v := ?_) rfl (by kernel_rfl) (by kernel_rfl) (by kernel_rfl) (fun _ _ _ h => h) (Or.inl ⟨by rfl, ?_⟩) hHeld ?_
        rotate_left 1
        · (intro w hSw; go_simp; try with_reducible rfl)
        try simp only [Act.put, List.setIfInBounds_toArray, List.set_cons_zero, List.set_cons_succ]
        refine takeL 3 (v := ?_) rfl (by kernel_rfl) (by kernel_rfl) (by kernel_rfl) (fun _ _ _ h => h) (Or.inl ⟨by rfl, ?_⟩) hHeld ?_
        rotate_left 1
        · (intro w hSw; obtain ⟨q1, q2⟩ := hSw; clear q2; go_simp; try with_reducible rfl)
        try simp only [Act.put, List.setIfInBounds_toArray, List.set_cons_zero, List.set_cons_succ]
        refine takeL 4 (v := ?_) rfl (by kernel_rfl) (by kernel_rfl) (by kernel_rfl) (fun _ _ _ h => h) (Or.inl ⟨by rfl, ?_⟩) hHeld ?_
        rotate_left 1
        · (intro w hSw; go_simp; try with_reducible rfl)
        try simp only [Act.put, List.setIfInBounds_toArray, List.set_cons_zero, List.set_cons_succ]
        refine takeL 5 rfl (by kernel_rfl) (by kernel_rfl) (by kernel_rfl) (fun _ _ _ h => h) (yieldsIf_load_mid (by rfl) _ _ rfl _ _ rfl _ _ (fun w hSw => hSw.2) Try.underlying24 rfl (by kernel_rfl)) hHeld ?_
        try simp only [Act.put, List.setIfInBounds_toArray, List.set_cons_zero, List.set_cons_succ]
        refine stepL 6 (by kernel_rfl) rfl (fun K hK => ?_)
        go_simp
        refine (HBit.out W0 R0.out.1).mono ?_
        rintro e W1 ⟨rfl, hb⟩
        show K _ _
        have R1 : Bx (WinB W1 q ⟨⟨B, C⟩, T⟩ ∧ BoxN 24 X ⟨b, c⟩ W1 ∧ Below X w W1) := Bx.mk ⟨R0.out.1.later hb, R0.out.2.1.later hb, R0.out.2.2.trans (hb.mono (hX ▸ R0.out.2.2.size))⟩
        clear hb R0
        refine hK.out _ _ (⟨R1.out.1.cells.2.2, R1.out.2.1.range⟩) (fun hHeld => ?_)
        clear hK K
        try simp only [Act.put, List.setIfInBounds_toArray, List.set_cons_zero, List.set_cons_succ]
        refine takeL 7 (v := ?_) rfl (by kernel_rfl) (by kernel_rfl) (by kernel_rfl) (fun _ _ _ h => h) (Or.inl ⟨by rfl, ?_⟩) hHeld ?_
        rotate_left 1
        · (intro w hSw; go_simp; try with_reducible rfl)
        try simp only [Act.put, List.setIfInBounds_toArray, List.set_cons_zero, List.set_cons_succ]
        refine takeL 8 (v := ?_) rfl (by kernel_rfl) (by kernel_rfl) (by kernel_rfl) (fun _ _ _ h => h) (Or.inl ⟨by rfl, ?_⟩) hHeld ?_
        rotate_left 1
        · (intro w hSw; go_simp; try with_reducible rfl)
        try simp only [Act.put, List.setIfInBounds_toArray, List.set_cons_zero, List.set_cons_succ]
        refine takeL 9 (v := ?_) rfl (by kernel_rfl) (by kernel_rfl) (by kernel_rfl) (fun _ _ _ h => h) (Or.inl ⟨by rfl, ?_⟩) hHeld ?_
        rotate_left 1
        · (intro w hSw; go_simp; try with_reducible rfl)
        try simp only [Act.put, List.setIfInBounds_toArray, List.set_cons_zero, List.set_cons_succ]
        refine wpAnyH_done (by kernel_rfl) ?_ _
        refine NoPanic.normal ?_
        clear hHeld
        go_wp2
        go_ret
        exact ⟨rfl, R1.out.2.2⟩
end Go.Proofs.Ytoohcjdjmafliaa
namespace Go.Proofs.Ytoohcjdjmafliaa
open Go Go.RowKit
theorem take_err (q : Nat) (s : Ws) (n : Nn) (w : World) (h : WinB w q s) (hs : s.ok) (he : lookW s n ≠ 0) : Calls Try.prog 12 #[.pointer (some ⟨q, 0, none⟩), nv n] w fun e w' => e = .returned (.int .i64 (lookW s n)) ∧ Below w.heap.size w w' := by
  have HBl : Bx (Below w.heap.size w (w.alloc (.cells #[.int .i64 n.b, .int .i64 n.c] 24))) := Bx.mk (below_a _)
  have HL := Bx.mk (look_any q s n _ (h.later (below_a (.cells #[.int .i64 n.b, .int .i64 n.c] 24))) hs)
  generalize lookW s n = z at *
  obtain ⟨b, c⟩ := n
  unfold nv at HL ⊢
  clear h hs
  go_enter Try.func12, Try.ntmps12
  go_wp2_with fail
  refine HL.out.mono ?_
  rintro e w1 ⟨rfl, hb⟩
  have HB1 := Bx.mk (HBl.out.trans (hb.mono HBl.out.size))
  clear hb HBl HL
  go_wp2
  go_ret
  exact ⟨rfl, HB1.out⟩
theorem rise_any (q : Nat) (s : Ws) (n : Nn) (w : World) (h : WinB w q s) (hs : s.ok) (hn : okN n = true) (hl : lessN s.n n = true) : Calls Try.prog 33 #[.pointer (some ⟨q, 0, none⟩), nv n] w fun e w' => e = .returned (.tuple #[]) ∧ WinB w' q (riseW s n) ∧ w.grownBy w' (some q) := by
  unfold lessN at hl
  have hl := of_decide_eq_true hl
  by_cases hb : n.b = s.n.b
  · exact rise_same q s n w h hs hn hb (by omega)
  · exact rise_other q s n w h hs hn hb
set_option maxRecDepth 100000 in
set_option maxHeartbeats 4000000 in
theorem take_up (q : Nat) (s r : Ws) (n : Nn) (w : World) (h : WinB w q s) (hs : s.ok) (h0 : lookW s n = 0) (hok : okN n = true) (hl : lessN s.n n = true) (hr : r = riseW s n) (hro : r.ok) (hrb : n.b = r.n.b → r.n.c - n.c < 64) :
    Calls Try.prog 12 #[.pointer (some ⟨q, 0, none⟩), nv n] w fun e w' => e = .returned (.int .i64 0) ∧ WinB w' q ⟨r.n, r.t ||| bitW r n⟩ ∧ w.grownBy w' (some q) := by
  obtain ⟨X, hX⟩ : ∃ X, w.heap.size = X := ⟨_, rfl⟩
  have hXq : X ≠ q := by have := h.lt; omega
  have R1 : Bx (WinB (w.alloc (.cells #[.int .i64 n.b, .int .i64 n.c] 24)) q s ∧ BoxN 24 X n (w.alloc (.cells #[.int .i64 n.b, .int .i64 n.c] 24)) ∧ w.grownBy (w.alloc (.cells #[.int .i64 n.b, .int .i64 n.c] 24)) (some q)) := Bx.mk ⟨h.later (below_a _), hnew _ _ _ hX.symm, kb_below _ (below_a _)⟩
  have HL := Bx.mk (look_any q s n _ R1.out.1 hs)
  rw [h0] at HL
  have HLe := Bx.mk fun (W : World) => wless_any s.n n W
  rw [hl] at HLe
  have HBi := Bx.mk fun (W : World) (h : WinB W q r) => bit_any12 q r n W h hro hok hrb
  have HRi := Bx.mk fun (W : World) (h : WinB W q s) => rise_any q s n W h hs hok hl
  rw [← hr] at HRi
  have HOr := tv_or r.t (bitW r n)
  clear h hs h0 hok hl hr hro hrb
  generalize r.t ||| bitW r n = y at *
  generalize bitW r n = z at *
  obtain ⟨b, c⟩ := n
  obtain ⟨⟨B, C⟩, T⟩ := s
  unfold nv at HL HLe HBi HRi ⊢
  simp only at HL HLe HBi HRi ⊢
  go_enter Try.func12, Try.ntmps12
  go_wp2_with fail
  refine HL.out.mono ?_
  rintro e w2 ⟨rfl, hb⟩
  have R2 : Bx (WinB w2 q ⟨⟨B, C⟩, T⟩ ∧ BoxN 24 X ⟨b, c⟩ w2 ∧ w.grownBy w2 (some q)) := Bx.mk ⟨R1.out.1.later hb, R1.out.2.1.later hb, kb_trans R1.out.2.2 (kb_below _ hb)⟩
  clear hb R1 HL
  obtain ⟨x0, x1⟩ := R2.out.2.1.cells
  go_upto_region 4 with fail
  clear x0 x1
  have RD : Bx (WinB w2.drew q ⟨⟨B, C⟩, T⟩ ∧ BoxN 24 X ⟨b, c⟩ w2.drew ∧ w.grownBy w2.drew (some q)) := Bx.mk ⟨R2.out.1.later (Below.refl _ _).drew, R2.out.2.1.later (Below.refl _ _).drew, kb_trans R2.out.2.2 (kb_below _ (Below.refl _ _).drew)⟩
  refine wp_region_noPanic ?_
  refine wp_region_held_drew (S := fun W => W.rangeAt q 0 [.int .i64 B, .int .i64 C] ∧ W.rangeAt X 0 [.int .i64 b, .int .i64 c]) (by kernel_rfl) (⟨RD.out.1.range, RD.out.2.1.range⟩) (fun hHeld => ?_)
  have R0 := RD
  clear RD R2
  generalize w2.drew = W0 at *
  refine takeL 0 (v := ?_) rfl (by kernel_rfl) (by kernel_rfl) (by kernel_rfl) (fun _ _ _ h => h) (Or.inl ⟨by rfl, ?_⟩) hHeld ?_
  rotate_left 1
  · (intro w hSw; go_simp; try with_reducible rfl)
  try simp only [Act.put, List.setIfInBounds_toArray, List.set_cons_zero, List.set_cons_succ]
  refine takeL 1 (v := ?_) rfl (by kernel_rfl) (by kernel_rfl) (by kernel_rfl) (fun _ _ _ h => h) (Or.inl ⟨by rfl, ?_⟩) hHeld ?_
  rotate_left 1
  · (intro w hSw; go_simp; try with_reducible rfl)
  try simp only [Act.put, List.setIfInBounds_toArray, List.set_cons_zero, List.set_cons_succ]
  refine takeL 2 (v := ?_) rfl (by kernel_rfl) (by kernel_rfl) (by kernel_rfl) (fun _ _ _ h => h) (Or.inl ⟨by rfl, ?_⟩) hHeld ?_
  rotate_left 1
  · (intro w hSw; go_simp; try with_reducible rfl)
  try simp only [Act.put, List.setIfInBounds_toArray, List.set_cons_zero, List.set_cons_succ]
  refine takeL 3 rfl (by kernel_rfl) (by kernel_rfl) (by kernel_rfl) (fun _ _ _ h => h) (yieldsIf_load_mid (by rfl) _ _ rfl _ _ rfl _ _ (fun w hSw => hSw.1) Try.underlying24 rfl (by kernel_rfl)) hHeld ?_
  try simp only [Act.put, List.setIfInBounds_toArray, List.set_cons_zero, List.set_cons_succ]
  refine takeL 4 rfl (by kernel_rfl) (by kernel_rfl) (by kernel_rfl) (fun _ _ _ h => h) (yieldsIf_load_mid (by rfl) _ _ rfl _ _ rfl _ _ (fun w hSw => hSw.2) Try.underlying24 rfl (by kernel_rfl)) hHeld ?_
  try simp only [Act.put, List.setIfInBounds_toArray, List.set_cons_zero, List.set_cons_succ]
  refine stepL 5 (by kernel_rfl) rfl (fun K hK => ?_)
  go_simp
  refine (HLe.out W0).mono ?_
  rintro e W1 ⟨rfl, hb⟩
  show K _ _
  have R1 : Bx (WinB W1 q ⟨⟨B, C⟩, T⟩ ∧ BoxN 24 X ⟨b, c⟩ W1 ∧ w.grownBy W1 (some q)) := Bx.mk ⟨R0.out.1.later hb, R0.out.2.1.later hb, kb_trans R0.out.2.2 (kb_below _ hb)⟩
  clear hb R0
  refine hK.out _ _ (⟨R1.out.1.range, R1.out.2.1.range⟩) (fun hHeld => ?_)
  clear hK K
  try simp only [Act.put, List.setIfInBounds_toArray, List.set_cons_zero, List.set_cons_succ]
  refine wpAnyH_done (by kernel_rfl) ?_ _
  refine NoPanic.normal ?_
  clear hHeld
  obtain ⟨x0, x1⟩ := R1.out.2.1.cells
  go_wp2_with fail
  refine (HRi.out _ R1.out.1).mono ?_
  rintro e w6 ⟨rfl, hw, hg⟩
  have R6 : Bx (WinB w6 q r ∧ BoxN 24 X ⟨b, c⟩ w6 ∧ w.grownBy w6 (some q)) := Bx.mk ⟨hw, R1.out.2.1.aside hg hXq, kb_trans R1.out.2.2 hg⟩
  clear hw hg R1 x0 x1
  go_upto_region 6 with fail
  have RD : Bx (WinB w6.drew q r ∧ BoxN 24 X ⟨b, c⟩ w6.drew ∧ w.grownBy w6.drew (some q)) := Bx.mk ⟨R6.out.1.later (Below.refl _ _).drew, R6.out.2.1.later (Below.refl _ _).drew, kb_trans R6.out.2.2 (kb_below _ (Below.refl _ _).drew)⟩
  refine wp_region_noPanic ?_
  refine wp_region_held_drew (S := fun W => W.rangeAt X 0 [.int .i64 b, .int .i64 c]) (by kernel_rfl) (RD.out.2.1.range) (fun hHeld => ?_)
  have R0 := RD
  clear RD R6
  generalize w6.drew = W0 at *
  refine takeL 0 (v := ?_) rfl (by kernel_rfl) (by kernel_rfl) (by kernel_rfl) (fun _ _ _ h => h) (Or.inl ⟨by rfl, ?_⟩) hHeld ?_
  rotate_left 1
  · (intro w hSw; go_simp; try with_reducible rfl)
  try simp only [Act.put, List.setIfInBounds_toArray, List.set_cons_zero, List.set_cons_succ]
  refine takeL 1 (v := ?_) rfl (by kernel_rfl) (by kernel_rfl) (by kernel_rfl) (fun _ _ _ h => h) (Or.inl ⟨by rfl, ?_⟩) hHeld ?_
  rotate_left 1
  · (intro w hSw; go_simp; try with_reducible rfl)
  try simp only [Act.put, List.setIfInBounds_toArray, List.set_cons_zero, List.set_cons_succ]
  refine takeL 2 (v := ?_) rfl (by kernel_rfl) (by kernel_rfl) (by kernel_rfl) (fun _ _ _ h => h) (Or.inl ⟨by rfl, ?_⟩) hHeld ?_
  rotate_left 1
  · (intro w hSw; go_simp; try with_reducible rfl)
  try simp only [Act.put, List.setIfInBounds_toArray, List.set_cons_zero, List.set_cons_succ]
  refine takeL 4 (v := ?_) rfl (by kernel_rfl) (by kernel_rfl) (by kernel_rfl) (fun _ _ _ h => h) (Or.inl ⟨by rfl, ?_⟩) hHeld ?_
  rotate_left 1
  · (intro w hSw; go_simp; try with_reducible rfl)
  try simp only [Act.put, List.setIfInBounds_toArray, List.set_cons_zero, List.set_cons_succ]
  refine takeL 5 rfl (by kernel_rfl) (by kernel_rfl) (by kernel_rfl) (fun _ _ _ h => h) (yieldsIf_load_mid (by rfl) _ _ rfl _ _ rfl _ _ (fun w hSw => hSw) Try.underlying24 rfl (by kernel_rfl)) hHeld ?_
  try simp only [Act.put, List.setIfInBounds_toArray, List.set_cons_zero, List.set_cons_succ]
  refine wpAnyH_ready (rs := [3, 6]) (by kernel_rfl) (by simp) ?_
  refine consM 3 rfl (fun K hK => ?_) (consM 6 rfl (fun K hK => ?_) AllReadyH.nil)
  · have cu := R0.out.1.cells.2.2
    go_simp
    refine hK.out _ _ R0.out.2.1.range (fun hHeld => ?_)
    clear hK K cu
    try simp only [Act.put, List.setIfInBounds_toArray, List.set_cons_zero, List.set_cons_succ]
    refine stepL 6 (by kernel_rfl) rfl (fun K hK => ?_)
    go_simp
    refine (HBi.out W0 R0.out.1).mono ?_
    rintro e W1 ⟨rfl, hb⟩
    show K _ _
    have R1 : Bx (WinB W1 q r ∧ BoxN 24 X ⟨b, c⟩ W1 ∧ w.grownBy W1 (some q)) := Bx.mk ⟨R0.out.1.later hb, R0.out.2.1.later hb, kb_trans R0.out.2.2 (kb_below _ hb)⟩
    clear hb R0
    refine hK.out _ _ (R1.out.2.1.range) (fun hHeld => ?_)
    clear hK K
    try simp only [Act.put, List.setIfInBounds_toArray, List.set_cons_zero, List.set_cons_succ]
    refine takeL 7 (v := ?_) rfl (by kernel_rfl) (by kernel_rfl) (by kernel_rfl) (fun _ _ _ h => h) (Or.inl ⟨by rfl, ?_⟩) hHeld ?_
    rotate_left 1
    · (intro w hSw; go_simp; try with_reducible rfl)
    try simp only [Act.put, List.setIfInBounds_toArray, List.set_cons_zero, List.set_cons_succ]
    refine takeL 8 (v := ?_) rfl (by kernel_rfl) (by kernel_rfl) (by kernel_rfl) (fun _ _ _ h => h) (Or.inl ⟨by rfl, ?_⟩) hHeld ?_
    rotate_left 1
    · (intro w hSw; go_simp; try with_reducible rfl)
    try simp only [Act.put, List.setIfInBounds_toArray, List.set_cons_zero, List.set_cons_succ]
    refine takeL 9 (v := ?_) rfl (by kernel_rfl) (by kernel_rfl) (by kernel_rfl) (fun _ _ _ h => h) (Or.inl ⟨by rfl, ?_⟩) hHeld ?_
    rotate_left 1
    · (intro w hSw; go_simp; try with_reducible rfl)
    try simp only [Act.put, List.setIfInBounds_toArray, List.set_cons_zero, List.set_cons_succ]
    refine stepL 10 (by kernel_rfl) rfl (fun K hK => ?_)
    have cu := R1.out.1.cells.2.2
    have fu := R1.out.1.frozen 2
    have RZ : Bx (WinB (W1.setCell ⟨q, 2, none⟩ (.int .u64 (tv y))) q ⟨r.n, y⟩ ∧ BoxN 24 X ⟨b, c⟩ (W1.setCell ⟨q, 2, none⟩ (.int .u64 (tv y))) ∧ w.grownBy (W1.setCell ⟨q, 2, none⟩ (.int .u64 (tv y))) (some q)) := Bx.mk ⟨R1.out.1.setT y, R1.out.2.1.aside (kb_setCell _ 2 _) hXq, kb_trans R1.out.2.2 (kb_setCell _ 2 _)⟩
    go_simp
    refine hK.out _ _ RZ.out.2.1.range (fun hHeld => ?_)
    clear hK K cu fu R1
    try simp only [Act.put, List.setIfInBounds_toArray, List.set_cons_zero, List.set_cons_succ]
    generalize W1.setCell ⟨q, 2, none⟩ (.int .u64 (tv y)) = WZ at *
    refine wpAnyH_done (by kernel_rfl) ?_ _
    refine NoPanic.normal ?_
    clear hHeld
    go_wp2
    go_ret
    exact ⟨rfl, RZ.out.1, RZ.out.2.2⟩
  · go_simp
    refine (HBi.out W0 R0.out.1).mono ?_
    rintro e W1 ⟨rfl, hb⟩
    show K _ _
    have R1 : Bx (WinB W1 q r ∧ BoxN 24 X ⟨b, c⟩ W1 ∧ w.grownBy W1 (some q)) := Bx.mk ⟨R0.out.1.later hb, R0.out.2.1.later hb, kb_trans R0.out.2.2 (kb_below _ hb)⟩
    clear hb R0
    refine hK.out _ _ (R1.out.2.1.range) (fun hHeld => ?_)
    clear hK K
    try simp only [Act.put, List.setIfInBounds_toArray, List.set_cons_zero, List.set_cons_succ]
    refine stepL 3 (by kernel_rfl) rfl (fun K hK => ?_)
    have cu := R1.out.1.cells.2.2
    go_simp
    refine hK.out _ _ R1.out.2.1.range (fun hHeld => ?_)
    clear hK K cu
    try simp only [Act.put, List.setIfInBounds_toArray, List.set_cons_zero, List.set_cons_succ]
    refine takeL 7 (v := ?_) rfl (by kernel_rfl) (by kernel_rfl) (by kernel_rfl) (fun _ _ _ h => h) (Or.inl ⟨by rfl, ?_⟩) hHeld ?_
    rotate_left 1
    · (intro w hSw; go_simp; try with_reducible rfl)
    try simp only [Act.put, List.setIfInBounds_toArray, List.set_cons_zero, List.set_cons_succ]
    refine takeL 8 (v := ?_) rfl (by kernel_rfl) (by kernel_rfl) (by kernel_rfl) (fun _ _ _ h => h) (Or.inl ⟨by rfl, ?_⟩) hHeld ?_
    rotate_left 1
    · (intro w hSw; go_simp; try with_reducible rfl)
    try simp only [Act.put, List.setIfInBounds_toArray, List.set_cons_zero, List.set_cons_succ]
    refine takeL 9 (v := ?_) rfl (by kernel_rfl) (by kernel_rfl) (by kernel_rfl) (fun _ _ _ h => h) (Or.inl ⟨by rfl, ?_⟩) hHeld ?_
    rotate_left 1
    · (intro w hSw; go_simp; try with_reducible rfl)
    try simp only [Act.put, List.setIfInBounds_toArray, List.set_cons_zero, List.set_cons_succ]
    refine stepL 10 (by kernel_rfl) rfl (fun K hK => ?_)
    have cu := R1.out.1.cells.2.2
    have fu := R1.out.1.frozen 2
    have RZ : Bx (WinB (W1.setCell ⟨q, 2, none⟩ (.int .u64 (tv y))) q ⟨r.n, y⟩ ∧ BoxN 24 X ⟨b, c⟩ (W1.setCell ⟨q, 2, none⟩ (.int .u64 (tv y))) ∧ w.grownBy (W1.setCell ⟨q, 2, none⟩ (.int .u64 (tv y))) (some q)) := Bx.mk ⟨R1.out.1.setT y, R1.out.2.1.aside (kb_setCell _ 2 _) hXq, kb_trans R1.out.2.2 (kb_setCell _ 2 _)⟩
    go_simp
    refine hK.out _ _ RZ.out.2.1.range (fun hHeld => ?_)
    clear hK K cu fu R1
    try simp only [Act.put, List.setIfInBounds_toArray, List.set_cons_zero, List.set_cons_succ]
    generalize W1.setCell ⟨q, 2, none⟩ (.int .u64 (tv y)) = WZ at *
    refine wpAnyH_done (by kernel_rfl) ?_ _
    refine NoPanic.normal ?_
    clear hHeld
    go_wp2
    go_ret
    exact ⟨rfl, RZ.out.1, RZ.out.2.2⟩
set_option maxRecDepth 100000 in
set_option maxHeartbeats 4000000 in
theorem take_in (q : Nat) (s r : Ws) (n : Nn) (w : World) (h : WinB w q s) (hs : s.ok) (h0 : lookW s n = 0) (hok : okN n = true) (hl : lessN s.n n = false) (hr : r = s) (hro : r.ok) (hrb : n.b = r.n.b → r.n.c - n.c < 64) :
    Calls Try.prog 12 #[.pointer (some ⟨q, 0, none⟩), nv n] w fun e w' => e = .returned (.int .i64 0) ∧ WinB w' q ⟨r.n, r.t ||| bitW r n⟩ ∧ w.grownBy w' (some q) := by
  obtain ⟨X, hX⟩ : ∃ X, w.heap.size = X := ⟨_, rfl⟩
  have hXq : X ≠ q := by have := h.lt; omega
  have R1 : Bx (WinB (w.alloc (.cells #[.int .i64 n.b, .int .i64 n.c] 24)) q s ∧ BoxN 24 X n (w.alloc (.cells #[.int .i64 n.b, .int .i64 n.c] 24)) ∧ w.grownBy (w.alloc (.cells #[.int .i64 n.b, .int .i64 n.c] 24)) (some q)) := Bx.mk ⟨h.later (below_a _), hnew _ _ _ hX.symm, kb_below _ (below_a _)⟩
  have HL := Bx.mk (look_any q s n _ R1.out.1 hs)
  rw [h0] at HL
  have HLe := Bx.mk fun (W : World) => wless_any s.n n W
  rw [hl] at HLe
  have HBi := Bx.mk fun (W : World) (h : WinB W q r) => bit_any12 q r n W h hro hok hrb
  have HEq := Bx.mk hr.symm

  have HOr := tv_or r.t (bitW r n)
  clear h hs h0 hok hl hr hro hrb
  generalize r.t ||| bitW r n = y at *
  generalize bitW r n = z at *
  obtain ⟨b, c⟩ := n
  obtain ⟨⟨B, C⟩, T⟩ := s
  unfold nv at HL HLe HBi ⊢
  simp only at HL HLe HBi ⊢
  go_enter Try.func12, Try.ntmps12
  go_wp2_with fail
  refine HL.out.mono ?_
  rintro e w2 ⟨rfl, hb⟩
  have R2 : Bx (WinB w2 q ⟨⟨B, C⟩, T⟩ ∧ BoxN 24 X ⟨b, c⟩ w2 ∧ w.grownBy w2 (some q)) := Bx.mk ⟨R1.out.1.later hb, R1.out.2.1.later hb, kb_trans R1.out.2.2 (kb_below _ hb)⟩
  clear hb R1 HL
  obtain ⟨x0, x1⟩ := R2.out.2.1.cells
  go_upto_region 4 with fail
  clear x0 x1
  have RD : Bx (WinB w2.drew q ⟨⟨B, C⟩, T⟩ ∧ BoxN 24 X ⟨b, c⟩ w2.drew ∧ w.grownBy w2.drew (some q)) := Bx.mk ⟨R2.out.1.later (Below.refl _ _).drew, R2.out.2.1.later (Below.refl _ _).drew, kb_trans R2.out.2.2 (kb_below _ (Below.refl _ _).drew)⟩
  refine wp_region_noPanic ?_
  refine wp_region_held_drew (S := fun W => W.rangeAt q 0 [.int .i64 B, .int .i64 C] ∧ W.rangeAt X 0 [.int .i64 b, .int .i64 c]) (by kernel_rfl) (⟨RD.out.1.range, RD.out.2.1.range⟩) (fun hHeld => ?_)
  have R0 := RD
  clear RD R2
  generalize w2.drew = W0 at *
  refine takeL 0 (v := ?_) rfl (by kernel_rfl) (by kernel_rfl) (by kernel_rfl) (fun _ _ _ h => h) (Or.inl ⟨by rfl, ?_⟩) hHeld ?_
  rotate_left 1
  · (intro w hSw; go_simp; try with_reducible rfl)
  try simp only [Act.put, List.setIfInBounds_toArray, List.set_cons_zero, List.set_cons_succ]
  refine takeL 1 (v := ?_) rfl (by kernel_rfl) (by kernel_rfl) (by kernel_rfl) (fun _ _ _ h => h) (Or.inl ⟨by rfl, ?_⟩) hHeld ?_
  rotate_left 1
  · (intro w hSw; go_simp; try with_reducible rfl)
  try simp only [Act.put, List.setIfInBounds_toArray, List.set_cons_zero, List.set_cons_succ]
  refine takeL 2 (v := ?_) rfl (by kernel_rfl) (by kernel_rfl) (by kernel_rfl) (fun _ _ _ h => h) (Or.inl ⟨by rfl, ?_⟩) hHeld ?_
  rotate_left 1
  · (intro w hSw; go_simp; try with_reducible rfl)
  try simp only [Act.put, List.setIfInBounds_toArray, List.set_cons_zero, List.set_cons_succ]
  refine takeL 3 rfl (by kernel_rfl) (by kernel_rfl) (by kernel_rfl) (fun _ _ _ h => h) (yieldsIf_load_mid (by rfl) _ _ rfl _ _ rfl _ _ (fun w hSw => hSw.1) Try.underlying24 rfl (by kernel_rfl)) hHeld ?_
  try simp only [Act.put, List.setIfInBounds_toArray, List.set_cons_zero, List.set_cons_succ]
  refine takeL 4 rfl (by kernel_rfl) (by kernel_rfl) (by kernel_rfl) (fun _ _ _ h => h) (yieldsIf_load_mid (by rfl) _ _ rfl _ _ rfl _ _ (fun w hSw => hSw.2) Try.underlying24 rfl (by kernel_rfl)) hHeld ?_
  try simp only [Act.put, List.setIfInBounds_toArray, List.set_cons_zero, List.set_cons_succ]
  refine stepL 5 (by kernel_rfl) rfl (fun K hK => ?_)
  go_simp
  refine (HLe.out W0).mono ?_
  rintro e W1 ⟨rfl, hb⟩
  show K _ _
  have R1 : Bx (WinB W1 q ⟨⟨B, C⟩, T⟩ ∧ BoxN 24 X ⟨b, c⟩ W1 ∧ w.grownBy W1 (some q)) := Bx.mk ⟨R0.out.1.later hb, R0.out.2.1.later hb, kb_trans R0.out.2.2 (kb_below _ hb)⟩
  clear hb R0
  refine hK.out _ _ (⟨R1.out.1.range, R1.out.2.1.range⟩) (fun hHeld => ?_)
  clear hK K
  try simp only [Act.put, List.setIfInBounds_toArray, List.set_cons_zero, List.set_cons_succ]
  refine wpAnyH_done (by kernel_rfl) ?_ _
  refine NoPanic.normal ?_
  clear hHeld
  obtain ⟨x0, x1⟩ := R1.out.2.1.cells
  go_upto_region 6 with fail
  have R6 : Bx (WinB W1 q r ∧ BoxN 24 X ⟨b, c⟩ W1 ∧ w.grownBy W1 (some q)) := Bx.mk (by rw [← HEq.out]; exact R1.out)
  clear R1
  have RD : Bx (WinB W1.drew q r ∧ BoxN 24 X ⟨b, c⟩ W1.drew ∧ w.grownBy W1.drew (some q)) := Bx.mk ⟨R6.out.1.later (Below.refl _ _).drew, R6.out.2.1.later (Below.refl _ _).drew, kb_trans R6.out.2.2 (kb_below _ (Below.refl _ _).drew)⟩
  refine wp_region_noPanic ?_
  refine wp_region_held_drew (S := fun W => W.rangeAt X 0 [.int .i64 b, .int .i64 c]) (by kernel_rfl) (RD.out.2.1.range) (fun hHeld => ?_)
  have R0 := RD
  clear RD R6
  generalize W1.drew = W0 at *
  refine takeL 0 (v := ?_) rfl (by kernel_rfl) (by kernel_rfl) (by kernel_rfl) (fun _ _ _ h => h) (Or.inl ⟨by rfl, ?_⟩) hHeld ?_
  rotate_left 1
  · (intro w hSw; go_simp; try with_reducible rfl)
  try simp only [Act.put, List.setIfInBounds_toArray, List.set_cons_zero, List.set_cons_succ]
  refine takeL 1 (v := ?_) rfl (by kernel_rfl) (by kernel_rfl) (by kernel_rfl) (fun _ _ _ h => h) (Or.inl ⟨by rfl, ?_⟩) hHeld ?_
  rotate_left 1
  · (intro w hSw; go_simp; try with_reducible rfl)
  try simp only [Act.put, List.setIfInBounds_toArray, List.set_cons_zero, List.set_cons_succ]
  refine takeL 2 (v := ?_) rfl (by kernel_rfl) (by kernel_rfl) (by kernel_rfl) (fun _ _ _ h => h) (Or.inl ⟨by rfl, ?_⟩) hHeld ?_
  rotate_left 1
  · (intro w hSw; go_simp; try with_reducible rfl)
  try simp only [Act.put, List.setIfInBounds_toArray, List.set_cons_zero, List.set_cons_succ]
  refine takeL 4 (v := ?_) rfl (by kernel_rfl) (by kernel_rfl) (by kernel_rfl) (fun _ _ _ h => h) (Or.inl ⟨by rfl, ?_⟩) hHeld ?_
  rotate_left 1
  · (intro w hSw; go_simp; try with_reducible rfl)
  try simp only [Act.put, List.setIfInBounds_toArray, List.set_cons_zero, List.set_cons_succ]
  refine takeL 5 rfl (by kernel_rfl) (by kernel_rfl) (by kernel_rfl) (fun _ _ _ h => h) (yieldsIf_load_mid (by rfl) _ _ rfl _ _ rfl _ _ (fun w hSw => hSw) Try.underlying24 rfl (by kernel_rfl)) hHeld ?_
  try simp only [Act.put, List.setIfInBounds_toArray, List.set_cons_zero, List.set_cons_succ]
  refine wpAnyH_ready (rs := [3, 6]) (by kernel_rfl) (by simp) ?_
  refine consM 3 rfl (fun K hK => ?_) (consM 6 rfl (fun K hK => ?_) AllReadyH.nil)
  · have cu := R0.out.1.cells.2.2
    go_simp
    refine hK.out _ _ R0.out.2.1.range (fun hHeld => ?_)
    clear hK K cu
    try simp only [Act.put, List.setIfInBounds_toArray, List.set_cons_zero, List.set_cons_succ]
    refine stepL 6 (by kernel_rfl) rfl (fun K hK => ?_)
    go_simp
    refine (HBi.out W0 R0.out.1).mono ?_
    rintro e W1 ⟨rfl, hb⟩
    show K _ _
    have R1 : Bx (WinB W1 q r ∧ BoxN 24 X ⟨b, c⟩ W1 ∧ w.grownBy W1 (some q)) := Bx.mk ⟨R0.out.1.later hb, R0.out.2.1.later hb, kb_trans R0.out.2.2 (kb_below _ hb)⟩
    clear hb R0
    refine hK.out _ _ (R1.out.2.1.range) (fun hHeld => ?_)
    clear hK K
    try simp only [Act.put, List.setIfInBounds_toArray, List.set_cons_zero, List.set_cons_succ]
    refine takeL 7 (v := ?_) rfl (by kernel_rfl) (by kernel_rfl) (by kernel_rfl) (fun _ _ _ h => h) (Or.inl ⟨by rfl, ?_⟩) hHeld ?_
    rotate_left 1
    · (intro w hSw; go_simp; try with_reducible rfl)
    try simp only [Act.put, List.setIfInBounds_toArray, List.set_cons_zero, List.set_cons_succ]
    refine takeL 8 (v := ?_) rfl (by kernel_rfl) (by kernel_rfl) (by kernel_rfl) (fun _ _ _ h => h) (Or.inl ⟨by rfl, ?_⟩) hHeld ?_
    rotate_left 1
    · (intro w hSw; go_simp; try with_reducible rfl)
    try simp only [Act.put, List.setIfInBounds_toArray, List.set_cons_zero, List.set_cons_succ]
    refine takeL 9 (v := ?_) rfl (by kernel_rfl) (by kernel_rfl) (by kernel_rfl) (fun _ _ _ h => h) (Or.inl ⟨by rfl, ?_⟩) hHeld ?_
    rotate_left 1
    · (intro w hSw; go_simp; try with_reducible rfl)
    try simp only [Act.put, List.setIfInBounds_toArray, List.set_cons_zero, List.set_cons_succ]
    refine stepL 10 (by kernel_rfl) rfl (fun K hK => ?_)
    have cu := R1.out.1.cells.2.2
    have fu := R1.out.1.frozen 2
    have RZ : Bx (WinB (W1.setCell ⟨q, 2, none⟩ (.int .u64 (tv y))) q ⟨r.n, y⟩ ∧ BoxN 24 X ⟨b, c⟩ (W1.setCell ⟨q, 2, none⟩ (.int .u64 (tv y))) ∧ w.grownBy (W1.setCell ⟨q, 2, none⟩ (.int .u64 (tv y))) (some q)) := Bx.mk ⟨R1.out.1.setT y, R1.out.2.1.aside (kb_setCell _ 2 _) hXq, kb_trans R1.out.2.2 (kb_setCell _ 2 _)⟩
    go_simp
    refine hK.out _ _ RZ.out.2.1.range (fun hHeld => ?_)
    clear hK K cu fu R1
    try simp only [Act.put, List.setIfInBounds_toArray, List.set_cons_zero, List.set_cons_succ]
    generalize W1.setCell ⟨q, 2, none⟩ (.int .u64 (tv y)) = WZ at *
    refine wpAnyH_done (by kernel_rfl) ?_ _
    refine NoPanic.normal ?_
    clear hHeld
    go_wp2
    go_ret
    exact ⟨rfl, RZ.out.1, RZ.out.2.2⟩
  · go_simp
    refine (HBi.out W0 R0.out.1).mono ?_
    rintro e W1 ⟨rfl, hb⟩
    show K _ _
    have R1 : Bx (WinB W1 q r ∧ BoxN 24 X ⟨b, c⟩ W1 ∧ w.grownBy W1 (some q)) := Bx.mk ⟨R0.out.1.later hb, R0.out.2.1.later hb, kb_trans R0.out.2.2 (kb_below _ hb)⟩
    clear hb R0
    refine hK.out _ _ (R1.out.2.1.range) (fun hHeld => ?_)
    clear hK K
    try simp only [Act.put, List.setIfInBounds_toArray, List.set_cons_zero, List.set_cons_succ]
    refine stepL 3 (by kernel_rfl) rfl (fun K hK => ?_)
    have cu := R1.out.1.cells.2.2
    go_simp
    refine hK.out _ _ R1.out.2.1.range (fun hHeld => ?_)
    clear hK K cu
    try simp only [Act.put, List.setIfInBounds_toArray, List.set_cons_zero, List.set_cons_succ]
    refine takeL 7 (v := ?_) rfl (by kernel_rfl) (by kernel_rfl) (by kernel_rfl) (fun _ _ _ h => h) (Or.inl ⟨by rfl, ?_⟩) hHeld ?_
    rotate_left 1
    · (intro w hSw; go_simp; try with_reducible rfl)
    try simp only [Act.put, List.setIfInBounds_toArray, List.set_cons_zero, List.set_cons_succ]
    refine takeL 8 (v := ?_) rfl (by kernel_rfl) (by kernel_rfl) (by kernel_rfl) (fun _ _ _ h => h) (Or.inl ⟨by rfl, ?_⟩) hHeld ?_
    rotate_left 1
    · (intro w hSw; go_simp; try with_reducible rfl)
    try simp only [Act.put, List.setIfInBounds_toArray, List.set_cons_zero, List.set_cons_succ]
    refine takeL 9 (v := ?_) rfl (by kernel_rfl) (by kernel_rfl) (by kernel_rfl) (fun _ _ _ h => h) (Or.inl ⟨by rfl, ?_⟩) hHeld ?_
    rotate_left 1
    · (intro w hSw; go_simp; try with_reducible rfl)
    try simp only [Act.put, List.setIfInBounds_toArray, List.set_cons_zero, List.set_cons_succ]
    refine stepL 10 (by kernel_rfl) rfl (fun K hK => ?_)
    have cu := R1.out.1.cells.2.2
    have fu := R1.out.1.frozen 2
    have RZ : Bx (WinB (W1.setCell ⟨q, 2, none⟩ (.int .u64 (tv y))) q ⟨r.n, y⟩ ∧ BoxN 24 X ⟨b, c⟩ (W1.setCell ⟨q, 2, none⟩ (.int .u64 (tv y))) ∧ w.grownBy (W1.setCell ⟨q, 2, none⟩ (.int .u64 (tv y))) (some q)) := Bx.mk ⟨R1.out.1.setT y, R1.out.2.1.aside (kb_setCell _ 2 _) hXq, kb_trans R1.out.2.2 (kb_setCell _ 2 _)⟩
    go_simp
    refine hK.out _ _ RZ.out.2.1.range (fun hHeld => ?_)
    clear hK K cu fu R1
    try simp only [Act.put, List.setIfInBounds_toArray, List.set_cons_zero, List.set_cons_succ]
    generalize W1.setCell ⟨q, 2, none⟩ (.int .u64 (tv y)) = WZ at *
    refine wpAnyH_done (by kernel_rfl) ?_ _
    refine NoPanic.normal ?_
    clear hHeld
    go_wp2
    go_ret
    exact ⟨rfl, RZ.out.1, RZ.out.2.2⟩
theorem take_any12 (q : Nat) (s : Ws) (n : Nn) (w : World) (h : WinB w q s) (hs : s.ok) :
    Calls Try.prog 12 #[.pointer (some ⟨q, 0, none⟩), nv n] w fun e w' => e = .returned (.int .i64 (lookW s n)) ∧ WinB w' q (takeW s n) ∧ w.grownBy w' (some q) := by
  by_cases h0 : lookW s n = 0
  · have hok : okN n = true := by
      unfold lookW at h0
      split at h0
      · omega
      · rename_i h1; simpa using h1
    have hfo : forgW s n = false := by
      unfold lookW at h0
      rw [if_neg (by rw [hok]; simp)] at h0
      split at h0
      · omega
      · rename_i h1; simpa using h1
    obtain ⟨n1, n2, n3, n4⟩ := (okN_iff n).1 hok
    unfold takeW
    rw [if_pos h0, h0]
    cases hl : lessN s.n n with
    | true =>
      rw [if_pos rfl]
      exact take_up q s (riseW s n) n w h hs h0 hok hl rfl ⟨by show 0 ≤ n.b; omega, n2, by show 0 ≤ n.c; omega, n4⟩ (fun _ => by show n.c - n.c < 64; omega)
    | false =>
      rw [if_neg (by simp)]
      exact take_in q s s n w h hs h0 hok hl rfl hs (fun e => forgW_false hfo e)
  · have e1 : takeW s n = s := by unfold takeW; rw [if_neg h0]
    rw [e1]
    refine (take_err q s n w h hs h0).mono ?_
    rintro e w' ⟨h1, h2⟩
    exact ⟨h1, h.later h2, kb_below _ h2⟩
end Go.Proofs.Ytoohcjdjmafliaa
namespace Go.Proofs.Ytoohcjdjmafliaa
open Go Go.RowKit
/-- The greatest of all. -/
def latN (l : List Nn) : Nn := l.foldl (fun a x => if lessN a x = true then x else a) Nn.zero
theorem takeN_succ (m : List Nn) (k : Nat) (h : k < m.length) : m.take (k + 1) = m.take k ++ [m.getD k Nn.zero] := by
  rw [List.take_succ_eq_append_getElem h, List.getD_eq_getElem?_getD, List.getElem?_eq_getElem h]; rfl
theorem latN_snoc (m : List Nn) (x : Nn) : latN (m ++ [x]) = if lessN (latN m) x = true then x else latN m := by
  unfold latN; rw [List.foldl_append]; rfl
theorem latN_succ (m : List Nn) (k : Nat) (h : k < m.length) : latN (m.take (k + 1)) = if lessN (latN (m.take k)) (m.getD k Nn.zero) = true then m.getD k Nn.zero else latN (m.take k) := by
  rw [takeN_succ m k h, latN_snoc]
/-- What the document tells of a nonce. -/
def dlookN (m : List Nn) (n : Nn) : Int := if okN n = false then 10 else if n.b < (latN m).b ∨ n.b = (latN m).b ∧ n.c ≤ (latN m).c - 64 then 9 else if n ∈ m then 8 else 0
theorem BoxN.frozen {T : TypeId} {X : Nat} {n : Nn} {W : World} (h : BoxN T X n W) (i : Nat) : W.frozen? ⟨X, i, none⟩ = false := frozen_of_row _ _ _ _ _ h
end Go.Proofs.Ytoohcjdjmafliaa
namespace Go.Proofs.Ytoohcjdjmafliaa
open Go Go.RowKit
theorem lessN_iff (a b : Nn) : lessN a b = true ↔ a.b < b.b ∨ a.b = b.b ∧ a.c < b.c := by
  unfold lessN
  exact decide_eq_true_iff
theorem lessN_irrefl (a : Nn) : lessN a a = false := by
  cases h : lessN a a
  · rfl
  · have := (lessN_iff a a).1 h; omega
theorem lessN_trans {a b c : Nn} (h1 : lessN a b = true) (h2 : lessN b c = true) : lessN a c = true := by
  rw [lessN_iff] at *
  omega
/-- None is greater than the latest. -/
theorem latN_max (m : List Nn) : ∀ x ∈ m, lessN (latN m) x = false := by
  have key : ∀ k, k ≤ m.length → ∀ x ∈ m.take k, lessN (latN (m.take k)) x = false := by
    intro k
    induction k with
    | zero => intro _ x hx; simp at hx
    | succ k ih =>
      intro hk x hx
      rw [takeN_succ m k (by omega)] at hx
      rw [latN_succ m k (by omega)]
      generalize m.getD k Nn.zero = y at *
      cases hl : lessN (latN (m.take k)) y with
      | true =>
        rw [if_pos rfl]
        rcases List.mem_append.1 hx with hx | hx
        · have h1 := ih (by omega) x hx
          cases h2 : lessN y x
          · rfl
          · rw [lessN_trans hl h2] at h1; cases h1
        · rw [List.mem_singleton.1 hx]; exact lessN_irrefl y
      | false =>
        rw [if_neg (by simp)]
        rcases List.mem_append.1 hx with hx | hx
        · exact ih (by omega) x hx
        · rw [List.mem_singleton.1 hx]; exact hl
  have := key m.length (Nat.le_refl _)
  rwa [List.take_length] at this
/-- The latest is one of them, where there are any. -/
theorem latN_mem (m : List Nn) : latN m = Nn.zero ∨ latN m ∈ m := by
  have key : ∀ k, k ≤ m.length → latN (m.take k) = Nn.zero ∨ latN (m.take k) ∈ m := by
    intro k
    induction k with
    | zero => intro _; exact .inl rfl
    | succ k ih =>
      intro hk
      rw [latN_succ m k (by omega)]
      split
      · right
        rw [List.getD_eq_getElem?_getD, List.getElem?_eq_getElem (by omega)]
        exact List.getElem_mem _
      · exact ih (by omega)
  have := key m.length (Nat.le_refl _)
  rwa [List.take_length] at this
/-- What a window and a list of nonces hold alike. -/
structure RelW (m : List Nn) (s : Ws) : Prop where
  lat : s.n = latN m
  ok : ∀ x ∈ m, okN x = true
  bits : ∀ d : Nat, d < 64 → s.t.getLsbD d = decide ((⟨s.n.b, s.n.c - (d : Int)⟩ : Nn) ∈ m)
theorem RelW.start : RelW [] Ws.zero := ⟨rfl, fun x hx => by simp at hx, fun d hd => by simp [Ws.zero]⟩
theorem RelW.none {m : List Nn} {s : Ws} (h : RelW m s) {x : Nn} (hx : s.n.b < x.b ∨ s.n.b = x.b ∧ s.n.c < x.c) : x ∉ m := fun hm => by
  have h1 := latN_max m x hm
  rw [← h.lat, (lessN_iff _ _).2 hx] at h1
  cases h1
theorem and_bit (t : BitVec 64) (d : Nat) (hd : d < 64) : (t &&& (1#64 <<< d) = 0#64) ↔ t.getLsbD d = false := by
  constructor
  · intro h
    have h1 : (t &&& (1#64 <<< d)).getLsbD d = false := by rw [h]; simp
    rw [BitVec.getLsbD_and, BitVec.getLsbD_shiftLeft] at h1
    simpa [hd] using h1
  · intro h
    apply BitVec.eq_of_getLsbD_eq
    intro i hi
    rw [BitVec.getLsbD_and, BitVec.getLsbD_shiftLeft]
    by_cases e : i = d
    · subst e; rw [h]; simp
    · by_cases e2 : i < d
      · simp [e2]
      · have : (1#64).getLsbD (i - d) = false := by
          rw [BitVec.getLsbD_one]
          simp
          omega
        rw [this]; simp
theorem RelW.look {m : List Nn} {s : Ws} (h : RelW m s) (n : Nn) : lookW s n = dlookN m n := by
  unfold lookW dlookN
  cases hok : okN n with
  | false => rw [if_pos rfl, if_pos rfl]
  | true =>
    rw [if_neg (show ¬ (true = false) by simp), if_neg (show ¬ (true = false) by simp), ← h.lat]
    obtain ⟨n1, n2, n3, n4⟩ := (okN_iff n).1 hok
    by_cases hf : n.b < s.n.b ∨ n.b = s.n.b ∧ n.c ≤ s.n.c - 64
    · rw [if_pos hf, if_pos]
      unfold forgW
      exact decide_eq_true (by omega)
    · rw [if_neg hf, if_neg (by unfold forgW; rw [decide_eq_false (by omega)]; simp)]
      unfold bitW
      by_cases hb : n.b = s.n.b ∧ n.c ≤ s.n.c
      · rw [if_pos hb]
        obtain ⟨d, hd⟩ : ∃ d : Nat, s.n.c - n.c = (d : Int) := ⟨(s.n.c - n.c).toNat, by omega⟩
        rw [hd, Int.toNat_natCast]
        have hd64 : d < 64 := by omega
        have hn : (⟨s.n.b, s.n.c - (d : Int)⟩ : Nn) = n := Nn.ext' hb.1.symm (by show s.n.c - (d : Int) = n.c; omega)
        have hbit := h.bits d hd64
        rw [hn] at hbit
        by_cases hm : n ∈ m
        · rw [if_pos hm, if_neg]
          rw [and_bit _ _ hd64, hbit, decide_eq_true hm]
          simp
        · rw [if_neg hm, if_pos]
          rw [and_bit _ _ hd64, hbit, decide_eq_false hm]
      · rw [if_neg hb, if_neg (h.none (by omega)), if_pos (by simp)]
theorem RelW.take {m : List Nn} {s : Ws} (h : RelW m s) {n : Nn} (h0 : lookW s n = 0) : RelW (m ++ [n]) (takeW s n) := by
  have hok : okN n = true := by
    unfold lookW at h0
    split at h0
    · omega
    · rename_i h1; simpa using h1
  have hfo : forgW s n = false := by
    unfold lookW at h0
    rw [if_neg (by rw [hok]; simp)] at h0
    split at h0
    · omega
    · rename_i h1; simpa using h1
  obtain ⟨n1, n2, n3, n4⟩ := (okN_iff n).1 hok
  have hf : ¬ (n.b < s.n.b ∨ n.b = s.n.b ∧ 64 ≤ s.n.c - n.c) := by unfold forgW at hfo; exact of_decide_eq_false hfo
  have hmem : ∀ x : Nn, decide (x ∈ m ++ [n]) = (decide (x ∈ m) || decide (x = n)) := fun x => by
    by_cases h1 : x ∈ m <;> by_cases h2 : x = n <;> simp [h1, h2]
  have hok' : ∀ x ∈ m ++ [n], okN x = true := fun x hx => by
    rcases List.mem_append.1 hx with hx | hx
    · exact h.ok x hx
    · rw [List.mem_singleton.1 hx]; exact hok
  unfold takeW
  rw [if_pos h0]
  cases hl : lessN s.n n with
  | true =>
    rw [if_pos rfl]
    have hl' := (lessN_iff _ _).1 hl
    refine ⟨?_, hok', ?_⟩
    · show n = _
      rw [latN_snoc, ← h.lat, hl, if_pos rfl]
    · intro d hd
      show ((riseW s n).t ||| bitW (riseW s n) n).getLsbD d = decide ((⟨n.b, n.c - (d : Int)⟩ : Nn) ∈ m ++ [n])
      have e1 : bitW (riseW s n) n = 1#64 := by
        unfold bitW
        rw [if_pos ⟨rfl, Int.le_refl _⟩, show (riseW s n).n.c - n.c = 0 from Int.sub_self _]
        rfl
      rw [e1, BitVec.getLsbD_or, hmem]
      have e2 : (1#64).getLsbD d = decide ((⟨n.b, n.c - (d : Int)⟩ : Nn) = n) := by
        rw [BitVec.getLsbD_one]
        by_cases hd0 : d = 0
        · subst hd0
          have e0 : (⟨n.b, n.c - ((0 : Nat) : Int)⟩ : Nn) = n := Nn.ext' rfl (by show n.c - ((0 : Nat) : Int) = n.c; omega)
          rw [e0]
          simp
        · have e0 : ¬ (⟨n.b, n.c - (d : Int)⟩ : Nn) = n := fun e => by have := ((Nn.eq_iff _ _).1 e).2; simp only at this; omega
          rw [decide_eq_false e0]
          simp [hd0]
      rw [e2]
      congr 1
      unfold riseW
      by_cases hb : n.b = s.n.b
      · show (if n.b = s.n.b then s.t <<< (n.c - s.n.c).toNat else 0#64).getLsbD d = _
        rw [if_pos hb]
        obtain ⟨k, hk⟩ : ∃ k : Nat, n.c - s.n.c = (k : Int) := ⟨(n.c - s.n.c).toNat, by omega⟩
        rw [hk, Int.toNat_natCast, BitVec.getLsbD_shiftLeft]
        by_cases hdk : d < k
        · have e0 : (⟨n.b, n.c - (d : Int)⟩ : Nn) ∉ m := h.none (.inr ⟨hb.symm, by show s.n.c < n.c - (d : Int); omega⟩)
          rw [decide_eq_false e0]
          simp [hdk]
        · have hb2 := h.bits (d - k) (by omega)
          rw [hb2, hb]
          have e3 : s.n.c - ((d - k : Nat) : Int) = n.c - (d : Int) := by omega
          rw [e3]
          simp [hd, hdk]
      · show (if n.b = s.n.b then s.t <<< (n.c - s.n.c).toNat else 0#64).getLsbD d = _
        have e0 : (⟨n.b, n.c - (d : Int)⟩ : Nn) ∉ m := h.none (.inl (by show s.n.b < n.b; omega))
        rw [if_neg hb, decide_eq_false e0]
        simp
  | false =>
    rw [if_neg (by simp)]
    have hl' : ¬ (s.n.b < n.b ∨ s.n.b = n.b ∧ s.n.c < n.c) := fun e => by rw [(lessN_iff _ _).2 e] at hl; cases hl
    have hb : n.b = s.n.b := by omega
    refine ⟨?_, hok', ?_⟩
    · show s.n = _
      rw [latN_snoc, ← h.lat, hl, if_neg (by simp)]
    · intro d hd
      show (s.t ||| bitW s n).getLsbD d = decide ((⟨s.n.b, s.n.c - (d : Int)⟩ : Nn) ∈ m ++ [n])
      rw [BitVec.getLsbD_or, hmem, h.bits d hd]
      congr 1
      unfold bitW
      rw [if_pos ⟨hb, by omega⟩]
      obtain ⟨k, hk⟩ : ∃ k : Nat, s.n.c - n.c = (k : Int) := ⟨(s.n.c - n.c).toNat, by omega⟩
      rw [hk, Int.toNat_natCast, BitVec.getLsbD_shiftLeft, BitVec.getLsbD_one]
      by_cases e : d = k
      · subst e
        have e0 : (⟨s.n.b, s.n.c - (d : Int)⟩ : Nn) = n := Nn.ext' hb.symm (by show s.n.c - (d : Int) = n.c; omega)
        rw [decide_eq_true e0]
        simp [hd]
      · have e0 : ¬ (⟨s.n.b, s.n.c - (d : Int)⟩ : Nn) = n := fun e' => by have := ((Nn.eq_iff _ _).1 e').2; simp only at this; omega
        rw [decide_eq_false e0]
        by_cases h2 : d < k
        · simp [h2]
        · have : d - k ≠ 0 := by omega
          simp [this]
theorem RelW.keep {m : List Nn} {s : Ws} (h : RelW m s) {n : Nn} (h0 : lookW s n ≠ 0) : takeW s n = s := by unfold takeW; rw [if_neg h0]
end Go.Proofs.Ytoohcjdjmafliaa
namespace Go.Proofs.Ytoohcjdjmafliaa
open Go Go.RowKit
/-- A counter in its block. -/
def CouB (W : World) (p : Nat) (n : Nn) : Prop := W.heap[p]? = some (.cells #[.int .i64 n.b, .int .i64 n.c] 70 (0, 0))
theorem CouB.lt {W : World} {p : Nat} {n : Nn} (h : CouB W p n) : p < W.heap.size := (Array.getElem?_eq_some_iff.1 h).1
theorem CouB.later {W W1 : World} {p : Nat} {n : Nn} (h : CouB W p n) (hb : Below W.heap.size W W1) : CouB W1 p n := (hb.block p h.lt).trans h
theorem CouB.aside {W W1 : World} {p q : Nat} {n : Nn} (h : CouB W p n) (hg : W.grownBy W1 (some q)) (hne : p ≠ q) : CouB W1 p n := (hg.block p h.lt (fun e => hne (by injection e))).trans h
theorem CouB.cells {W : World} {p : Nat} {n : Nn} (h : CouB W p n) : W.cell? ⟨p, 0, none⟩ = some (.int .i64 n.b) ∧ W.cell? ⟨p, 1, none⟩ = some (.int .i64 n.c) :=
  ⟨by rw [cell_of_row _ _ _ _ _ _ h]; rfl, by rw [cell_of_row _ _ _ _ _ _ h]; rfl⟩
theorem CouB.frozen {W : World} {p : Nat} {n : Nn} (h : CouB W p n) (i : Nat) : W.frozen? ⟨p, i, none⟩ = false := frozen_of_row _ _ _ _ _ h
end Go.Proofs.Ytoohcjdjmafliaa
namespace Go.Proofs.Ytoohcjdjmafliaa
open Go Go.RowKit
set_option maxRecDepth 100000 in
set_option maxHeartbeats 4000000 in
theorem taken_any12 (pv : Value) (lk : Nn → Int) (v : Value) (l : List Nn) (w : World) (hv : NnsR w v l) (hn : l.length ≤ 1000)
    (HL : ∀ W n, Below w.heap.size w W → Calls Try.prog 10 #[pv, nv n] W fun e w' => e = .returned (.int .i64 (lk n)) ∧ Below W.heap.size W w') :
    Calls Try.prog 17 #[pv, v] w fun e w' => e = .returned (.int .i64 ((l.countP fun n => decide (lk n = 8) : Nat) : Int)) ∧ Below w.heap.size w w' := by
  obtain ⟨a, cap, rfl, -, -, hr⟩ := hv
  obtain ⟨n, hnn⟩ : ∃ n, l.length = n := ⟨_, rfl⟩
  have HN := Bx.mk hnn
  rw [hnn] at hr hn ⊢
  have HR := Bx.mk hr
  have HLk := Bx.mk HL
  clear hr hnn HL
  have hn1 : (n : Int) ≤ 1000 := by omega
  have HT : Bx (l.take n = l) := Bx.mk (by rw [← HN.out, List.take_length])
  go_enter Try.func17, Try.ntmps17
  go_wp2
  go_loopw [5, 10] (fun c i wr => ∃ k : Nat, k ≤ n ∧ c = .int .i64 (((l.take k).countP fun n => decide (lk n = 8) : Nat) : Int) ∧ i = .int .i64 (k : Int) ∧ Bx (Below w.heap.size w wr)) (fun _ i _ => n - (intOf i).toNat)
  case atStart => exact ⟨0, by omega, rfl, rfl, Bx.mk (Below.refl _ _)⟩
  case round =>
    obtain ⟨k, hk, rfl, rfl, HB⟩ := hrel
    by_cases hlt : k < n
    · have t1 : (k : Int) < (n : Int) := by omega
      have t0 : (0 : Int) ≤ (k : Int) := by omega
      obtain ⟨g, o, ha, hcell⟩ := HR.out (by omega)
      subst ha
      obtain ⟨d1, d2⟩ := hcell k hlt
      have c1 := (HB.out.cell (p := ⟨g, o + k * 2, none⟩) (World.block_lt_of_cell? _ _ d1)).trans d1
      have c2 := (HB.out.cell (p := ⟨g, o + k * 2 + 1, none⟩) (World.block_lt_of_cell? _ _ d2)).trans d2
      have HS : Bx ((l.take (k + 1)).countP (fun n => decide (lk n = 8)) = (l.take k).countP (fun n => decide (lk n = 8)) + if lk (l.getD k Nn.zero) = 8 then 1 else 0) := Bx.mk (by
        rw [List.take_succ_eq_append_getElem (by rw [HN.out]; exact hlt), List.countP_append, List.countP_singleton, List.getD_eq_getElem?_getD, List.getElem?_eq_getElem (by rw [HN.out]; exact hlt)]
        simp)
      have hle : (l.take k).countP (fun n => decide (lk n = 8)) ≤ 1000 := by
        have := List.countP_le_length (p := fun n => decide (lk n = 8)) (l := l.take k)
        rw [List.length_take] at this
        omega
      generalize (l.take k).countP (fun n => decide (lk n = 8)) = tk at *
      generalize l.getD k Nn.zero = x at *
      have hw : IntKind.i64.wrap ((tk : Int) + 1) = (tk : Int) + 1 := by simp [IntKind.wrap_i64]; omega
      obtain ⟨xb, xc⟩ := x
      have HLx : Bx (∀ W, Below w.heap.size w W → Calls Try.prog 10 #[pv, .agg #[.int .i64 xb, .int .i64 xc]] W fun e w' => e = .returned (.int .i64 (lk ⟨xb, xc⟩)) ∧ Below W.heap.size W w') := Bx.mk fun W hb => HLk.out W ⟨xb, xc⟩ hb
      have HBa : Bx (Below w.heap.size w (wr.alloc (.cells #[.int .i64 xb, .int .i64 xc] 24))) := Bx.mk (HB.out.alloc HB.out.size _)
      clear hcell hle d1 d2
      by_cases he : lk ⟨xb, xc⟩ = 8
      · have HS2 : Bx ((l.take (k + 1)).countP (fun n => decide (lk n = 8)) = tk + 1) := Bx.mk (by rw [HS.out, if_pos he])
        rw [he] at HLx
        clear he HS
        go_wp2_with fail
        skip -- M3
        refine (HLx.out _ HBa.out).mono ?_
        rintro e w1 ⟨rfl, hb⟩
        have HB1 := Bx.mk (HBa.out.trans (hb.mono HBa.out.size))
        clear hb HBa HB HLx HLk c1 c2
        go_wp2
        go_roundw
        case rel => exact ⟨k + 1, by omega, by rw [HS2.out]; rfl, by go_num, HB1⟩
        case measure => simp [intOf]; omega
      · have HS2 : Bx ((l.take (k + 1)).countP (fun n => decide (lk n = 8)) = tk) := Bx.mk (by rw [HS.out, if_neg he]; rfl)
        generalize lk ⟨xb, xc⟩ = z at *
        clear HS
        go_wp2_with fail
        refine (HLx.out _ HBa.out).mono ?_
        rintro e w1 ⟨rfl, hb⟩
        have HB1 := Bx.mk (HBa.out.trans (hb.mono HBa.out.size))
        clear hb HBa HB HLx HLk c1 c2
        go_wp2
        go_roundw
        case rel => exact ⟨k + 1, by omega, by rw [HS2.out], by go_num, HB1⟩
        case measure => simp [intOf]; omega
    · have t1 : ¬ (k : Int) < (n : Int) := by omega
      obtain rfl : k = n := by omega
      rw [HT.out]
      go_wp2
      go_ret
      exact ⟨rfl, HB.out⟩
end Go.Proofs.Ytoohcjdjmafliaa
