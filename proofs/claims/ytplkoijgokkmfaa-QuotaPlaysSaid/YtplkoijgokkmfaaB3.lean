/-
  Quotas: taken, Times, Left, Take.
-/
import Derived.Test.YtplkoijgokkmfaaB2
namespace Go.Proofs.Ytplkoijgokkmfaa
open Go Go.RowKit
/-- How often a sender was taken in a period. -/
def tmsQ (l : List En) (s p : Int) : Int := if perQ l s = p then cntQ l s else 0
/-- Entries as Take leaves them. -/
def OkQ (n : Int) (l : List En) : Prop := ∀ x ∈ l, 0 ≤ x.p ∧ 1 ≤ x.t ∧ x.t ≤ n
theorem OkQ.cnt {n : Int} {l : List En} (h : OkQ n l) (hn : 0 ≤ n) (s : Int) : 0 ≤ cntQ l s ∧ cntQ l s ≤ n := by
  unfold cntQ
  cases ha : atQ l s with
  | none => exact ⟨by simp, hn⟩
  | some x => have := h x (atQ_mem ha).1; exact ⟨by show 0 ≤ x.t; omega, this.2.2⟩
theorem OkQ.tms {n : Int} {l : List En} (h : OkQ n l) (hn : 0 ≤ n) (s p : Int) : 0 ≤ tmsQ l s p ∧ tmsQ l s p ≤ n := by
  unfold tmsQ
  split
  · exact h.cnt hn s
  · exact ⟨Int.le_refl _, hn⟩
set_option maxRecDepth 100000 in
set_option maxHeartbeats 4000000 in
theorem taken_any (q M : Nat) (n : Int) (l : List En) (s p : Int) (w : World) (h : QB w q M n l) (hs : in64 s) :
    Calls Try.prog 26 #[.pointer (some ⟨q, 0, none⟩), .int .i64 s, .int .i64 p] w fun e w' => e = .returned (.int .i64 (tmsQ l s p)) ∧ Below w.heap.size w w' := by
  have hc := h.cells.2
  have hlk := h.hm.look1 s hs
  have hR : ∀ P, perQ l s = P → tmsQ l s p = if P = p then cntQ l s else 0 := by rintro P rfl; rfl
  obtain ⟨P, hP⟩ : ∃ P, perQ l s = P := ⟨_, rfl⟩
  rw [hR P hP]
  obtain ⟨C, hC⟩ : ∃ C, cntQ l s = C := ⟨_, rfl⟩
  rw [hP, hC] at hlk
  rw [hC]
  have HB : Bx (Below w.heap.size w (w.alloc (.cells #[.int .i64 P, .int .i64 C] 60))) := Bx.mk (below_a _)
  clear h hs hR hP hC
  by_cases h4 : P = p
  · subst h4
    rw [if_pos rfl]
    go_enter Try.func26, Try.ntmps26
    go_wp2
    go_ret
    exact ⟨rfl, HB.out⟩
  · rw [if_neg h4]
    go_enter Try.func26, Try.ntmps26
    go_wp2
    go_ret
    exact ⟨rfl, HB.out⟩
set_option maxRecDepth 100000 in
set_option maxHeartbeats 4000000 in
theorem qtimes_any (q M : Nat) (n : Int) (l : List En) (w : World) (h : QB w q M n l) : Calls Try.prog 10 #[.pointer (some ⟨q, 0, none⟩)] w fun e w' => e = .returned (.int .i64 n) ∧ w = w' := by
  have hc := h.cells.1
  clear h
  go_enter Try.func10, Try.ntmps10
  go_wp2
  go_ret
  exact ⟨rfl, rfl⟩
/-- How many times a sender may be taken still. -/
def leftK (l : List En) (n s t : Int) : Int := if refK l s t = 0 then n - tmsQ l s (perT t) else 0
set_option maxRecDepth 100000 in
set_option maxHeartbeats 4000000 in
theorem left_any (q M : Nat) (n : Int) (l : List En) (s t : Int) (w : World) (h : QB w q M n l) (hs : in64 s) (ht : in64 t) (hok : OkQ n l) (h1 : 0 ≤ n) (h2 : n ≤ 255) :
    Calls Try.prog 20 #[.pointer (some ⟨q, 0, none⟩), .int .i64 s, .int .i64 t] w fun e w' => e = .returned (.int .i64 (leftK l n s t)) ∧ Below w.heap.size w w' := by
  have HR := Bx.mk (qref_any q M n l s t w h hs ht)
  have HQ := Bx.mk h
  have HT := Bx.mk ht
  have HSn := Bx.mk hs
  unfold leftK
  cases hr : decide (refK l s t = 0)
  · have hr0 := of_decide_eq_false hr
    rw [if_neg hr0]
    obtain ⟨R, hRR⟩ : ∃ R, refK l s t = R := ⟨_, rfl⟩
    rw [hRR] at HR hr0
    clear h hs ht hok hr hRR
    go_enter Try.func20, Try.ntmps20
    go_wp2_with fail
    refine HR.out.mono ?_
    rintro e w1 ⟨rfl, hb⟩
    have HB := Bx.mk hb
    clear hb
    go_wp2
    go_ret
    exact ⟨rfl, HB.out⟩
  · have hr0 := of_decide_eq_true hr
    rw [if_pos hr0]
    rw [hr0] at HR
    obtain ⟨b1, b2⟩ := hok.tms h1 s (perT t)
    have hw : IntKind.i64.wrap (n - tmsQ l s (perT t)) = n - tmsQ l s (perT t) := by simp [IntKind.wrap_i64]; omega
    clear h hs ht hok hr hr0
    go_enter Try.func20, Try.ntmps20
    go_wp2_with fail
    refine HR.out.mono ?_
    rintro e w1 ⟨rfl, hb⟩
    have R0 := Bx.mk (And.intro (hb.trans (Below.refl _ _).drew) (HQ.out.later (hb.trans (Below.refl _ _).drew)))
    clear hb
    go_upto_region 3 with fail
    refine wp_region_noPanic ?_
    refine wp_region_held_drew (S := fun W => W.cell? ⟨q, 0, none⟩ = some (.int .i64 n)) (by kernel_rfl) (R0.out.2.cells.1) (fun hHeld => ?_)
    generalize w1.drew = W0 at *
    refine takeL 0 (v := ?_) rfl (by kernel_rfl) (by kernel_rfl) (by kernel_rfl) (fun _ _ _ h => h) (Or.inl ⟨by rfl, ?_⟩) hHeld ?_
    rotate_left 1
    · (intro w hSw; go_simp; try with_reducible rfl)
    try simp only [Act.put, List.setIfInBounds_toArray, List.set_cons_zero, List.set_cons_succ]
    refine takeL 1 (v := ?_) rfl (by kernel_rfl) (by kernel_rfl) (by kernel_rfl) (fun _ _ _ h => h) (Or.inl ⟨by rfl, ?_⟩) hHeld ?_
    rotate_left 1
    · (intro w hSw; go_simp; try with_reducible rfl)
    try simp only [Act.put, List.setIfInBounds_toArray, List.set_cons_zero, List.set_cons_succ]
    refine takeL 2 (v := ?_) rfl (by kernel_rfl) (by kernel_rfl) (by kernel_rfl) (fun _ _ _ h => h) (Or.inl ⟨by rfl, ?_⟩) hHeld ?_
    rotate_left 1
    · (intro w hSw; go_simp; try with_reducible rfl)
    try simp only [Act.put, List.setIfInBounds_toArray, List.set_cons_zero, List.set_cons_succ]
    refine takeL 3 (v := ?_) rfl (by kernel_rfl) (by kernel_rfl) (by kernel_rfl) (fun _ _ _ h => h) (Or.inl ⟨by rfl, ?_⟩) hHeld ?_
    rotate_left 1
    · (intro w hSw; go_simp; try with_reducible rfl)
    try simp only [Act.put, List.setIfInBounds_toArray, List.set_cons_zero, List.set_cons_succ]
    refine takeL 4 (v := ?_) rfl (by kernel_rfl) (by kernel_rfl) (by kernel_rfl) (fun _ _ _ h => h) (Or.inl ⟨by rfl, ?_⟩) hHeld ?_
    rotate_left 1
    · (intro w hSw; go_simp; try with_reducible rfl)
    try simp only [Act.put, List.setIfInBounds_toArray, List.set_cons_zero, List.set_cons_succ]
    refine takeL 5 (v := ?_) rfl (by kernel_rfl) (by kernel_rfl) (by kernel_rfl) (fun _ _ _ h => h) (Or.inl ⟨by rfl, ?_⟩) hHeld ?_
    rotate_left 1
    · (intro w hSw; go_simp; try with_reducible rfl)
    try simp only [Act.put, List.setIfInBounds_toArray, List.set_cons_zero, List.set_cons_succ]
    refine takeL 6 (v := ?_) rfl (by kernel_rfl) (by kernel_rfl) (by kernel_rfl) (fun _ _ _ h => h) (Or.inl ⟨by rfl, ?_⟩) hHeld ?_
    rotate_left 1
    · (intro w hSw; go_simp; try with_reducible rfl)
    try simp only [Act.put, List.setIfInBounds_toArray, List.set_cons_zero, List.set_cons_succ]
    refine stepL 7 (by kernel_rfl) rfl (fun K hK => ?_)
    go_simp
    refine (period_any t _ HT.out.1 HT.out.2).mono ?_
    rintro e Wx ⟨rfl, rfl⟩
    show K _ _
    refine hK.out _ _ (R0.out.2.cells.1) (fun hHeld => ?_)
    clear hK K
    try simp only [Act.put, List.setIfInBounds_toArray, List.set_cons_zero, List.set_cons_succ]
    refine stepL 8 (by kernel_rfl) rfl (fun K hK => ?_)
    go_simp
    refine (taken_any q M n l s (perT t) _ R0.out.2 HSn.out).mono ?_
    rintro e W2 ⟨rfl, hb⟩
    show K _ _
    have R1 := Bx.mk (And.intro (R0.out.1.trans (hb.mono R0.out.1.size)) (R0.out.2.later hb))
    clear hb R0
    refine hK.out _ _ (R1.out.2.cells.1) (fun hHeld => ?_)
    clear hK K
    try simp only [Act.put, List.setIfInBounds_toArray, List.set_cons_zero, List.set_cons_succ]
    refine takeL 9 (v := ?_) rfl (by kernel_rfl) (by kernel_rfl) (by kernel_rfl) (fun _ _ _ h => h) (Or.inl ⟨by rfl, ?_⟩) hHeld ?_
    rotate_left 1
    · (intro w hSw; go_simp; try with_reducible rfl)
    try simp only [Act.put, List.setIfInBounds_toArray, List.set_cons_zero, List.set_cons_succ]
    refine takeL 10 (v := ?_) rfl (by kernel_rfl) (by kernel_rfl) (by kernel_rfl) (fun _ _ _ h => h) (Or.inl ⟨by rfl, ?_⟩) hHeld ?_
    rotate_left 1
    · (intro w hSw; go_simp; try with_reducible rfl)
    try simp only [Act.put, List.setIfInBounds_toArray, List.set_cons_zero, List.set_cons_succ]
    refine wpAnyH_done (by kernel_rfl) ?_ _
    refine NoPanic.normal ?_
    clear hHeld
    go_wp2
    go_ret
    exact ⟨rfl, R1.out.1⟩
/-- What Take tells. -/
def takeE (l : List En) (n s t : Int) : Int := if refK l s t = 0 then (if n ≤ tmsQ l s (perT t) then 15 else if hasQ l s = false ∧ 16 ≤ (l.length : Int) then 6 else 0) else refK l s t
/-- What Take leaves. -/
def takeN (l : List En) (n s t : Int) : List En := if takeE l n s t = 0 then putQ l ⟨s, perT t, tmsQ l s (perT t) + 1⟩ else l
set_option maxRecDepth 100000 in
set_option maxHeartbeats 4000000 in
theorem qtake_ref (q M : Nat) (n : Int) (l : List En) (s t : Int) (w : World) (h : QB w q M n l) (hs : in64 s) (ht : in64 t) (hr : ¬ refK l s t = 0) :
    Calls Try.prog 16 #[.pointer (some ⟨q, 0, none⟩), .int .i64 s, .int .i64 t] w fun e w' => e = .returned (.int .i64 (refK l s t)) ∧ Below w.heap.size w w' := by
  have HR := Bx.mk (qref_any q M n l s t w h hs ht)
  generalize refK l s t = R at *
  clear h hs ht
  go_enter Try.func16, Try.ntmps16
  go_wp2_with fail
  refine HR.out.mono ?_
  rintro e w1 ⟨rfl, hb⟩
  have HB := Bx.mk hb
  clear hb
  go_wp2
  go_ret
  exact ⟨rfl, HB.out⟩
set_option maxRecDepth 100000 in
set_option maxHeartbeats 4000000 in
theorem qtake_quota (q M : Nat) (n : Int) (l : List En) (s t : Int) (w : World) (h : QB w q M n l) (hs : in64 s) (ht : in64 t) (hr : refK l s t = 0) (hq : n ≤ tmsQ l s (perT t)) :
    Calls Try.prog 16 #[.pointer (some ⟨q, 0, none⟩), .int .i64 s, .int .i64 t] w fun e w' => e = .returned (.int .i64 15) ∧ Below w.heap.size w w' := by
  have HR := Bx.mk (qref_any q M n l s t w h hs ht)
  rw [hr] at HR
  have HP := Bx.mk fun (W : World) => period_any t W ht.1 ht.2
  have HTk := Bx.mk fun (W : World) (h : QB W q M n l) => taken_any q M n l s (perT t) W h hs
  have HLk := Bx.mk fun (W : World) (h : QB W q M n l) => h.hm.look2 s hs
  have HLn := Bx.mk fun (W : World) (h : QB W q M n l) (ty : TypeId) => h.hm.len ty
  have HQ := Bx.mk h
  generalize tmsQ l s (perT t) = T at *
  generalize hasQ l s = B at *
  generalize perT t = pt at *
  generalize perQ l s = P at *
  generalize cntQ l s = C at *
  generalize l.length = L at *
  clear h hs ht hr
  go_enter Try.func16, Try.ntmps16
  go_wp2_with fail
  refine HR.out.mono ?_
  rintro e w1 ⟨rfl, hb⟩
  have R1 := Bx.mk (And.intro hb (HQ.out.later hb))
  clear hb HR
  go_wp2_with fail
  refine (HP.out w1).mono ?_
  rintro e w1' ⟨rfl, rfl⟩
  go_wp2_with fail
  refine (HTk.out w1 R1.out.2).mono ?_
  rintro e w2 ⟨rfl, hb⟩
  have R2 := Bx.mk (And.intro (R1.out.1.trans (hb.mono R1.out.1.size)) (R1.out.2.later hb))
  clear hb R1
  have hc1 := R2.out.2.cells.2
  have hlk := HLk.out w2 R2.out.2
  have R3 : Bx (Below w.heap.size w (w2.alloc (.cells #[.int .i64 P, .int .i64 C] 60)) ∧ QB (w2.alloc (.cells #[.int .i64 P, .int .i64 C] 60)) q M n l) := Bx.mk (And.intro (R2.out.1.trans ((below_a _).mono R2.out.1.size)) (R2.out.2.later (below_a _)))
  clear R2
  go_upto_region 7 with fail
  skip -- M1
  clear hlk hc1
  generalize w2.alloc (.cells #[.int .i64 P, .int .i64 C] 60) = w3 at *
  have d1 := R3.out.2.cells.1
  have d2 := R3.out.2.cells.2
  have hln := HLn.out w3 R3.out.2
  go_wp2
  go_ret
  exact ⟨rfl, R3.out.1⟩
set_option maxRecDepth 100000 in
set_option maxHeartbeats 4000000 in
theorem qtake_full (q M : Nat) (n : Int) (l : List En) (s t : Int) (w : World) (h : QB w q M n l) (hs : in64 s) (ht : in64 t) (hr : refK l s t = 0) (hq : ¬ n ≤ tmsQ l s (perT t)) (hB : hasQ l s = false) (hL : 16 ≤ (l.length : Int)) :
    Calls Try.prog 16 #[.pointer (some ⟨q, 0, none⟩), .int .i64 s, .int .i64 t] w fun e w' => e = .returned (.int .i64 6) ∧ Below w.heap.size w w' := by
  have HR := Bx.mk (qref_any q M n l s t w h hs ht)
  rw [hr] at HR
  have HP := Bx.mk fun (W : World) => period_any t W ht.1 ht.2
  have HTk := Bx.mk fun (W : World) (h : QB W q M n l) => taken_any q M n l s (perT t) W h hs
  have HLk := Bx.mk fun (W : World) (h : QB W q M n l) => h.hm.look2 s hs
  have HLn := Bx.mk fun (W : World) (h : QB W q M n l) (ty : TypeId) => h.hm.len ty
  have HQ := Bx.mk h
  rw [hB] at HLk
  clear hB
  generalize tmsQ l s (perT t) = T at *
  generalize hasQ l s = B at *
  generalize perT t = pt at *
  generalize perQ l s = P at *
  generalize cntQ l s = C at *
  generalize l.length = L at *
  clear h hs ht hr
  go_enter Try.func16, Try.ntmps16
  go_wp2_with fail
  refine HR.out.mono ?_
  rintro e w1 ⟨rfl, hb⟩
  have R1 := Bx.mk (And.intro hb (HQ.out.later hb))
  clear hb HR
  go_wp2_with fail
  refine (HP.out w1).mono ?_
  rintro e w1' ⟨rfl, rfl⟩
  go_wp2_with fail
  refine (HTk.out w1 R1.out.2).mono ?_
  rintro e w2 ⟨rfl, hb⟩
  have R2 := Bx.mk (And.intro (R1.out.1.trans (hb.mono R1.out.1.size)) (R1.out.2.later hb))
  clear hb R1
  have hc1 := R2.out.2.cells.2
  have hlk := HLk.out w2 R2.out.2
  have R3 : Bx (Below w.heap.size w (w2.alloc (.cells #[.int .i64 P, .int .i64 C] 60)) ∧ QB (w2.alloc (.cells #[.int .i64 P, .int .i64 C] 60)) q M n l) := Bx.mk (And.intro (R2.out.1.trans ((below_a _).mono R2.out.1.size)) (R2.out.2.later (below_a _)))
  clear R2
  go_upto_region 7 with fail
  skip -- M1
  clear hlk hc1
  generalize w2.alloc (.cells #[.int .i64 P, .int .i64 C] 60) = w3 at *
  have d1 := R3.out.2.cells.1
  have d2 := R3.out.2.cells.2
  have hln := HLn.out w3 R3.out.2
  go_wp2
  go_ret
  exact ⟨rfl, R3.out.1⟩
set_option maxRecDepth 100000 in
set_option maxHeartbeats 4000000 in
theorem qtake_ok1 (q M : Nat) (n : Int) (l : List En) (s t : Int) (w : World) (h : QB w q M n l) (hs : in64 s) (ht : in64 t) (hr : refK l s t = 0) (hq : ¬ n ≤ tmsQ l s (perT t)) (h1 : 0 ≤ tmsQ l s (perT t)) (h2 : n ≤ 255) (hB : hasQ l s = true) :
    Calls Try.prog 16 #[.pointer (some ⟨q, 0, none⟩), .int .i64 s, .int .i64 t] w fun e w' => e = .returned (.int .i64 0) ∧ QB w' q M n (putQ l ⟨s, perT t, tmsQ l s (perT t) + 1⟩) ∧ w.grownBy w' (some M) := by
  have HR := Bx.mk (qref_any q M n l s t w h hs ht)
  rw [hr] at HR
  have HP := Bx.mk fun (W : World) => period_any t W ht.1 ht.2
  have HTk := Bx.mk fun (W : World) (h : QB W q M n l) => taken_any q M n l s (perT t) W h hs
  have HLk := Bx.mk fun (W : World) (h : QB W q M n l) => h.hm.look2 s hs
  have HLn := Bx.mk fun (W : World) (h : QB W q M n l) (ty : TypeId) => h.hm.len ty
  have HQ := Bx.mk h
  have HPu := Bx.mk fun (W : World) (h : QB W q M n l) => h.hm.put ⟨s, perT t, tmsQ l s (perT t) + 1⟩ hs
  have hwr : IntKind.i64.wrap (tmsQ l s (perT t) + 1) = tmsQ l s (perT t) + 1 := by simp [IntKind.wrap_i64]; omega
  have hp64 : 0 ≤ tmsQ l s (perT t) := h1
  generalize putQ l ⟨s, perT t, tmsQ l s (perT t) + 1⟩ = l1 at *
  rw [hB] at HLk
  clear hB
  generalize tmsQ l s (perT t) = T at *
  generalize hasQ l s = B at *
  generalize perT t = pt at *
  generalize perQ l s = P at *
  generalize cntQ l s = C at *
  generalize l.length = L at *
  clear h hs ht hr
  go_enter Try.func16, Try.ntmps16
  go_wp2_with fail
  refine HR.out.mono ?_
  rintro e w1 ⟨rfl, hb⟩
  have R1 := Bx.mk (And.intro hb (HQ.out.later hb))
  clear hb HR
  go_wp2_with fail
  refine (HP.out w1).mono ?_
  rintro e w1' ⟨rfl, rfl⟩
  go_wp2_with fail
  refine (HTk.out w1 R1.out.2).mono ?_
  rintro e w2 ⟨rfl, hb⟩
  have R2 := Bx.mk (And.intro (R1.out.1.trans (hb.mono R1.out.1.size)) (R1.out.2.later hb))
  clear hb R1
  have hc1 := R2.out.2.cells.2
  have hlk := HLk.out w2 R2.out.2
  have R3 : Bx (Below w.heap.size w (w2.alloc (.cells #[.int .i64 P, .int .i64 C] 60)) ∧ QB (w2.alloc (.cells #[.int .i64 P, .int .i64 C] 60)) q M n l) := Bx.mk (And.intro (R2.out.1.trans ((below_a _).mono R2.out.1.size)) (R2.out.2.later (below_a _)))
  clear R2
  go_upto_region 7 with fail
  skip -- M1
  clear hlk hc1
  generalize w2.alloc (.cells #[.int .i64 P, .int .i64 C] 60) = w3 at *
  have d1 := R3.out.2.cells.1
  have d2 := R3.out.2.cells.2
  have hln := HLn.out w3 R3.out.2
  obtain ⟨w4, hp, hm4, hg4, -⟩ := HPu.out w3 R3.out.2
  have R4 := Bx.mk (And.intro (R3.out.2.turn hg4 hm4) (kb_trans (kb_below _ R3.out.1) hg4))
  clear hm4 hg4 HPu
  go_wp2
  go_ret
  exact ⟨rfl, R4.out⟩
set_option maxRecDepth 100000 in
set_option maxHeartbeats 4000000 in
theorem qtake_ok2 (q M : Nat) (n : Int) (l : List En) (s t : Int) (w : World) (h : QB w q M n l) (hs : in64 s) (ht : in64 t) (hr : refK l s t = 0) (hq : ¬ n ≤ tmsQ l s (perT t)) (h1 : 0 ≤ tmsQ l s (perT t)) (h2 : n ≤ 255) (hB : hasQ l s = false) (hL : ¬ 16 ≤ (l.length : Int)) :
    Calls Try.prog 16 #[.pointer (some ⟨q, 0, none⟩), .int .i64 s, .int .i64 t] w fun e w' => e = .returned (.int .i64 0) ∧ QB w' q M n (putQ l ⟨s, perT t, tmsQ l s (perT t) + 1⟩) ∧ w.grownBy w' (some M) := by
  have HR := Bx.mk (qref_any q M n l s t w h hs ht)
  rw [hr] at HR
  have HP := Bx.mk fun (W : World) => period_any t W ht.1 ht.2
  have HTk := Bx.mk fun (W : World) (h : QB W q M n l) => taken_any q M n l s (perT t) W h hs
  have HLk := Bx.mk fun (W : World) (h : QB W q M n l) => h.hm.look2 s hs
  have HLn := Bx.mk fun (W : World) (h : QB W q M n l) (ty : TypeId) => h.hm.len ty
  have HQ := Bx.mk h
  have HPu := Bx.mk fun (W : World) (h : QB W q M n l) => h.hm.put ⟨s, perT t, tmsQ l s (perT t) + 1⟩ hs
  have hwr : IntKind.i64.wrap (tmsQ l s (perT t) + 1) = tmsQ l s (perT t) + 1 := by simp [IntKind.wrap_i64]; omega
  have hp64 : 0 ≤ tmsQ l s (perT t) := h1
  generalize putQ l ⟨s, perT t, tmsQ l s (perT t) + 1⟩ = l1 at *
  rw [hB] at HLk
  clear hB
  generalize tmsQ l s (perT t) = T at *
  generalize hasQ l s = B at *
  generalize perT t = pt at *
  generalize perQ l s = P at *
  generalize cntQ l s = C at *
  generalize l.length = L at *
  clear h hs ht hr
  go_enter Try.func16, Try.ntmps16
  go_wp2_with fail
  refine HR.out.mono ?_
  rintro e w1 ⟨rfl, hb⟩
  have R1 := Bx.mk (And.intro hb (HQ.out.later hb))
  clear hb HR
  go_wp2_with fail
  refine (HP.out w1).mono ?_
  rintro e w1' ⟨rfl, rfl⟩
  go_wp2_with fail
  refine (HTk.out w1 R1.out.2).mono ?_
  rintro e w2 ⟨rfl, hb⟩
  have R2 := Bx.mk (And.intro (R1.out.1.trans (hb.mono R1.out.1.size)) (R1.out.2.later hb))
  clear hb R1
  have hc1 := R2.out.2.cells.2
  have hlk := HLk.out w2 R2.out.2
  have R3 : Bx (Below w.heap.size w (w2.alloc (.cells #[.int .i64 P, .int .i64 C] 60)) ∧ QB (w2.alloc (.cells #[.int .i64 P, .int .i64 C] 60)) q M n l) := Bx.mk (And.intro (R2.out.1.trans ((below_a _).mono R2.out.1.size)) (R2.out.2.later (below_a _)))
  clear R2
  go_upto_region 7 with fail
  skip -- M1
  clear hlk hc1
  generalize w2.alloc (.cells #[.int .i64 P, .int .i64 C] 60) = w3 at *
  have d1 := R3.out.2.cells.1
  have d2 := R3.out.2.cells.2
  have hln := HLn.out w3 R3.out.2
  obtain ⟨w4, hp, hm4, hg4, -⟩ := HPu.out w3 R3.out.2
  have R4 := Bx.mk (And.intro (R3.out.2.turn hg4 hm4) (kb_trans (kb_below _ R3.out.1) hg4))
  clear hm4 hg4 HPu
  go_wp2
  go_ret
  exact ⟨rfl, R4.out⟩
theorem qtake_any (q M : Nat) (n : Int) (l : List En) (s t : Int) (w : World) (h : QB w q M n l) (hs : in64 s) (ht : in64 t) (hok : OkQ n l) (h1 : 1 ≤ n) (h2 : n ≤ 255) :
    Calls Try.prog 16 #[.pointer (some ⟨q, 0, none⟩), .int .i64 s, .int .i64 t] w fun e w' => e = .returned (.int .i64 (takeE l n s t)) ∧ QB w' q M n (takeN l n s t) ∧ w.grownBy w' (some M) := by
  unfold takeN
  by_cases hr : refK l s t = 0
  · have hb := hok.tms (by omega) s (perT t)
    by_cases hq : n ≤ tmsQ l s (perT t)
    · have e : takeE l n s t = 15 := by unfold takeE; rw [if_pos hr, if_pos hq]
      rw [e, if_neg (by decide)]
      exact (qtake_quota q M n l s t w h hs ht hr hq).mono fun _ _ ⟨a, b⟩ => ⟨a, h.later b, kb_below _ b⟩
    · cases hB : hasQ l s with
      | true =>
        have e : takeE l n s t = 0 := by unfold takeE; rw [if_pos hr, if_neg hq, if_neg (by rw [hB]; simp)]
        rw [e, if_pos rfl]
        exact qtake_ok1 q M n l s t w h hs ht hr hq hb.1 h2 hB
      | false =>
        by_cases hL : 16 ≤ (l.length : Int)
        · have e : takeE l n s t = 6 := by unfold takeE; rw [if_pos hr, if_neg hq, if_pos ⟨hB, hL⟩]
          rw [e, if_neg (by decide)]
          exact (qtake_full q M n l s t w h hs ht hr hq hB hL).mono fun _ _ ⟨a, b⟩ => ⟨a, h.later b, kb_below _ b⟩
        · have e : takeE l n s t = 0 := by unfold takeE; rw [if_pos hr, if_neg hq, if_neg (fun h => hL h.2)]
          rw [e, if_pos rfl]
          exact qtake_ok2 q M n l s t w h hs ht hr hq hb.1 h2 hB hL
  · have e : takeE l n s t = refK l s t := by unfold takeE; rw [if_neg hr]
    rw [e, if_neg hr]
    exact (qtake_ref q M n l s t w h hs ht hr).mono fun _ _ ⟨a, b⟩ => ⟨a, h.later b, kb_below _ b⟩
theorem putQ_ok {n : Int} {l : List En} {c : En} (h : OkQ n l) (hc : 0 ≤ c.p ∧ 1 ≤ c.t ∧ c.t ≤ n) : OkQ n (putQ l c) := by
  intro x hx
  unfold putQ at hx
  split at hx
  · obtain ⟨y, hy, rfl⟩ := List.mem_map.1 hx
    split
    · exact hc
    · exact h y hy
  · rcases List.mem_append.1 hx with hx | hx
    · exact h x hx
    · obtain rfl : x = c := by simpa using hx
      exact hc
theorem perT_nonneg (t : Int) : 0 ≤ perT t := by unfold perT; omega
theorem takeN_ok {n : Int} {l : List En} (h : OkQ n l) (hn : 1 ≤ n) (s t : Int) : OkQ n (takeN l n s t) := by
  unfold takeN
  split
  · rename_i he
    have hb := h.tms (by omega) s (perT t)
    refine putQ_ok h ⟨perT_nonneg t, by show 1 ≤ tmsQ l s (perT t) + 1; omega, ?_⟩
    show tmsQ l s (perT t) + 1 ≤ n
    unfold takeE at he
    split at he
    · split at he
      · cases he
      · omega
    · contradiction
  · exact h
theorem ok_nil (n : Int) : OkQ n [] := fun x hx => by cases hx
end Go.Proofs.Ytplkoijgokkmfaa
