/-
  A ring's methods: Add.
-/
import Derived.Test.YtnefpjdjnjcmbaaGreatDoorYn
import Derived.Test.YtnefpjdjnjcmbaaGreatDoorCu
import Derived.Test.YtnefpjdjnjcmbaaGreatDoorCb
namespace Go.Proofs.YtnefpjdjnjcmbaaGreatDoor
open Go Go.RowKit
theorem Kept.pre {R B : Nat} {tk lb : List Value} {l : List (Cl × Nat)} {c : Cl} {bs : List UInt8} {w W w' : World} (hb : Below w.heap.size w W) (h : Kept R B tk lb l c bs W w') : Kept R B tk lb l c bs w w' := by
  obtain ⟨M, p, h1, h2, h3, h4, h5⟩ := h
  exact ⟨M, p, h1, h2, h3, h4.weak hb.size, (KP.below hb).trans h5⟩
theorem keep_any (R B : Nat) (tk : List Value) (mv : Value) (lb : List Value) (l : List (Cl × Nat)) (c : Cl) (bs : List UInt8) (v : Value) (w : World) (hr : RingAt w R tk mv lb) (hm : MapV w B mv l) (hRB : R < B) (hB : B ≤ w.heap.size) (hc : Cl64 c) (ha : atC l c = none) (hk : KeyO w B v bs) (hbl : bs.length ≤ 140737488355328) :
    Calls Tryz.prog 31 #[.pointer (some ⟨R, 0, none⟩), clV c, v] w fun e w' => e = .returned (.tuple #[]) ∧ Kept R B tk lb l c bs w w' := by
  rcases hm with ⟨rfl, rfl⟩ | ⟨M, rfl, hM, h3⟩
  · exact keep_nil R B tk lb c bs v w hr hRB hB hc hk.key (fun W k => (hk.keep k hRB hRB).key) hbl
  · refine keep_map R B M tk lb l c bs v w hr hRB hB hM h3 hc (fun x hx e => ?_) hk.key hbl
    rw [← e, atC_some h3.nd hx] at ha
    cases ha
set_option maxRecDepth 100000 in
set_option maxHeartbeats 1000000 in
theorem ring_add_bad (R : Nat) (c : Cl) (v : Value) (w : World) (hok : okC c = false) :
    Calls Tryz.prog 9 #[.pointer (some ⟨R, 0, none⟩), clV c, v] w fun e w' => e = .returned (.int .i64 10) ∧ Below w.heap.size w w' := by
  have HCk : Bx (∀ W, Calls Tryz.prog 30 #[clV c] W fun e w' => e = .returned (.int .i64 10) ∧ Below W.heap.size W w') := Bx.mk fun W => by
    have h := ccheck_any c W
    rw [if_neg (by rw [hok]; exact Bool.false_ne_true)] at h
    exact h
  clear hok
  obtain ⟨i, r, x, q⟩ := c
  unfold clV at *
  simp only at HCk ⊢
  obtain ⟨E, hE⟩ : ∃ E, w.heap.size = E := ⟨_, rfl⟩
  have H0 := Bx.mk ((KS.start w E hE).new (.cells #[.int .i64 i, .int .i64 r, .int .i64 x, .int .i64 q] 26))
  rw [hE] at H0 ⊢
  have hc0 := row_rng (l := [.int .i64 i, .int .i64 r, .int .i64 x, .int .i64 q]) (H0.out.rows _ (.head _))
  go_enter Tryz.func9, Tryz.ntmps9
  go_wp2_with fail
  refine (HCk.out _).mono ?_
  rintro e w1 ⟨rfl, hb⟩
  have H1 := Bx.mk (H0.out.later hb)
  clear hb hc0 H0 HCk
  go_wp2
  go_ret
  exact ⟨rfl, H1.out.below⟩
set_option maxRecDepth 100000 in
set_option maxHeartbeats 1000000 in
theorem ring_add_nokey (R : Nat) (c : Cl) (w : World) (hok : okC c = true) :
    Calls Tryz.prog 9 #[.pointer (some ⟨R, 0, none⟩), clV c, .pointer none] w fun e w' => e = .returned (.int .i64 1) ∧ Below w.heap.size w w' := by
  have HCk : Bx (∀ W, Calls Tryz.prog 30 #[clV c] W fun e w' => e = .returned (.int .i64 0) ∧ Below W.heap.size W w') := Bx.mk fun W => by
    have h := ccheck_any c W
    rw [if_pos hok] at h
    exact h
  clear hok
  obtain ⟨i, r, x, q⟩ := c
  unfold clV at *
  simp only at HCk ⊢
  obtain ⟨E, hE⟩ : ∃ E, w.heap.size = E := ⟨_, rfl⟩
  have H0 := Bx.mk ((KS.start w E hE).new (.cells #[.int .i64 i, .int .i64 r, .int .i64 x, .int .i64 q] 26))
  rw [hE] at H0 ⊢
  have hc0 := row_rng (l := [.int .i64 i, .int .i64 r, .int .i64 x, .int .i64 q]) (H0.out.rows _ (.head _))
  go_enter Tryz.func9, Tryz.ntmps9
  go_wp2_with fail
  refine (HCk.out _).mono ?_
  rintro e w1 ⟨rfl, hb⟩
  have H1 := Bx.mk (H0.out.later hb)
  clear hb hc0 H0 HCk
  go_wp2
  go_ret
  exact ⟨rfl, H1.out.below⟩
set_option maxRecDepth 100000 in
set_option maxHeartbeats 1000000 in
theorem ring_add_twice (R B : Nat) (tk : List Value) (mv : Value) (lb : List Value) (l : List (Cl × Nat)) (c : Cl) (pk : Nat) (w : World) (hr : RingAt w R tk mv lb) (hm : MapV w B mv l) (hc : Cl64 c) (hok : okC c = true) (p : Nat) (ha : atC l c = some p) :
    Calls Tryz.prog 9 #[.pointer (some ⟨R, 0, none⟩), clV c, ptr pk] w fun e w' => e = .returned (.int .i64 8) ∧ Below w.heap.size w w' := by
  have HCk : Bx (∀ W, Calls Tryz.prog 30 #[clV c] W fun e w' => e = .returned (.int .i64 0) ∧ Below W.heap.size W w') := Bx.mk fun W => by
    have h := ccheck_any c W
    rw [if_pos hok] at h
    exact h
  have HLo : Bx (∀ W, Below w.heap.size w W → (Instr.lookup 70 mv (clV c) true).run Tryz.prog W = .ok (.tuple #[.pointer (some ⟨p, 0, none⟩), .bool true]) W ∧ W.cell? ⟨R, 36, none⟩ = some mv ∧ ∀ ty, (Builtin.len_ #[70] ty #[mv]).run Tryz.prog W = .ok (.int .i64 (l.length : Int)) W) := Bx.mk fun W hb => ⟨by
    have h := (hm.later hb).look c hc
    rw [ha] at h
    exact h, (hr.later (hb.block R hr.lt)).map, fun ty => (hm.later hb).len ty⟩
  clear hr hm hc ha hok
  obtain ⟨i, r, x, q⟩ := c
  unfold clV ptr at *
  simp only at HLo HCk ⊢
  obtain ⟨E, hE⟩ : ∃ E, w.heap.size = E := ⟨_, rfl⟩
  have H0 := Bx.mk ((KS.start w E hE).new (.cells #[.int .i64 i, .int .i64 r, .int .i64 x, .int .i64 q] 26))
  rw [hE] at H0 HLo ⊢
  have hc0 := row_rng (l := [.int .i64 i, .int .i64 r, .int .i64 x, .int .i64 q]) (H0.out.rows _ (.head _))
  go_enter Tryz.func9, Tryz.ntmps9
  go_wp2_with fail
  refine (HCk.out _).mono ?_
  rintro e w1 ⟨rfl, hb⟩
  have H1 := Bx.mk (H0.out.later hb)
  clear hb hc0 H0 HCk
  go_upto_region 8 with fail
  have R0 := Bx.mk H1.out.drew
  clear H1
  refine wp_region_noPanic ?_
  refine wp_region_held_drew (S := fun W => W.cell? ⟨R, 36, none⟩ = some mv ∧ (W.rangeAt E 0 [.int .i64 i, .int .i64 r, .int .i64 x, .int .i64 q] ∧ (Instr.lookup 70 mv (.agg #[.int .i64 i, .int .i64 r, .int .i64 x, .int .i64 q]) true).run Tryz.prog W = .ok (.tuple #[.pointer (some ⟨p, 0, none⟩), .bool true]) W)) (by kernel_rfl) (⟨(HLo.out _ R0.out.below).2.1, row_rng (l := [.int .i64 i, .int .i64 r, .int .i64 x, .int .i64 q]) (R0.out.rows _ (.head _)), (HLo.out _ R0.out.below).1⟩) (fun hHeld => ?_)
  generalize w1.drew = W0 at *
  refine takeL 0 (v := ?_) rfl (by kernel_rfl) (by kernel_rfl) (by kernel_rfl) (fun _ _ _ h => h) (Or.inl ⟨by rfl, ?_⟩) hHeld ?_
  rotate_left 1
  · (intro w hSw; go_simp; try with_reducible rfl)
  try simp only [Act.put, List.setIfInBounds_toArray, List.set_cons_zero, List.set_cons_succ]
  refine takeL 1 (v := ?_) rfl (by kernel_rfl) (by kernel_rfl) (by kernel_rfl) (fun _ _ _ h => h) (Or.inl ⟨by rfl, ?_⟩) hHeld ?_
  rotate_left 1
  · (intro w hSw; go_simp; try with_reducible rfl)
  try simp only [Act.put, List.setIfInBounds_toArray, List.set_cons_zero, List.set_cons_succ]
  refine takeL 2 (v := ?_) rfl (by kernel_rfl) (by kernel_rfl) (by kernel_rfl) (fun _ _ _ h => h) (Or.inl ⟨by rfl, ?_⟩) hHeld ?_
  rotate_left 1
  · (intro w hSw; go_simp; try with_reducible rfl)
  try simp only [Act.put, List.setIfInBounds_toArray, List.set_cons_zero, List.set_cons_succ]
  refine takeL 3 (v := ?_) rfl (by kernel_rfl) (by kernel_rfl) (by kernel_rfl) (fun _ _ _ h => h) (Or.inl ⟨by rfl, ?_⟩) hHeld ?_
  rotate_left 1
  · (intro w hSw; have h1 := hSw.1; go_simp; try with_reducible rfl)
  try simp only [Act.put, List.setIfInBounds_toArray, List.set_cons_zero, List.set_cons_succ]
  refine takeL 4 rfl (by kernel_rfl) (by kernel_rfl) (by kernel_rfl) (fun _ _ _ h => h) (yieldsIf_load_mid (by rfl) _ _ rfl _ _ rfl _ _ (fun w hSw => hSw.2.1) Tryz.underlying26 rfl (by kernel_rfl)) hHeld ?_
  try simp only [Act.put, List.setIfInBounds_toArray, List.set_cons_zero, List.set_cons_succ]
  refine takeL 5 (v := ?_) rfl (by kernel_rfl) (by kernel_rfl) (by kernel_rfl) (fun _ _ _ h => h) (Or.inl ⟨by rfl, ?_⟩) hHeld ?_
  rotate_left 1
  · (intro w hSw; have h3 := hSw.2.2; go_simp; try with_reducible rfl)
  try simp only [Act.put, List.setIfInBounds_toArray, List.set_cons_zero, List.set_cons_succ]
  refine takeL 6 (v := ?_) rfl (by kernel_rfl) (by kernel_rfl) (by kernel_rfl) (fun _ _ _ h => h) (Or.inl ⟨by rfl, ?_⟩) hHeld ?_
  rotate_left 1
  · (intro w hSw; go_simp; try with_reducible rfl)
  try simp only [Act.put, List.setIfInBounds_toArray, List.set_cons_zero, List.set_cons_succ]
  refine takeL 7 (v := ?_) rfl (by kernel_rfl) (by kernel_rfl) (by kernel_rfl) (fun _ _ _ h => h) (Or.inl ⟨by rfl, ?_⟩) hHeld ?_
  rotate_left 1
  · (intro w hSw; go_simp; try with_reducible rfl)
  try simp only [Act.put, List.setIfInBounds_toArray, List.set_cons_zero, List.set_cons_succ]
  refine takeL 8 (v := ?_) rfl (by kernel_rfl) (by kernel_rfl) (by kernel_rfl) (fun _ _ _ h => h) (Or.inl ⟨by rfl, ?_⟩) hHeld ?_
  rotate_left 1
  · (intro w hSw; go_simp; try with_reducible rfl)
  try simp only [Act.put, List.setIfInBounds_toArray, List.set_cons_zero, List.set_cons_succ]
  refine takeL 9 (v := ?_) rfl (by kernel_rfl) (by kernel_rfl) (by kernel_rfl) (fun _ _ _ h => h) (Or.inl ⟨by rfl, ?_⟩) hHeld ?_
  rotate_left 1
  · (intro w hSw; go_simp; try with_reducible rfl)
  try simp only [Act.put, List.setIfInBounds_toArray, List.set_cons_zero, List.set_cons_succ]
  refine takeL 10 (v := ?_) rfl (by kernel_rfl) (by kernel_rfl) (by kernel_rfl) (fun _ _ _ h => h) (Or.inl ⟨by rfl, ?_⟩) hHeld ?_
  rotate_left 1
  · (intro w hSw; go_simp; try with_reducible rfl)
  try simp only [Act.put, List.setIfInBounds_toArray, List.set_cons_zero, List.set_cons_succ]
  refine wpAnyH_done (by kernel_rfl) ?_ _
  refine NoPanic.normal ?_
  clear hHeld
  go_wp2
  go_ret
  exact ⟨rfl, R0.out.below⟩
set_option maxRecDepth 100000 in
set_option maxHeartbeats 1000000 in
theorem ring_add_full (R B : Nat) (tk : List Value) (mv : Value) (lb : List Value) (l : List (Cl × Nat)) (c : Cl) (pk : Nat) (w : World) (hr : RingAt w R tk mv lb) (hm : MapV w B mv l) (hc : Cl64 c) (hok : okC c = true) (ha : atC l c = none) (hl : 16 ≤ l.length) :
    Calls Tryz.prog 9 #[.pointer (some ⟨R, 0, none⟩), clV c, ptr pk] w fun e w' => e = .returned (.int .i64 6) ∧ Below w.heap.size w w' := by
  have HCk : Bx (∀ W, Calls Tryz.prog 30 #[clV c] W fun e w' => e = .returned (.int .i64 0) ∧ Below W.heap.size W w') := Bx.mk fun W => by
    have h := ccheck_any c W
    rw [if_pos hok] at h
    exact h
  have HLo : Bx (∀ W, Below w.heap.size w W → (Instr.lookup 70 mv (clV c) true).run Tryz.prog W = .ok (.tuple #[.pointer none, .bool false]) W ∧ W.cell? ⟨R, 36, none⟩ = some mv ∧ ∀ ty, (Builtin.len_ #[70] ty #[mv]).run Tryz.prog W = .ok (.int .i64 (l.length : Int)) W) := Bx.mk fun W hb => ⟨by
    have h := (hm.later hb).look c hc
    rw [ha] at h
    exact h, (hr.later (hb.block R hr.lt)).map, fun ty => (hm.later hb).len ty⟩
  obtain ⟨n, hn⟩ : ∃ n, l.length = n := ⟨_, rfl⟩
  rw [hn] at HLo hl
  have hl1 : (16 : Int) ≤ (n : Int) := by omega
  clear hr hm hc ha hok hn
  obtain ⟨i, r, x, q⟩ := c
  unfold clV ptr at *
  simp only at HLo HCk ⊢
  obtain ⟨E, hE⟩ : ∃ E, w.heap.size = E := ⟨_, rfl⟩
  have H0 := Bx.mk ((KS.start w E hE).new (.cells #[.int .i64 i, .int .i64 r, .int .i64 x, .int .i64 q] 26))
  rw [hE] at H0 HLo ⊢
  have hc0 := row_rng (l := [.int .i64 i, .int .i64 r, .int .i64 x, .int .i64 q]) (H0.out.rows _ (.head _))
  go_enter Tryz.func9, Tryz.ntmps9
  go_wp2_with fail
  refine (HCk.out _).mono ?_
  rintro e w1 ⟨rfl, hb⟩
  have H1 := Bx.mk (H0.out.later hb)
  clear hb hc0 H0 HCk
  go_upto_region 8 with fail
  have R0 := Bx.mk H1.out.drew
  clear H1
  refine wp_region_noPanic ?_
  refine wp_region_held_drew (S := fun W => W.cell? ⟨R, 36, none⟩ = some mv ∧ (W.rangeAt E 0 [.int .i64 i, .int .i64 r, .int .i64 x, .int .i64 q] ∧ (Instr.lookup 70 mv (.agg #[.int .i64 i, .int .i64 r, .int .i64 x, .int .i64 q]) true).run Tryz.prog W = .ok (.tuple #[.pointer none, .bool false]) W)) (by kernel_rfl) (⟨(HLo.out _ R0.out.below).2.1, row_rng (l := [.int .i64 i, .int .i64 r, .int .i64 x, .int .i64 q]) (R0.out.rows _ (.head _)), (HLo.out _ R0.out.below).1⟩) (fun hHeld => ?_)
  generalize w1.drew = W0 at *
  refine takeL 0 (v := ?_) rfl (by kernel_rfl) (by kernel_rfl) (by kernel_rfl) (fun _ _ _ h => h) (Or.inl ⟨by rfl, ?_⟩) hHeld ?_
  rotate_left 1
  · (intro w hSw; go_simp; try with_reducible rfl)
  try simp only [Act.put, List.setIfInBounds_toArray, List.set_cons_zero, List.set_cons_succ]
  refine takeL 1 (v := ?_) rfl (by kernel_rfl) (by kernel_rfl) (by kernel_rfl) (fun _ _ _ h => h) (Or.inl ⟨by rfl, ?_⟩) hHeld ?_
  rotate_left 1
  · (intro w hSw; go_simp; try with_reducible rfl)
  try simp only [Act.put, List.setIfInBounds_toArray, List.set_cons_zero, List.set_cons_succ]
  refine takeL 2 (v := ?_) rfl (by kernel_rfl) (by kernel_rfl) (by kernel_rfl) (fun _ _ _ h => h) (Or.inl ⟨by rfl, ?_⟩) hHeld ?_
  rotate_left 1
  · (intro w hSw; go_simp; try with_reducible rfl)
  try simp only [Act.put, List.setIfInBounds_toArray, List.set_cons_zero, List.set_cons_succ]
  refine takeL 3 (v := ?_) rfl (by kernel_rfl) (by kernel_rfl) (by kernel_rfl) (fun _ _ _ h => h) (Or.inl ⟨by rfl, ?_⟩) hHeld ?_
  rotate_left 1
  · (intro w hSw; have h1 := hSw.1; go_simp; try with_reducible rfl)
  try simp only [Act.put, List.setIfInBounds_toArray, List.set_cons_zero, List.set_cons_succ]
  refine takeL 4 rfl (by kernel_rfl) (by kernel_rfl) (by kernel_rfl) (fun _ _ _ h => h) (yieldsIf_load_mid (by rfl) _ _ rfl _ _ rfl _ _ (fun w hSw => hSw.2.1) Tryz.underlying26 rfl (by kernel_rfl)) hHeld ?_
  try simp only [Act.put, List.setIfInBounds_toArray, List.set_cons_zero, List.set_cons_succ]
  refine takeL 5 (v := ?_) rfl (by kernel_rfl) (by kernel_rfl) (by kernel_rfl) (fun _ _ _ h => h) (Or.inl ⟨by rfl, ?_⟩) hHeld ?_
  rotate_left 1
  · (intro w hSw; have h3 := hSw.2.2; go_simp; try with_reducible rfl)
  try simp only [Act.put, List.setIfInBounds_toArray, List.set_cons_zero, List.set_cons_succ]
  refine takeL 6 (v := ?_) rfl (by kernel_rfl) (by kernel_rfl) (by kernel_rfl) (fun _ _ _ h => h) (Or.inl ⟨by rfl, ?_⟩) hHeld ?_
  rotate_left 1
  · (intro w hSw; go_simp; try with_reducible rfl)
  try simp only [Act.put, List.setIfInBounds_toArray, List.set_cons_zero, List.set_cons_succ]
  refine takeL 7 (v := ?_) rfl (by kernel_rfl) (by kernel_rfl) (by kernel_rfl) (fun _ _ _ h => h) (Or.inl ⟨by rfl, ?_⟩) hHeld ?_
  rotate_left 1
  · (intro w hSw; go_simp; try with_reducible rfl)
  try simp only [Act.put, List.setIfInBounds_toArray, List.set_cons_zero, List.set_cons_succ]
  refine takeL 8 (v := ?_) rfl (by kernel_rfl) (by kernel_rfl) (by kernel_rfl) (fun _ _ _ h => h) (Or.inl ⟨by rfl, ?_⟩) hHeld ?_
  rotate_left 1
  · (intro w hSw; go_simp; try with_reducible rfl)
  try simp only [Act.put, List.setIfInBounds_toArray, List.set_cons_zero, List.set_cons_succ]
  refine takeL 9 (v := ?_) rfl (by kernel_rfl) (by kernel_rfl) (by kernel_rfl) (fun _ _ _ h => h) (Or.inl ⟨by rfl, ?_⟩) hHeld ?_
  rotate_left 1
  · (intro w hSw; go_simp; try with_reducible rfl)
  try simp only [Act.put, List.setIfInBounds_toArray, List.set_cons_zero, List.set_cons_succ]
  refine takeL 10 (v := ?_) rfl (by kernel_rfl) (by kernel_rfl) (by kernel_rfl) (fun _ _ _ h => h) (Or.inl ⟨by rfl, ?_⟩) hHeld ?_
  rotate_left 1
  · (intro w hSw; go_simp; try with_reducible rfl)
  try simp only [Act.put, List.setIfInBounds_toArray, List.set_cons_zero, List.set_cons_succ]
  refine wpAnyH_done (by kernel_rfl) ?_ _
  refine NoPanic.normal ?_
  clear hHeld
  have hc1 := (HLo.out _ R0.out.below).2.1
  have hl2 := (HLo.out _ R0.out.below).2.2
  go_wp2
  go_ret
  exact ⟨rfl, R0.out.below⟩
set_option maxRecDepth 100000 in
set_option maxHeartbeats 1000000 in
theorem ring_add_ok (R B : Nat) (tk : List Value) (mv : Value) (lb : List Value) (l : List (Cl × Nat)) (c : Cl) (bs : List UInt8) (v : Value) (w : World) (hr : RingAt w R tk mv lb) (hm : MapV w B mv l) (hRB : R < B) (hB : B ≤ w.heap.size) (hc : Cl64 c) (hk : KeyO w B v bs) (hbl : bs.length ≤ 140737488355328) (hok : okC c = true) (ha : atC l c = none) (hl : l.length < 16) :
    Calls Tryz.prog 9 #[.pointer (some ⟨R, 0, none⟩), clV c, v] w fun e w' => e = .returned (.int .i64 0) ∧ Kept R B tk lb l c bs w w' := by
  have HCk : Bx (∀ W, Calls Tryz.prog 30 #[clV c] W fun e w' => e = .returned (.int .i64 0) ∧ Below W.heap.size W w') := Bx.mk fun W => by
    have h := ccheck_any c W
    rw [if_pos hok] at h
    exact h
  have HLo : Bx (∀ W, Below w.heap.size w W → (Instr.lookup 70 mv (clV c) true).run Tryz.prog W = .ok (.tuple #[.pointer none, .bool false]) W ∧ W.cell? ⟨R, 36, none⟩ = some mv ∧ ∀ ty, (Builtin.len_ #[70] ty #[mv]).run Tryz.prog W = .ok (.int .i64 (l.length : Int)) W) := Bx.mk fun W hb => ⟨by
    have h := (hm.later hb).look c hc
    rw [ha] at h
    exact h, (hr.later (hb.block R hr.lt)).map, fun ty => (hm.later hb).len ty⟩
  have HKp : Bx (∀ W, Below w.heap.size w W → Calls Tryz.prog 31 #[.pointer (some ⟨R, 0, none⟩), clV c, v] W fun e w' => e = .returned (.tuple #[]) ∧ Kept R B tk lb l c bs W w') := Bx.mk fun W hb => keep_any R B tk mv lb l c bs v W (hr.later (hb.block R hr.lt)) (hm.later hb) hRB (Nat.le_trans hB hb.size) hc ha (hk.later hb) hbl
  obtain ⟨pk, sk, rfl, -⟩ := hk
  obtain ⟨n, hn⟩ : ∃ n, l.length = n := ⟨_, rfl⟩
  rw [hn] at HLo hl
  have hl1 : (n : Int) < 16 := by omega
  clear hr hm hc ha hbl hok hRB hB hn
  obtain ⟨i, r, x, q⟩ := c
  unfold clV at *
  simp only at HLo HKp HCk ⊢
  obtain ⟨E, hE⟩ : ∃ E, w.heap.size = E := ⟨_, rfl⟩
  have H0 := Bx.mk ((KS.start w E hE).new (.cells #[.int .i64 i, .int .i64 r, .int .i64 x, .int .i64 q] 26))
  rw [hE] at H0 HLo HKp
  have hc0 := row_rng (l := [.int .i64 i, .int .i64 r, .int .i64 x, .int .i64 q]) (H0.out.rows _ (.head _))
  go_enter Tryz.func9, Tryz.ntmps9
  go_wp2_with fail
  refine (HCk.out _).mono ?_
  rintro e w1 ⟨rfl, hb⟩
  have H1 := Bx.mk (H0.out.later hb)
  clear hb hc0 H0 HCk
  go_upto_region 8 with fail
  have R0 := Bx.mk H1.out.drew
  clear H1
  refine wp_region_noPanic ?_
  refine wp_region_held_drew (S := fun W => W.cell? ⟨R, 36, none⟩ = some mv ∧ (W.rangeAt E 0 [.int .i64 i, .int .i64 r, .int .i64 x, .int .i64 q] ∧ (Instr.lookup 70 mv (.agg #[.int .i64 i, .int .i64 r, .int .i64 x, .int .i64 q]) true).run Tryz.prog W = .ok (.tuple #[.pointer none, .bool false]) W)) (by kernel_rfl) (⟨(HLo.out _ R0.out.below).2.1, row_rng (l := [.int .i64 i, .int .i64 r, .int .i64 x, .int .i64 q]) (R0.out.rows _ (.head _)), (HLo.out _ R0.out.below).1⟩) (fun hHeld => ?_)
  generalize w1.drew = W0 at *
  refine takeL 0 (v := ?_) rfl (by kernel_rfl) (by kernel_rfl) (by kernel_rfl) (fun _ _ _ h => h) (Or.inl ⟨by rfl, ?_⟩) hHeld ?_
  rotate_left 1
  · (intro w hSw; go_simp; try with_reducible rfl)
  try simp only [Act.put, List.setIfInBounds_toArray, List.set_cons_zero, List.set_cons_succ]
  refine takeL 1 (v := ?_) rfl (by kernel_rfl) (by kernel_rfl) (by kernel_rfl) (fun _ _ _ h => h) (Or.inl ⟨by rfl, ?_⟩) hHeld ?_
  rotate_left 1
  · (intro w hSw; go_simp; try with_reducible rfl)
  try simp only [Act.put, List.setIfInBounds_toArray, List.set_cons_zero, List.set_cons_succ]
  refine takeL 2 (v := ?_) rfl (by kernel_rfl) (by kernel_rfl) (by kernel_rfl) (fun _ _ _ h => h) (Or.inl ⟨by rfl, ?_⟩) hHeld ?_
  rotate_left 1
  · (intro w hSw; go_simp; try with_reducible rfl)
  try simp only [Act.put, List.setIfInBounds_toArray, List.set_cons_zero, List.set_cons_succ]
  refine takeL 3 (v := ?_) rfl (by kernel_rfl) (by kernel_rfl) (by kernel_rfl) (fun _ _ _ h => h) (Or.inl ⟨by rfl, ?_⟩) hHeld ?_
  rotate_left 1
  · (intro w hSw; have h1 := hSw.1; go_simp; try with_reducible rfl)
  try simp only [Act.put, List.setIfInBounds_toArray, List.set_cons_zero, List.set_cons_succ]
  refine takeL 4 rfl (by kernel_rfl) (by kernel_rfl) (by kernel_rfl) (fun _ _ _ h => h) (yieldsIf_load_mid (by rfl) _ _ rfl _ _ rfl _ _ (fun w hSw => hSw.2.1) Tryz.underlying26 rfl (by kernel_rfl)) hHeld ?_
  try simp only [Act.put, List.setIfInBounds_toArray, List.set_cons_zero, List.set_cons_succ]
  refine takeL 5 (v := ?_) rfl (by kernel_rfl) (by kernel_rfl) (by kernel_rfl) (fun _ _ _ h => h) (Or.inl ⟨by rfl, ?_⟩) hHeld ?_
  rotate_left 1
  · (intro w hSw; have h3 := hSw.2.2; go_simp; try with_reducible rfl)
  try simp only [Act.put, List.setIfInBounds_toArray, List.set_cons_zero, List.set_cons_succ]
  refine takeL 6 (v := ?_) rfl (by kernel_rfl) (by kernel_rfl) (by kernel_rfl) (fun _ _ _ h => h) (Or.inl ⟨by rfl, ?_⟩) hHeld ?_
  rotate_left 1
  · (intro w hSw; go_simp; try with_reducible rfl)
  try simp only [Act.put, List.setIfInBounds_toArray, List.set_cons_zero, List.set_cons_succ]
  refine takeL 7 (v := ?_) rfl (by kernel_rfl) (by kernel_rfl) (by kernel_rfl) (fun _ _ _ h => h) (Or.inl ⟨by rfl, ?_⟩) hHeld ?_
  rotate_left 1
  · (intro w hSw; go_simp; try with_reducible rfl)
  try simp only [Act.put, List.setIfInBounds_toArray, List.set_cons_zero, List.set_cons_succ]
  refine takeL 8 (v := ?_) rfl (by kernel_rfl) (by kernel_rfl) (by kernel_rfl) (fun _ _ _ h => h) (Or.inl ⟨by rfl, ?_⟩) hHeld ?_
  rotate_left 1
  · (intro w hSw; go_simp; try with_reducible rfl)
  try simp only [Act.put, List.setIfInBounds_toArray, List.set_cons_zero, List.set_cons_succ]
  refine takeL 9 (v := ?_) rfl (by kernel_rfl) (by kernel_rfl) (by kernel_rfl) (fun _ _ _ h => h) (Or.inl ⟨by rfl, ?_⟩) hHeld ?_
  rotate_left 1
  · (intro w hSw; go_simp; try with_reducible rfl)
  try simp only [Act.put, List.setIfInBounds_toArray, List.set_cons_zero, List.set_cons_succ]
  refine takeL 10 (v := ?_) rfl (by kernel_rfl) (by kernel_rfl) (by kernel_rfl) (fun _ _ _ h => h) (Or.inl ⟨by rfl, ?_⟩) hHeld ?_
  rotate_left 1
  · (intro w hSw; go_simp; try with_reducible rfl)
  try simp only [Act.put, List.setIfInBounds_toArray, List.set_cons_zero, List.set_cons_succ]
  refine wpAnyH_done (by kernel_rfl) ?_ _
  refine NoPanic.normal ?_
  clear hHeld
  have hc1 := (HLo.out _ R0.out.below).2.1
  have hl2 := (HLo.out _ R0.out.below).2.2
  have hc5 : W0.cell? ⟨E, 0, none⟩ = some (.int .i64 i) := row_rng (l := [.int .i64 i, .int .i64 r, .int .i64 x, .int .i64 q]) (R0.out.rows _ (.head _)) 0 _ rfl
  have hc6 : W0.cell? ⟨E, 1, none⟩ = some (.int .i64 r) := row_rng (l := [.int .i64 i, .int .i64 r, .int .i64 x, .int .i64 q]) (R0.out.rows _ (.head _)) 1 _ rfl
  have hc7 : W0.cell? ⟨E, 2, none⟩ = some (.int .i64 x) := row_rng (l := [.int .i64 i, .int .i64 r, .int .i64 x, .int .i64 q]) (R0.out.rows _ (.head _)) 2 _ rfl
  have hc8 : W0.cell? ⟨E, 3, none⟩ = some (.int .i64 q) := row_rng (l := [.int .i64 i, .int .i64 r, .int .i64 x, .int .i64 q]) (R0.out.rows _ (.head _)) 3 _ rfl
  go_wp2_with fail
  refine (HKp.out W0 R0.out.below).mono ?_
  rintro e W1 ⟨rfl, hk⟩
  have R1 := Bx.mk (Kept.pre (by rw [hE]; exact R0.out.below) hk)
  clear hk R0 hc1 hl2 hc5 hc6 hc7 hc8
  go_wp2
  go_ret
  exact ⟨rfl, R1.out⟩
end Go.Proofs.YtnefpjdjnjcmbaaGreatDoor
namespace Go.Proofs.YtnefpjdjnjcmbaaGreatDoor
open Go Go.RowKit
/-- Has a mask a role? -/
def bitN (m r : Nat) : Bool := decide (m / 2 ^ r % 2 = 1)
theorem bitN_test (m r : Nat) : bitN m r = m.testBit r := by
  unfold bitN
  rw [Nat.testBit_eq_decide_div_mod_eq]
theorem bitN_cov (m r : Nat) : covN m (2 ^ r) = bitN m r := by
  rw [bitN_test, Bool.eq_iff_iff]
  unfold covN
  simp only [decide_eq_true_eq]
  constructor
  · intro h
    have := congrArg (fun z => z.testBit r) h
    simp only [Nat.testBit_and, Nat.testBit_two_pow_self, Bool.and_true] at this
    exact this
  · intro h
    apply Nat.eq_of_testBit_eq
    intro i
    rw [Nat.testBit_and, Nat.testBit_two_pow]
    by_cases hi : r = i
    · subst hi; simp [h]
    · simp [hi]
theorem half (m k : Nat) : m / 2 ^ k / 2 = m / 2 ^ (k + 1) := by rw [Nat.div_div_eq_div_mul, Nat.pow_succ]
set_option maxRecDepth 100000 in
set_option maxHeartbeats 1000000 in
theorem bit_any (m r : Nat) (w : World) (hm : m < 256) (hr : r < 8) : Calls Tryz.prog 19 #[.int .i64 (m : Int), .int .i64 (r : Int)] w fun e w' => e = .returned (.bool (bitN m r)) ∧ w' = w := by
  obtain ⟨V, hV⟩ : ∃ V, bitN m r = V := ⟨_, rfl⟩
  rw [hV]
  have HV := Bx.mk hV
  have HM := Bx.mk hm
  clear hV hm
  have hr1 : (r : Int) < 8 := by omega
  go_enter Tryz.func19, Tryz.ntmps19
  go_wp2
  go_loopw [5, 0] (fun i z wr => ∃ k : Nat, k ≤ r ∧ i = .int .i64 (k : Int) ∧ z = .int .i64 ((m / 2 ^ k : Nat) : Int) ∧ wr = w) (fun i _ _ => r - (intOf i).toNat)
  case atStart => exact ⟨0, Nat.zero_le _, rfl, by simp, rfl⟩
  case round =>
    obtain ⟨k, hk, rfl, rfl, rfl⟩ := hrel
    obtain ⟨z, hz⟩ : ∃ z, m / 2 ^ k = z := ⟨_, rfl⟩
    have hz2 : (z : Int) < 256 := by have h1 := HM.out; have h2 := Nat.div_le_self m (2 ^ k); omega
    rw [hz]
    by_cases hlt : k < r
    · have hk1 : (k : Int) < (r : Int) := by omega
      have HZ : Bx (((m / 2 ^ (k + 1) : Nat) : Int) = (z : Int) / 2) := Bx.mk (by rw [← half, hz]; rfl)
      clear hz
      go_wp2
      go_roundw
      case rel => exact ⟨k + 1, by omega, by go_num, by rw [HZ.out], trivial⟩
      case measure => simp [intOf]; omega
    · obtain rfl : k = r := by omega
      have HE : Bx (V = decide (z % 2 = 1)) := Bx.mk (by rw [← HV.out]; unfold bitN; rw [hz])
      clear hz HV
      go_wp2
      go_ret
      refine ⟨ret_bool ?_, rfl⟩
      rw [HE.out, Bool.eq_iff_iff]
      simp
      omega
/-- Has a mask each of these roles? -/
def hasL (x : Nat) (ns : List Int) : Bool := ns.all fun r => isR r && bitN x r.toNat
theorem hasL_is (x : Nat) (ns : List Int) : hasL x ns = (ns.all isR && covN x (mkN ns)) := by
  rw [Bool.eq_iff_iff]
  unfold hasL
  induction ns with
  | nil => simp [mkN, covN]
  | cons r ns ih =>
    have hm : mkN (r :: ns) = 2 ^ r.toNat ||| mkN ns := by
      show (r :: ns).foldl _ 0 = _
      rw [List.foldl_cons, Nat.zero_or]
      exact fold_or ns _
    simp only [List.all_cons, Bool.and_eq_true] at ih ⊢
    rw [ih, hm]
    constructor
    · rintro ⟨⟨h1, h2⟩, h3, h4⟩
      exact ⟨⟨h1, h3⟩, cov_or (by rw [bitN_cov]; exact h2) h4⟩
    · rintro ⟨⟨h1, h3⟩, h4⟩
      exact ⟨⟨h1, by rw [← bitN_cov]; exact cov_trans h4 (cov_left _ _)⟩, h3, cov_trans h4 (cov_right _ _)⟩
set_option maxRecDepth 100000 in
theorem has_any (i e s : Int) (x : Nat) (ns : List Int) (v : Value) (w : World) (hx : x < 256) (hv : Ints w v ns) (hl : ns.length ≤ 1000000) :
    Calls Tryz.prog 36 #[clV ⟨i, (x : Int), e, s⟩, v] w fun r w' => r = .returned (.bool (hasL x ns)) ∧ Below w.heap.size w w' := by
  obtain ⟨V, hV⟩ : ∃ V, hasL x ns = V := ⟨_, rfl⟩
  rw [hV]
  have HV : Bx ((ns.all isR && covN x (mkN ns)) = V) := Bx.mk (by rw [← hasL_is, hV])
  clear hV
  have HA : Bx (Ints (w.alloc (.cells #[.int .i64 i, .int .i64 (x : Int), .int .i64 e, .int .i64 s] 26)) v ns ∧ Below w.heap.size w (w.alloc (.cells #[.int .i64 i, .int .i64 (x : Int), .int .i64 e, .int .i64 s] 26)) ∧ (w.alloc (.cells #[.int .i64 i, .int .i64 (x : Int), .int .i64 e, .int .i64 s] 26)).cell? ⟨w.heap.size, 1, none⟩ = some (.int .i64 (x : Int))) := Bx.mk ⟨hv.later (below_a _), below_a _, by rw [cell_of_row _ _ _ _ _ _ (hnew _ _ _ rfl)]; rfl⟩
  obtain ⟨a, cap, rfl, -⟩ := hv
  unfold clV
  simp only
  by_cases hR : ns.all isR = true
  · rw [hR, Bool.true_and] at HV
    have hm := mkN_lt ns hR
    go_enter Tryz.func36, Tryz.ntmps36
    go_wp2_with fail
    generalize w.alloc (.cells #[.int .i64 i, .int .i64 (x : Int), .int .i64 e, .int .i64 s] 26) = w1 at *
    refine (mask_ok ns _ w1 HA.out.1 hl hR).mono ?_
    rintro e w2 ⟨rfl, hw⟩
    rw [hw]
    clear hw w2
    have hc := HA.out.2.2
    go_wp2_with fail
    refine (covers_any x (mkN ns) w1 (by omega) (by omega)).mono ?_
    rintro e w2 ⟨rfl, hw⟩
    rw [hw, HV.out]
    clear hw w2
    go_wp2
    go_ret
    exact ⟨rfl, HA.out.2.1⟩
  · have hf : ns.all isR = false := by simpa using hR
    rw [hf, Bool.false_and] at HV
    go_enter Tryz.func36, Tryz.ntmps36
    go_wp2_with fail
    generalize w.alloc (.cells #[.int .i64 i, .int .i64 (x : Int), .int .i64 e, .int .i64 s] 26) = w1 at *
    refine (mask_bad ns _ w1 HA.out.1 hl hf).mono ?_
    rintro e w2 ⟨rfl, hw⟩
    rw [hw]
    clear hw w2
    go_wp2
    go_ret
    exact ⟨by rw [← HV.out]; rfl, HA.out.2.1⟩
end Go.Proofs.YtnefpjdjnjcmbaaGreatDoor
namespace Go.Proofs.YtnefpjdjnjcmbaaGreatDoor
open Go Go.RowKit
theorem step_st1 {w w1 : World} {ops : Array Oper} {o : Oper} {a : Act} {K : Act → World → Prop} {Q : Exit → Act → World → Prop} {E : Prop} (hgd : o.guard = none) (tt : TypeId) (x y : Operand)
    (ho : o.op = .store tt x y) (hrun : (Instr.storeAt tt (a.eval x) (a.eval y)).run Tryz.prog w = .ok () w1) (h : K (a.put o.dst undef) w1) :
    if Region.wanted o (yielded ops a.tmps) = true then Oper.wp Tryz.prog o a w K Q else E := by
  have hw : Region.wanted o (yielded ops a.tmps) = true := by simp [Region.wanted, hgd]
  rw [if_pos hw]
  unfold Oper.wp execOp
  simp only [ho, hrun, Sem.run_bind, Sem.run_pure, Result.andThen_ok]
  exact h
theorem run_st1 (w : World) (b off p : Nat) (u : Value) (hc : w.cell? ⟨b, off, none⟩ = some u) (hf : w.frozen? ⟨b, off, none⟩ = false) : (Instr.storeAt 45 (.pointer (some ⟨b, off, none⟩)) (.pointer (some ⟨p, 0, none⟩))).run Tryz.prog w = .ok () (w.setCell ⟨b, off, none⟩ (.pointer (some ⟨p, 0, none⟩))) := by
  go_simp
theorem isrole_in (k : Nat) (hk : k < 8) (w : World) : Calls Tryz.prog 35 #[.int .i64 (k : Int)] w fun e w' => e = .returned (.bool true) ∧ w' = w := by
  have h0 : (0 : Int) ≤ (k : Int) := by omega
  have h1 : (k : Int) < 8 := by omega
  go_enter Tryz.func35, Tryz.ntmps35
  go_wp2
  go_ret
  exact ⟨rfl, rfl⟩
theorem isrole_out (r : Int) (hr : r < 0 ∨ 8 ≤ r) (w : World) : Calls Tryz.prog 35 #[.int .i64 r] w fun e w' => e = .returned (.bool false) ∧ w' = w := by
  rcases hr with h | h
  · have h1 : ¬ (0 : Int) ≤ r := by omega
    go_enter Tryz.func35, Tryz.ntmps35
    go_wp2
    go_ret
    exact ⟨rfl, rfl⟩
  · have h1 : (0 : Int) ≤ r := by omega
    have h2 : ¬ r < (8 : Int) := by omega
    go_enter Tryz.func35, Tryz.ntmps35
    go_wp2
    go_ret
    exact ⟨rfl, rfl⟩
/-- What a ring is, behind a key that it learnt. -/
def Learnt (R : Nat) (tk : List Value) (mv : Value) (lb : List Value) (k : Nat) (bs : List UInt8) (w w' : World) : Prop :=
  ∃ p, RingAt w' R tk mv (lb.set k (ptr p)) ∧ KeyO w' w.heap.size (ptr p) bs ∧ ∃ W, Below w.heap.size w W ∧ W.grownBy w' (some R)
theorem RingAt.setLab {W : World} {R : Nat} {tk : List Value} {mv : Value} {lb : List Value} (h : RingAt W R tk mv lb) (k : Nat) (v : Value) : RingAt (W.setCell ⟨R, 37 + k, none⟩ v) R tk mv (lb.set k v) := by
  refine ⟨?_, h.tkl, by rw [List.length_set]; exact h.lbl⟩
  show (W.heap.modify R _)[R]? = _
  rw [Array.getElem?_modify, if_pos rfl, h.row]
  show some (Obj.cells ((rgC tk (mv :: lb)).setIfInBounds (37 + k) v) 73 (0, 0)) = _
  unfold rgC
  rw [List.setIfInBounds_toArray, List.set_append_right _ _ (by rw [h.tkl]; omega), h.tkl, show 37 + k - 36 = k + 1 by omega]
  rfl
set_option maxRecDepth 100000 in
set_option maxHeartbeats 1000000 in
theorem learn_out (R : Nat) (r : Int) (v : Value) (w : World) (hr8 : r < 0 ∨ 8 ≤ r) :
    Calls Tryz.prog 18 #[.pointer (some ⟨R, 0, none⟩), .int .i64 r, v] w fun e w' => e = .returned (.int .i64 10) ∧ Below w.heap.size w w' := by
  have HRo := Bx.mk (isrole_out r hr8)
  clear hr8
  go_enter Tryz.func18, Tryz.ntmps18
  go_wp2_with fail
  refine (HRo.out _).mono ?_
  rintro e w1 ⟨rfl, rfl⟩
  clear HRo
  go_wp2
  go_ret
  exact ⟨rfl, Below.refl _ _⟩
set_option maxRecDepth 100000 in
set_option maxHeartbeats 1000000 in
theorem learn_nokey (R k : Nat) (w : World) (hk8 : k < 8) :
    Calls Tryz.prog 18 #[.pointer (some ⟨R, 0, none⟩), .int .i64 (k : Int), .pointer none] w fun e w' => e = .returned (.int .i64 1) ∧ Below w.heap.size w w' := by
  have HRo := Bx.mk (isrole_in k hk8)
  go_enter Tryz.func18, Tryz.ntmps18
  go_wp2_with fail
  refine (HRo.out _).mono ?_
  rintro e w1 ⟨rfl, rfl⟩
  clear HRo
  go_wp2
  go_ret
  exact ⟨rfl, Below.refl _ _⟩
set_option maxRecDepth 100000 in
set_option maxHeartbeats 1000000 in
theorem learn_role (R k : Nat) (i ex s : Int) (x : Nat) (sec : List Value) (mv : Value) (lb : List Value) (bs : List UInt8) (v : Value) (w : World) (hr : RingAt w R (.int .i64 i :: .int .i64 (x : Int) :: .int .i64 ex :: .int .i64 s :: sec) mv lb) (hk8 : k < 8) (hx : x < 256) (hk : IsKey w v bs) (hb : bitN x k = false) :
    Calls Tryz.prog 18 #[.pointer (some ⟨R, 0, none⟩), .int .i64 (k : Int), v] w fun e w' => e = .returned (.int .i64 12) ∧ Below w.heap.size w w' := by
  have HRo := Bx.mk (isrole_in k hk8)
  have h0 : (0 : Int) ≤ (k : Int) := by omega
  have h1 : (k : Int) < 8 := by omega
  have HHs : Bx (∀ W a n cap, Ints W (.slice a n cap) [(k : Int)] → Calls Tryz.prog 36 #[.agg #[.int .i64 i, .int .i64 (x : Int), .int .i64 ex, .int .i64 s], .slice a n cap] W fun r w' => r = .returned (.bool false) ∧ Below W.heap.size W w') := Bx.mk fun W a n cap hi => by
    have h := has_any i ex s x [(k : Int)] _ W hx hi (by simp)
    have hq : hasL x [(k : Int)] = false := by
      unfold hasL isR
      simp only [List.all_cons, List.all_nil, Bool.and_true, Int.toNat_natCast, hb]
      simp
      skip
    rw [hq] at h
    exact h
  have HR := Bx.mk (And.intro hr hk)
  obtain ⟨pk, sk, rfl, -, -⟩ := hk
  have c0 : w.cell? ⟨R, 0, none⟩ = some (.int .i64 i) := by rw [cell_of_row _ _ _ _ _ _ hr.row]; rfl
  have c1 : w.cell? ⟨R, 1, none⟩ = some (.int .i64 (x : Int)) := by rw [cell_of_row _ _ _ _ _ _ hr.row]; rfl
  have c2 : w.cell? ⟨R, 2, none⟩ = some (.int .i64 ex) := by rw [cell_of_row _ _ _ _ _ _ hr.row]; rfl
  have c3 : w.cell? ⟨R, 3, none⟩ = some (.int .i64 s) := by rw [cell_of_row _ _ _ _ _ _ hr.row]; rfl
  clear hr hb hx
  go_enter Tryz.func18, Tryz.ntmps18
  go_wp2_with fail
  refine (HRo.out _).mono ?_
  rintro e w1 ⟨rfl, rfl⟩
  clear HRo
  go_wp2_with fail
  have H2 := Bx.mk (below_a (W := w1) (.cells #[.int .i64 (k : Int)] 3))
  refine (HHs.out _ _ _ _ ⟨_, _, rfl, Nat.le_refl 1, fun h => (by cases h), fun _ => ⟨_, _, rfl, fun j hj => ?_⟩⟩).mono ?_
  · obtain rfl : j = 0 := by simp at hj; omega
    rw [cell_of_row _ _ _ _ _ _ (hnew _ _ _ rfl)]
    rfl
  rintro e w2 ⟨rfl, hb⟩
  have H2 := Bx.mk (H2.out.trans (hb.mono H2.out.size))
  clear hb HHs
  go_wp2
  go_ret
  exact ⟨rfl, H2.out⟩
set_option maxRecDepth 100000 in
set_option maxHeartbeats 1000000 in
theorem learn_ok (R k : Nat) (i ex s : Int) (x : Nat) (sec : List Value) (mv : Value) (lb : List Value) (bs : List UInt8) (v : Value) (w : World) (hr : RingAt w R (.int .i64 i :: .int .i64 (x : Int) :: .int .i64 ex :: .int .i64 s :: sec) mv lb) (hk8 : k < 8) (hx : x < 256) (hk : IsKey w v bs) (hbl : bs.length ≤ 140737488355328) (hb : bitN x k = true) :
    Calls Tryz.prog 18 #[.pointer (some ⟨R, 0, none⟩), .int .i64 (k : Int), v] w fun e w' => e = .returned (.int .i64 0) ∧ Learnt R (.int .i64 i :: .int .i64 (x : Int) :: .int .i64 ex :: .int .i64 s :: sec) mv lb k bs w w' := by
  have HRo := Bx.mk (isrole_in k hk8)
  have h0 : (0 : Int) ≤ (k : Int) := by omega
  have h1 : (k : Int) < 8 := by omega
  have HHs : Bx (∀ W a n cap, Ints W (.slice a n cap) [(k : Int)] → Calls Tryz.prog 36 #[.agg #[.int .i64 i, .int .i64 (x : Int), .int .i64 ex, .int .i64 s], .slice a n cap] W fun r w' => r = .returned (.bool true) ∧ Below W.heap.size W w') := Bx.mk fun W a n cap hi => by
    have h := has_any i ex s x [(k : Int)] _ W hx hi (by simp)
    have hq : hasL x [(k : Int)] = true := by
      unfold hasL isR
      simp only [List.all_cons, List.all_nil, Bool.and_true, Int.toNat_natCast, hb]
      simp
      omega
    rw [hq] at h
    exact h
  have HCp := Bx.mk fun (W : World) (hW : IsKey W v bs) => copied_key bs v W hW hbl
  have HR := Bx.mk (And.intro hr hk)
  obtain ⟨pk, sk, rfl, -, -⟩ := hk
  have c0 : w.cell? ⟨R, 0, none⟩ = some (.int .i64 i) := by rw [cell_of_row _ _ _ _ _ _ hr.row]; rfl
  have c1 : w.cell? ⟨R, 1, none⟩ = some (.int .i64 (x : Int)) := by rw [cell_of_row _ _ _ _ _ _ hr.row]; rfl
  have c2 : w.cell? ⟨R, 2, none⟩ = some (.int .i64 ex) := by rw [cell_of_row _ _ _ _ _ _ hr.row]; rfl
  have c3 : w.cell? ⟨R, 3, none⟩ = some (.int .i64 s) := by rw [cell_of_row _ _ _ _ _ _ hr.row]; rfl
  clear hr hb hx hbl
  go_enter Tryz.func18, Tryz.ntmps18
  go_wp2_with fail
  refine (HRo.out _).mono ?_
  rintro e w1 ⟨rfl, rfl⟩
  clear HRo
  go_wp2_with fail
  have H2 := Bx.mk (below_a (W := w1) (.cells #[.int .i64 (k : Int)] 3))
  refine (HHs.out _ _ _ _ ⟨_, _, rfl, Nat.le_refl 1, fun h => (by cases h), fun _ => ⟨_, _, rfl, fun j hj => ?_⟩⟩).mono ?_
  · obtain rfl : j = 0 := by simp at hj; omega
    rw [cell_of_row _ _ _ _ _ _ (hnew _ _ _ rfl)]
    rfl
  rintro e w2 ⟨rfl, hb⟩
  have H2 := Bx.mk (H2.out.trans (hb.mono H2.out.size))
  clear hb HHs
  have HR2 := Bx.mk (And.intro (HR.out.1.later (H2.out.block R HR.out.1.lt)) (HR.out.2.later H2.out))
  clear HR c0 c1 c2 c3
  go_upto_region 9 with fail
  refine wp_region_noPanic ?_
  refine wp_region_held_drew (S := fun _ => True) (by kernel_rfl) (trivial) (fun hHeld => ?_)
  have HR3 := Bx.mk (And.intro (HR2.out.1.later (W1 := w2.drew) rfl) (And.intro (HR2.out.2.later (Below.refl _ _).drew) (H2.out.drew)))
  clear HR2 H2
  generalize w2.drew = W0 at *
  refine takeL 0 (v := ?_) rfl (by kernel_rfl) (by kernel_rfl) (by kernel_rfl) (fun _ _ _ h => h) (Or.inl ⟨by rfl, ?_⟩) hHeld ?_
  rotate_left 1
  · (intro w hSw; go_simp; try with_reducible rfl)
  try simp only [Act.put, List.setIfInBounds_toArray, List.set_cons_zero, List.set_cons_succ]
  refine takeL 1 (v := ?_) rfl (by kernel_rfl) (by kernel_rfl) (by kernel_rfl) (fun _ _ _ h => h) (Or.inl ⟨by rfl, ?_⟩) hHeld ?_
  rotate_left 1
  · (intro w hSw; go_simp; try with_reducible rfl)
  try simp only [Act.put, List.setIfInBounds_toArray, List.set_cons_zero, List.set_cons_succ]
  refine takeL 2 (v := ?_) rfl (by kernel_rfl) (by kernel_rfl) (by kernel_rfl) (fun _ _ _ h => h) (Or.inl ⟨by rfl, ?_⟩) hHeld ?_
  rotate_left 1
  · (intro w hSw; go_simp; try with_reducible rfl)
  try simp only [Act.put, List.setIfInBounds_toArray, List.set_cons_zero, List.set_cons_succ]
  refine takeL 4 (v := ?_) rfl (by kernel_rfl) (by kernel_rfl) (by kernel_rfl) (fun _ _ _ h => h) (Or.inl ⟨by rfl, ?_⟩) hHeld ?_
  rotate_left 1
  · (intro w hSw; go_simp; try with_reducible rfl)
  try simp only [Act.put, List.setIfInBounds_toArray, List.set_cons_zero, List.set_cons_succ]
  refine takeL 5 (v := ?_) rfl (by kernel_rfl) (by kernel_rfl) (by kernel_rfl) (fun _ _ _ h => h) (Or.inl ⟨by rfl, ?_⟩) hHeld ?_
  rotate_left 1
  · (intro w hSw; go_simp; try with_reducible rfl)
  try simp only [Act.put, List.setIfInBounds_toArray, List.set_cons_zero, List.set_cons_succ]
  refine stepL 3 (by kernel_rfl) rfl (fun K hK => ?_)
  go_simp
  refine (HCp.out W0 HR3.out.2.1).mono ?_
  rintro e W1 ⟨v', rfl, hk', hb'⟩
  obtain ⟨p, hp⟩ : ∃ p, v' = ptr p := by obtain ⟨p, _, h, _⟩ := hk'; exact ⟨p, h⟩
  subst hp
  unfold ptr at *
  show K _ _
  have R1 := Bx.mk (And.intro hk' hb')
  clear hk' hb'
  refine hK.out _ _ trivial (fun hHeld => ?_)
  clear hK K
  try simp only [Act.put, List.setIfInBounds_toArray, List.set_cons_zero, List.set_cons_succ]
  refine takeL 6 (v := ?_) rfl (by kernel_rfl) (by kernel_rfl) (by kernel_rfl) (fun _ _ _ h => h) (Or.inl ⟨by rfl, ?_⟩) hHeld ?_
  rotate_left 1
  · (intro w hSw; go_simp; try with_reducible rfl)
  try simp only [Act.put, List.setIfInBounds_toArray, List.set_cons_zero, List.set_cons_succ]
  refine stepL 7 (by kernel_rfl) rfl (fun K hK => ?_)
  have hr1 := HR3.out.1.later (R1.out.2.block R HR3.out.1.lt)
  refine step_st1 rfl 45 _ _ rfl (run_st1 W1 R (37 + k) p _ (hr1.lab k hk8) (frozen_of_row _ _ _ _ _ hr1.row)) ?_
  have R2 : Bx (Learnt R (.int .i64 i :: .int .i64 (x : Int) :: .int .i64 ex :: .int .i64 s :: sec) mv lb k bs w1 (W1.setCell ⟨R, 37 + k, none⟩ (.pointer (some ⟨p, 0, none⟩)))) := Bx.mk ⟨p, hr1.setLab k _, (R1.out.1.keep (KP.by_ (R := R) (L := R) (set_grown _ _ _ _) (.inl rfl)) HR3.out.1.lt HR3.out.1.lt).weak HR3.out.2.2.size, W1, HR3.out.2.2.trans (R1.out.2.mono HR3.out.2.2.size), set_grown _ _ _ _⟩
  clear hr1
  refine hK.out _ _ trivial (fun hHeld => ?_)
  clear hK K
  try simp only [Act.put, List.setIfInBounds_toArray, List.set_cons_zero, List.set_cons_succ]
  refine wpAnyH_done (by kernel_rfl) ?_ _
  refine NoPanic.normal ?_
  clear hHeld
  go_wp2
  go_ret
  exact ⟨rfl, R2.out⟩
set_option maxRecDepth 100000 in
set_option maxHeartbeats 1000000 in
theorem label_out (R : Nat) (r : Int) (w : World) (hr8 : r < 0 ∨ 8 ≤ r) :
    Calls Tryz.prog 20 #[.pointer (some ⟨R, 0, none⟩), .int .i64 r] w fun e w' => e = .returned (.tuple #[.pointer none, .int .i64 10]) ∧ Below w.heap.size w w' := by
  have HRo := Bx.mk (isrole_out r hr8)
  clear hr8
  go_enter Tryz.func20, Tryz.ntmps20
  go_wp2_with fail
  refine (HRo.out _).mono ?_
  rintro e w1 ⟨rfl, rfl⟩
  clear HRo
  go_wp2
  go_ret2
  exact ⟨rfl, Below.refl _ _⟩
set_option maxRecDepth 100000 in
set_option maxHeartbeats 1000000 in
theorem label_none (R k : Nat) (tk : List Value) (mv : Value) (lb : List Value) (w : World) (hr : RingAt w R tk mv lb) (hk8 : k < 8) (hn : lb.getD k undef = .pointer none) :
    Calls Tryz.prog 20 #[.pointer (some ⟨R, 0, none⟩), .int .i64 (k : Int)] w fun e w' => e = .returned (.tuple #[.pointer none, .int .i64 7]) ∧ Below w.heap.size w w' := by
  have HRo := Bx.mk (isrole_in k hk8)
  have h0 : (0 : Int) ≤ (k : Int) := by omega
  have h1 : (k : Int) < 8 := by omega
  have hc := hr.lab k hk8
  rw [hn] at hc
  go_enter Tryz.func20, Tryz.ntmps20
  go_wp2_with fail
  refine (HRo.out _).mono ?_
  rintro e w1 ⟨rfl, rfl⟩
  clear HRo
  go_wp2
  go_ret2
  exact ⟨rfl, Below.refl _ _⟩
set_option maxRecDepth 100000 in
set_option maxHeartbeats 1000000 in
theorem label_ok (R k p : Nat) (tk : List Value) (mv : Value) (lb : List Value) (bs : List UInt8) (w : World) (hr : RingAt w R tk mv lb) (hk8 : k < 8) (hn : lb.getD k undef = ptr p) (hk : IsKey w (ptr p) bs) (hbl : bs.length ≤ 140737488355328) :
    Calls Tryz.prog 20 #[.pointer (some ⟨R, 0, none⟩), .int .i64 (k : Int)] w fun e w' => ∃ v', e = .returned (.tuple #[v', .int .i64 0]) ∧ KeyO w' w.heap.size v' bs ∧ Below w.heap.size w w' := by
  have HRo := Bx.mk (isrole_in k hk8)
  have h0 : (0 : Int) ≤ (k : Int) := by omega
  have h1 : (k : Int) < 8 := by omega
  have hc := hr.lab k hk8
  rw [hn] at hc
  have HCp := Bx.mk (copied_key bs (ptr p) w hk hbl)
  unfold ptr at *
  go_enter Tryz.func20, Tryz.ntmps20
  go_wp2_with fail
  refine (HRo.out _).mono ?_
  rintro e w1 ⟨rfl, rfl⟩
  clear HRo
  go_wp2_with fail
  refine HCp.out.mono ?_
  rintro e w2 ⟨v', rfl, h2, h3⟩
  have R1 := Bx.mk (And.intro h2 h3)
  clear h2 h3 HCp hc
  go_wp2
  go_ret2
  exact ⟨_, rfl, R1.out⟩
end Go.Proofs.YtnefpjdjnjcmbaaGreatDoor
