/-
  An entry: is it wanted, is it due? A key copied.
-/
import Derived.Test.YtdbdpehagkglfaaH9
namespace Go.Proofs.Ytdbdpehagkglfaa
open Go Go.RowKit
theorem WinE.at3 {kv : Value} {a : Int} {K : TypeId} {W : World} {p : Nat} {s : Ws} (h : WinE [kv, .int .i64 a] K W p s) : W.cell? ⟨p, 3, none⟩ = some kv := by rw [cell_of_row _ _ _ _ _ _ h]; rfl
theorem WinE.at4 {kv : Value} {a : Int} {K : TypeId} {W : World} {p : Nat} {s : Ws} (h : WinE [kv, .int .i64 a] K W p s) : W.cell? ⟨p, 4, none⟩ = some (.int .i64 a) := by rw [cell_of_row _ _ _ _ _ _ h]; rfl
set_option maxRecDepth 100000 in
set_option maxHeartbeats 1000000 in
theorem wanted_any (B : Nat) (e : En) (w : World) (h : EntAt B w e) : Calls Try.prog 38 #[ptr e.p] w fun x w' => x = .returned (.bool e.k.isNone) ∧ w' = w := by
  obtain ⟨⟨kv, h1, h2⟩, -, -, -, -⟩ := h
  have h3 := h1.at3
  clear h1
  obtain ⟨c, p, s, k, a⟩ := e
  unfold ptr
  simp only at h2 h3 ⊢
  rcases h2 with ⟨rfl, rfl⟩ | ⟨bs, rfl, ⟨g, v, rfl, -⟩, -⟩
  · go_enter Try.func38, Try.ntmps38
    go_wp2
    go_ret
    exact ⟨rfl, rfl⟩
  · go_enter Try.func38, Try.ntmps38
    go_wp2
    go_ret
    exact ⟨rfl, rfl⟩
/-- Is it due? -/
def dueE (t : Int) (e : En) : Bool := e.k.isNone && decide (8 ≤ t - e.a)
set_option maxRecDepth 100000 in
set_option maxHeartbeats 1000000 in
theorem due_any (B : Nat) (e : En) (t : Int) (w : World) (h : EntAt B w e) (ht : 0 ≤ t ∧ t ≤ 1073741824) : Calls Try.prog 37 #[ptr e.p, .int .i64 t] w fun x w' => x = .returned (.bool (dueE t e)) ∧ w' = w := by
  have HW := Bx.mk (wanted_any B e w h)
  obtain ⟨⟨kv, h1, -⟩, -, -, -, ha⟩ := h
  have h4 := h1.at4
  clear h1
  obtain ⟨c, p, s, k, a⟩ := e
  unfold dueE
  unfold ptr at *
  simp only at HW h4 ha ⊢
  cases k with
  | some bs =>
    simp only [Option.isNone, Bool.false_and] at HW ⊢
    clear ha ht
    go_enter Try.func37, Try.ntmps37
    go_wp2_with fail
    refine HW.out.mono ?_
    rintro e w1 ⟨rfl, hw⟩
    obtain rfl : w = w1 := hw.symm
    go_wp2
    go_ret
    exact ⟨rfl, rfl⟩
  | none =>
    simp only [Option.isNone, Bool.true_and] at HW ⊢
    by_cases hlt : a < t
    · obtain ⟨d, hd⟩ : ∃ d : Nat, t - a = (d : Int) := ⟨(t - a).toNat, by omega⟩
      have e1 : IntKind.i64.wrap (t - a) = (d : Int) := by rw [← hd]; simp [IntKind.wrap_i64]; omega
      have e2 : IntKind.u64.wrap (d : Int) = (d : Int) := by rw [IntKind.wrap_u64]; omega
      rw [hd]
      have HD := Bx.mk hd
      clear ha ht hd
      obtain ⟨b8, hb8⟩ : ∃ b8, decide ((8 : Int) ≤ (d : Int)) = b8 := ⟨_, rfl⟩
      rw [hb8]
      go_enter Try.func37, Try.ntmps37
      go_wp2_with fail
      refine HW.out.mono ?_
      rintro e w1 ⟨rfl, hw⟩
      obtain rfl : w = w1 := hw.symm
      go_wp2
      go_ret
      exact ⟨by first | rfl | (rw [hb8]) | skip, rfl⟩
    · have e0 : decide ((8 : Int) ≤ t - a) = false := decide_eq_false (by omega)
      rw [e0]
      clear ha ht e0
      go_enter Try.func37, Try.ntmps37
      go_wp2_with fail
      refine HW.out.mono ?_
      rintro e w1 ⟨rfl, hw⟩
      obtain rfl : w = w1 := hw.symm
      go_wp2
      go_ret
      exact ⟨rfl, rfl⟩
set_option maxRecDepth 100000 in
theorem copied15 (bs : List UInt8) (v : Value) (w : World) (hv : IsKey w v bs) (hl : bs.length ≤ 140737488355328) :
    Calls Try.prog 39 #[v] w fun e w' => ∃ v', e = .returned v' ∧ KeyO w' w.heap.size v' bs ∧ Below w.heap.size w w' := by
  have HK := Bx.mk (kbytes_any bs v w hv hl)
  have HL := Bx.mk hl
  obtain ⟨p, s, rfl, -, -⟩ := hv
  clear hl
  go_enter Try.func39, Try.ntmps39
  go_wp2_with fail
  refine HK.out.mono ?_
  rintro e w1 ⟨v1, rfl, ho, hb⟩
  have H1 := Bx.mk (And.intro ho.bytes hb)
  clear ho hb HK
  go_wp2_with fail
  refine (new_any bs v1 w1 H1.out.1 HL.out).mono ?_
  rintro e w2 ⟨v2, rfl, hk, hb⟩
  have H2 := Bx.mk (And.intro (hk.weak H1.out.2.size) (H1.out.2.trans (hb.mono H1.out.2.size)))
  clear hk hb H1
  go_wp2
  go_ret
  exact ⟨v2, rfl, H2.out⟩
end Go.Proofs.Ytdbdpehagkglfaa
namespace Go.Proofs.Ytdbdpehagkglfaa
open Go Go.RowKit
theorem box_rng (w : World) (c : Cl) (T : TypeId) : (w.alloc (.cells #[.int .i64 c.id, .int .i64 c.ro, .int .i64 c.ex, .int .i64 c.se] T)).rangeAt w.heap.size 0 [.int .i64 c.id, .int .i64 c.ro, .int .i64 c.ex, .int .i64 c.se] := fun j u hj => by
  rw [cell_of_row _ _ _ _ _ _ (hnew _ _ _ rfl), Nat.zero_add, ← Array.getElem?_toList]
  exact hj
theorem rng_later {W W1 : World} {g o : Nat} {l : List Value} (h : W.rangeAt g o l) (hb : Below W.heap.size W W1) : W1.rangeAt g o l := fun j u hj => by
  have h1 := h j u hj
  rw [hb.cell (World.block_lt_of_cell? _ _ h1)]
  exact h1
set_option maxRecDepth 100000 in
set_option maxHeartbeats 1000000 in
theorem find_out (B Q : Nat) (l : List En) (c : Cl) (hc : Cl64 c) (hn : ∀ e ∈ l, e.c ≠ c) (w : World) (h : BookAt B Q l w) : Calls Try.prog 42 #[ptr Q, clV c] w fun x w' => x = .returned (.tuple #[.pointer none, .int .i64 7]) ∧ Below w.heap.size w w' := by
  obtain ⟨mb, hmb⟩ := h.looks c hc
  rw [posE_out hn] at hmb
  have HLo := Bx.mk hmb
  clear hn hc
  clear h hmb
  obtain ⟨i, r, x, q⟩ := c
  unfold clV ptr at *
  unfold ptrO at HLo
  simp only at HLo ⊢
  have HBo := Bx.mk (box_rng w ⟨i, r, x, q⟩ 34)
  have HBe := Bx.mk (below_a (W := w) (.cells #[.int .i64 i, .int .i64 r, .int .i64 x, .int .i64 q] 34))
  simp only at HBo HBe
  go_enter Try.func42, Try.ntmps42
  go_upto_region 3 with fail
  generalize hX : w.heap.size = X at *
  generalize w.alloc (.cells #[.int .i64 i, .int .i64 r, .int .i64 x, .int .i64 q] 34) = w1 at *
  have R0 : Bx (Below X w w1.drew ∧ w1.drew.rangeAt X 0 [.int .i64 i, .int .i64 r, .int .i64 x, .int .i64 q]) := Bx.mk ⟨HBe.out.drew, HBo.out⟩
  clear HBo HBe
  refine wp_region_noPanic ?_
  refine wp_region_held_drew (S := fun W => W.cell? ⟨Q, 0, none⟩ = some (.map mb) ∧ (W.rangeAt X 0 [.int .i64 i, .int .i64 r, .int .i64 x, .int .i64 q] ∧ (Instr.lookup 69 (.map mb) (.agg #[.int .i64 i, .int .i64 r, .int .i64 x, .int .i64 q]) false).run Try.prog W = .ok (.pointer none) W)) (by kernel_rfl) (⟨(HLo.out _ R0.out.1).1, R0.out.2, (HLo.out _ R0.out.1).2.1⟩) (fun hHeld => ?_)
  refine takeL 0 (v := ?_) rfl (by kernel_rfl) (by kernel_rfl) (by kernel_rfl) (fun _ _ _ h => h) (Or.inl ⟨by rfl, ?_⟩) hHeld ?_
  rotate_left 1
  · (intro w hSw; go_simp; try with_reducible rfl)
  try simp only [Act.put, List.setIfInBounds_toArray, List.set_cons_zero, List.set_cons_succ]
  refine takeL 1 (v := ?_) rfl (by kernel_rfl) (by kernel_rfl) (by kernel_rfl) (fun _ _ _ h => h) (Or.inl ⟨by rfl, ?_⟩) hHeld ?_
  rotate_left 1
  · (intro w hSw; go_simp; try with_reducible rfl)
  try simp only [Act.put, List.setIfInBounds_toArray, List.set_cons_zero, List.set_cons_succ]
  refine takeL 2 (v := ?_) rfl (by kernel_rfl) (by kernel_rfl) (by kernel_rfl) (fun _ _ _ h => h) (Or.inl ⟨by rfl, ?_⟩) hHeld ?_
  rotate_left 1
  · (intro w hSw; go_simp; try with_reducible rfl)
  try simp only [Act.put, List.setIfInBounds_toArray, List.set_cons_zero, List.set_cons_succ]
  refine takeL 3 (v := ?_) rfl (by kernel_rfl) (by kernel_rfl) (by kernel_rfl) (fun _ _ _ h => h) (Or.inl ⟨by rfl, ?_⟩) hHeld ?_
  rotate_left 1
  · (intro w hSw; have h1 := hSw.1; go_simp; try with_reducible rfl)
  try simp only [Act.put, List.setIfInBounds_toArray, List.set_cons_zero, List.set_cons_succ]
  refine takeL 4 rfl (by kernel_rfl) (by kernel_rfl) (by kernel_rfl) (fun _ _ _ h => h) (yieldsIf_load_mid (by rfl) _ _ rfl _ _ rfl _ _ (fun w hSw => hSw.2.1) Try.underlying34 rfl (by kernel_rfl)) hHeld ?_
  try simp only [Act.put, List.setIfInBounds_toArray, List.set_cons_zero, List.set_cons_succ]
  refine takeL 5 (v := ?_) rfl (by kernel_rfl) (by kernel_rfl) (by kernel_rfl) (fun _ _ _ h => h) (Or.inl ⟨by rfl, ?_⟩) hHeld ?_
  rotate_left 1
  · (intro w hSw; have h3 := hSw.2.2; go_simp; try with_reducible rfl)
  try simp only [Act.put, List.setIfInBounds_toArray, List.set_cons_zero, List.set_cons_succ]
  refine takeL 6 (v := ?_) rfl (by kernel_rfl) (by kernel_rfl) (by kernel_rfl) (fun _ _ _ h => h) (Or.inl ⟨by rfl, ?_⟩) hHeld ?_
  rotate_left 1
  · (intro w hSw; go_simp; try with_reducible rfl)
  try simp only [Act.put, List.setIfInBounds_toArray, List.set_cons_zero, List.set_cons_succ]
  refine wpAnyH_done (by kernel_rfl) ?_ _
  refine NoPanic.normal ?_
  clear hHeld
  go_wp2
  go_ret2
  exact ⟨rfl, by rw [hX]; exact R0.out.1⟩
set_option maxRecDepth 100000 in
set_option maxHeartbeats 1000000 in
theorem find_wanted (B Q : Nat) (l : List En) (e : En) (he : e ∈ l) (hk : e.k.isNone = true) (w : World) (h : BookAt B Q l w) : Calls Try.prog 42 #[ptr Q, clV e.c] w fun x w' => x = .returned (.tuple #[.pointer none, .int .i64 11]) ∧ Below w.heap.size w w' := by
  obtain ⟨mb, hmb⟩ := h.looks e.c (h.ent e he).fit
  rw [posE_in h.keys he] at hmb
  have HLo := Bx.mk hmb
  have HW : Bx (∀ W, Below w.heap.size w W → Calls Try.prog 38 #[.pointer (some ⟨e.p, 0, none⟩)] W fun x w' => x = .returned (.bool true) ∧ w' = W) := Bx.mk fun W hb => by
    have := wanted_any B e W ((h.ent e he).later hb)
    rw [hk] at this
    exact this
  clear hk he
  obtain ⟨c, p, s, k, a⟩ := e
  simp only at HLo HW ⊢
  clear h hmb
  obtain ⟨i, r, x, q⟩ := c
  unfold clV ptr at *
  unfold ptrO at HLo
  simp only at HLo ⊢
  have HBo := Bx.mk (box_rng w ⟨i, r, x, q⟩ 34)
  have HBe := Bx.mk (below_a (W := w) (.cells #[.int .i64 i, .int .i64 r, .int .i64 x, .int .i64 q] 34))
  simp only at HBo HBe
  go_enter Try.func42, Try.ntmps42
  go_upto_region 3 with fail
  generalize hX : w.heap.size = X at *
  generalize w.alloc (.cells #[.int .i64 i, .int .i64 r, .int .i64 x, .int .i64 q] 34) = w1 at *
  have R0 : Bx (Below X w w1.drew ∧ w1.drew.rangeAt X 0 [.int .i64 i, .int .i64 r, .int .i64 x, .int .i64 q]) := Bx.mk ⟨HBe.out.drew, HBo.out⟩
  clear HBo HBe
  refine wp_region_noPanic ?_
  refine wp_region_held_drew (S := fun W => W.cell? ⟨Q, 0, none⟩ = some (.map mb) ∧ (W.rangeAt X 0 [.int .i64 i, .int .i64 r, .int .i64 x, .int .i64 q] ∧ (Instr.lookup 69 (.map mb) (.agg #[.int .i64 i, .int .i64 r, .int .i64 x, .int .i64 q]) false).run Try.prog W = .ok (.pointer (some ⟨p, 0, none⟩)) W)) (by kernel_rfl) (⟨(HLo.out _ R0.out.1).1, R0.out.2, (HLo.out _ R0.out.1).2.1⟩) (fun hHeld => ?_)
  refine takeL 0 (v := ?_) rfl (by kernel_rfl) (by kernel_rfl) (by kernel_rfl) (fun _ _ _ h => h) (Or.inl ⟨by rfl, ?_⟩) hHeld ?_
  rotate_left 1
  · (intro w hSw; go_simp; try with_reducible rfl)
  try simp only [Act.put, List.setIfInBounds_toArray, List.set_cons_zero, List.set_cons_succ]
  refine takeL 1 (v := ?_) rfl (by kernel_rfl) (by kernel_rfl) (by kernel_rfl) (fun _ _ _ h => h) (Or.inl ⟨by rfl, ?_⟩) hHeld ?_
  rotate_left 1
  · (intro w hSw; go_simp; try with_reducible rfl)
  try simp only [Act.put, List.setIfInBounds_toArray, List.set_cons_zero, List.set_cons_succ]
  refine takeL 2 (v := ?_) rfl (by kernel_rfl) (by kernel_rfl) (by kernel_rfl) (fun _ _ _ h => h) (Or.inl ⟨by rfl, ?_⟩) hHeld ?_
  rotate_left 1
  · (intro w hSw; go_simp; try with_reducible rfl)
  try simp only [Act.put, List.setIfInBounds_toArray, List.set_cons_zero, List.set_cons_succ]
  refine takeL 3 (v := ?_) rfl (by kernel_rfl) (by kernel_rfl) (by kernel_rfl) (fun _ _ _ h => h) (Or.inl ⟨by rfl, ?_⟩) hHeld ?_
  rotate_left 1
  · (intro w hSw; have h1 := hSw.1; go_simp; try with_reducible rfl)
  try simp only [Act.put, List.setIfInBounds_toArray, List.set_cons_zero, List.set_cons_succ]
  refine takeL 4 rfl (by kernel_rfl) (by kernel_rfl) (by kernel_rfl) (fun _ _ _ h => h) (yieldsIf_load_mid (by rfl) _ _ rfl _ _ rfl _ _ (fun w hSw => hSw.2.1) Try.underlying34 rfl (by kernel_rfl)) hHeld ?_
  try simp only [Act.put, List.setIfInBounds_toArray, List.set_cons_zero, List.set_cons_succ]
  refine takeL 5 (v := ?_) rfl (by kernel_rfl) (by kernel_rfl) (by kernel_rfl) (fun _ _ _ h => h) (Or.inl ⟨by rfl, ?_⟩) hHeld ?_
  rotate_left 1
  · (intro w hSw; have h3 := hSw.2.2; go_simp; try with_reducible rfl)
  try simp only [Act.put, List.setIfInBounds_toArray, List.set_cons_zero, List.set_cons_succ]
  refine takeL 6 (v := ?_) rfl (by kernel_rfl) (by kernel_rfl) (by kernel_rfl) (fun _ _ _ h => h) (Or.inl ⟨by rfl, ?_⟩) hHeld ?_
  rotate_left 1
  · (intro w hSw; go_simp; try with_reducible rfl)
  try simp only [Act.put, List.setIfInBounds_toArray, List.set_cons_zero, List.set_cons_succ]
  refine wpAnyH_done (by kernel_rfl) ?_ _
  refine NoPanic.normal ?_
  clear hHeld
  go_wp2_with fail
  refine (HW.out _ R0.out.1).mono ?_
  rintro e w2 ⟨rfl, hw⟩
  obtain rfl : w1.drew = w2 := hw.symm
  go_wp2
  go_ret2
  exact ⟨rfl, by rw [hX]; exact R0.out.1⟩
set_option maxRecDepth 100000 in
set_option maxHeartbeats 1000000 in
theorem find_known (B Q : Nat) (l : List En) (e : En) (he : e ∈ l) (hk : e.k.isNone = false) (w : World) (h : BookAt B Q l w) : Calls Try.prog 42 #[ptr Q, clV e.c] w fun x w' => x = .returned (.tuple #[.pointer (some ⟨e.p, 0, none⟩), .int .i64 0]) ∧ Below w.heap.size w w' := by
  obtain ⟨mb, hmb⟩ := h.looks e.c (h.ent e he).fit
  rw [posE_in h.keys he] at hmb
  have HLo := Bx.mk hmb
  have HW : Bx (∀ W, Below w.heap.size w W → Calls Try.prog 38 #[.pointer (some ⟨e.p, 0, none⟩)] W fun x w' => x = .returned (.bool false) ∧ w' = W) := Bx.mk fun W hb => by
    have := wanted_any B e W ((h.ent e he).later hb)
    rw [hk] at this
    exact this
  clear hk he
  obtain ⟨c, p, s, k, a⟩ := e
  simp only at HLo HW ⊢
  clear h hmb
  obtain ⟨i, r, x, q⟩ := c
  unfold clV ptr at *
  unfold ptrO at HLo
  simp only at HLo ⊢
  have HBo := Bx.mk (box_rng w ⟨i, r, x, q⟩ 34)
  have HBe := Bx.mk (below_a (W := w) (.cells #[.int .i64 i, .int .i64 r, .int .i64 x, .int .i64 q] 34))
  simp only at HBo HBe
  go_enter Try.func42, Try.ntmps42
  go_upto_region 3 with fail
  generalize hX : w.heap.size = X at *
  generalize w.alloc (.cells #[.int .i64 i, .int .i64 r, .int .i64 x, .int .i64 q] 34) = w1 at *
  have R0 : Bx (Below X w w1.drew ∧ w1.drew.rangeAt X 0 [.int .i64 i, .int .i64 r, .int .i64 x, .int .i64 q]) := Bx.mk ⟨HBe.out.drew, HBo.out⟩
  clear HBo HBe
  refine wp_region_noPanic ?_
  refine wp_region_held_drew (S := fun W => W.cell? ⟨Q, 0, none⟩ = some (.map mb) ∧ (W.rangeAt X 0 [.int .i64 i, .int .i64 r, .int .i64 x, .int .i64 q] ∧ (Instr.lookup 69 (.map mb) (.agg #[.int .i64 i, .int .i64 r, .int .i64 x, .int .i64 q]) false).run Try.prog W = .ok (.pointer (some ⟨p, 0, none⟩)) W)) (by kernel_rfl) (⟨(HLo.out _ R0.out.1).1, R0.out.2, (HLo.out _ R0.out.1).2.1⟩) (fun hHeld => ?_)
  refine takeL 0 (v := ?_) rfl (by kernel_rfl) (by kernel_rfl) (by kernel_rfl) (fun _ _ _ h => h) (Or.inl ⟨by rfl, ?_⟩) hHeld ?_
  rotate_left 1
  · (intro w hSw; go_simp; try with_reducible rfl)
  try simp only [Act.put, List.setIfInBounds_toArray, List.set_cons_zero, List.set_cons_succ]
  refine takeL 1 (v := ?_) rfl (by kernel_rfl) (by kernel_rfl) (by kernel_rfl) (fun _ _ _ h => h) (Or.inl ⟨by rfl, ?_⟩) hHeld ?_
  rotate_left 1
  · (intro w hSw; go_simp; try with_reducible rfl)
  try simp only [Act.put, List.setIfInBounds_toArray, List.set_cons_zero, List.set_cons_succ]
  refine takeL 2 (v := ?_) rfl (by kernel_rfl) (by kernel_rfl) (by kernel_rfl) (fun _ _ _ h => h) (Or.inl ⟨by rfl, ?_⟩) hHeld ?_
  rotate_left 1
  · (intro w hSw; go_simp; try with_reducible rfl)
  try simp only [Act.put, List.setIfInBounds_toArray, List.set_cons_zero, List.set_cons_succ]
  refine takeL 3 (v := ?_) rfl (by kernel_rfl) (by kernel_rfl) (by kernel_rfl) (fun _ _ _ h => h) (Or.inl ⟨by rfl, ?_⟩) hHeld ?_
  rotate_left 1
  · (intro w hSw; have h1 := hSw.1; go_simp; try with_reducible rfl)
  try simp only [Act.put, List.setIfInBounds_toArray, List.set_cons_zero, List.set_cons_succ]
  refine takeL 4 rfl (by kernel_rfl) (by kernel_rfl) (by kernel_rfl) (fun _ _ _ h => h) (yieldsIf_load_mid (by rfl) _ _ rfl _ _ rfl _ _ (fun w hSw => hSw.2.1) Try.underlying34 rfl (by kernel_rfl)) hHeld ?_
  try simp only [Act.put, List.setIfInBounds_toArray, List.set_cons_zero, List.set_cons_succ]
  refine takeL 5 (v := ?_) rfl (by kernel_rfl) (by kernel_rfl) (by kernel_rfl) (fun _ _ _ h => h) (Or.inl ⟨by rfl, ?_⟩) hHeld ?_
  rotate_left 1
  · (intro w hSw; have h3 := hSw.2.2; go_simp; try with_reducible rfl)
  try simp only [Act.put, List.setIfInBounds_toArray, List.set_cons_zero, List.set_cons_succ]
  refine takeL 6 (v := ?_) rfl (by kernel_rfl) (by kernel_rfl) (by kernel_rfl) (fun _ _ _ h => h) (Or.inl ⟨by rfl, ?_⟩) hHeld ?_
  rotate_left 1
  · (intro w hSw; go_simp; try with_reducible rfl)
  try simp only [Act.put, List.setIfInBounds_toArray, List.set_cons_zero, List.set_cons_succ]
  refine wpAnyH_done (by kernel_rfl) ?_ _
  refine NoPanic.normal ?_
  clear hHeld
  go_wp2_with fail
  refine (HW.out _ R0.out.1).mono ?_
  rintro e w2 ⟨rfl, hw⟩
  obtain rfl : w1.drew = w2 := hw.symm
  go_wp2
  go_ret2
  exact ⟨rfl, by rw [hX]; exact R0.out.1⟩
end Go.Proofs.Ytdbdpehagkglfaa
namespace Go.Proofs.Ytdbdpehagkglfaa
open Go Go.RowKit
theorem nn_rng (w : World) (b c : Int) (T : TypeId) : (w.alloc (.cells #[.int .i64 b, .int .i64 c] T)).rangeAt w.heap.size 0 [.int .i64 b, .int .i64 c] := fun j u hj => by
  rw [cell_of_row _ _ _ _ _ _ (hnew _ _ _ rfl), Nat.zero_add, ← Array.getElem?_toList]
  exact hj
theorem cell_heap {W W1 : World} {Y j : Nat} (h : W1.heap[Y]? = W.heap[Y]?) : W1.cell? ⟨Y, j, none⟩ = W.cell? ⟨Y, j, none⟩ := by
  unfold World.cell?
  simp only [h]
theorem cell_aside {W W1 : World} {p Y j : Nat} (hg : W.grownBy W1 (some p)) (hY : Y < W.heap.size ∧ Y ≠ p) : W1.cell? ⟨Y, j, none⟩ = W.cell? ⟨Y, j, none⟩ :=
  cell_heap (hg.block Y hY.1 (fun e => by injection e with e; exact hY.2 e))
/-- The entry of the same claims turned. -/
def setC (l : List En) (e' : En) : List En := l.map fun y => if y.c = e'.c then e' else y
theorem setC_in {l : List En} {e' y : En} (h : y ∈ setC l e') : y = e' ∨ (y ∈ l ∧ y.c ≠ e'.c) := by
  obtain ⟨z, hz, rfl⟩ := List.mem_map.1 h
  split
  · exact .inl rfl
  · rename_i hn
    exact .inr ⟨hz, hn⟩
theorem pw_inj {l : List En} (hk : l.Pairwise (fun x y => x.c ≠ y.c)) {e y : En} (he : e ∈ l) (hy : y ∈ l) (h : y.c = e.c) : y = e := by
  induction l with
  | nil => cases he
  | cons z l ih =>
    obtain ⟨h1, h2⟩ := List.pairwise_cons.1 hk
    rcases List.mem_cons.1 he with h5 | h5 <;> rcases List.mem_cons.1 hy with h6 | h6
    · rw [h5, h6]
    · subst h5; exact absurd h.symm (h1 y h6)
    · subst h6; exact absurd h (h1 e h5)
    · exact ih h2 h5 h6
theorem pw_ptr {l : List En} (hk : l.Pairwise (fun x y => x.p ≠ y.p)) {e y : En} (he : e ∈ l) (hy : y ∈ l) (h : y.p = e.p) : y = e := by
  induction l with
  | nil => cases he
  | cons z l ih =>
    obtain ⟨h1, h2⟩ := List.pairwise_cons.1 hk
    rcases List.mem_cons.1 he with h5 | h5 <;> rcases List.mem_cons.1 hy with h6 | h6
    · rw [h5, h6]
    · subst h5; exact absurd h.symm (h1 y h6)
    · subst h6; exact absurd h (h1 e h5)
    · exact ih h2 h5 h6
theorem setC_keys {l : List En} (hk : l.Pairwise (fun x y => x.c ≠ y.c)) (e' : En) : (setC l e').Pairwise (fun x y => x.c ≠ y.c) := by
  unfold setC
  rw [List.pairwise_map]
  refine hk.imp fun {a b} hab => ?_
  split <;> split <;> simp_all
theorem setC_prs {l : List En} (hk : l.Pairwise (fun x y => x.c ≠ y.c)) {e e' : En} (he : e ∈ l) (h1 : e'.c = e.c) (h2 : e'.p = e.p) : prsE (setC l e') = prsE l := by
  unfold prsE setC
  rw [List.map_map]
  refine List.map_congr_left fun y hy => ?_
  simp only [Function.comp]
  split
  · rename_i hc
    have := pw_inj hk he hy (hc.trans h1)
    rw [h1, h2, this]
  · rfl
theorem setC_dist {l : List En} (hk : l.Pairwise (fun x y => x.c ≠ y.c)) (hd : l.Pairwise (fun x y => x.p ≠ y.p)) {e e' : En} (he : e ∈ l) (h1 : e'.c = e.c) (h2 : e'.p = e.p) : (setC l e').Pairwise (fun x y => x.p ≠ y.p) := by
  have h3 : (prsE (setC l e')).Pairwise (fun x y => x.2 ≠ y.2) := by
    rw [setC_prs hk he h1 h2]
    exact List.pairwise_map.2 hd
  exact (List.pairwise_map (f := fun e : En => (e.c, e.p))).1 h3
/-- The book where the block of one entry has turned. -/
theorem BookAt.upd {B Q : Nat} {l : List En} {W W1 : World} (h : BookAt B Q l W) {e e' : En} (he : e ∈ l) (h1 : e'.c = e.c) (h2 : e'.p = e.p) (hE : EntAt B W1 e') (hg : W.grownBy W1 (some e.p)) : BookAt B Q (setC l e') W1 ∧ KB B W W1 := by
  obtain ⟨kv, hw, -⟩ := (h.ent e he).row
  have hkb : KB B W W1 := KB.by_ hg (h.ent e he).old (fun o ho => by
    rw [show W.heap[e.p]? = _ from hw] at ho
    injection ho with ho
    subst ho
    exact .inr ⟨_, _, _, rfl, .inl rfl⟩)
  refine ⟨⟨?_, fun y hy => ?_, setC_dist h.keys h.dist he h1 h2, setC_keys h.keys e', h.qB⟩, hkb⟩
  · obtain ⟨mb, ml, r1, r2, r3⟩ := h.row
    refine ⟨mb, ml, ?_, ?_, by rw [setC_prs h.keys he h1 h2]; exact r3⟩
    · rw [hg.block Q h.lt (fun ex => by
        injection ex with ex
        subst ex
        rw [show W.heap[e.p]? = _ from hw] at r1
        injection r1 with r1
        injection r1 with _ r1
        exact absurd r1 (by decide))]
      exact r1
    · rcases r2 with r2 | ⟨M, r4, r5, r6⟩
      · exact .inl r2
      · refine .inr ⟨M, r4, r5, r6.later (hg.block M r6.lt (fun ex => ?_))⟩
        injection ex with ex
        subst ex
        obtain ⟨es, clock, hb, -⟩ := r6.st
        rw [show W.heap[e.p]? = _ from hw] at hb
        cases hb
  · rcases setC_in hy with rfl | ⟨hy, hn⟩
    · exact hE
    · refine (h.ent y hy).keepB hkb (hg.block _ (h.ent y hy).lt (fun ex => ?_))
      injection ex with ex
      exact hn ((congrArg En.c (pw_ptr h.dist he hy ex)).trans h1.symm)
set_option maxRecDepth 100000 in
set_option maxHeartbeats 1000000 in
theorem new15 (w : World) : Calls Try.prog 6 #[] w fun x w' => x = .returned (ptr w.heap.size) ∧ BookAt w.heap.size w.heap.size [] w' ∧ Below w.heap.size w w' := by
  unfold ptr
  go_enter Try.func6, Try.ntmps6
  go_wp2
  go_ret
  exact ⟨rfl, ⟨⟨none, [], hnew _ _ _ rfl, .inl ⟨rfl, rfl⟩, .nil⟩, (fun e he => by cases he), .nil, .nil, Nat.le_refl _⟩, below_a _⟩
set_option maxRecDepth 100000 in
set_option maxHeartbeats 1000000 in
theorem len_any15 (B Q : Nat) (l : List En) (w : World) (h : BookAt B Q l w) : Calls Try.prog 29 #[ptr Q] w fun x w' => x = .returned (.int .i64 (l.length : Int)) ∧ w' = w := by
  obtain ⟨mb, hmb⟩ := h.looks c0 (by unfold Cl64 in64 c0; simp)
  obtain ⟨h1, -, h2⟩ := hmb w (Below.refl _ _)
  clear hmb h
  unfold ptr
  go_enter Try.func29, Try.ntmps29
  go_wp2
  go_ret
  exact ⟨rfl, rfl⟩
set_option maxRecDepth 100000 in
set_option maxHeartbeats 1000000 in
theorem key_err (Qv : Value) (c : Cl) (er : Int) (h0 : er ≠ 0) (w : World) (HF0 : ∀ W, Below w.heap.size w W → Calls Try.prog 42 #[Qv, clV c] W fun x w' => x = .returned (.tuple #[.pointer none, .int .i64 er]) ∧ Below W.heap.size W w') :
    Calls Try.prog 26 #[Qv, clV c] w fun x w' => x = .returned (.tuple #[.pointer none, .int .i64 er]) ∧ Below w.heap.size w w' := by
  have HF := Bx.mk HF0
  clear HF0
  obtain ⟨i, r, x, q⟩ := c
  unfold clV at *
  simp only at HF ⊢
  have HBe := Bx.mk (below_a (W := w) (.cells #[.int .i64 i, .int .i64 r, .int .i64 x, .int .i64 q] 34))
  have hne : (er != 0) = true := by simpa using h0
  go_enter Try.func26, Try.ntmps26
  go_wp2_with fail
  refine (HF.out _ HBe.out).mono ?_
  rintro e w2 ⟨rfl, hb⟩
  have H2 := Bx.mk (HBe.out.trans (hb.mono HBe.out.size))
  clear hb HBe HF
  go_wp2
  go_ret2
  exact ⟨rfl, H2.out⟩
set_option maxRecDepth 100000 in
set_option maxHeartbeats 1000000 in
theorem key_known (B Q : Nat) (l : List En) (e : En) (he : e ∈ l) (bs : List UInt8) (hk : e.k = some bs) (w : World) (h : BookAt B Q l w) :
    Calls Try.prog 26 #[ptr Q, clV e.c] w fun x w' => ∃ v, x = .returned (.tuple #[v, .int .i64 0]) ∧ KeyO w' w.heap.size v bs ∧ Below w.heap.size w w' := by
  have HF : Bx (∀ W, Below w.heap.size w W → Calls Try.prog 42 #[ptr Q, clV e.c] W fun x w' => x = .returned (.tuple #[.pointer (some ⟨e.p, 0, none⟩), .int .i64 0]) ∧ Below W.heap.size W w') := Bx.mk fun W hb => find_known B Q l e he (by rw [hk]; rfl) W (h.later hb)
  have HKc : Bx (∃ kv, ∀ W, Below w.heap.size w W → W.cell? ⟨e.p, 3, none⟩ = some kv ∧ Calls Try.prog 39 #[kv] W fun x w' => ∃ v, x = .returned v ∧ KeyO w' W.heap.size v bs ∧ Below W.heap.size W w') := Bx.mk (by
    obtain ⟨kv, h1, h2⟩ := (h.ent e he).row
    rcases h2 with ⟨h2, _⟩ | ⟨bs', h2, h3, h4⟩
    · rw [hk] at h2; cases h2
    · rw [hk] at h2
      injection h2 with h2
      subst h2
      exact ⟨kv, fun W hb => ⟨(h1.later hb).at3, copied15 bs kv W (h3.later hb).key (by omega)⟩⟩)
  clear h he hk
  obtain ⟨⟨i, r, x, q⟩, p, s, k, a⟩ := e
  unfold clV ptr at *
  simp only at HF HKc ⊢
  obtain ⟨kv, hkv⟩ := HKc.out
  have HKv := Bx.mk hkv
  clear hkv HKc
  have HBe := Bx.mk (below_a (W := w) (.cells #[.int .i64 i, .int .i64 r, .int .i64 x, .int .i64 q] 34))
  go_enter Try.func26, Try.ntmps26
  go_wp2_with fail
  refine (HF.out _ HBe.out).mono ?_
  rintro e w2 ⟨rfl, hb⟩
  have H2 := Bx.mk (HBe.out.trans (hb.mono HBe.out.size))
  have hc3 := (HKv.out _ H2.out).1
  clear hb HBe HF
  go_wp2_with fail
  refine (HKv.out _ H2.out).2.mono ?_
  rintro e w3 ⟨v, rfl, hk, hb⟩
  have H3 := Bx.mk (And.intro (hk.weak H2.out.size) (H2.out.trans (hb.mono H2.out.size)))
  clear hk hb H2 HKv hc3
  go_wp2
  go_ret2
  exact ⟨_, rfl, H3.out⟩
set_option maxRecDepth 100000 in
set_option maxHeartbeats 1000000 in
theorem look_err15 (Qv : Value) (c : Cl) (n : Nn) (er : Int) (h0 : er ≠ 0) (w : World) (HF0 : ∀ W, Below w.heap.size w W → Calls Try.prog 42 #[Qv, clV c] W fun x w' => x = .returned (.tuple #[.pointer none, .int .i64 er]) ∧ Below W.heap.size W w') :
    Calls Try.prog 27 #[Qv, clV c, nv n] w fun x w' => x = .returned (.int .i64 er) ∧ Below w.heap.size w w' := by
  have HF := Bx.mk HF0
  clear HF0
  obtain ⟨i, r, x, q⟩ := c
  obtain ⟨nb, nc⟩ := n
  unfold clV nv at *
  simp only at HF ⊢
  have HBe : Bx (Below w.heap.size w ((w.alloc (.cells #[.int .i64 i, .int .i64 r, .int .i64 x, .int .i64 q] 34)).alloc (.cells #[.int .i64 nb, .int .i64 nc] 51))) := Bx.mk ((below_a _).alloc (by simp) _)
  have hne : (er != 0) = true := by simpa using h0
  go_enter Try.func27, Try.ntmps27
  go_wp2_with fail
  refine (HF.out _ HBe.out).mono ?_
  rintro e w2 ⟨rfl, hb⟩
  have H2 := Bx.mk (HBe.out.trans (hb.mono HBe.out.size))
  clear hb HBe HF
  go_wp2
  go_ret
  exact ⟨rfl, H2.out⟩
set_option maxRecDepth 100000 in
set_option maxHeartbeats 1000000 in
theorem look_known (B Q : Nat) (l : List En) (e : En) (he : e ∈ l) (hk : e.k.isNone = false) (n : Nn) (w : World) (h : BookAt B Q l w) :
    Calls Try.prog 27 #[ptr Q, clV e.c, nv n] w fun x w' => x = .returned (.int .i64 (lookW e.s n)) ∧ Below w.heap.size w w' := by
  have HF : Bx (∀ W, Below w.heap.size w W → Calls Try.prog 42 #[ptr Q, clV e.c] W fun x w' => x = .returned (.tuple #[.pointer (some ⟨e.p, 0, none⟩), .int .i64 0]) ∧ Below W.heap.size W w') := Bx.mk fun W hb => find_known B Q l e he hk W (h.later hb)
  have HWi : Bx (∀ W, Below w.heap.size w W → Calls Try.prog 50 #[.pointer (some ⟨e.p, 0, none⟩), nv n] W fun x w' => x = .returned (.int .i64 (lookW e.s n)) ∧ Below W.heap.size W w') := Bx.mk (fun W hb => by
    obtain ⟨kv, h1, -⟩ := (h.ent e he).row
    exact lookE_any e.p e.s n W (h1.later hb) (h.ent e he).ok)
  clear h he hk
  obtain ⟨⟨i, r, x, q⟩, p, s, k, a⟩ := e
  obtain ⟨L, hL⟩ : ∃ L, lookW s n = L := ⟨_, rfl⟩
  simp only at HF HWi ⊢
  rw [hL] at HWi ⊢
  clear hL
  obtain ⟨nb, nc⟩ := n
  unfold clV ptr nv at *
  simp only at HF HWi ⊢
  have HBo : Bx (((w.alloc (.cells #[.int .i64 i, .int .i64 r, .int .i64 x, .int .i64 q] 34)).alloc (.cells #[.int .i64 nb, .int .i64 nc] 51)).rangeAt (w.heap.size + 1) 0 [.int .i64 nb, .int .i64 nc]) := Bx.mk (by have := nn_rng (w.alloc (.cells #[.int .i64 i, .int .i64 r, .int .i64 x, .int .i64 q] 34)) nb nc 51; rw [World.size_alloc] at this; exact this)
  have HBe : Bx (Below w.heap.size w ((w.alloc (.cells #[.int .i64 i, .int .i64 r, .int .i64 x, .int .i64 q] 34)).alloc (.cells #[.int .i64 nb, .int .i64 nc] 51))) := Bx.mk ((below_a _).alloc (by simp) _)
  go_enter Try.func27, Try.ntmps27
  go_wp2_with fail
  refine (HF.out _ HBe.out).mono ?_
  rintro e w2 ⟨rfl, hb⟩
  have H2 := Bx.mk (And.intro (HBe.out.trans (hb.mono HBe.out.size)) (rng_later HBo.out hb))
  clear hb HBe HBo HF
  go_upto_region 4 with fail
  have R0 : Bx (Below w.heap.size w w2.drew ∧ w2.drew.rangeAt (w.heap.size + 1) 0 [.int .i64 nb, .int .i64 nc]) := Bx.mk ⟨H2.out.1.drew, H2.out.2⟩
  clear H2
  refine wp_region_noPanic ?_
  refine wp_region_held_drew (S := fun W => W.rangeAt (w.heap.size + 1) 0 [.int .i64 nb, .int .i64 nc]) (by kernel_rfl) (R0.out.2) (fun hHeld => ?_)
  generalize w2.drew = W0 at *
  refine takeL 0 (v := ?_) rfl (by kernel_rfl) (by kernel_rfl) (by kernel_rfl) (fun _ _ _ h => h) (Or.inl ⟨by rfl, ?_⟩) hHeld ?_
  rotate_left 1
  · (intro w hSw; go_simp; try with_reducible rfl)
  try simp only [Act.put, List.setIfInBounds_toArray, List.set_cons_zero, List.set_cons_succ]
  refine takeL 1 (v := ?_) rfl (by kernel_rfl) (by kernel_rfl) (by kernel_rfl) (fun _ _ _ h => h) (Or.inl ⟨by rfl, ?_⟩) hHeld ?_
  rotate_left 1
  · (intro w hSw; go_simp; try with_reducible rfl)
  try simp only [Act.put, List.setIfInBounds_toArray, List.set_cons_zero, List.set_cons_succ]
  refine takeL 2 (v := ?_) rfl (by kernel_rfl) (by kernel_rfl) (by kernel_rfl) (fun _ _ _ h => h) (Or.inl ⟨by rfl, ?_⟩) hHeld ?_
  rotate_left 1
  · (intro w hSw; go_simp; try with_reducible rfl)
  try simp only [Act.put, List.setIfInBounds_toArray, List.set_cons_zero, List.set_cons_succ]
  refine takeL 3 rfl (by kernel_rfl) (by kernel_rfl) (by kernel_rfl) (fun _ _ _ h => h) (yieldsIf_load_mid (by rfl) _ _ rfl _ _ rfl _ _ (fun w hSw => hSw) Try.underlying51 rfl (by kernel_rfl)) hHeld ?_
  try simp only [Act.put, List.setIfInBounds_toArray, List.set_cons_zero, List.set_cons_succ]
  refine stepL 4 (by kernel_rfl) rfl (fun K hK => ?_)
  go_simp
  refine (HWi.out _ R0.out.1).mono ?_
  rintro e W1 ⟨rfl, hb⟩
  show K _ _
  have R1 := Bx.mk (R0.out.1.trans (hb.mono R0.out.1.size))
  refine hK.out _ _ (rng_later R0.out.2 hb) (fun hHeld => ?_)
  clear hK K hb R0
  try simp only [Act.put, List.setIfInBounds_toArray, List.set_cons_zero, List.set_cons_succ]
  refine takeL 5 (v := ?_) rfl (by kernel_rfl) (by kernel_rfl) (by kernel_rfl) (fun _ _ _ h => h) (Or.inl ⟨by rfl, ?_⟩) hHeld ?_
  rotate_left 1
  · (intro w hSw; go_simp; try with_reducible rfl)
  try simp only [Act.put, List.setIfInBounds_toArray, List.set_cons_zero, List.set_cons_succ]
  refine wpAnyH_done (by kernel_rfl) ?_ _
  refine NoPanic.normal ?_
  clear hHeld
  go_wp2
  go_ret
  exact ⟨rfl, R1.out⟩
set_option maxRecDepth 100000 in
set_option maxHeartbeats 1000000 in
theorem take_err15 (Qv : Value) (c : Cl) (n : Nn) (er : Int) (h0 : er ≠ 0) (w : World) (HF0 : ∀ W, Below w.heap.size w W → Calls Try.prog 42 #[Qv, clV c] W fun x w' => x = .returned (.tuple #[.pointer none, .int .i64 er]) ∧ Below W.heap.size W w') :
    Calls Try.prog 17 #[Qv, clV c, nv n] w fun x w' => x = .returned (.int .i64 er) ∧ Below w.heap.size w w' := by
  have HF := Bx.mk HF0
  clear HF0
  obtain ⟨i, r, x, q⟩ := c
  obtain ⟨nb, nc⟩ := n
  unfold clV nv at *
  simp only at HF ⊢
  have HBe : Bx (Below w.heap.size w ((w.alloc (.cells #[.int .i64 i, .int .i64 r, .int .i64 x, .int .i64 q] 34)).alloc (.cells #[.int .i64 nb, .int .i64 nc] 51))) := Bx.mk ((below_a _).alloc (by simp) _)
  have hne : (er != 0) = true := by simpa using h0
  go_enter Try.func17, Try.ntmps17
  go_wp2_with fail
  refine (HF.out _ HBe.out).mono ?_
  rintro e w2 ⟨rfl, hb⟩
  have H2 := Bx.mk (HBe.out.trans (hb.mono HBe.out.size))
  clear hb HBe HF
  go_wp2
  go_ret
  exact ⟨rfl, H2.out⟩
set_option maxRecDepth 100000 in
set_option maxHeartbeats 1000000 in
theorem take_known (B Q : Nat) (l : List En) (e : En) (he : e ∈ l) (hk : e.k.isNone = false) (n : Nn) (w : World) (h : BookAt B Q l w) :
    Calls Try.prog 17 #[ptr Q, clV e.c, nv n] w fun x w' => x = .returned (.int .i64 (lookW e.s n)) ∧ BookAt B Q (setC l ⟨e.c, e.p, takeW e.s n, e.k, e.a⟩) w' ∧ KB B w w' := by
  have HF : Bx (∀ W, Below w.heap.size w W → Calls Try.prog 42 #[ptr Q, clV e.c] W fun x w' => x = .returned (.tuple #[.pointer (some ⟨e.p, 0, none⟩), .int .i64 0]) ∧ Below W.heap.size W w') := Bx.mk fun W hb => find_known B Q l e he hk W (h.later hb)
  have HWi : Bx (∀ W, Below w.heap.size w W → Calls Try.prog 43 #[.pointer (some ⟨e.p, 0, none⟩), nv n] W fun x w' => x = .returned (.int .i64 (lookW e.s n)) ∧ BookAt B Q (setC l ⟨e.c, e.p, takeW e.s n, e.k, e.a⟩) w' ∧ KB B w w' ∧ W.grownBy w' (some e.p)) := Bx.mk (fun W hb => by
    obtain ⟨kv, h1, h2⟩ := (h.ent e he).row
    refine (takeE_any e.p e.s n W (h1.later hb) (h.ent e he).ok).mono ?_
    rintro x w' ⟨rfl, g1, g2⟩
    have hk := KB.by_ (B := B) g2 (h.ent e he).old (fun o ho => by
      rw [show W.heap[e.p]? = _ from h1.later hb] at ho
      injection ho with ho
      subst ho
      exact .inr ⟨_, _, _, rfl, .inl rfl⟩)
    obtain ⟨u1, u2⟩ := (h.later hb).upd (e' := ⟨e.c, e.p, takeW e.s n, e.k, e.a⟩) he rfl rfl ⟨⟨kv, g1, (h2.later hb).keepB hk⟩, takeW_ok (h.ent e he).ok, (h.ent e he).old, (h.ent e he).fit, (h.ent e he).asked⟩ g2
    exact ⟨rfl, u1, (KB.of hb).trans u2, g2⟩)
  have hPL := Bx.mk (h.ent e he).lt
  clear h he hk
  obtain ⟨⟨i, r, x, q⟩, p, s, k, a⟩ := e
  obtain ⟨L, hL⟩ : ∃ L, lookW s n = L := ⟨_, rfl⟩
  simp only at HF HWi hPL ⊢
  rw [hL] at HWi ⊢
  clear hL
  obtain ⟨nb, nc⟩ := n
  unfold clV ptr nv at *
  simp only at HF HWi ⊢
  obtain ⟨l', hl'⟩ : ∃ l', setC l ⟨⟨i, r, x, q⟩, p, takeW s ⟨nb, nc⟩, k, a⟩ = l' := ⟨_, rfl⟩
  rw [hl'] at HWi ⊢
  clear hl'
  have HBo : Bx (((w.alloc (.cells #[.int .i64 i, .int .i64 r, .int .i64 x, .int .i64 q] 34)).alloc (.cells #[.int .i64 nb, .int .i64 nc] 51)).rangeAt (w.heap.size + 1) 0 [.int .i64 nb, .int .i64 nc]) := Bx.mk (by have := nn_rng (w.alloc (.cells #[.int .i64 i, .int .i64 r, .int .i64 x, .int .i64 q] 34)) nb nc 51; rw [World.size_alloc] at this; exact this)
  have HBe : Bx (Below w.heap.size w ((w.alloc (.cells #[.int .i64 i, .int .i64 r, .int .i64 x, .int .i64 q] 34)).alloc (.cells #[.int .i64 nb, .int .i64 nc] 51))) := Bx.mk ((below_a _).alloc (by simp) _)
  go_enter Try.func17, Try.ntmps17
  go_wp2_with fail
  refine (HF.out _ HBe.out).mono ?_
  rintro e w2 ⟨rfl, hb⟩
  have H2 := Bx.mk (And.intro (HBe.out.trans (hb.mono HBe.out.size)) (rng_later HBo.out hb))
  clear hb HBe HBo HF
  have HpY : Bx (∀ W, Below w.heap.size w W → W.rangeAt (w.heap.size + 1) 0 [.int .i64 nb, .int .i64 nc] → w.heap.size + 1 < W.heap.size ∧ w.heap.size + 1 ≠ p) := Bx.mk fun W _ hr => ⟨World.block_lt_of_cell? _ _ (hr 0 _ rfl), by
    have := hPL.out
    omega⟩
  go_upto_region 4 with fail
  have R0 : Bx (Below w.heap.size w w2.drew ∧ w2.drew.rangeAt (w.heap.size + 1) 0 [.int .i64 nb, .int .i64 nc]) := Bx.mk ⟨H2.out.1.drew, H2.out.2⟩
  clear H2
  refine wp_region_noPanic ?_
  refine wp_region_held_drew (S := fun W => W.rangeAt (w.heap.size + 1) 0 [.int .i64 nb, .int .i64 nc]) (by kernel_rfl) (R0.out.2) (fun hHeld => ?_)
  generalize w2.drew = W0 at *
  refine takeL 0 (v := ?_) rfl (by kernel_rfl) (by kernel_rfl) (by kernel_rfl) (fun _ _ _ h => h) (Or.inl ⟨by rfl, ?_⟩) hHeld ?_
  rotate_left 1
  · (intro w hSw; go_simp; try with_reducible rfl)
  try simp only [Act.put, List.setIfInBounds_toArray, List.set_cons_zero, List.set_cons_succ]
  refine takeL 1 (v := ?_) rfl (by kernel_rfl) (by kernel_rfl) (by kernel_rfl) (fun _ _ _ h => h) (Or.inl ⟨by rfl, ?_⟩) hHeld ?_
  rotate_left 1
  · (intro w hSw; go_simp; try with_reducible rfl)
  try simp only [Act.put, List.setIfInBounds_toArray, List.set_cons_zero, List.set_cons_succ]
  refine takeL 2 (v := ?_) rfl (by kernel_rfl) (by kernel_rfl) (by kernel_rfl) (fun _ _ _ h => h) (Or.inl ⟨by rfl, ?_⟩) hHeld ?_
  rotate_left 1
  · (intro w hSw; go_simp; try with_reducible rfl)
  try simp only [Act.put, List.setIfInBounds_toArray, List.set_cons_zero, List.set_cons_succ]
  refine takeL 3 rfl (by kernel_rfl) (by kernel_rfl) (by kernel_rfl) (fun _ _ _ h => h) (yieldsIf_load_mid (by rfl) _ _ rfl _ _ rfl _ _ (fun w hSw => hSw) Try.underlying51 rfl (by kernel_rfl)) hHeld ?_
  try simp only [Act.put, List.setIfInBounds_toArray, List.set_cons_zero, List.set_cons_succ]
  refine stepL 4 (by kernel_rfl) rfl (fun K hK => ?_)
  go_simp
  refine (HWi.out _ R0.out.1).mono ?_
  rintro e W1 ⟨rfl, hbk, hkb, hgr⟩
  show K _ _
  have R1 := Bx.mk (And.intro hbk hkb)
  clear hbk hkb
  refine hK.out _ _ (fun j u hj => by
          rw [show W1.cell? ⟨w.heap.size + 1, 0 + j, none⟩ = W0.cell? ⟨w.heap.size + 1, 0 + j, none⟩ from cell_aside hgr (HpY.out W0 R0.out.1 R0.out.2)]
          exact R0.out.2 j u hj) (fun hHeld => ?_)
  clear hK K hgr R0
  try simp only [Act.put, List.setIfInBounds_toArray, List.set_cons_zero, List.set_cons_succ]
  refine takeL 5 (v := ?_) rfl (by kernel_rfl) (by kernel_rfl) (by kernel_rfl) (fun _ _ _ h => h) (Or.inl ⟨by rfl, ?_⟩) hHeld ?_
  rotate_left 1
  · (intro w hSw; go_simp; try with_reducible rfl)
  try simp only [Act.put, List.setIfInBounds_toArray, List.set_cons_zero, List.set_cons_succ]
  refine wpAnyH_done (by kernel_rfl) ?_ _
  refine NoPanic.normal ?_
  clear hHeld
  go_wp2
  go_ret
  exact ⟨rfl, R1.out⟩
end Go.Proofs.Ytdbdpehagkglfaa
