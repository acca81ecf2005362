/-
  The walks that copy fields.
-/
import Derived.Test.YtgbhckoaabnblaaIq
namespace Go.Proofs.Ytgbhckoaabnblaa
open Go Go.RowKit
/-- What stays while a row of fields grows. -/
structure TS (E : TypeId) (w : World) (B : Nat) (v : Value) (xs : List (Fd × Value)) (W : World) : Prop where
  own : OwnF W B E v xs
  byt : ∀ x ∈ xs, ∃ b', OwnB W b' x.2 x.1.b
  bel : Below B w W
  le : B ≤ W.heap.size
theorem TS.later {E : TypeId} {w W W1 : World} {B : Nat} {v : Value} {xs : List (Fd × Value)} (h : TS E w B v xs W) (hb : Below W.heap.size W W1) : TS E w B v xs W1 :=
  ⟨h.own.later hb (fun g hg => (h.own.lt g hg).1), fun x hx => by obtain ⟨b', ho⟩ := h.byt x hx; exact ⟨b', ho.later hb (fun g hg => (ho.lt g hg).1)⟩, h.bel.trans (hb.mono h.le), Nat.le_trans h.le hb.size⟩
theorem TS.snoc {E : TypeId} {w W W1 : World} {B : Nat} {v v1 vb : Value} {xs : List (Fd × Value)} {f : Fd} (hE : E ≠ 5) (h : TS E w B v xs W) (hvb : ∃ b', OwnB W b' vb f.b) (ho : OwnF W1 B E v1 (xs ++ [(f, vb)])) (hg : W.grownBy W1 v.ownBlock) : TS E w B v1 (xs ++ [(f, vb)]) W1 := by
  refine ⟨ho, fun x hx => ?_, h.bel.trans (ownF_below h.own hg h.le), Nat.le_trans h.le hg.size⟩
  rcases List.mem_append.1 hx with hx | hx
  · obtain ⟨b', h1⟩ := h.byt x hx
    exact ⟨b', h1.grown hg (ownF_ne hE h.own h1)⟩
  · simp at hx
    subst hx
    obtain ⟨b', h1⟩ := hvb
    exact ⟨b', h1.grown hg (ownF_ne hE h.own h1)⟩
/-- A field of at most 520 bytes. -/
def cutF (f : Fd) : Fd := ⟨f.s, f.n, f.b.take 520⟩
theorem take_min (b : List UInt8) (L : Nat) (h : b.length = L) : b.take (min L 520) = b.take 520 := by
  rw [← h]
  by_cases h1 : b.length ≤ 520
  · rw [Nat.min_eq_left h1, List.take_of_length_le (Nat.le_refl _), List.take_of_length_le h1]
  · rw [Nat.min_eq_right (by omega)]
theorem fs_succ (fs : List Fd) (k : Nat) (hk : k < fs.length) (g : Fd → Fd) : (fs.take (k + 1)).map g = (fs.take k).map g ++ [g (fs.getD k Fd.zero)] := by
  rw [List.take_add_one, List.map_append, List.getElem?_eq_getElem hk, List.getD_eq_getElem?_getD, List.getElem?_eq_getElem hk]
  rfl
set_option maxRecDepth 100000 in
set_option maxHeartbeats 2000000 in
theorem to_any (fs : List Fd) (v : Value) (w : World) (hv : FldsB w w.heap.size v fs) (hl : fs.length ≤ 9223372036854775807) (hb : ∀ f ∈ fs, f.b.length ≤ 9223372036854775807) :
    Calls Try.prog 5 #[v] w fun e w' => ∃ v' xs, e = .returned v' ∧ xs.map (·.1) = (fs.take 12).map cutF ∧ TS 40 w w.heap.size v' xs w' := by
  have HV := Bx.mk hv
  have HLb := Bx.mk hb
  obtain ⟨B, hB⟩ : ∃ B, w.heap.size = B := ⟨_, rfl⟩
  rw [hB] at HV ⊢
  have H0 : Bx (List.map (fun x : Fd × Value => x.1) [] = (fs.take 0).map cutF ∧ TS 40 w B (.slice none 0 0) [] w) := Bx.mk ⟨rfl, OwnF.nil _ _ _, (fun x hx => by cases hx), Below.refl _ _, by rw [hB]; exact Nat.le_refl _⟩
  obtain ⟨a, cap, rfl, -⟩ := hv
  obtain ⟨m, hm⟩ : ∃ m, fs.length = m := ⟨_, rfl⟩
  have HN := Bx.mk hm
  rw [hm] at HV hl ⊢
  have hl1 : (m : Int) ≤ 9223372036854775807 := by omega
  obtain ⟨N, hN⟩ : ∃ N, N = min m 12 := ⟨_, rfl⟩
  have hN1 : N ≤ m ∧ N ≤ 12 := by omega
  have HN2 : Bx ((m ≤ 12 → N = m) ∧ (12 < m → N = 12)) := Bx.mk (by omega)
  clear hN
  clear hm hb hB
  go_enter Try.func5, Try.ntmps5
  go_wp2
  go_loopw [3, 4] (fun ov i wr => ∃ (k : Nat) (xs : List (Fd × Value)), k ≤ N ∧ i = .int .i64 (k : Int) ∧ Bx (xs.map (·.1) = (fs.take k).map cutF ∧ TS 40 w B ov xs wr)) (fun _ i _ => N - (intOf i).toNat)
  case atStart => exact ⟨0, [], Nat.zero_le _, rfl, H0⟩
  case round =>
    clear H0
    obtain ⟨k, xs, hk, rfl, HI⟩ := hrel
    by_cases hlt : k < N
    · have hk1 : (k : Int) < (m : Int) := by omega
      have hk2 : (k : Int) < 12 := by omega
      obtain ⟨a', cap', hva, hcap, hrow⟩ := id HV.out
      injection hva with e1 e2 e3
      rw [HN.out] at hrow
      obtain ⟨g, o, ha, hgB, hf⟩ := hrow (by omega)
      obtain ⟨vb, hrg, hbn, hbB⟩ := hf k (by omega)
      have HSu := Bx.mk (fs_succ fs k (by rw [HN.out]; omega) cutF)
      have HLk := HLb.out (fs.getD k Fd.zero) (by rw [List.getD_eq_getElem?_getD, List.getElem?_eq_getElem (by rw [HN.out]; omega)]; exact List.getElem_mem _)
      subst ha
      subst e1
      subst e3
      clear e2 hf hrow hcap
      generalize fs.getD k Fd.zero = f at *
      obtain ⟨s, n, b⟩ := f
      simp only at hrg hbn hbB HLk
      obtain ⟨ab, cb, hvb, hcb, hnb, -⟩ := id hbn
      subst hvb
      obtain ⟨L, hL⟩ : ∃ n, b.length = n := ⟨_, rfl⟩
      rw [hL] at HLk hrg hbn hbB hcb
      have hL1 : (L : Int) ≤ 9223372036854775807 := by omega
      obtain ⟨M, hM⟩ : ∃ M, min L 520 = M := ⟨_, rfl⟩
      have hM1 : M ≤ L ∧ M ≤ 520 := by omega
      have HMl : Bx ((b.take M).length = M) := Bx.mk (by rw [List.length_take, hL]; omega)
      have HM : Bx (M ≤ 520) := Bx.mk hM1.2
      have hMi : (if (520 : Int) < (L : Int) then (520 : Int) else (L : Int)) = (M : Int) := by split <;> omega
      have hcut := fun W => cut_bytes ab L cb M hM1.1 hcb hnb W
      have HSS : Bx (∀ W, Below B w W → (fun W => W.cell? ⟨g, o + k * 3, none⟩ = some (.int .i64 s) ∧ W.cell? ⟨g, o + k * 3 + 1, none⟩ = some (.int .i64 n) ∧ W.cell? ⟨g, o + k * 3 + 2, none⟩ = some (.slice ab L cb) ∧ Bx (Below B w W)) W) := Bx.mk (fun W hb => ⟨by have h := range_later hrg hb hgB 0 _ rfl; rwa [Nat.add_zero] at h, range_later hrg hb hgB 1 _ rfl, range_later hrg hb hgB 2 _ rfl, ⟨hb⟩⟩)
      have HBt : Bx (∀ W, Below B w W → Bytes W (.slice ab M cb) (b.take M)) := Bx.mk (fun W hb => (bytes_below hbn (by rw [hL]; exact hbB) hb).take M hM1.1)
      have HXl : Bx (xs.length = k) := Bx.mk (by have h := congrArg List.length HI.out.1; rw [List.length_map, List.length_map, List.length_take, HN.out] at h; omega)
      have HMp : Bx (∀ vb, (xs ++ [((⟨s, n, b.take M⟩ : Fd), vb)]).map (fun x : Fd × Value => x.1) = (fs.take (k + 1)).map cutF) := Bx.mk (fun vb => by rw [HSu.out, List.map_append, HI.out.1, ← hM, take_min b L hL]; rfl)
      have T0 := Bx.mk HI.out.2
      clear hrg hbn hbB hL HI hM HLk hcb hnb
      go_upto_region 5 with fail
      refine wp_region_noPanic ?_
      refine wp_region_held_drew (S := fun W => W.cell? ⟨g, o + k * 3, none⟩ = some (.int .i64 s) ∧ W.cell? ⟨g, o + k * 3 + 1, none⟩ = some (.int .i64 n) ∧ W.cell? ⟨g, o + k * 3 + 2, none⟩ = some (.slice ab L cb) ∧ Bx (Below B w W)) (by kernel_rfl) (HSS.out _ T0.out.bel.drew) (fun hHeld => ?_)
      have T0 : Bx (TS 40 w B u3 xs wr.drew) := Bx.mk (T0.out.later (Below.refl _ _).drew)
      generalize wr.drew = W0 at *
      refine takeL 0 (v := ?_) rfl (by kernel_rfl) (by kernel_rfl) (by kernel_rfl) (fun _ _ _ h => h) (Or.inl ⟨by rfl, ?_⟩) hHeld ?_
      rotate_left 1
      · (intro w hSw; go_simp; try with_reducible rfl)
      try simp only [Act.put, List.setIfInBounds_toArray, List.set_cons_zero, List.set_cons_succ]
      refine takeL 1 (v := ?_) rfl (by kernel_rfl) (by kernel_rfl) (by kernel_rfl) (fun _ _ _ h => h) (Or.inl ⟨by rfl, ?_⟩) hHeld ?_
      rotate_left 1
      · (intro w hSw; go_simp; try with_reducible rfl)
      try simp only [Act.put, List.setIfInBounds_toArray, List.set_cons_zero, List.set_cons_succ]
      refine takeL 2 (v := ?_) rfl (by kernel_rfl) (by kernel_rfl) (by kernel_rfl) (fun _ _ _ h => h) (Or.inl ⟨by rfl, ?_⟩) hHeld ?_
      rotate_left 1
      · (intro w hSw; go_simp; try with_reducible rfl)
      try simp only [Act.put, List.setIfInBounds_toArray, List.set_cons_zero, List.set_cons_succ]
      refine takeL 3 (v := ?_) rfl (by kernel_rfl) (by kernel_rfl) (by kernel_rfl) (fun _ _ _ h => h) (Or.inl ⟨by rfl, ?_⟩) hHeld ?_
      rotate_left 1
      · (intro w hSw; go_simp; try with_reducible rfl)
      try simp only [Act.put, List.setIfInBounds_toArray, List.set_cons_zero, List.set_cons_succ]
      refine takeL 4 (v := ?_) rfl (by kernel_rfl) (by kernel_rfl) (by kernel_rfl) (fun _ _ _ h => h) (Or.inl ⟨by rfl, ?_⟩) hHeld ?_
      rotate_left 1
      · (intro w hSw; go_simp; try with_reducible rfl)
      try simp only [Act.put, List.setIfInBounds_toArray, List.set_cons_zero, List.set_cons_succ]
      refine takeL 5 (v := ?_) rfl (by kernel_rfl) (by kernel_rfl) (by kernel_rfl) (fun _ _ _ h => h) (Or.inl ⟨by rfl, ?_⟩) hHeld ?_
      rotate_left 1
      · (intro w hSw; go_simp; try with_reducible rfl)
      try simp only [Act.put, List.setIfInBounds_toArray, List.set_cons_zero, List.set_cons_succ]
      refine takeL 6 (v := ?_) rfl (by kernel_rfl) (by kernel_rfl) (by kernel_rfl) (fun _ _ _ h => h) (Or.inl ⟨by rfl, ?_⟩) hHeld ?_
      rotate_left 1
      · (intro w hSw; go_simp; try with_reducible rfl)
      try simp only [Act.put, List.setIfInBounds_toArray, List.set_cons_zero, List.set_cons_succ]
      refine takeL 7 (v := ?_) rfl (by kernel_rfl) (by kernel_rfl) (by kernel_rfl) (fun _ _ _ h => h) (Or.inl ⟨by rfl, ?_⟩) hHeld ?_
      rotate_left 1
      · (intro w hSw; go_simp; try with_reducible rfl)
      try simp only [Act.put, List.setIfInBounds_toArray, List.set_cons_zero, List.set_cons_succ]
      refine takeL 8 (v := ?_) rfl (by kernel_rfl) (by kernel_rfl) (by kernel_rfl) (fun _ _ _ h => h) (Or.inl ⟨by rfl, ?_⟩) hHeld ?_
      rotate_left 1
      · (intro w hSw; go_simp; try with_reducible rfl)
      try simp only [Act.put, List.setIfInBounds_toArray, List.set_cons_zero, List.set_cons_succ]
      refine takeL 9 (v := ?_) rfl (by kernel_rfl) (by kernel_rfl) (by kernel_rfl) (fun _ _ _ h => h) (Or.inl ⟨by rfl, ?_⟩) hHeld ?_
      rotate_left 1
      · (intro w hSw; go_simp; try with_reducible rfl)
      try simp only [Act.put, List.setIfInBounds_toArray, List.set_cons_zero, List.set_cons_succ]
      refine takeL 10 (v := ?_) rfl (by kernel_rfl) (by kernel_rfl) (by kernel_rfl) (fun _ _ _ h => h) (Or.inl ⟨by rfl, ?_⟩) hHeld ?_
      rotate_left 1
      · (intro w hSw; go_simp; try with_reducible rfl)
      try simp only [Act.put, List.setIfInBounds_toArray, List.set_cons_zero, List.set_cons_succ]
      refine takeL 12 (v := ?_) rfl (by kernel_rfl) (by kernel_rfl) (by kernel_rfl) (fun _ _ _ h => h) (Or.inl ⟨by rfl, ?_⟩) hHeld ?_
      rotate_left 1
      · (intro w hSw; go_simp; try with_reducible rfl)
      try simp only [Act.put, List.setIfInBounds_toArray, List.set_cons_zero, List.set_cons_succ]
      refine takeL 13 (v := ?_) rfl (by kernel_rfl) (by kernel_rfl) (by kernel_rfl) (fun _ _ _ h => h) (Or.inl ⟨by rfl, ?_⟩) hHeld ?_
      rotate_left 1
      · (intro w hSw; go_simp; try with_reducible rfl)
      try simp only [Act.put, List.setIfInBounds_toArray, List.set_cons_zero, List.set_cons_succ]
      refine takeL 14 (v := ?_) rfl (by kernel_rfl) (by kernel_rfl) (by kernel_rfl) (fun _ _ _ h => h) (Or.inl ⟨by rfl, ?_⟩) hHeld ?_
      rotate_left 1
      · (intro w hSw; go_simp; try with_reducible rfl)
      try simp only [Act.put, List.setIfInBounds_toArray, List.set_cons_zero, List.set_cons_succ]
      refine takeL 15 (v := ?_) rfl (by kernel_rfl) (by kernel_rfl) (by kernel_rfl) (fun _ _ _ h => h) (Or.inl ⟨by rfl, ?_⟩) hHeld ?_
      rotate_left 1
      · (intro w hSw; go_simp; try with_reducible rfl)
      try simp only [Act.put, List.setIfInBounds_toArray, List.set_cons_zero, List.set_cons_succ]
      refine takeL 16 (v := ?_) rfl (by kernel_rfl) (by kernel_rfl) (by kernel_rfl) (fun _ _ _ h => h) (Or.inl ⟨by rfl, ?_⟩) hHeld ?_
      rotate_left 1
      · (intro w hSw; go_simp; try with_reducible rfl)
      try simp only [Act.put, List.setIfInBounds_toArray, List.set_cons_zero, List.set_cons_succ]
      refine takeL 17 (v := ?_) rfl (by kernel_rfl) (by kernel_rfl) (by kernel_rfl) (fun _ _ _ h => h) (Or.inl ⟨by rfl, ?_⟩) hHeld ?_
      rotate_left 1
      · (intro w hSw; go_simp; try with_reducible rfl)
      try simp only [Act.put, List.setIfInBounds_toArray, List.set_cons_zero, List.set_cons_succ]
      refine takeL 18 (v := ?_) rfl (by kernel_rfl) (by kernel_rfl) (by kernel_rfl) (fun _ _ _ h => h) (Or.inl ⟨by rfl, ?_⟩) hHeld ?_
      rotate_left 1
      · (intro w hSw; go_simp; try with_reducible rfl)
      try simp only [Act.put, List.setIfInBounds_toArray, List.set_cons_zero, List.set_cons_succ]
      refine takeL 19 (v := ?_) rfl (by kernel_rfl) (by kernel_rfl) (by kernel_rfl) (fun _ _ _ h => h) (Or.inl ⟨by rfl, ?_⟩) hHeld ?_
      rotate_left 1
      · (intro w hSw; go_simp; try with_reducible rfl)
      try simp only [Act.put, List.setIfInBounds_toArray, List.set_cons_zero, List.set_cons_succ]
      refine takeL 20 (v := ?_) rfl (by kernel_rfl) (by kernel_rfl) (by kernel_rfl) (fun _ _ _ h => h) (Or.inl ⟨by rfl, ?_⟩) hHeld ?_
      rotate_left 1
      · (intro w hSw; go_simp; try with_reducible rfl)
      try simp only [Act.put, List.setIfInBounds_toArray, List.set_cons_zero, List.set_cons_succ]
      refine takeL 21 (v := ?_) rfl (by kernel_rfl) (by kernel_rfl) (by kernel_rfl) (fun _ _ _ h => h) (Or.inl ⟨by rfl, ?_⟩) hHeld ?_
      rotate_left 1
      · (intro w hSw; go_simp; try with_reducible rfl)
      try simp only [Act.put, List.setIfInBounds_toArray, List.set_cons_zero, List.set_cons_succ]
      refine takeL 22 (v := ?_) rfl (by kernel_rfl) (by kernel_rfl) (by kernel_rfl) (fun _ _ _ h => h) (Or.inl ⟨by rfl, ?_⟩) hHeld ?_
      rotate_left 1
      · (intro w hSw; go_simp; try with_reducible rfl)
      try simp only [Act.put, List.setIfInBounds_toArray, List.set_cons_zero, List.set_cons_succ]
      refine takeL 23 (v := ?_) rfl (by kernel_rfl) (by kernel_rfl) (by kernel_rfl) (fun _ _ _ h => h) (Or.inl ⟨by rfl, ?_⟩) hHeld ?_
      rotate_left 1
      · (intro w hSw; go_simp; try with_reducible rfl)
      try simp only [Act.put, List.setIfInBounds_toArray, List.set_cons_zero, List.set_cons_succ]
      refine takeL 24 (v := ?_) rfl (by kernel_rfl) (by kernel_rfl) (by kernel_rfl) (fun _ _ _ h => h) (Or.inl ⟨by rfl, ?_⟩) hHeld ?_
      rotate_left 1
      · (intro w hSw; go_simp; try with_reducible rfl)
      try simp only [Act.put, List.setIfInBounds_toArray, List.set_cons_zero, List.set_cons_succ]
      refine stepL 11 (by kernel_rfl) rfl (fun K hK => ?_)
      go_simp
      have H1 : Bx (OwnB (W0.alloc (.cells #[] 5)) W0.heap.size (.slice (some ⟨W0.heap.size, 0, none⟩) 0 0) [] ∧ Below W0.heap.size W0 (W0.alloc (.cells #[] 5))) := Bx.mk ⟨own_empty _ _ (Nat.le_refl _), below_a _⟩
      have T1 := Bx.mk (T0.out.later H1.out.2)
      refine hK.out _ _ (HSS.out _ T1.out.bel) (fun hHeld => ?_)
      clear hK K
      try simp only [Act.put, List.setIfInBounds_toArray, List.set_cons_zero, List.set_cons_succ]
      generalize W0.alloc (.cells #[] 5) = W1 at *
      refine stepL 25 (by kernel_rfl) rfl (fun K hK => ?_)
      refine step_ap rfl _ _ rfl W0.heap.size _ [] (by rfl) H1.out.1 _ (b.take M) (by rfl) (HBt.out _ T1.out.bel) (by have := HM.out; simp; omega) H1.out.2.size ?_
      intro v2 W2 ho2 hg2 _
      have H2 : Bx (OwnB W2 W0.heap.size v2 (b.take M) ∧ Below W0.heap.size W0 W2) := Bx.mk ⟨ho2, H1.out.2.trans (own_below H1.out.1 hg2 H1.out.2.size)⟩
      have T2 := Bx.mk (T0.out.later H2.out.2)
      obtain ⟨a2, c2, hv2, -⟩ := ho2.bytes
      have hml : ((([] : List UInt8) ++ b.take M)).length = M := HMl.out
      rw [hml] at hv2
      clear hml
      subst hv2
      clear ho2 hg2 H1 T1
      refine hK.out _ _ (HSS.out _ T2.out.bel) (fun hHeld => ?_)
      clear hK K
      try simp only [Act.put, List.setIfInBounds_toArray, List.set_cons_zero, List.set_cons_succ]
      refine takeL 26 (v := ?_) rfl (by kernel_rfl) (by kernel_rfl) (by kernel_rfl) (fun _ _ _ h => h) (Or.inl ⟨by rfl, ?_⟩) hHeld ?_
      rotate_left 1
      · (intro w hSw; go_simp; try with_reducible rfl)
      try simp only [Act.put, List.setIfInBounds_toArray, List.set_cons_zero, List.set_cons_succ]
      refine stepL 27 (by kernel_rfl) rfl (fun K hK => ?_)
      go_simp
      have H3 : Bx (OwnB (W2.alloc (.cells #[.int .i64 s, .int .i64 n, .slice a2 M c2] 40)) W0.heap.size (.slice a2 M c2) (b.take M) ∧ (W2.alloc (.cells #[.int .i64 s, .int .i64 n, .slice a2 M c2] 40)).rangeAt W2.heap.size 0 [.int .i64 s, .int .i64 n, .slice a2 M c2]) := Bx.mk ⟨own_a H2.out.1 _, box_range _ _ _ _ _⟩
      have T3 := Bx.mk (T2.out.later (below_a (.cells #[.int .i64 s, .int .i64 n, .slice a2 M c2] 40)))
      refine hK.out _ _ (HSS.out _ T3.out.bel) (fun hHeld => ?_)
      clear hK K
      try simp only [Act.put, List.setIfInBounds_toArray, List.set_cons_zero, List.set_cons_succ]
      generalize W2.alloc (.cells #[.int .i64 s, .int .i64 n, .slice a2 M c2] 40) = W3 at *
      generalize W2.heap.size = E3 at *
      clear H2 T2
      refine stepL 28 (by kernel_rfl) rfl (fun K hK => ?_)
      refine step_apW rfl _ _ rfl B _ xs (by rfl) T3.out.own E3 s n _ (b.take M) (by rfl) H3.out.2 rfl (by have := HXl.out; omega) T3.out.le ?_
      intro v4 W4 ho4 hg4
      have T4 := Bx.mk (T3.out.snoc (by decide) ⟨_, H3.out.1⟩ ho4 hg4)
      clear ho4 hg4 T3 H3
      refine hK.out _ _ (HSS.out _ T4.out.bel) (fun hHeld => ?_)
      clear hK K
      try simp only [Act.put, List.setIfInBounds_toArray, List.set_cons_zero, List.set_cons_succ]
      refine takeL 29 (v := ?_) rfl (by kernel_rfl) (by kernel_rfl) (by kernel_rfl) (fun _ _ _ h => h) (Or.inl ⟨by rfl, ?_⟩) hHeld ?_
      rotate_left 1
      · (intro w hSw; go_simp; try with_reducible rfl)
      try simp only [Act.put, List.setIfInBounds_toArray, List.set_cons_zero, List.set_cons_succ]
      refine wpAnyH_done (by kernel_rfl) ?_ _
      refine NoPanic.normal ?_
      clear hHeld
      go_wp2
      go_roundw
      case rel => exact ⟨k + 1, _, by omega, by go_num, ⟨HMp.out _, T4.out⟩⟩
      case measure => simp [intOf]; omega
    · obtain rfl : k = N := by omega
      have HE : Bx (xs.map (·.1) = (fs.take 12).map cutF ∧ TS 40 w B u3 xs wr) := Bx.mk ⟨by
        rw [HI.out.1]
        have h2 := HN2.out
        by_cases h12 : m ≤ 12
        · rw [List.take_of_length_le (by rw [HN.out]; omega), List.take_of_length_le (by rw [HN.out]; omega)]
        · rw [show k = 12 by omega], HI.out.2⟩
      have hk12 : k = m ∨ (k < m ∧ k = 12) := by have h2 := HN2.out; omega
      clear HI HN2 hN1 hk hlt
      rcases hk12 with rfl | ⟨hkm, rfl⟩
      · go_wp2
        go_ret
        exact ⟨_, xs, rfl, HE.out⟩
      · have hk1 : (12 : Int) < (m : Int) := by omega
        go_wp2
        go_ret
        exact ⟨_, xs, rfl, HE.out⟩
end Go.Proofs.Ytgbhckoaabnblaa
