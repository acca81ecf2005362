/-
  The walk that hands fields on.
-/
import Derived.Test.YtgbhckoaabnblaaIr
namespace Go.Proofs.Ytgbhckoaabnblaa
open Go Go.RowKit
/-- What stays while fields are handed on: their bytes lie below B. -/
structure TF (w : World) (B : Nat) (v : Value) (xs : List (Fd × Value)) (W : World) : Prop where
  own : OwnF W B 33 v xs
  byt : ∀ x ∈ xs, Bytes w x.2 x.1.b ∧ (0 < x.1.b.length → ∃ c, x.2.ownBlock = some c ∧ c < B)
  bel : Below B w W
  le : B ≤ W.heap.size
theorem TF.later {w W W1 : World} {B : Nat} {v : Value} {xs : List (Fd × Value)} (h : TF w B v xs W) (hb : Below W.heap.size W W1) : TF w B v xs W1 :=
  ⟨h.own.later hb (fun g hg => (h.own.lt g hg).1), h.byt, h.bel.trans (hb.mono h.le), Nat.le_trans h.le hb.size⟩
theorem TF.snoc {w W W1 : World} {B : Nat} {v v1 vb : Value} {xs : List (Fd × Value)} {f : Fd} (h : TF w B v xs W) (hvb : Bytes w vb f.b ∧ (0 < f.b.length → ∃ c, vb.ownBlock = some c ∧ c < B)) (ho : OwnF W1 B 33 v1 (xs ++ [(f, vb)])) (hg : W.grownBy W1 v.ownBlock) : TF w B v1 (xs ++ [(f, vb)]) W1 := by
  refine ⟨ho, fun x hx => ?_, h.bel.trans (ownF_below h.own hg h.le), Nat.le_trans h.le hg.size⟩
  rcases List.mem_append.1 hx with hx | hx
  · exact h.byt x hx
  · simp at hx
    subst hx
    exact hvb
theorem TF.flds {w W : World} {B : Nat} {v : Value} {xs : List (Fd × Value)} (h : TF w B v xs W) : FldsB W W.heap.size v (xs.map (·.1)) := by
  rcases h.own.2 with ⟨rfl, h0⟩ | ⟨g, cap, cur, rfl, hbg, hg, hn, hm, hs, hc⟩
  · have : xs = [] := List.eq_nil_of_length_eq_zero h0
    subst this
    exact ⟨none, 0, rfl, Nat.le_refl _, fun h => absurd h (by simp)⟩
  · refine ⟨_, cap, by rw [List.length_map], by rw [List.length_map]; exact hn, fun _ => ⟨g, 0, rfl, (Array.getElem?_eq_some_iff.1 hg).1, fun i hi => ?_⟩⟩
    rw [List.length_map] at hi
    have e : (xs.map (·.1)).getD i Fd.zero = xs[i].1 := by rw [List.getD_eq_getElem?_getD, List.getElem?_map, List.getElem?_eq_getElem hi]; rfl
    rw [e]
    obtain ⟨h1, h2⟩ := h.byt xs[i] (List.getElem_mem _)
    refine ⟨xs[i].2, fun j u hj => ?_, bytes_below h1 h2 h.bel, fun h0 => ?_⟩
    · have hlen : i * 3 + j < xs.length * 3 := by
        have : j < 3 := by have := (List.getElem?_eq_some_iff.1 hj).1; simpa using this
        omega
      rw [Nat.zero_add, cell_of_row _ _ _ _ _ _ hg, ← Array.getElem?_toList]
      have h1 : (cur.toList.take (xs.length * 3))[i * 3 + j]? = (cells3 xs)[i * 3 + j]? := by rw [hc]
      rw [List.getElem?_take, if_pos hlen, cells3_get xs i hi j u hj] at h1
      exact h1
    · obtain ⟨c, e1, e2⟩ := h2 h0
      exact ⟨c, e1, by have := h.le; omega⟩
theorem fs_succ1 (fs : List Fd) (k : Nat) (hk : k < fs.length) : fs.take (k + 1) = fs.take k ++ [fs.getD k Fd.zero] := by
  rw [List.take_add_one, List.getElem?_eq_getElem hk, List.getD_eq_getElem?_getD, List.getElem?_eq_getElem hk]
  rfl
set_option maxRecDepth 100000 in
set_option maxHeartbeats 2000000 in
theorem of_any (fs : List Fd) (v : Value) (w : World) (hv : FldsB w w.heap.size v fs) (hl : fs.length ≤ 1000) :
    Calls Try.prog 6 #[v] w fun e w' => ∃ v', e = .returned v' ∧ FldsB w' w'.heap.size v' fs ∧ Below w.heap.size w w' := by
  have HV := Bx.mk hv
  obtain ⟨B, hB⟩ : ∃ B, w.heap.size = B := ⟨_, rfl⟩
  rw [hB] at HV ⊢
  have H0 : Bx (List.map (fun x : Fd × Value => x.1) [] = fs.take 0 ∧ TF w B (.slice none 0 0) [] w) := Bx.mk ⟨rfl, OwnF.nil _ _ _, (fun x hx => by cases hx), Below.refl _ _, by rw [hB]; exact Nat.le_refl _⟩
  obtain ⟨a, cap, rfl, -⟩ := hv
  obtain ⟨m, hm⟩ : ∃ m, fs.length = m := ⟨_, rfl⟩
  have HN := Bx.mk hm
  rw [hm] at HV hl ⊢
  have hl1 : (m : Int) ≤ 1000 := by omega
  clear hm hB
  go_enter Try.func6, Try.ntmps6
  go_wp2
  go_loopw [3, 4] (fun ov i wr => ∃ (k : Nat) (xs : List (Fd × Value)), k ≤ m ∧ i = .int .i64 (k : Int) ∧ Bx (xs.map (·.1) = fs.take k ∧ TF w B ov xs wr)) (fun _ i _ => m - (intOf i).toNat)
  case atStart => exact ⟨0, [], Nat.zero_le _, rfl, H0⟩
  case round =>
    clear H0
    obtain ⟨k, xs, hk, rfl, HI⟩ := hrel
    by_cases hlt : k < m
    · have hk1 : (k : Int) < (m : Int) := by omega
      obtain ⟨a', cap', hva, hcap, hrow⟩ := id HV.out
      injection hva with e1 e2 e3
      rw [HN.out] at hrow
      obtain ⟨g, o, ha, hgB, hf⟩ := hrow (by omega)
      obtain ⟨vb, hrg, hbn, hbB⟩ := hf k (by omega)
      have HSu := Bx.mk (fs_succ1 fs k (by rw [HN.out]; omega))
      subst ha
      subst e1
      subst e3
      clear e2 hf hrow hcap
      generalize fs.getD k Fd.zero = f at *
      obtain ⟨s, n, b⟩ := f
      simp only at hrg hbn hbB
      obtain ⟨ab, cb, hvb, -⟩ := id hbn
      subst hvb
      have HBt0 := And.intro hbn hbB
      obtain ⟨L, hL⟩ : ∃ n, b.length = n := ⟨_, rfl⟩
      rw [hL] at hrg
      have HBt : Bx (Bytes w (.slice ab L cb) (Fd.mk s n b).b ∧ (0 < (Fd.mk s n b).b.length → ∃ c, (Value.slice ab L cb).ownBlock = some c ∧ c < B)) := Bx.mk (by rw [← hL]; exact HBt0)
      have HSS : Bx (∀ W, Below B w W → (fun W => W.cell? ⟨g, o + k * 3, none⟩ = some (.int .i64 s) ∧ W.cell? ⟨g, o + k * 3 + 1, none⟩ = some (.int .i64 n) ∧ W.cell? ⟨g, o + k * 3 + 2, none⟩ = some (.slice ab L cb) ∧ Bx (Below B w W)) W) := Bx.mk (fun W hb => ⟨by have h := range_later hrg hb hgB 0 _ rfl; rwa [Nat.add_zero] at h, range_later hrg hb hgB 1 _ rfl, range_later hrg hb hgB 2 _ rfl, ⟨hb⟩⟩)
      have HXl : Bx (xs.length = k) := Bx.mk (by have h := congrArg List.length HI.out.1; rw [List.length_map, List.length_take, HN.out] at h; omega)
      have HMp : Bx ((xs ++ [((⟨s, n, b⟩ : Fd), Value.slice ab L cb)]).map (fun x : Fd × Value => x.1) = fs.take (k + 1)) := Bx.mk (by rw [HSu.out, List.map_append, HI.out.1]; rfl)
      have T0 := Bx.mk HI.out.2
      clear hrg hbn hbB hL HI HBt0
      go_upto_region 5 with fail
      refine wp_region_noPanic ?_
      refine wp_region_held_drew (S := fun W => W.cell? ⟨g, o + k * 3, none⟩ = some (.int .i64 s) ∧ W.cell? ⟨g, o + k * 3 + 1, none⟩ = some (.int .i64 n) ∧ W.cell? ⟨g, o + k * 3 + 2, none⟩ = some (.slice ab L cb) ∧ Bx (Below B w W)) (by kernel_rfl) (HSS.out _ T0.out.bel.drew) (fun hHeld => ?_)
      have T0 : Bx (TF w B u3 xs wr.drew) := Bx.mk (T0.out.later (Below.refl _ _).drew)
      generalize wr.drew = W0 at *
      refine takeL 0 (v := ?_) rfl (by kernel_rfl) (by kernel_rfl) (by kernel_rfl) (fun _ _ _ h => h) (Or.inl ⟨by rfl, ?_⟩) hHeld ?_
      rotate_left 1
      · (intro w hSw; go_simp; try with_reducible rfl)
      try simp only [Act.put, List.setIfInBounds_toArray, List.set_cons_zero, List.set_cons_succ]
      refine takeL 1 (v := ?_) rfl (by kernel_rfl) (by kernel_rfl) (by kernel_rfl) (fun _ _ _ h => h) (Or.inl ⟨by rfl, ?_⟩) hHeld ?_
      rotate_left 1
      · (intro w hSw; go_simp; try with_reducible rfl)
      try simp only [Act.put, List.setIfInBounds_toArray, List.set_cons_zero, List.set_cons_succ]
      refine takeL 2 (v := ?_) rfl (by kernel_rfl) (by kernel_rfl) (by kernel_rfl) (fun _ _ _ h => h) (Or.inl ⟨by rfl, ?_⟩) hHeld ?_
      rotate_left 1
      · (intro w hSw; go_simp; try with_reducible rfl)
      try simp only [Act.put, List.setIfInBounds_toArray, List.set_cons_zero, List.set_cons_succ]
      refine takeL 3 (v := ?_) rfl (by kernel_rfl) (by kernel_rfl) (by kernel_rfl) (fun _ _ _ h => h) (Or.inl ⟨by rfl, ?_⟩) hHeld ?_
      rotate_left 1
      · (intro w hSw; go_simp; try with_reducible rfl)
      try simp only [Act.put, List.setIfInBounds_toArray, List.set_cons_zero, List.set_cons_succ]
      refine takeL 4 (v := ?_) rfl (by kernel_rfl) (by kernel_rfl) (by kernel_rfl) (fun _ _ _ h => h) (Or.inl ⟨by rfl, ?_⟩) hHeld ?_
      rotate_left 1
      · (intro w hSw; go_simp; try with_reducible rfl)
      try simp only [Act.put, List.setIfInBounds_toArray, List.set_cons_zero, List.set_cons_succ]
      refine takeL 5 (v := ?_) rfl (by kernel_rfl) (by kernel_rfl) (by kernel_rfl) (fun _ _ _ h => h) (Or.inl ⟨by rfl, ?_⟩) hHeld ?_
      rotate_left 1
      · (intro w hSw; go_simp; try with_reducible rfl)
      try simp only [Act.put, List.setIfInBounds_toArray, List.set_cons_zero, List.set_cons_succ]
      refine takeL 6 (v := ?_) rfl (by kernel_rfl) (by kernel_rfl) (by kernel_rfl) (fun _ _ _ h => h) (Or.inl ⟨by rfl, ?_⟩) hHeld ?_
      rotate_left 1
      · (intro w hSw; go_simp; try with_reducible rfl)
      try simp only [Act.put, List.setIfInBounds_toArray, List.set_cons_zero, List.set_cons_succ]
      refine takeL 7 (v := ?_) rfl (by kernel_rfl) (by kernel_rfl) (by kernel_rfl) (fun _ _ _ h => h) (Or.inl ⟨by rfl, ?_⟩) hHeld ?_
      rotate_left 1
      · (intro w hSw; go_simp; try with_reducible rfl)
      try simp only [Act.put, List.setIfInBounds_toArray, List.set_cons_zero, List.set_cons_succ]
      refine takeL 8 (v := ?_) rfl (by kernel_rfl) (by kernel_rfl) (by kernel_rfl) (fun _ _ _ h => h) (Or.inl ⟨by rfl, ?_⟩) hHeld ?_
      rotate_left 1
      · (intro w hSw; go_simp; try with_reducible rfl)
      try simp only [Act.put, List.setIfInBounds_toArray, List.set_cons_zero, List.set_cons_succ]
      refine takeL 9 (v := ?_) rfl (by kernel_rfl) (by kernel_rfl) (by kernel_rfl) (fun _ _ _ h => h) (Or.inl ⟨by rfl, ?_⟩) hHeld ?_
      rotate_left 1
      · (intro w hSw; go_simp; try with_reducible rfl)
      try simp only [Act.put, List.setIfInBounds_toArray, List.set_cons_zero, List.set_cons_succ]
      refine takeL 10 (v := ?_) rfl (by kernel_rfl) (by kernel_rfl) (by kernel_rfl) (fun _ _ _ h => h) (Or.inl ⟨by rfl, ?_⟩) hHeld ?_
      rotate_left 1
      · (intro w hSw; go_simp; try with_reducible rfl)
      try simp only [Act.put, List.setIfInBounds_toArray, List.set_cons_zero, List.set_cons_succ]
      refine takeL 11 (v := ?_) rfl (by kernel_rfl) (by kernel_rfl) (by kernel_rfl) (fun _ _ _ h => h) (Or.inl ⟨by rfl, ?_⟩) hHeld ?_
      rotate_left 1
      · (intro w hSw; go_simp; try with_reducible rfl)
      try simp only [Act.put, List.setIfInBounds_toArray, List.set_cons_zero, List.set_cons_succ]
      refine takeL 12 (v := ?_) rfl (by kernel_rfl) (by kernel_rfl) (by kernel_rfl) (fun _ _ _ h => h) (Or.inl ⟨by rfl, ?_⟩) hHeld ?_
      rotate_left 1
      · (intro w hSw; go_simp; try with_reducible rfl)
      try simp only [Act.put, List.setIfInBounds_toArray, List.set_cons_zero, List.set_cons_succ]
      refine takeL 13 (v := ?_) rfl (by kernel_rfl) (by kernel_rfl) (by kernel_rfl) (fun _ _ _ h => h) (Or.inl ⟨by rfl, ?_⟩) hHeld ?_
      rotate_left 1
      · (intro w hSw; go_simp; try with_reducible rfl)
      try simp only [Act.put, List.setIfInBounds_toArray, List.set_cons_zero, List.set_cons_succ]
      refine takeL 14 (v := ?_) rfl (by kernel_rfl) (by kernel_rfl) (by kernel_rfl) (fun _ _ _ h => h) (Or.inl ⟨by rfl, ?_⟩) hHeld ?_
      rotate_left 1
      · (intro w hSw; go_simp; try with_reducible rfl)
      try simp only [Act.put, List.setIfInBounds_toArray, List.set_cons_zero, List.set_cons_succ]
      refine takeL 15 (v := ?_) rfl (by kernel_rfl) (by kernel_rfl) (by kernel_rfl) (fun _ _ _ h => h) (Or.inl ⟨by rfl, ?_⟩) hHeld ?_
      rotate_left 1
      · (intro w hSw; go_simp; try with_reducible rfl)
      try simp only [Act.put, List.setIfInBounds_toArray, List.set_cons_zero, List.set_cons_succ]
      refine takeL 16 (v := ?_) rfl (by kernel_rfl) (by kernel_rfl) (by kernel_rfl) (fun _ _ _ h => h) (Or.inl ⟨by rfl, ?_⟩) hHeld ?_
      rotate_left 1
      · (intro w hSw; go_simp; try with_reducible rfl)
      try simp only [Act.put, List.setIfInBounds_toArray, List.set_cons_zero, List.set_cons_succ]
      refine stepL 17 (by kernel_rfl) rfl (fun K hK => ?_)
      go_simp
      have H3 : Bx ((W0.alloc (.cells #[.int .i64 s, .int .i64 n, .slice ab L cb] 33)).rangeAt W0.heap.size 0 [.int .i64 s, .int .i64 n, .slice ab L cb]) := Bx.mk (box_range _ _ _ _ _)
      have T3 := Bx.mk (T0.out.later (below_a (.cells #[.int .i64 s, .int .i64 n, .slice ab L cb] 33)))
      refine hK.out _ _ (HSS.out _ T3.out.bel) (fun hHeld => ?_)
      clear hK K
      try simp only [Act.put, List.setIfInBounds_toArray, List.set_cons_zero, List.set_cons_succ]
      generalize W0.alloc (.cells #[.int .i64 s, .int .i64 n, .slice ab L cb] 33) = W3 at *
      generalize W0.heap.size = E3 at *
      clear T0
      refine stepL 18 (by kernel_rfl) rfl (fun K hK => ?_)
      refine step_apR rfl _ _ rfl B _ xs (by rfl) T3.out.own E3 s n _ b (by rfl) H3.out rfl (by have := HXl.out; omega) T3.out.le ?_
      intro v4 W4 ho4 hg4
      have T4 := Bx.mk (T3.out.snoc HBt.out ho4 hg4)
      clear ho4 hg4 T3 H3
      refine hK.out _ _ (HSS.out _ T4.out.bel) (fun hHeld => ?_)
      clear hK K
      try simp only [Act.put, List.setIfInBounds_toArray, List.set_cons_zero, List.set_cons_succ]
      refine takeL 19 (v := ?_) rfl (by kernel_rfl) (by kernel_rfl) (by kernel_rfl) (fun _ _ _ h => h) (Or.inl ⟨by rfl, ?_⟩) hHeld ?_
      rotate_left 1
      · (intro w hSw; go_simp; try with_reducible rfl)
      try simp only [Act.put, List.setIfInBounds_toArray, List.set_cons_zero, List.set_cons_succ]
      refine wpAnyH_done (by kernel_rfl) ?_ _
      refine NoPanic.normal ?_
      clear hHeld
      go_wp2
      go_roundw
      case rel => exact ⟨k + 1, _, by omega, by go_num, ⟨HMp.out, T4.out⟩⟩
      case measure => simp [intOf]; omega
    · obtain rfl : k = m := by omega
      have HE : Bx (FldsB wr wr.heap.size u3 fs ∧ Below B w wr) := Bx.mk ⟨by
        have h := HI.out.2.flds
        rw [HI.out.1, List.take_of_length_le (by rw [HN.out]; exact Nat.le_refl _)] at h
        exact h, HI.out.2.bel⟩
      clear HI
      go_wp2
      go_ret
      exact ⟨_, rfl, HE.out⟩
end Go.Proofs.Ytgbhckoaabnblaa
