/-
  The document's Drop.
-/
import Derived.Test.YtdbdpehagkglfaaH33
namespace Go.Proofs.Ytdbdpehagkglfaa
open Go Go.RowKit
theorem filterZ_snoc (p : Zz → Bool) (zs : List Zz) (k : Nat) (hk : k < zs.length) : (zs.take (k + 1)).filter p = (zs.take k).filter p ++ if p zs[k] then [zs[k]] else [] := by
  rw [takeZ_succ zs k hk, List.filter_append]
  congr 1
  cases h : p zs[k] <;> simp [h]
/-- All but one. -/
def leftZ (c : Cl) (zs : List Zz) : List Zz := zs.filter fun z => decide (z.e.c ≠ c)
theorem leftZ_snoc (c : Cl) (zs : List Zz) (k : Nat) (hk : k < zs.length) : leftZ c (zs.take (k + 1)) = leftZ c (zs.take k) ++ if (zs[k]).e.c ≠ c then [zs[k]] else [] := by
  unfold leftZ
  rw [filterZ_snoc _ zs k hk]
  simp only [decide_eq_true_eq]
theorem leftZ_len (c : Cl) (zs : List Zz) : (leftZ c zs).length ≤ zs.length := List.length_filter_le _ _
/-- A row stays where nothing ahead of a block changes, if it lies there. -/
theorem OwnG.at_below {α : Type} {T : TypeId} {n : Nat} {enc : α → List Value} {w w1 : World} {base X : Nat} {v : Value} {l : List α} (h : OwnG T n enc w base v l) (hb : Below X w w1) (hX : ∀ g, v.ownBlock = some g → g < X) : OwnG T n enc w1 base v l := by
  refine ⟨h.1, ?_⟩
  rcases h.2 with h0 | ⟨g, cap, cur, hv, hb', hh, hr⟩
  · exact .inl h0
  · exact .inr ⟨g, cap, cur, hv, hb', (hb.block g (hX g (by rw [hv]; rfl))).trans hh, hr⟩
/-- A row that grows behind a world beside a row that is older. -/
theorem drop_step {w W0 w5 : World} {X base : Nat} {mv vo v5 : Value} {zs l l5 : List Zz} {cb cs : Array Value} (h1 : W0.heap[X]? = some (.cells cb 24 (0, 0))) (h2 : RowZ W0 base mv zs) (hg0 : ∀ g, mv.ownBlock = some g → g < X) (h3 : RowZ (W0.alloc (.cells cs 56)) X vo l) (h4 : RowZ w5 X v5 l5) (hg : (W0.alloc (.cells cs 56)).grownBy w5 vo.ownBlock) (hb : Below X w W0) (hX : X ≤ (W0.alloc (.cells cs 56)).heap.size) : w5.heap[X]? = some (.cells cb 24 (0, 0)) ∧ RowZ w5 base mv zs ∧ RowZ w5 X v5 l5 ∧ Below X w w5 := by
  have hXl := (Array.getElem?_eq_some_iff.1 h1).1
  have hbx : Below X (W0.alloc (.cells cs 56)) w5 := OwnG.below h3 hg hX
  refine ⟨?_, OwnG.at_below (OwnG.later h2 (below_a _)) hbx hg0, h4, (hb.alloc (by omega) _).trans hbx⟩
  rw [hg.block X (by rw [World.size_alloc]; omega) (fun e => by
    obtain ⟨cs', fr', hk⟩ := OwnG.kind h3 X e.symm
    rw [hold _ _ _ hXl, h1] at hk
    injection hk with hk
    injection hk with _ hk
    exact absurd hk (by decide)), hold _ _ _ hXl]
  exact h1
set_option maxRecDepth 100000 in
set_option maxHeartbeats 4000000 in
theorem rdrop_any (base : Nat) (mv : Value) (zs : List Zz) (c : Cl) (w : World) (h : RowZ w base mv zs) (hl : zs.length ≤ 100) (hms : SlZ zs) :
    Calls Try.prog 21 #[mv, clV c] w fun e w' => ∃ v, e = .returned v ∧ RowZ w' w.heap.size v (leftZ c zs) ∧ Below w.heap.size w w' := by
  obtain ⟨a, cap, rfl, -, -⟩ := OwnG.form h
  obtain ⟨n, hns⟩ : ∃ n, zs.length = n := ⟨_, rfl⟩
  have HN := Bx.mk hns
  have HO := Bx.mk hms
  obtain ⟨i, r, x, q⟩ := c
  obtain ⟨X, hX⟩ : ∃ X, w.heap.size = X := ⟨_, rfl⟩
  have H0 : Bx ((w.alloc (.cells #[.int .i64 i, .int .i64 r, .int .i64 x, .int .i64 q] 24)).heap[X]? = some (.cells #[.int .i64 i, .int .i64 r, .int .i64 x, .int .i64 q] 24 (0, 0)) ∧ RowZ (w.alloc (.cells #[.int .i64 i, .int .i64 r, .int .i64 x, .int .i64 q] 24)) base (.slice a zs.length cap) zs ∧ Below X w (w.alloc (.cells #[.int .i64 i, .int .i64 r, .int .i64 x, .int .i64 q] 24))) := Bx.mk ⟨hX ▸ hnew _ _ _ rfl, OwnG.later h (below_a _), hX ▸ below_a _⟩
  have HgX : Bx (∀ g, (Value.slice a zs.length cap).ownBlock = some g → g < X) := Bx.mk fun g hg => by rw [← hX]; exact (OwnG.lt h g hg).1
  rw [hns] at hl H0 HgX ⊢
  rw [hX]
  clear h hns hms
  unfold clV
  simp only
  go_enter Try.func21, Try.ntmps21
  go_wp2
  generalize w.alloc (.cells #[.int .i64 i, .int .i64 r, .int .i64 x, .int .i64 q] 24) = w1 at *
  go_loopw [5, 6] (fun v j wr => ∃ (k : Nat) (o1 : Option Addr) (o2 o3 : Nat), k ≤ n ∧ j = .int .i64 (k : Int) ∧ v = .slice o1 o2 o3 ∧ Bx (wr.heap[X]? = some (.cells #[.int .i64 i, .int .i64 r, .int .i64 x, .int .i64 q] 24 (0, 0)) ∧ RowZ wr base (.slice a n cap) zs ∧ RowZ wr X (.slice o1 o2 o3) (leftZ ⟨i, r, x, q⟩ (zs.take k)) ∧ Below X w wr)) (fun _ j _ => n - (intOf j).toNat)
  case atStart => exact ⟨0, none, 0, 0, Nat.zero_le _, rfl, rfl, Bx.mk ⟨H0.out.1, H0.out.2.1, by simpa [RowZ, leftZ] using OwnG.nil 56 8 encZ w1 X, H0.out.2.2⟩⟩
  case round =>
    clear H0
    obtain ⟨k, o1, o2, o3, hk, rfl, rfl, HI⟩ := hrel
    by_cases hlt : k < n
    · have hk1 : (k : Int) < (n : Int) := by omega
      have hk0 : (0 : Int) ≤ (k : Int) := by omega
      have hkz : k < zs.length := by rw [HN.out]; exact hlt
      obtain ⟨g, cap2, hv⟩ := OwnG.start HI.out.2.1 (by omega)
      injection hv with hv1 hv2 hv3
      subst hv1
      have hg := OwnG.at_ HI.out.2.1 encZ_len k hkz
      have HS := Bx.mk (leftZ_snoc ⟨i, r, x, q⟩ zs k hkz)
      have HLen : Bx ((leftZ ⟨i, r, x, q⟩ (zs.take k)).length ≤ 1000) := Bx.mk (Nat.le_trans (leftZ_len _ _) (by rw [List.length_take]; omega))
      have HSl := Bx.mk (HO.out _ (List.getElem_mem hkz))
      generalize zs[k] = z at *
      have HG : Bx (∀ W, Below wr.heap.size wr W → W.rangeAt g (k * 8) (encZ z)) := Bx.mk fun W hb => rng_later hg hb
      have R0 : Bx (wr.drew.heap[X]? = some (.cells #[.int .i64 i, .int .i64 r, .int .i64 x, .int .i64 q] 24 (0, 0)) ∧ RowZ wr.drew base (.slice (some ⟨g, 0, none⟩) n cap) zs ∧ wr.drew.rangeAt g (k * 8) [.int .i64 z.e.c.id, .int .i64 z.e.c.ro, .int .i64 z.e.c.ex, .int .i64 z.e.c.se] ∧ RowZ wr.drew X (.slice o1 o2 o3) (leftZ ⟨i, r, x, q⟩ (zs.take k)) ∧ Below X w wr.drew) := Bx.mk ⟨HI.out.1, OwnG.later HI.out.2.1 (Below.refl _ wr).drew, rngZ4 hg, OwnG.later HI.out.2.2.1 (Below.refl _ wr).drew, HI.out.2.2.2.drew⟩
      have HG1 : Bx (∀ W, Below wr.drew.heap.size wr.drew W → W.rangeAt g (k * 8) (encZ z)) := Bx.mk fun W hb => rng_later (HG.out _ (Below.refl _ wr).drew) hb
      clear HI hg hv2 hv3 HG
      obtain ⟨⟨⟨zi, zr, zx, zq⟩, zp, zs', zk', za⟩, zkv, ztv, zns, zask⟩ := z
      have HZ := Bx.mk (encZ_one ⟨⟨⟨zi, zr, zx, zq⟩, zp, zs', zk', za⟩, zkv, ztv, zns, zask⟩ HSl.out.1 HSl.out.2)
      by_cases hit : (⟨zi, zr, zx, zq⟩ : Cl) = ⟨i, r, x, q⟩
      · have HF : Bx (leftZ ⟨i, r, x, q⟩ (zs.take (k + 1)) = leftZ ⟨i, r, x, q⟩ (zs.take k)) := Bx.mk (by
          rw [HS.out]
          simp [hit])
        clear HS HSl HZ HG1 hkz
        injection hit with e0 e1 e2 e3
        subst e0 e1 e2 e3
        go_upto_region 5 with fail
        refine wp_region_noPanic ?_
        refine wp_region_held_drew (S := fun W => W.rangeAt g (k * 8) [.int .i64 zi, .int .i64 zr, .int .i64 zx, .int .i64 zq] ∧ W.rangeAt X 0 [.int .i64 zi, .int .i64 zr, .int .i64 zx, .int .i64 zq]) (by kernel_rfl) (⟨R0.out.2.2.1, row_rng15 (l := [.int .i64 zi, .int .i64 zr, .int .i64 zx, .int .i64 zq]) R0.out.1⟩) (fun hHeld => ?_)
        generalize wr.drew = W0 at *
        refine takeL 0 (v := ?_) rfl (by kernel_rfl) (by kernel_rfl) (by kernel_rfl) (fun _ _ _ h => h) (Or.inl ⟨by rfl, ?_⟩) hHeld ?_
        rotate_left 1
        · (intro w hSw; go_simp; try with_reducible rfl)
        try simp only [Act.put, List.setIfInBounds_toArray, List.set_cons_zero, List.set_cons_succ]
        refine takeL 1 (v := ?_) rfl (by kernel_rfl) (by kernel_rfl) (by kernel_rfl) (fun _ _ _ h => h) (Or.inl ⟨by rfl, ?_⟩) hHeld ?_
        rotate_left 1
        · (intro w hSw; go_simp; try with_reducible rfl)
        try simp only [Act.put, List.setIfInBounds_toArray, List.set_cons_zero, List.set_cons_succ]
        refine takeL 2 (v := ?_) rfl (by kernel_rfl) (by kernel_rfl) (by kernel_rfl) (fun _ _ _ h => h) (Or.inl ⟨by rfl, ?_⟩) hHeld ?_
        rotate_left 1
        · (intro w hSw; go_simp; try with_reducible rfl)
        try simp only [Act.put, List.setIfInBounds_toArray, List.set_cons_zero, List.set_cons_succ]
        refine takeL 3 (v := ?_) rfl (by kernel_rfl) (by kernel_rfl) (by kernel_rfl) (fun _ _ _ h => h) (Or.inl ⟨by rfl, ?_⟩) hHeld ?_
        rotate_left 1
        · (intro w hSw; go_simp; try with_reducible rfl)
        try simp only [Act.put, List.setIfInBounds_toArray, List.set_cons_zero, List.set_cons_succ]
        refine takeL 4 rfl (by kernel_rfl) (by kernel_rfl) (by kernel_rfl) (fun _ _ _ h => h) (yieldsIf_load_mid (by rfl) _ _ rfl _ _ rfl _ _ (fun w hSw => hSw.1) Try.underlying24 rfl (by kernel_rfl)) hHeld ?_
        try simp only [Act.put, List.setIfInBounds_toArray, List.set_cons_zero, List.set_cons_succ]
        refine takeL 5 rfl (by kernel_rfl) (by kernel_rfl) (by kernel_rfl) (fun _ _ _ h => h) (yieldsIf_load_mid (by rfl) _ _ rfl _ _ rfl _ _ (fun w hSw => hSw.2) Try.underlying24 rfl (by kernel_rfl)) hHeld ?_
        try simp only [Act.put, List.setIfInBounds_toArray, List.set_cons_zero, List.set_cons_succ]
        refine takeL 6 (v := ?_) rfl (by kernel_rfl) (by kernel_rfl) (by kernel_rfl) (fun _ _ _ h => h) (Or.inl ⟨by rfl, ?_⟩) hHeld ?_
        rotate_left 1
        · (intro w hSw; go_simp; try with_reducible rfl)
        try simp only [Act.put, List.setIfInBounds_toArray, List.set_cons_zero, List.set_cons_succ]
        refine wpAnyH_done (by kernel_rfl) ?_ _
        refine NoPanic.normal ?_
        clear hHeld
        go_wp2
        go_roundw
        case rel => exact ⟨k + 1, _, _, _, by omega, by go_num, rfl, Bx.mk ⟨R0.out.1, R0.out.2.1, by rw [HF.out]; exact R0.out.2.2.2.1, R0.out.2.2.2.2⟩⟩
        case measure => simp [intOf]; omega
      · have HF : Bx (leftZ ⟨i, r, x, q⟩ (zs.take (k + 1)) = (leftZ ⟨i, r, x, q⟩ (zs.take k)) ++ [⟨⟨⟨zi, zr, zx, zq⟩, zp, zs', zk', za⟩, zkv, ztv, zns, zask⟩]) := Bx.mk (by
          rw [HS.out]
          simp [hit])
        have HM := Bx.mk hit
        clear HS HSl hkz hit
        go_upto_region 5 with fail
        refine wp_region_noPanic ?_
        refine wp_region_held_drew (S := fun W => W.rangeAt g (k * 8) [.int .i64 zi, .int .i64 zr, .int .i64 zx, .int .i64 zq] ∧ W.rangeAt X 0 [.int .i64 i, .int .i64 r, .int .i64 x, .int .i64 q]) (by kernel_rfl) (⟨R0.out.2.2.1, row_rng15 (l := [.int .i64 i, .int .i64 r, .int .i64 x, .int .i64 q]) R0.out.1⟩) (fun hHeld => ?_)
        generalize wr.drew = W0 at *
        refine takeL 0 (v := ?_) rfl (by kernel_rfl) (by kernel_rfl) (by kernel_rfl) (fun _ _ _ h => h) (Or.inl ⟨by rfl, ?_⟩) hHeld ?_
        rotate_left 1
        · (intro w hSw; go_simp; try with_reducible rfl)
        try simp only [Act.put, List.setIfInBounds_toArray, List.set_cons_zero, List.set_cons_succ]
        refine takeL 1 (v := ?_) rfl (by kernel_rfl) (by kernel_rfl) (by kernel_rfl) (fun _ _ _ h => h) (Or.inl ⟨by rfl, ?_⟩) hHeld ?_
        rotate_left 1
        · (intro w hSw; go_simp; try with_reducible rfl)
        try simp only [Act.put, List.setIfInBounds_toArray, List.set_cons_zero, List.set_cons_succ]
        refine takeL 2 (v := ?_) rfl (by kernel_rfl) (by kernel_rfl) (by kernel_rfl) (fun _ _ _ h => h) (Or.inl ⟨by rfl, ?_⟩) hHeld ?_
        rotate_left 1
        · (intro w hSw; go_simp; try with_reducible rfl)
        try simp only [Act.put, List.setIfInBounds_toArray, List.set_cons_zero, List.set_cons_succ]
        refine takeL 3 (v := ?_) rfl (by kernel_rfl) (by kernel_rfl) (by kernel_rfl) (fun _ _ _ h => h) (Or.inl ⟨by rfl, ?_⟩) hHeld ?_
        rotate_left 1
        · (intro w hSw; go_simp; try with_reducible rfl)
        try simp only [Act.put, List.setIfInBounds_toArray, List.set_cons_zero, List.set_cons_succ]
        refine takeL 4 rfl (by kernel_rfl) (by kernel_rfl) (by kernel_rfl) (fun _ _ _ h => h) (yieldsIf_load_mid (by rfl) _ _ rfl _ _ rfl _ _ (fun w hSw => hSw.1) Try.underlying24 rfl (by kernel_rfl)) hHeld ?_
        try simp only [Act.put, List.setIfInBounds_toArray, List.set_cons_zero, List.set_cons_succ]
        refine takeL 5 rfl (by kernel_rfl) (by kernel_rfl) (by kernel_rfl) (fun _ _ _ h => h) (yieldsIf_load_mid (by rfl) _ _ rfl _ _ rfl _ _ (fun w hSw => hSw.2) Try.underlying24 rfl (by kernel_rfl)) hHeld ?_
        try simp only [Act.put, List.setIfInBounds_toArray, List.set_cons_zero, List.set_cons_succ]
        refine takeL 6 (v := ?_) rfl (by kernel_rfl) (by kernel_rfl) (by kernel_rfl) (fun _ _ _ h => h) (Or.inl ⟨by rfl, ?_⟩) hHeld ?_
        rotate_left 1
        · (intro w hSw; have hm := HM.out; go_simp; show _ = Result.ok (Next.value (Value.bool true)) w; (repeat' split) <;> simp_all)
        try simp only [Act.put, List.setIfInBounds_toArray, List.set_cons_zero, List.set_cons_succ]
        refine wpAnyH_done (by kernel_rfl) ?_ _
        refine NoPanic.normal ?_
        clear hHeld
        have k0 : W0.cell? ⟨g, k * 8, none⟩ = some (.int .i64 zi) := HG1.out _ (Below.refl _ _) 0 _ rfl
        have k1 : W0.cell? ⟨g, k * 8 + 1, none⟩ = some (.int .i64 zr) := HG1.out _ (Below.refl _ _) 1 _ rfl
        have k2 : W0.cell? ⟨g, k * 8 + 2, none⟩ = some (.int .i64 zx) := HG1.out _ (Below.refl _ _) 2 _ rfl
        have k3 : W0.cell? ⟨g, k * 8 + 3, none⟩ = some (.int .i64 zq) := HG1.out _ (Below.refl _ _) 3 _ rfl
        have k4 : W0.cell? ⟨g, k * 8 + 4, none⟩ = some (.bool zk'.isSome) := HG1.out _ (Below.refl _ _) 4 _ rfl
        have k5 : W0.cell? ⟨g, k * 8 + 5, none⟩ = some (.int .i64 zask) := HG1.out _ (Below.refl _ _) 5 _ rfl
        have k6 : W0.cell? ⟨g, k * 8 + 6, none⟩ = some (zkv) := HG1.out _ (Below.refl _ _) 6 _ rfl
        have k7 : W0.cell? ⟨g, k * 8 + 7, none⟩ = some (ztv) := HG1.out _ (Below.refl _ _) 7 _ rfl
        have A0 : Bx (RowZ (W0.alloc (.cells #[.int .i64 zi, .int .i64 zr, .int .i64 zx, .int .i64 zq, .bool zk'.isSome, .int .i64 zask, zkv, ztv] 56)) X (.slice o1 o2 o3) (leftZ ⟨i, r, x, q⟩ (zs.take k)) ∧ X ≤ (W0.alloc (.cells #[.int .i64 zi, .int .i64 zr, .int .i64 zx, .int .i64 zq, .bool zk'.isSome, .int .i64 zask, zkv, ztv] 56)).heap.size) := Bx.mk ⟨OwnG.later R0.out.2.2.2.1 (below_a _), by have := R0.out.2.2.2.2.size; rw [World.size_alloc]; omega⟩
        go_wp2_with (refine wpList_apG (T := 56) (n := 8) (enc := encZ) elEn rfl _ _ rfl X (.slice o1 o2 o3) _ (by rfl) A0.out.1 W0.heap.size 0 ⟨⟨⟨zi, zr, zx, zq⟩, zp, zs', zk', za⟩, zkv, ztv, zns, zask⟩ 1 (by rfl) (row_rng15 (l := encZ ⟨⟨⟨zi, zr, zx, zq⟩, zp, zs', zk', za⟩, zkv, ztv, zns, zask⟩) (hnew _ _ _ rfl)) rfl HZ.out HLen.out A0.out.2 ?_; intro v5 w5 ho hg; have P1 : Bx (w5.heap[X]? = some (.cells #[.int .i64 i, .int .i64 r, .int .i64 x, .int .i64 q] 24 (0, 0)) ∧ RowZ w5 base (.slice (some ⟨g, 0, none⟩) n cap) zs ∧ RowZ w5 X v5 ((leftZ ⟨i, r, x, q⟩ (zs.take k)) ++ [⟨⟨⟨zi, zr, zx, zq⟩, zp, zs', zk', za⟩, zkv, ztv, zns, zask⟩]) ∧ Below X w w5) := Bx.mk (drop_step R0.out.1 R0.out.2.1 HgX.out A0.out.1 ho hg R0.out.2.2.2.2 A0.out.2); clear ho hg)
        clear k0 k1 k2 k3 k4 k5 k6 k7 A0 R0
        obtain ⟨s0, t0, hs0, -, -⟩ := OwnG.form P1.out.2.2.1
        subst hs0
        go_roundw
        case rel => exact ⟨k + 1, _, _, _, by omega, by go_num, rfl, Bx.mk ⟨P1.out.1, P1.out.2.1, by rw [HF.out]; exact P1.out.2.2.1, P1.out.2.2.2⟩⟩
        case measure => simp [intOf]; omega
    · have ek : k = n := by omega
      have HF : Bx (RowZ wr X (.slice o1 o2 o3) (leftZ ⟨i, r, x, q⟩ zs) ∧ Below X w wr) := Bx.mk (by
        have h2 := HI.out.2.2.1
        rw [ek, ← HN.out, List.take_length] at h2
        exact ⟨h2, HI.out.2.2.2⟩)
      have hlt' : ¬ (k : Int) < (n : Int) := by omega
      clear ek HI
      go_wp2
      go_ret
      exact ⟨_, rfl, HF.out⟩
end Go.Proofs.Ytdbdpehagkglfaa
namespace Go.Proofs.Ytdbdpehagkglfaa
open Go Go.RowKit
/-- Whose they are, of those that are known, or wanted. -/
def ofZ (is : Bool) (zs : List Zz) : List Cl := (zs.filter fun z => z.e.k.isSome == is).map (·.e.c)
theorem ofZ_snoc (is : Bool) (zs : List Zz) (k : Nat) (hk : k < zs.length) : ofZ is (zs.take (k + 1)) = ofZ is (zs.take k) ++ if (zs[k]).e.k.isSome == is then [(zs[k]).e.c] else [] := by
  unfold ofZ
  rw [filterZ_snoc _ zs k hk, List.map_append]
  congr 1
  split <;> rfl
theorem ofZ_len (is : Bool) (zs : List Zz) : (ofZ is zs).length ≤ zs.length := by
  unfold ofZ
  rw [List.length_map]
  exact List.length_filter_le _ _
/-- A row of claims of whatever type. -/
theorem OwnG.rowT {T : TypeId} {w : World} {base : Nat} {v : Value} {ss : List Cl} (h : OwnG T 4 encC w base v ss) : RowC w v ss := by
  rcases h.2 with ⟨hv, h0⟩ | ⟨g, cap, cur, hv, _⟩
  · exact .inl ⟨List.length_eq_zero_iff.1 h0, hv⟩
  · subst hv
    refine .inr ⟨g, cap, rfl, fun j hj => ?_⟩
    have := h.at_ encC_len j hj
    rw [show ss.getD j c0 = ss[j] by simp [hj]]
    exact this
set_option maxRecDepth 100000 in
set_option maxHeartbeats 4000000 in
theorem lof_any (is : Bool) (base : Nat) (mv : Value) (zs : List Zz) (w : World) (h : RowZ w base mv zs) (hl : zs.length ≤ 100) :
    Calls Try.prog 48 #[mv, .bool is] w fun e w' => ∃ v, e = .returned v ∧ OwnG 24 4 encC w' w.heap.size v (ofZ is zs) ∧ Below w.heap.size w w' := by
  obtain ⟨a, cap, rfl, -, -⟩ := OwnG.form h
  obtain ⟨n, hns⟩ : ∃ n, zs.length = n := ⟨_, rfl⟩
  have HN := Bx.mk hns
  obtain ⟨X, hX⟩ : ∃ X, w.heap.size = X := ⟨_, rfl⟩
  have HgX : Bx (∀ g, (Value.slice a zs.length cap).ownBlock = some g → g < X) := Bx.mk fun g hg => by rw [← hX]; exact (OwnG.lt h g hg).1
  have H0 : Bx (RowZ w base (.slice a zs.length cap) zs ∧ Below X w w) := Bx.mk ⟨h, Below.refl _ _⟩
  rw [hns] at hl H0 HgX ⊢
  rw [hX]
  clear h hns
  go_enter Try.func48, Try.ntmps48
  go_wp2
  go_loopw [5, 6] (fun v j wr => ∃ (k : Nat) (o1 : Option Addr) (o2 o3 : Nat), k ≤ n ∧ j = .int .i64 (k : Int) ∧ v = .slice o1 o2 o3 ∧ Bx (RowZ wr base (.slice a n cap) zs ∧ OwnG 24 4 encC wr X (.slice o1 o2 o3) (ofZ is (zs.take k)) ∧ Below X w wr)) (fun _ j _ => n - (intOf j).toNat)
  case atStart => exact ⟨0, none, 0, 0, Nat.zero_le _, rfl, rfl, Bx.mk ⟨H0.out.1, by simpa [ofZ] using OwnG.nil 24 4 encC w X, H0.out.2⟩⟩
  case round =>
    clear H0
    obtain ⟨k, o1, o2, o3, hk, rfl, rfl, HI⟩ := hrel
    by_cases hlt : k < n
    · have hk1 : (k : Int) < (n : Int) := by omega
      have hk0 : (0 : Int) ≤ (k : Int) := by omega
      have hkz : k < zs.length := by rw [HN.out]; exact hlt
      obtain ⟨g, cap2, hv⟩ := OwnG.start HI.out.1 (by omega)
      injection hv with hv1 hv2 hv3
      subst hv1
      have hg := OwnG.at_ HI.out.1 encZ_len k hkz
      have HS := Bx.mk (ofZ_snoc is zs k hkz)
      have HLen : Bx ((ofZ is (zs.take k)).length ≤ 1000) := Bx.mk (Nat.le_trans (ofZ_len _ _) (by rw [List.length_take]; omega))
      generalize zs[k] = z at *
      obtain ⟨q4, -, -, -⟩ := rngZ hg
      obtain ⟨g0, g1, g2, g3⟩ := rng4 (rngZ4 hg)
      clear hg hv2 hv3 hkz
      obtain ⟨⟨⟨zi, zr, zx, zq⟩, zp, zs', zk', za⟩, zkv, ztv, zns, zask⟩ := z
      simp only at q4 g0 g1 g2 g3 HS
      obtain ⟨kb, hkb⟩ : ∃ kb, zk'.isSome = kb := ⟨_, rfl⟩
      rw [hkb] at q4 HS
      by_cases hit : (kb == is) = true
      · have HF : Bx (ofZ is (zs.take (k + 1)) = ofZ is (zs.take k) ++ [⟨zi, zr, zx, zq⟩]) := Bx.mk (by rw [HS.out, if_pos hit])
        have A0 : Bx (OwnG 24 4 encC (wr.alloc (.cells #[.int .i64 zi, .int .i64 zr, .int .i64 zx, .int .i64 zq] 24)) X (.slice o1 o2 o3) (ofZ is (zs.take k)) ∧ X ≤ (wr.alloc (.cells #[.int .i64 zi, .int .i64 zr, .int .i64 zx, .int .i64 zq] 24)).heap.size ∧ RowZ (wr.alloc (.cells #[.int .i64 zi, .int .i64 zr, .int .i64 zx, .int .i64 zq] 24)) base (.slice (some ⟨g, 0, none⟩) n cap) zs ∧ Below X w (wr.alloc (.cells #[.int .i64 zi, .int .i64 zr, .int .i64 zx, .int .i64 zq] 24))) := Bx.mk (by
          have h1 := HI.out.2.2.size
          exact ⟨HI.out.2.1.later (below_a _), by rw [World.size_alloc]; omega, OwnG.later HI.out.1 (below_a _), HI.out.2.2.alloc (by omega) _⟩)
        clear HI HS
        go_wp2_with (refine wpList_apG (T := 24) (n := 4) (enc := encC) elRc rfl _ _ rfl X (.slice o1 o2 o3) _ (by rfl) A0.out.1 wr.heap.size 0 ⟨zi, zr, zx, zq⟩ 1 (by rfl) (box_rng wr ⟨zi, zr, zx, zq⟩ 24) (encC_len _) (encC_one _) HLen.out A0.out.2.1 ?_; intro v5 w5 ho hg; have P1 : Bx (RowZ w5 base (.slice (some ⟨g, 0, none⟩) n cap) zs ∧ OwnG 24 4 encC w5 X v5 (ofZ is (zs.take k) ++ [⟨zi, zr, zx, zq⟩]) ∧ Below X w w5) := Bx.mk ⟨rowZ_aside A0.out.2.2.1 A0.out.1 hg, ho, A0.out.2.2.2.trans (OwnG.below A0.out.1 hg A0.out.2.1)⟩; clear ho hg)
        obtain ⟨s0, t0, hs0, -, -⟩ := OwnG.form P1.out.2.1
        subst hs0
        go_roundw
        case rel => exact ⟨k + 1, _, _, _, by omega, by go_num, rfl, Bx.mk ⟨P1.out.1, by rw [HF.out]; exact P1.out.2.1, P1.out.2.2⟩⟩
        case measure => simp [intOf]; omega
      · have hit' : (kb == is) = false := by simpa using hit
        have HF : Bx (ofZ is (zs.take (k + 1)) = ofZ is (zs.take k)) := Bx.mk (by rw [HS.out, hit']; simp)
        clear hit HS
        go_wp2
        go_roundw
        case rel => exact ⟨k + 1, _, _, _, by omega, by go_num, rfl, Bx.mk ⟨HI.out.1, by rw [HF.out]; exact HI.out.2.1, HI.out.2.2⟩⟩
        case measure => simp [intOf]; omega
    · have ek : k = n := by omega
      have HF : Bx (OwnG 24 4 encC wr X (.slice o1 o2 o3) (ofZ is zs) ∧ Below X w wr) := Bx.mk (by
        have h2 := HI.out.2.1
        rw [ek, ← HN.out, List.take_length] at h2
        exact ⟨h2, HI.out.2.2⟩)
      have hlt' : ¬ (k : Int) < (n : Int) := by omega
      clear ek HI
      go_wp2
      go_ret
      exact ⟨_, rfl, HF.out⟩
set_option maxRecDepth 100000 in
set_option maxHeartbeats 4000000 in
theorem lsame15 (va vb : Value) (l : List Cl) (w : World) (h1 : RowC w va l) (h2 : RowC w vb l) (hl : l.length ≤ 1000) :
    Calls Try.prog 10 #[va, vb] w fun e w' => e = .returned (.bool true) ∧ Below w.heap.size w w' := by
  obtain ⟨aa, ca, rfl⟩ := h1.form
  obtain ⟨ab, cb, rfl⟩ := h2.form
  obtain ⟨n, hn⟩ : ∃ n, l.length = n := ⟨_, rfl⟩
  have HN := Bx.mk hn
  rw [hn] at h1 h2 hl ⊢
  have H0 : Bx (RowC w (.slice aa n ca) l ∧ RowC w (.slice ab n cb) l ∧ Below w.heap.size w w) := Bx.mk ⟨h1, h2, Below.refl _ _⟩
  clear h1 h2 hn
  go_enter Try.func10, Try.ntmps10
  go_wp2
  go_loopw [5] (fun j wr => ∃ k : Nat, k ≤ n ∧ j = .int .i64 (k : Int) ∧ Bx (RowC wr (.slice aa n ca) l ∧ RowC wr (.slice ab n cb) l ∧ Below w.heap.size w wr)) (fun j _ => n - (intOf j).toNat)
  case atStart => exact ⟨0, Nat.zero_le _, rfl, H0⟩
  case round =>
    clear H0
    obtain ⟨k, hk, rfl, HI⟩ := hrel
    by_cases hlt : k < n
    · have hk1 : (k : Int) < (n : Int) := by omega
      have hk0 : (0 : Int) ≤ (k : Int) := by omega
      obtain ⟨g, rfl, -, hra⟩ := HI.out.1.at_ k (by rw [HN.out]; exact hlt)
      obtain ⟨g', rfl, -, hrb⟩ := HI.out.2.1.at_ k (by rw [HN.out]; exact hlt)
      generalize l.getD k c0 = y at *
      obtain ⟨y0, y1, y2, y3⟩ := y
      have HOf := Bx.mk fun W => cof_any ⟨y0, y1, y2, y3⟩ W
      unfold clV at HOf
      simp only at HOf hra hrb
      go_upto_region 6 with fail
      have R0 : Bx (wr.drew.rangeAt g (k * 4) [.int .i64 y0, .int .i64 y1, .int .i64 y2, .int .i64 y3] ∧ wr.drew.rangeAt g' (k * 4) [.int .i64 y0, .int .i64 y1, .int .i64 y2, .int .i64 y3] ∧ RowC wr.drew (.slice (some ⟨g, 0, none⟩) n ca) l ∧ RowC wr.drew (.slice (some ⟨g', 0, none⟩) n cb) l ∧ Below w.heap.size w wr.drew) := Bx.mk ⟨hra, hrb, HI.out.1.later (Below.refl _ wr).drew, HI.out.2.1.later (Below.refl _ wr).drew, HI.out.2.2.drew⟩
      clear HI hra hrb
      refine wp_region_noPanic ?_
      refine wp_region_held_drew (S := fun W => W.rangeAt g (k * 4) [.int .i64 y0, .int .i64 y1, .int .i64 y2, .int .i64 y3] ∧ W.rangeAt g' (k * 4) [.int .i64 y0, .int .i64 y1, .int .i64 y2, .int .i64 y3]) (by kernel_rfl) (⟨R0.out.1, R0.out.2.1⟩) (fun hHeld => ?_)
      generalize wr.drew = W0 at *
      refine takeL 0 (v := ?_) rfl (by kernel_rfl) (by kernel_rfl) (by kernel_rfl) (fun _ _ _ h => h) (Or.inl ⟨by rfl, ?_⟩) hHeld ?_
      rotate_left 1
      · (intro w hSw; go_simp; try with_reducible rfl)
      try simp only [Act.put, List.setIfInBounds_toArray, List.set_cons_zero, List.set_cons_succ]
      refine takeL 1 (v := ?_) rfl (by kernel_rfl) (by kernel_rfl) (by kernel_rfl) (fun _ _ _ h => h) (Or.inl ⟨by rfl, ?_⟩) hHeld ?_
      rotate_left 1
      · (intro w hSw; go_simp; try with_reducible rfl)
      try simp only [Act.put, List.setIfInBounds_toArray, List.set_cons_zero, List.set_cons_succ]
      refine takeL 2 (v := ?_) rfl (by kernel_rfl) (by kernel_rfl) (by kernel_rfl) (fun _ _ _ h => h) (Or.inl ⟨by rfl, ?_⟩) hHeld ?_
      rotate_left 1
      · (intro w hSw; go_simp; try with_reducible rfl)
      try simp only [Act.put, List.setIfInBounds_toArray, List.set_cons_zero, List.set_cons_succ]
      refine takeL 3 rfl (by kernel_rfl) (by kernel_rfl) (by kernel_rfl) (fun _ _ _ h => h) (yieldsIf_load_mid (by rfl) _ _ rfl _ _ rfl _ _ (fun w hSw => hSw.1) Try.underlying34 rfl (by kernel_rfl)) hHeld ?_
      try simp only [Act.put, List.setIfInBounds_toArray, List.set_cons_zero, List.set_cons_succ]
      refine takeL 5 (v := ?_) rfl (by kernel_rfl) (by kernel_rfl) (by kernel_rfl) (fun _ _ _ h => h) (Or.inl ⟨by rfl, ?_⟩) hHeld ?_
      rotate_left 1
      · (intro w hSw; go_simp; try with_reducible rfl)
      try simp only [Act.put, List.setIfInBounds_toArray, List.set_cons_zero, List.set_cons_succ]
      refine takeL 6 (v := ?_) rfl (by kernel_rfl) (by kernel_rfl) (by kernel_rfl) (fun _ _ _ h => h) (Or.inl ⟨by rfl, ?_⟩) hHeld ?_
      rotate_left 1
      · (intro w hSw; go_simp; try with_reducible rfl)
      try simp only [Act.put, List.setIfInBounds_toArray, List.set_cons_zero, List.set_cons_succ]
      refine takeL 7 (v := ?_) rfl (by kernel_rfl) (by kernel_rfl) (by kernel_rfl) (fun _ _ _ h => h) (Or.inl ⟨by rfl, ?_⟩) hHeld ?_
      rotate_left 1
      · (intro w hSw; go_simp; try with_reducible rfl)
      try simp only [Act.put, List.setIfInBounds_toArray, List.set_cons_zero, List.set_cons_succ]
      refine takeL 8 rfl (by kernel_rfl) (by kernel_rfl) (by kernel_rfl) (fun _ _ _ h => h) (yieldsIf_load_mid (by rfl) _ _ rfl _ _ rfl _ _ (fun w hSw => hSw.2) Try.underlying24 rfl (by kernel_rfl)) hHeld ?_
      try simp only [Act.put, List.setIfInBounds_toArray, List.set_cons_zero, List.set_cons_succ]
      refine stepL 4 (by kernel_rfl) rfl (fun K' hK => ?_)
      go_simp
      refine (HOf.out _).mono ?_
      rintro e W1 ⟨rfl, hb⟩
      show K' _ _
      have R1 : Bx (W1.rangeAt g (k * 4) [.int .i64 y0, .int .i64 y1, .int .i64 y2, .int .i64 y3] ∧ W1.rangeAt g' (k * 4) [.int .i64 y0, .int .i64 y1, .int .i64 y2, .int .i64 y3] ∧ RowC W1 (.slice (some ⟨g, 0, none⟩) n ca) l ∧ RowC W1 (.slice (some ⟨g', 0, none⟩) n cb) l ∧ Below w.heap.size w W1) := Bx.mk ⟨rng_later R0.out.1 hb, rng_later R0.out.2.1 hb, R0.out.2.2.1.later hb, R0.out.2.2.2.1.later hb, R0.out.2.2.2.2.trans (hb.mono R0.out.2.2.2.2.size)⟩
      refine hK.out _ _ ⟨R1.out.1, R1.out.2.1⟩ (fun hHeld => ?_)
      clear hK K' hb R0
      try simp only [Act.put, List.setIfInBounds_toArray, List.set_cons_zero, List.set_cons_succ]
      refine takeL 9 (v := ?_) rfl (by kernel_rfl) (by kernel_rfl) (by kernel_rfl) (fun _ _ _ h => h) (Or.inl ⟨by rfl, ?_⟩) hHeld ?_
      rotate_left 1
      · (intro w hSw; go_simp; try with_reducible rfl)
      try simp only [Act.put, List.setIfInBounds_toArray, List.set_cons_zero, List.set_cons_succ]
      refine wpAnyH_done (by kernel_rfl) ?_ _
      refine NoPanic.normal ?_
      clear hHeld
      go_wp2
      go_roundw
      case rel => exact ⟨k + 1, by omega, by go_num, Bx.mk ⟨R1.out.2.2.1, R1.out.2.2.2.1, R1.out.2.2.2.2⟩⟩
      case measure => simp [intOf]; omega
    · have hlt' : ¬ (k : Int) < (n : Int) := by omega
      have HB := Bx.mk HI.out.2.2
      clear HI
      go_wp2
      go_ret
      exact ⟨rfl, HB.out⟩
end Go.Proofs.Ytdbdpehagkglfaa
namespace Go.Proofs.Ytdbdpehagkglfaa
open Go Go.RowKit
theorem sortC_sorted {l : List Cl} (h : l.Pairwise (fun x y => lessC x y = true)) : sortC l = l := by
  have tr : ∀ x y z : Cl, (!(Go.Proofs.ltOf cmpC) y x) = true → (!(Go.Proofs.ltOf cmpC) z y) = true → (!(Go.Proofs.ltOf cmpC) z x) = true := fun x y z h1 h2 => by
    simp only [Bool.not_eq_true'] at *
    exact cmp_swo.ntrans z y x h2 h1
  have to : ∀ x y : Cl, ((!(Go.Proofs.ltOf cmpC) y x) || (!(Go.Proofs.ltOf cmpC) x y)) = true := fun x y => by
    rw [lt_less, lt_less]
    cases h : lessC y x
    · rfl
    · rw [less_asymm h]; rfl
  refine List.Perm.eq_of_pairwise (le := fun x y => (!(Go.Proofs.ltOf cmpC) y x) = true) (fun x y _ _ h1 h2 => ?_) (List.pairwise_mergeSort tr to l) (h.imp fun {a b} hab => ?_) (sortC_perm l)
  · rw [lt_less, Bool.not_eq_true'] at h1 h2
    rcases less_cases x y with k | k | k
    · rw [k] at h2; cases h2
    · exact k
    · rw [k] at h1; cases h1
  · rw [lt_less, less_asymm hab]
    rfl
/-- What an entry of both holds. -/
structure ZOk (B : Nat) (W : World) (n : Nat) (z : Zz) : Prop where
  key : z.e.k = none ∨ ∃ bs, z.e.k = some bs ∧ OwnB W B z.kv bs ∧ bs.length ≤ 1000
  tak : OwnN 26 W B z.tv z.ns
  rel : RelW z.ns z.e.s
  len : z.ns.length ≤ n
  sl : z.kv.oneCell' = true
  ask : 0 ≤ z.ask ∧ z.ask ≤ 1073741824
  was : z.e.k = none → z.e.a = z.ask
  new : z.e.k = none → z.ns = []
theorem ZOk.later {B n : Nat} {W W1 : World} {z : Zz} (h : ZOk B W n z) (hb : Below W.heap.size W W1) : ZOk B W1 n z := by
  refine ⟨?_, h.tak.later hb, h.rel, h.len, h.sl, h.ask, h.was, h.new⟩
  rcases h.key with h1 | ⟨bs, h1, h2, h3⟩
  · exact .inl h1
  · exact .inr ⟨bs, h1, h2.later hb (fun g hg => (h2.lt g hg).1), h3⟩
theorem ZOk.keepB {B B' n : Nat} {W W1 : World} {z : Zz} (h : ZOk B W n z) (hb : KB B' W W1) : ZOk B W1 n z := by
  refine ⟨?_, h.tak.keepB hb (by decide) (by decide), h.rel, h.len, h.sl, h.ask, h.was, h.new⟩
  rcases h.key with h1 | ⟨bs, h1, h2, h3⟩
  · exact .inl h1
  · exact .inr ⟨bs, h1, h2.keepB hb, h3⟩
theorem ZOk.keepT {B n : Nat} {W W1 : World} {z : Zz} (h : ZOk B W n z) (hb : KT W W1) : ZOk B W1 n z := by
  refine ⟨?_, h.tak.keepT hb (by decide), h.rel, h.len, h.sl, h.ask, h.was, h.new⟩
  rcases h.key with h1 | ⟨bs, h1, h2, h3⟩
  · exact .inl h1
  · exact .inr ⟨bs, h1, h2.keepT hb, h3⟩
theorem ZOk.more {B n m : Nat} {W : World} {z : Zz} (h : ZOk B W n z) (hm : n ≤ m) : ZOk B W m z := ⟨h.key, h.tak, h.rel, Nat.le_trans h.len hm, h.sl, h.ask, h.was, h.new⟩
/-- The entries of the book. -/
def ens (zs : List Zz) : List En := zs.map (·.e)
/-- Both, between two calls. -/
structure StL (B : Nat) (w : World) (n : Nat) (zs : List Zz) (mv : Value) (W : World) : Prop where
  book : BookAt B B (ens zs) W
  row : RowZ W B mv zs
  each : ∀ z ∈ zs, ZOk B W n z
  srt : zs.Pairwise (fun x y => lessC x.e.c y.e.c = true)
  le : zs.length ≤ 16
  below : Below B w W
theorem StL.later {B : Nat} {w : World} {n : Nat} {zs : List Zz} {mv : Value} {W W1 : World} (h : StL B w n zs mv W) (hB : B ≤ W.heap.size) (hb : Below W.heap.size W W1) : StL B w n zs mv W1 :=
  ⟨h.book.later hb, OwnG.later h.row hb, fun z hz => (h.each z hz).later hb, h.srt, h.le, h.below.trans (hb.mono hB)⟩
theorem StL.more {B : Nat} {w : World} {n m : Nat} {zs : List Zz} {mv : Value} {W : World} (h : StL B w n zs mv W) (hm : n ≤ m) : StL B w m zs mv W :=
  ⟨h.book, h.row, fun z hz => (h.each z hz).more hm, h.srt, h.le, h.below⟩
theorem StL.slz {B : Nat} {w : World} {n : Nat} {zs : List Zz} {mv : Value} {W : World} (h : StL B w n zs mv W) : SlZ zs := fun z hz => ⟨(h.each z hz).sl, by
  obtain ⟨a, cap, hv, -, -⟩ := (h.each z hz).tak.form
  rw [hv]
  rfl⟩
theorem srt_ne {zs : List Zz} (h : zs.Pairwise (fun x y => lessC x.e.c y.e.c = true)) (K : Nat) (hK : K < zs.length) : ∀ j (hj : j < zs.length), j < K → (zs[j]).e.c ≠ (zs[K]).e.c := fun j hj hjK e => by
  have := List.pairwise_iff_getElem.1 h j K hj hK hjK
  rw [e, less_irr] at this
  cases this
theorem srt_who {zs : List Zz} (h : zs.Pairwise (fun x y => lessC x.e.c y.e.c = true)) (f : En → Bool) : whoE f (ens zs) = (zs.filter fun z => f z.e).map (·.e.c) := by
  unfold whoE ens
  rw [List.filter_map, List.map_map]
  rw [sortC_sorted]
  · rfl
  · rw [List.pairwise_map]
    exact h.filter _
theorem who_known {zs : List Zz} (h : zs.Pairwise (fun x y => lessC x.e.c y.e.c = true)) : whoE (fun e => !e.k.isNone) (ens zs) = ofZ true zs := by
  rw [srt_who h]
  unfold ofZ
  congr 1
  refine List.filter_congr fun z _ => ?_
  cases z.e.k <;> rfl
theorem who_wanted {zs : List Zz} (h : zs.Pairwise (fun x y => lessC x.e.c y.e.c = true)) : whoE (fun e => e.k.isNone) (ens zs) = ofZ false zs := by
  rw [srt_who h]
  unfold ofZ
  congr 1
  refine List.filter_congr fun z _ => ?_
  cases z.e.k <;> rfl
/-- Whose entry it is, in both. -/
theorem StL.cases {B : Nat} {w : World} {n : Nat} {zs : List Zz} {mv : Value} {W : World} (h : StL B w n zs mv W) (c : Cl) : (∀ z ∈ zs, z.e.c ≠ c) ∨ ∃ K, ∃ hK : K < zs.length, (zs[K]).e.c = c ∧ (∀ j (hj : j < zs.length), j < K → (zs[j]).e.c ≠ c) := by
  by_cases hin : ∃ z ∈ zs, z.e.c = c
  · obtain ⟨z, hz, rfl⟩ := hin
    obtain ⟨K, hK, rfl⟩ := List.mem_iff_getElem.1 hz
    exact .inr ⟨K, hK, rfl, srt_ne h.srt K hK⟩
  · exact .inl fun z hz hc => hin ⟨z, hz, hc⟩
theorem ens_out {zs : List Zz} {c : Cl} (h : ∀ z ∈ zs, z.e.c ≠ c) : ∀ e ∈ ens zs, e.c ≠ c := fun e he => by
  obtain ⟨z, hz, rfl⟩ := List.mem_map.1 he
  exact h z hz
theorem ens_in {zs : List Zz} {K : Nat} (hK : K < zs.length) : (zs[K]).e ∈ ens zs := List.mem_map.2 ⟨_, List.getElem_mem hK, rfl⟩
/-- What may be taken of whom, in both. -/
theorem StL.look {B : Nat} {w : World} {n : Nat} {zs : List Zz} {mv : Value} {W : World} (h : StL B w n zs mv W) (hn : n ≤ 1000) (c : Cl) (hc : Cl64 c) (nn : Nn) (hfn : nn.fit) : ∃ D : Int, ∀ W1, Below W.heap.size W W1 →
    (Calls Try.prog 27 #[ptr B, clV c, nv nn] W1 fun x w' => x = .returned (.int .i64 D) ∧ Below W1.heap.size W1 w') ∧ (Calls Try.prog 16 #[mv, clV c, nv nn] W1 fun x w' => x = .returned (.int .i64 D) ∧ Below W1.heap.size W1 w') := by
  have hz : zs.length ≤ 1000 := by have := h.le; omega
  rcases h.cases c with hn0 | ⟨K, hK, hcK, hb⟩
  · exact ⟨7, fun W1 hB => ⟨look_err15 (ptr B) c nn 7 (by decide) W1 (fun W2 hb2 => find_out B B (ens zs) c hc (ens_out hn0) W2 ((h.book.later hB).later hb2)), rlook15_out B mv zs c nn W1 (OwnG.later h.row hB) hz hn0⟩⟩
  · have hZ := h.each _ (List.getElem_mem hK)
    cases hk : (zs[K]).e.k with
    | none =>
      refine ⟨11, fun W1 hB => ⟨look_err15 (ptr B) c nn 11 (by decide) W1 (fun W2 hb2 => ?_), rlook15_wanted B mv zs c nn W1 (OwnG.later h.row hB) hz K hK hcK hb (by rw [hk]; rfl)⟩⟩
      rw [← hcK]
      exact find_wanted B B (ens zs) _ (ens_in hK) (by rw [hk]; rfl) W2 ((h.book.later hB).later hb2)
    | some bs =>
      refine ⟨lookW (zs[K]).e.s nn, fun W1 hB => ⟨?_, ?_⟩⟩
      · rw [← hcK]
        exact look_known B B (ens zs) _ (ens_in hK) (by rw [hk]; rfl) nn W1 (h.book.later hB)
      · have h1 := rlook15_known B mv zs c nn W1 (OwnG.later h.row hB) hz K hK hcK hb (by rw [hk]; rfl) ((hZ.tak.later hB).reads) (Nat.le_trans hZ.len hn) hZ.rel.ok hfn
        rw [hZ.rel.look nn]
        exact h1
end Go.Proofs.Ytdbdpehagkglfaa
