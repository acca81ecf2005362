/-
  A nonce's bytes, and the nonce of a reader.
-/
import Derived.Test.YtaoekfomffebhaaDoorP1
import Derived.Test.YtaoekfomffebhaaDoorIp
import Derived.Test.YtaoekfomffebhaaDoorIm
namespace Go.Proofs.YtaoekfomffebhaaDoor
open Go Go.RowKit
/-- The bytes of a nonce. -/
def nB (n : Nn) : List UInt8 := beN 2 n.b.toNat ++ beN 4 n.c.toNat
theorem nB_length (n : Nn) : (nB n).length = 6 := by simp [nB, beN_length]
/-- What stays while a nonce is written. -/
structure BN12 (w : World) (B p : Nat) (n : Nn) (st : List UInt8 × Int) (W : World) : Prop where
  wr : IsW W p st
  box : W.heap[B]? = some (.cells #[.int .i64 n.b, .int .i64 n.c] 31 (0, 0))
  below : Below B w W
  lt : B < p
theorem BN12.alloc {w : World} {B p : Nat} {c : Nn} {st : List UInt8 × Int} {W : World} (h : BN12 w B p c st W) (o : Obj) : BN12 w B p c st (W.alloc o) :=
  ⟨h.wr.later (below_a _) h.wr.lt, by rw [hold _ _ _ (Nat.lt_trans h.lt h.wr.lt)]; exact h.box, h.below.alloc (Nat.le_of_lt (Nat.lt_trans h.lt h.wr.lt)) _, h.lt⟩
theorem BN12.drew {w : World} {B p : Nat} {c : Nn} {st : List UInt8 × Int} {W : World} (h : BN12 w B p c st W) : BN12 w B p c st W.drew :=
  ⟨h.wr.later (Below.refl _ _).drew h.wr.lt, h.box, h.below.drew, h.lt⟩
theorem BN12.grown {w : World} {B p : Nat} {c : Nn} {st st1 : List UInt8 × Int} {W W1 : World} (h : BN12 w B p c st W) (h1 : IsW W1 p st1) (hg : W.grownBy W1 (some p)) : BN12 w B p c st1 W1 :=
  ⟨h1, by rw [hg.block B (Nat.lt_trans h.lt h.wr.lt) (fun e => by injection e with e; have := h.lt; omega)]; exact h.box, h.below.trans (grown_below hg (Nat.le_of_lt h.lt) (Nat.le_of_lt (Nat.lt_trans h.lt h.wr.lt))), h.lt⟩
theorem BN12.c0 {w : World} {B p : Nat} {b c : Int} {st : List UInt8 × Int} {W : World} (h : BN12 w B p ⟨b, c⟩ st W) : W.cell? ⟨B, 0, none⟩ = some (.int .i64 b) := by rw [cell_of_row _ _ _ _ _ _ h.box]; rfl
theorem BN12.c1 {w : World} {B p : Nat} {b c : Int} {st : List UInt8 × Int} {W : World} (h : BN12 w B p ⟨b, c⟩ st W) : W.cell? ⟨B, 1, none⟩ = some (.int .i64 c) := by rw [cell_of_row _ _ _ _ _ _ h.box]; rfl
theorem put_num12 (l : List UInt8) (s n : Int) (h0 : 0 ≤ s) (h3 : s ≤ 3) (h1 : 0 ≤ n) (h2 : n ≤ most s) (hl : l.length ≤ 1000) : [fNum s n].foldl putS (l, 0) = (l ++ beN (wid s) n.toNat, 0) := by
  have hc : chk (fNum s n) = 0 := by
    unfold chk fNum
    simp only
    rw [if_neg (by omega), if_neg (by omega), if_neg (by simp; omega)]
  have he : enc (fNum s n) = beN (wid s) n.toNat := by unfold enc fNum; simp only; rw [if_neg (by omega)]
  have hw := wid_le s
  rw [show [fNum s n].foldl putS (l, 0) = putS (l, 0) (fNum s n) from rfl, putS_rfs]
  have hr : rfs (l, 0) (fNum s n) = 0 := by
    unfold rfs
    simp only
    rw [if_neg (by simp), if_neg (by rw [hc]; simp), if_neg (by rw [he, beN_length]; omega)]
  rw [if_pos hr, he]
theorem put_nonce (n : Nn) (h : okN n = true) : [fNum 2 n.c].foldl putS ([fNum 1 n.b].foldl putS ([], 0)) = (nB n, 0) := by
  have hh := (okN_iff n).1 h
  rw [put_num12 [] 1 n.b (by omega) (by omega) (by omega) (by unfold most; simp; omega) (by simp)]
  rw [put_num12 _ 2 n.c (by omega) (by omega) (by omega) (by unfold most; simp; omega) (by simp [beN_length, wid])]
  rfl
set_option maxRecDepth 100000 in
set_option maxHeartbeats 4000000 in
theorem nbytes_ok (n : Nn) (w : World) (hc : okN n = true) : Calls Tryd.prog 46 #[nv n] w fun e w' => ∃ v, e = .returned (.tuple #[v, .int .i64 0]) ∧ OwnB w' w.heap.size v (nB n) ∧ Below w.heap.size w w' := by
  obtain ⟨b, c⟩ := n
  have HOK := Bx.mk ((okN_iff ⟨b, c⟩).mp hc)
  have HP := Bx.mk (put_nonce ⟨b, c⟩ hc)
  have HK := fun (W : World) => check_any ⟨b, c⟩ W
  rw [if_pos hc] at HK
  clear hc
  obtain ⟨z, hz, hzz⟩ := zero_wr
  have HZ := Bx.mk hzz
  clear hzz
  obtain ⟨B, hB⟩ : ∃ B, w.heap.size = B := ⟨_, rfl⟩
  rw [hB]
  have HB := Bx.mk hB
  have HX : Bx ((w.alloc (.cells #[.int .i64 b, .int .i64 c] 31)).heap[B]? = some (.cells #[.int .i64 b, .int .i64 c] 31 (0, 0)) ∧ Below B w (w.alloc (.cells #[.int .i64 b, .int .i64 c] 31)) ∧ (w.alloc (.cells #[.int .i64 b, .int .i64 c] 31)).heap.size = B + 1) := Bx.mk ⟨hnew _ _ _ hB.symm, by rw [← hB]; exact below_a _, by simp [hB]⟩
  unfold nv at HK ⊢
  simp only at HK HOK HP ⊢
  go_enter Tryd.func46, Tryd.ntmps46
  go_wp2_with fail
  refine (HK _).mono ?_
  rintro e w2 ⟨rfl, hb2⟩
  obtain ⟨p, hp⟩ : ∃ p, w2.heap.size = p := ⟨_, rfl⟩
  have H2 : Bx (BN12 w B p ⟨b, c⟩ ([], 0) (w2.alloc (.cells z 118))) := Bx.mk ⟨by rw [← hp]; exact new_wr w2 z HZ.out, by
      rw [hold _ _ _ (by have := hb2.size; have := HX.out.2.2; omega), hb2.block B (by have := HX.out.2.2; omega)]
      exact HX.out.1, (HX.out.2.1.trans (hb2.mono (by have := HX.out.2.2; omega))).alloc (by have := hb2.size; have := HX.out.2.2; omega) _, by have := hb2.size; have := HX.out.2.2; omega⟩
  clear hb2 HX HK
  go_upto_region 5 with (fail)
  clear hp
  generalize w2.alloc (.cells z 118) = w3 at *
  have HC := Bx.mk H2.out.drew
  clear H2 hz HZ
  refine wp_region_noPanic ?_
  refine wp_region_held_drew (S := fun W => W.cell? ⟨B, 0, none⟩ = some (.int .i64 b) ∧ W.cell? ⟨B, 1, none⟩ = some (.int .i64 c)) (by kernel_rfl) (⟨HC.out.c0, HC.out.c1⟩) (fun hHeld => ?_)
  generalize w3.drew = W0 at *
  refine takeL 0 (v := ?_) rfl (by kernel_rfl) (by kernel_rfl) (by kernel_rfl) (fun _ _ _ h => h) (Or.inl ⟨by rfl, ?_⟩) hHeld ?_
  rotate_left 1
  · (intro w hSw; go_simp; try with_reducible rfl)
  try simp only [Act.put, List.setIfInBounds_toArray, List.set_cons_zero, List.set_cons_succ]
  refine takeL 1 (v := ?_) rfl (by kernel_rfl) (by kernel_rfl) (by kernel_rfl) (fun _ _ _ h => h) (Or.inl ⟨by rfl, ?_⟩) hHeld ?_
  rotate_left 1
  · (intro w hSw; go_simp; try with_reducible rfl)
  try simp only [Act.put, List.setIfInBounds_toArray, List.set_cons_zero, List.set_cons_succ]
  refine takeL 4 (v := ?_) rfl (by kernel_rfl) (by kernel_rfl) (by kernel_rfl) (fun _ _ _ h => h) (Or.inl ⟨by rfl, ?_⟩) hHeld ?_
  rotate_left 1
  · (intro w hSw; go_simp; try with_reducible rfl)
  try simp only [Act.put, List.setIfInBounds_toArray, List.set_cons_zero, List.set_cons_succ]
  refine takeL 5 (v := ?_) rfl (by kernel_rfl) (by kernel_rfl) (by kernel_rfl) (fun _ _ _ h => h) (Or.inl ⟨by rfl, ?_⟩) hHeld ?_
  rotate_left 1
  · (intro w hSw; go_simp; try with_reducible rfl)
  try simp only [Act.put, List.setIfInBounds_toArray, List.set_cons_zero, List.set_cons_succ]
  refine wpAnyH_ready (rs := [2, 6]) (by kernel_rfl) (by simp) ?_
  refine consM 2 rfl (fun K hK => ?_) (consM 6 rfl (fun K hK => ?_) AllReadyH.nil)
  · go_simp
    have b1 : Bx (IntsN (W0.alloc (.cells #[.int .i64 b] 3)) p (.slice (some ⟨W0.heap.size, 0, none⟩) 1 1) [b]) := Bx.mk (ints_one W0 p b _ HC.out.wr.lt)
    have HC := Bx.mk (HC.out.alloc (.cells #[.int .i64 b] 3))
    refine hK.out _ _ ⟨HC.out.c0, HC.out.c1⟩ (fun hHeld => ?_)
    clear hK K
    try simp only [Act.put, List.setIfInBounds_toArray, List.set_cons_zero, List.set_cons_succ]
    generalize W0.alloc (.cells #[.int .i64 b] 3) = W1 at *
    generalize W0.heap.size = Db1 at *
    refine wpAnyH_ready (rs := [3, 6]) (by kernel_rfl) (by simp) ?_
    refine consM 3 rfl (fun K hK => ?_) (consM 6 rfl (fun K hK => ?_) AllReadyH.nil)
    · go_simp
      refine (wnum_any 1 [b] _ p _ W1 HC.out.wr b1.out (fun n hn => by simp at hn; subst hn; have := HOK.out; omega) (by simp)).mono ?_
      rintro e W2 ⟨rfl, hw, hg⟩
      show K _ _
      have HC := Bx.mk (HC.out.grown hw hg)
      clear hw hg b1
      refine hK.out _ _ ⟨HC.out.c0, HC.out.c1⟩ (fun hHeld => ?_)
      clear hK K
      try simp only [Act.put, List.setIfInBounds_toArray, List.set_cons_zero, List.set_cons_succ]
      refine stepL 6 (by kernel_rfl) rfl (fun K hK => ?_)
      go_simp
      have b2 : Bx (IntsN (W2.alloc (.cells #[.int .i64 c] 3)) p (.slice (some ⟨W2.heap.size, 0, none⟩) 1 1) [c]) := Bx.mk (ints_one W2 p c _ HC.out.wr.lt)
      have HC := Bx.mk (HC.out.alloc (.cells #[.int .i64 c] 3))
      refine hK.out _ _ ⟨HC.out.c0, HC.out.c1⟩ (fun hHeld => ?_)
      clear hK K
      try simp only [Act.put, List.setIfInBounds_toArray, List.set_cons_zero, List.set_cons_succ]
      generalize W2.alloc (.cells #[.int .i64 c] 3) = W3 at *
      generalize W2.heap.size = Db2 at *
      refine stepL 7 (by kernel_rfl) rfl (fun K hK => ?_)
      go_simp
      refine (wnum_any 2 [c] _ p _ W3 HC.out.wr b2.out (fun n hn => by simp at hn; subst hn; have := HOK.out; omega) (by simp)).mono ?_
      rintro e W4 ⟨rfl, hw, hg⟩
      show K _ _
      have HC := Bx.mk (HC.out.grown hw hg)
      clear hw hg b2
      refine hK.out _ _ ⟨HC.out.c0, HC.out.c1⟩ (fun hHeld => ?_)
      clear hK K
      try simp only [Act.put, List.setIfInBounds_toArray, List.set_cons_zero, List.set_cons_succ]
      refine stepL 8 (by kernel_rfl) rfl (fun K hK => ?_)
      have HC : Bx (BN12 w B p ⟨b, c⟩ (nB ⟨b, c⟩, 0) W4) := Bx.mk (by have h := HC.out; simp only [List.map_cons, List.map_nil] at h; rw [HP.out] at h; exact h)
      go_simp
      refine (wout_ok p _ W4 HC.out.wr).mono ?_
      rintro e W5 ⟨vz, rfl, hoz, hbz⟩
      show K _ _
      have HZ : Bx (OwnB W5 B vz (nB ⟨b, c⟩) ∧ Below B w W5) := Bx.mk ⟨hoz.weak (Nat.le_of_lt (Nat.lt_trans HC.out.lt HC.out.wr.lt)), HC.out.below.trans (hbz.mono (Nat.le_of_lt (Nat.lt_trans HC.out.lt HC.out.wr.lt)))⟩
      have HQ : Bx (W5.cell? ⟨B, 0, none⟩ = some (.int .i64 b) ∧ W5.cell? ⟨B, 1, none⟩ = some (.int .i64 c)) := Bx.mk ⟨(hbz.cell (p := ⟨B, 0, none⟩) (World.block_lt_of_cell? _ _ HC.out.c0)).trans HC.out.c0, (hbz.cell (p := ⟨B, 1, none⟩) (World.block_lt_of_cell? _ _ HC.out.c1)).trans HC.out.c1⟩
      obtain ⟨az, cz, hvz⟩ := own_form hoz
      subst hvz
      clear hoz hbz HC
      refine hK.out _ _ HQ.out (fun hHeld => ?_)
      clear hK K HQ
      try simp only [Act.put, List.setIfInBounds_toArray, List.set_cons_zero, List.set_cons_succ]
      refine takeL 9 (v := ?_) rfl (by kernel_rfl) (by kernel_rfl) (by kernel_rfl) (fun _ _ _ h => h) (Or.inl ⟨by rfl, ?_⟩) hHeld ?_
      rotate_left 1
      · (intro w hSw; go_simp; try with_reducible rfl)
      try simp only [Act.put, List.setIfInBounds_toArray, List.set_cons_zero, List.set_cons_succ]
      refine takeL 10 (v := ?_) rfl (by kernel_rfl) (by kernel_rfl) (by kernel_rfl) (fun _ _ _ h => h) (Or.inl ⟨by rfl, ?_⟩) hHeld ?_
      rotate_left 1
      · (intro w hSw; go_simp; try with_reducible rfl)
      try simp only [Act.put, List.setIfInBounds_toArray, List.set_cons_zero, List.set_cons_succ]
      refine takeL 11 (v := ?_) rfl (by kernel_rfl) (by kernel_rfl) (by kernel_rfl) (fun _ _ _ h => h) (Or.inl ⟨by rfl, ?_⟩) hHeld ?_
      rotate_left 1
      · (intro w hSw; go_simp; try with_reducible rfl)
      try simp only [Act.put, List.setIfInBounds_toArray, List.set_cons_zero, List.set_cons_succ]
      refine takeL 12 (v := ?_) rfl (by kernel_rfl) (by kernel_rfl) (by kernel_rfl) (fun _ _ _ h => h) (Or.inl ⟨by rfl, ?_⟩) hHeld ?_
      rotate_left 1
      · (intro w hSw; go_simp; try with_reducible rfl)
      try simp only [Act.put, List.setIfInBounds_toArray, List.set_cons_zero, List.set_cons_succ]
      refine wpAnyH_done (by kernel_rfl) ?_ _
      refine NoPanic.normal ?_
      clear hHeld
      go_wp2
      go_ret2
      exact ⟨_, rfl, HZ.out⟩
    · go_simp
      have b2 : Bx (IntsN (W1.alloc (.cells #[.int .i64 c] 3)) p (.slice (some ⟨W1.heap.size, 0, none⟩) 1 1) [c]) := Bx.mk (ints_one W1 p c _ HC.out.wr.lt)
      have b1 := Bx.mk (b1.out.grown (kb_below (some p) (below_a (.cells #[.int .i64 c] 3))))
      have HC := Bx.mk (HC.out.alloc (.cells #[.int .i64 c] 3))
      refine hK.out _ _ ⟨HC.out.c0, HC.out.c1⟩ (fun hHeld => ?_)
      clear hK K
      try simp only [Act.put, List.setIfInBounds_toArray, List.set_cons_zero, List.set_cons_succ]
      generalize W1.alloc (.cells #[.int .i64 c] 3) = W2 at *
      generalize W1.heap.size = Db2 at *
      refine stepL 3 (by kernel_rfl) rfl (fun K hK => ?_)
      go_simp
      refine (wnum_any 1 [b] _ p _ W2 HC.out.wr b1.out (fun n hn => by simp at hn; subst hn; have := HOK.out; omega) (by simp)).mono ?_
      rintro e W3 ⟨rfl, hw, hg⟩
      show K _ _
      have b2 := Bx.mk (b2.out.grown hg)
      have HC := Bx.mk (HC.out.grown hw hg)
      clear hw hg b1
      refine hK.out _ _ ⟨HC.out.c0, HC.out.c1⟩ (fun hHeld => ?_)
      clear hK K
      try simp only [Act.put, List.setIfInBounds_toArray, List.set_cons_zero, List.set_cons_succ]
      refine stepL 7 (by kernel_rfl) rfl (fun K hK => ?_)
      go_simp
      refine (wnum_any 2 [c] _ p _ W3 HC.out.wr b2.out (fun n hn => by simp at hn; subst hn; have := HOK.out; omega) (by simp)).mono ?_
      rintro e W4 ⟨rfl, hw, hg⟩
      show K _ _
      have HC := Bx.mk (HC.out.grown hw hg)
      clear hw hg b2
      refine hK.out _ _ ⟨HC.out.c0, HC.out.c1⟩ (fun hHeld => ?_)
      clear hK K
      try simp only [Act.put, List.setIfInBounds_toArray, List.set_cons_zero, List.set_cons_succ]
      refine stepL 8 (by kernel_rfl) rfl (fun K hK => ?_)
      have HC : Bx (BN12 w B p ⟨b, c⟩ (nB ⟨b, c⟩, 0) W4) := Bx.mk (by have h := HC.out; simp only [List.map_cons, List.map_nil] at h; rw [HP.out] at h; exact h)
      go_simp
      refine (wout_ok p _ W4 HC.out.wr).mono ?_
      rintro e W5 ⟨vz, rfl, hoz, hbz⟩
      show K _ _
      have HZ : Bx (OwnB W5 B vz (nB ⟨b, c⟩) ∧ Below B w W5) := Bx.mk ⟨hoz.weak (Nat.le_of_lt (Nat.lt_trans HC.out.lt HC.out.wr.lt)), HC.out.below.trans (hbz.mono (Nat.le_of_lt (Nat.lt_trans HC.out.lt HC.out.wr.lt)))⟩
      have HQ : Bx (W5.cell? ⟨B, 0, none⟩ = some (.int .i64 b) ∧ W5.cell? ⟨B, 1, none⟩ = some (.int .i64 c)) := Bx.mk ⟨(hbz.cell (p := ⟨B, 0, none⟩) (World.block_lt_of_cell? _ _ HC.out.c0)).trans HC.out.c0, (hbz.cell (p := ⟨B, 1, none⟩) (World.block_lt_of_cell? _ _ HC.out.c1)).trans HC.out.c1⟩
      obtain ⟨az, cz, hvz⟩ := own_form hoz
      subst hvz
      clear hoz hbz HC
      refine hK.out _ _ HQ.out (fun hHeld => ?_)
      clear hK K HQ
      try simp only [Act.put, List.setIfInBounds_toArray, List.set_cons_zero, List.set_cons_succ]
      refine takeL 9 (v := ?_) rfl (by kernel_rfl) (by kernel_rfl) (by kernel_rfl) (fun _ _ _ h => h) (Or.inl ⟨by rfl, ?_⟩) hHeld ?_
      rotate_left 1
      · (intro w hSw; go_simp; try with_reducible rfl)
      try simp only [Act.put, List.setIfInBounds_toArray, List.set_cons_zero, List.set_cons_succ]
      refine takeL 10 (v := ?_) rfl (by kernel_rfl) (by kernel_rfl) (by kernel_rfl) (fun _ _ _ h => h) (Or.inl ⟨by rfl, ?_⟩) hHeld ?_
      rotate_left 1
      · (intro w hSw; go_simp; try with_reducible rfl)
      try simp only [Act.put, List.setIfInBounds_toArray, List.set_cons_zero, List.set_cons_succ]
      refine takeL 11 (v := ?_) rfl (by kernel_rfl) (by kernel_rfl) (by kernel_rfl) (fun _ _ _ h => h) (Or.inl ⟨by rfl, ?_⟩) hHeld ?_
      rotate_left 1
      · (intro w hSw; go_simp; try with_reducible rfl)
      try simp only [Act.put, List.setIfInBounds_toArray, List.set_cons_zero, List.set_cons_succ]
      refine takeL 12 (v := ?_) rfl (by kernel_rfl) (by kernel_rfl) (by kernel_rfl) (fun _ _ _ h => h) (Or.inl ⟨by rfl, ?_⟩) hHeld ?_
      rotate_left 1
      · (intro w hSw; go_simp; try with_reducible rfl)
      try simp only [Act.put, List.setIfInBounds_toArray, List.set_cons_zero, List.set_cons_succ]
      refine wpAnyH_done (by kernel_rfl) ?_ _
      refine NoPanic.normal ?_
      clear hHeld
      go_wp2
      go_ret2
      exact ⟨_, rfl, HZ.out⟩
  · go_simp
    have b2 : Bx (IntsN (W0.alloc (.cells #[.int .i64 c] 3)) p (.slice (some ⟨W0.heap.size, 0, none⟩) 1 1) [c]) := Bx.mk (ints_one W0 p c _ HC.out.wr.lt)
    have HC := Bx.mk (HC.out.alloc (.cells #[.int .i64 c] 3))
    refine hK.out _ _ ⟨HC.out.c0, HC.out.c1⟩ (fun hHeld => ?_)
    clear hK K
    try simp only [Act.put, List.setIfInBounds_toArray, List.set_cons_zero, List.set_cons_succ]
    generalize W0.alloc (.cells #[.int .i64 c] 3) = W1 at *
    generalize W0.heap.size = Db2 at *
    refine stepL 2 (by kernel_rfl) rfl (fun K hK => ?_)
    go_simp
    have b1 : Bx (IntsN (W1.alloc (.cells #[.int .i64 b] 3)) p (.slice (some ⟨W1.heap.size, 0, none⟩) 1 1) [b]) := Bx.mk (ints_one W1 p b _ HC.out.wr.lt)
    have b2 := Bx.mk (b2.out.grown (kb_below (some p) (below_a (.cells #[.int .i64 b] 3))))
    have HC := Bx.mk (HC.out.alloc (.cells #[.int .i64 b] 3))
    refine hK.out _ _ ⟨HC.out.c0, HC.out.c1⟩ (fun hHeld => ?_)
    clear hK K
    try simp only [Act.put, List.setIfInBounds_toArray, List.set_cons_zero, List.set_cons_succ]
    generalize W1.alloc (.cells #[.int .i64 b] 3) = W2 at *
    generalize W1.heap.size = Db1 at *
    refine stepL 3 (by kernel_rfl) rfl (fun K hK => ?_)
    go_simp
    refine (wnum_any 1 [b] _ p _ W2 HC.out.wr b1.out (fun n hn => by simp at hn; subst hn; have := HOK.out; omega) (by simp)).mono ?_
    rintro e W3 ⟨rfl, hw, hg⟩
    show K _ _
    have b2 := Bx.mk (b2.out.grown hg)
    have HC := Bx.mk (HC.out.grown hw hg)
    clear hw hg b1
    refine hK.out _ _ ⟨HC.out.c0, HC.out.c1⟩ (fun hHeld => ?_)
    clear hK K
    try simp only [Act.put, List.setIfInBounds_toArray, List.set_cons_zero, List.set_cons_succ]
    refine stepL 7 (by kernel_rfl) rfl (fun K hK => ?_)
    go_simp
    refine (wnum_any 2 [c] _ p _ W3 HC.out.wr b2.out (fun n hn => by simp at hn; subst hn; have := HOK.out; omega) (by simp)).mono ?_
    rintro e W4 ⟨rfl, hw, hg⟩
    show K _ _
    have HC := Bx.mk (HC.out.grown hw hg)
    clear hw hg b2
    refine hK.out _ _ ⟨HC.out.c0, HC.out.c1⟩ (fun hHeld => ?_)
    clear hK K
    try simp only [Act.put, List.setIfInBounds_toArray, List.set_cons_zero, List.set_cons_succ]
    refine stepL 8 (by kernel_rfl) rfl (fun K hK => ?_)
    have HC : Bx (BN12 w B p ⟨b, c⟩ (nB ⟨b, c⟩, 0) W4) := Bx.mk (by have h := HC.out; simp only [List.map_cons, List.map_nil] at h; rw [HP.out] at h; exact h)
    go_simp
    refine (wout_ok p _ W4 HC.out.wr).mono ?_
    rintro e W5 ⟨vz, rfl, hoz, hbz⟩
    show K _ _
    have HZ : Bx (OwnB W5 B vz (nB ⟨b, c⟩) ∧ Below B w W5) := Bx.mk ⟨hoz.weak (Nat.le_of_lt (Nat.lt_trans HC.out.lt HC.out.wr.lt)), HC.out.below.trans (hbz.mono (Nat.le_of_lt (Nat.lt_trans HC.out.lt HC.out.wr.lt)))⟩
    have HQ : Bx (W5.cell? ⟨B, 0, none⟩ = some (.int .i64 b) ∧ W5.cell? ⟨B, 1, none⟩ = some (.int .i64 c)) := Bx.mk ⟨(hbz.cell (p := ⟨B, 0, none⟩) (World.block_lt_of_cell? _ _ HC.out.c0)).trans HC.out.c0, (hbz.cell (p := ⟨B, 1, none⟩) (World.block_lt_of_cell? _ _ HC.out.c1)).trans HC.out.c1⟩
    obtain ⟨az, cz, hvz⟩ := own_form hoz
    subst hvz
    clear hoz hbz HC
    refine hK.out _ _ HQ.out (fun hHeld => ?_)
    clear hK K HQ
    try simp only [Act.put, List.setIfInBounds_toArray, List.set_cons_zero, List.set_cons_succ]
    refine takeL 9 (v := ?_) rfl (by kernel_rfl) (by kernel_rfl) (by kernel_rfl) (fun _ _ _ h => h) (Or.inl ⟨by rfl, ?_⟩) hHeld ?_
    rotate_left 1
    · (intro w hSw; go_simp; try with_reducible rfl)
    try simp only [Act.put, List.setIfInBounds_toArray, List.set_cons_zero, List.set_cons_succ]
    refine takeL 10 (v := ?_) rfl (by kernel_rfl) (by kernel_rfl) (by kernel_rfl) (fun _ _ _ h => h) (Or.inl ⟨by rfl, ?_⟩) hHeld ?_
    rotate_left 1
    · (intro w hSw; go_simp; try with_reducible rfl)
    try simp only [Act.put, List.setIfInBounds_toArray, List.set_cons_zero, List.set_cons_succ]
    refine takeL 11 (v := ?_) rfl (by kernel_rfl) (by kernel_rfl) (by kernel_rfl) (fun _ _ _ h => h) (Or.inl ⟨by rfl, ?_⟩) hHeld ?_
    rotate_left 1
    · (intro w hSw; go_simp; try with_reducible rfl)
    try simp only [Act.put, List.setIfInBounds_toArray, List.set_cons_zero, List.set_cons_succ]
    refine takeL 12 (v := ?_) rfl (by kernel_rfl) (by kernel_rfl) (by kernel_rfl) (fun _ _ _ h => h) (Or.inl ⟨by rfl, ?_⟩) hHeld ?_
    rotate_left 1
    · (intro w hSw; go_simp; try with_reducible rfl)
    try simp only [Act.put, List.setIfInBounds_toArray, List.set_cons_zero, List.set_cons_succ]
    refine wpAnyH_done (by kernel_rfl) ?_ _
    refine NoPanic.normal ?_
    clear hHeld
    go_wp2
    go_ret2
    exact ⟨_, rfl, HZ.out⟩
/-- What stays while a nonce is read. -/
structure Rd12 (w : World) (q D : Nat) (p : List UInt8 × Int) (W : World) : Prop where
  rd : IsR W q p.1 p.2
  gr : w.grownBy W (some q)
  res : W.heap[D]? = some (.cells #[.int .i64 0, .int .i64 0] 31 (0, 0))
  at_ : w.heap.size = D
  lt : q < D
theorem Rd12.step {w : World} {q D : Nat} {p p1 : List UInt8 × Int} {W W1 : World} (h : Rd12 w q D p W) (h1 : IsR W1 q p1.1 p1.2) (hg : W.grownBy W1 (some q)) : Rd12 w q D p1 W1 :=
  ⟨h1, kb_trans h.gr hg, by rw [hg.block D (Array.getElem?_eq_some_iff.1 h.res).1 (fun e => by injection e with e; have := h.lt; omega)]; exact h.res, h.at_, h.lt⟩
theorem Rd12.later {w : World} {q D : Nat} {p : List UInt8 × Int} {W W1 : World} (h : Rd12 w q D p W) (hb : Below W.heap.size W W1) : Rd12 w q D p W1 :=
  ⟨h.rd.later hb, kb_trans h.gr (kb_below _ hb), by rw [hb.block D (Array.getElem?_eq_some_iff.1 h.res).1]; exact h.res, h.at_, h.lt⟩
end Go.Proofs.YtaoekfomffebhaaDoor
