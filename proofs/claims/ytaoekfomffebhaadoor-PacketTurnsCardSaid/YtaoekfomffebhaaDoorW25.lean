/-
  A nonce's bytes, and the nonce of a reader.
-/
import Derived.Test.YtaoekfomffebhaaDoorP1
import Derived.Test.YtaoekfomffebhaaDoorIi
import Derived.Test.YtaoekfomffebhaaDoorIp
import Derived.Test.YtaoekfomffebhaaDoorIf
namespace Go.Proofs.YtaoekfomffebhaaDoor
open Go Go.RowKit
/-- The bytes of a nonce. -/
def nB (n : Nn) : List UInt8 := beN 2 n.b.toNat ++ beN 4 n.c.toNat
theorem nB_length (n : Nn) : (nB n).length = 6 := by simp [nB, beN_length]
/-- What stays while a nonce is written. -/
structure BN12 (w : World) (B p : Nat) (n : Nn) (st : List UInt8 × Int) (W : World) : Prop where
  wr : IsW W p st
  box : W.heap[B]? = some (.cells #[.int .i64 n.b, .int .i64 n.c] 31 (0, 0))
  below : Below B w W
  lt : B < p
theorem BN12.alloc {w : World} {B p : Nat} {c : Nn} {st : List UInt8 × Int} {W : World} (h : BN12 w B p c st W) (o : Obj) : BN12 w B p c st (W.alloc o) :=
  ⟨h.wr.later (below_a _) h.wr.lt, by rw [hold _ _ _ (Nat.lt_trans h.lt h.wr.lt)]; exact h.box, h.below.alloc (Nat.le_of_lt (Nat.lt_trans h.lt h.wr.lt)) _, h.lt⟩
theorem BN12.drew {w : World} {B p : Nat} {c : Nn} {st : List UInt8 × Int} {W : World} (h : BN12 w B p c st W) : BN12 w B p c st W.drew :=
  ⟨h.wr.later (Below.refl _ _).drew h.wr.lt, h.box, h.below.drew, h.lt⟩
theorem BN12.grown {w : World} {B p : Nat} {c : Nn} {st st1 : List UInt8 × Int} {W W1 : World} (h : BN12 w B p c st W) (h1 : IsW W1 p st1) (hg : W.grownBy W1 (some p)) : BN12 w B p c st1 W1 :=
  ⟨h1, by rw [hg.block B (Nat.lt_trans h.lt h.wr.lt) (fun e => by injection e with e; have := h.lt; omega)]; exact h.box, h.below.trans (grown_below hg (Nat.le_of_lt h.lt) (Nat.le_of_lt (Nat.lt_trans h.lt h.wr.lt))), h.lt⟩
theorem BN12.c0 {w : World} {B p : Nat} {b c : Int} {st : List UInt8 × Int} {W : World} (h : BN12 w B p ⟨b, c⟩ st W) : W.cell? ⟨B, 0, none⟩ = some (.int .i64 b) := by rw [cell_of_row _ _ _ _ _ _ h.box]; rfl
theorem BN12.c1 {w : World} {B p : Nat} {b c : Int} {st : List UInt8 × Int} {W : World} (h : BN12 w B p ⟨b, c⟩ st W) : W.cell? ⟨B, 1, none⟩ = some (.int .i64 c) := by rw [cell_of_row _ _ _ _ _ _ h.box]; rfl
theorem put_num12 (l : List UInt8) (s n : Int) (h0 : 0 ≤ s) (h3 : s ≤ 3) (h1 : 0 ≤ n) (h2 : n ≤ most s) (hl : l.length ≤ 1000) : [fNum s n].foldl putS (l, 0) = (l ++ beN (wid s) n.toNat, 0) := by
  have hc : chk (fNum s n) = 0 := by
    unfold chk fNum
    simp only
    rw [if_neg (by omega), if_neg (by omega), if_neg (by simp; omega)]
  have he : enc (fNum s n) = beN (wid s) n.toNat := by unfold enc fNum; simp only; rw [if_neg (by omega)]
  have hw := wid_le s
  rw [show [fNum s n].foldl putS (l, 0) = putS (l, 0) (fNum s n) from rfl, putS_rfs]
  have hr : rfs (l, 0) (fNum s n) = 0 := by
    unfold rfs
    simp only
    rw [if_neg (by simp), if_neg (by rw [hc]; simp), if_neg (by rw [he, beN_length]; omega)]
  rw [if_pos hr, he]
theorem put_nonce (n : Nn) (h : okN n = true) : [fNum 2 n.c].foldl putS ([fNum 1 n.b].foldl putS ([], 0)) = (nB n, 0) := by
  have hh := (okN_iff n).1 h
  rw [put_num12 [] 1 n.b (by omega) (by omega) (by omega) (by unfold most; simp; omega) (by simp)]
  rw [put_num12 _ 2 n.c (by omega) (by omega) (by omega) (by unfold most; simp; omega) (by simp [beN_length, wid])]
  rfl
set_option maxRecDepth 100000 in
set_option maxHeartbeats 4000000 in
theorem nbytes_ok (n : Nn) (w : World) (hc : okN n = true) : Calls Tryd.prog 46 #[nv n] w fun e w' => ∃ v, e = .returned (.tuple #[v, .int .i64 0]) ∧ OwnB w' w.heap.size v (nB n) ∧ Below w.heap.size w w' := by
  obtain ⟨b, c⟩ := n
  have HOK := Bx.mk ((okN_iff ⟨b, c⟩).mp hc)
  have HP := Bx.mk (put_nonce ⟨b, c⟩ hc)
  have HK := fun (W : World) => check_any ⟨b, c⟩ W
  rw [if_pos hc] at HK
  clear hc
  obtain ⟨z, hz, hzz⟩ := zero_wr
  have HZ := Bx.mk hzz
  clear hzz
  obtain ⟨B, hB⟩ : ∃ B, w.heap.size = B := ⟨_, rfl⟩
  rw [hB]
  have HB := Bx.mk hB
  have HX : Bx ((w.alloc (.cells #[.int .i64 b, .int .i64 c] 31)).heap[B]? = some (.cells #[.int .i64 b, .int .i64 c] 31 (0, 0)) ∧ Below B w (w.alloc (.cells #[.int .i64 b, .int .i64 c] 31)) ∧ (w.alloc (.cells #[.int .i64 b, .int .i64 c] 31)).heap.size = B + 1) := Bx.mk ⟨hnew _ _ _ hB.symm, by rw [← hB]; exact below_a _, by simp [hB]⟩
  unfold nv at HK ⊢
  simp only at HK HOK HP ⊢
  go_enter Tryd.func46, Tryd.ntmps46
  go_wp2_with fail
  refine (HK _).mono ?_
  rintro e w2 ⟨rfl, hb2⟩
  obtain ⟨p, hp⟩ : ∃ p, w2.heap.size = p := ⟨_, rfl⟩
  have H2 : Bx (BN12 w B p ⟨b, c⟩ ([], 0) (w2.alloc (.cells z 118))) := Bx.mk ⟨by rw [← hp]; exact new_wr w2 z HZ.out, by
      rw [hold _ _ _ (by have := hb2.size; have := HX.out.2.2; omega), hb2.block B (by have := HX.out.2.2; omega)]
      exact HX.out.1, (HX.out.2.1.trans (hb2.mono (by have := HX.out.2.2; omega))).alloc (by have := hb2.size; have := HX.out.2.2; omega) _, by have := hb2.size; have := HX.out.2.2; omega⟩
  clear hb2 HX HK
  go_upto_region 5 with (fail)
  clear hp
  generalize w2.alloc (.cells z 118) = w3 at *
  have HC := Bx.mk H2.out.drew
  clear H2 hz HZ
  refine wp_region_noPanic ?_
  refine wp_region_held_drew (S := fun W => W.cell? ⟨B, 0, none⟩ = some (.int .i64 b) ∧ W.cell? ⟨B, 1, none⟩ = some (.int .i64 c)) (by kernel_rfl) (⟨HC.out.c0, HC.out.c1⟩) (fun hHeld => ?_)
  generalize w3.drew = W0 at *
  refine takeL 0 (v := ?_) rfl (by kernel_rfl) (by kernel_rfl) (by kernel_rfl) (fun _ _ _ h => h) (Or.inl ⟨by rfl, ?_⟩) hHeld ?_
  rotate_left 1
  · (intro w hSw; go_simp; try with_reducible rfl)
  try simp only [Act.put, List.setIfInBounds_toArray, List.set_cons_zero, List.set_cons_succ]
  refine takeL 1 (v := ?_) rfl (by kernel_rfl) (by kernel_rfl) (by kernel_rfl) (fun _ _ _ h => h) (Or.inl ⟨by rfl, ?_⟩) hHeld ?_
  rotate_left 1
  · (intro w hSw; go_simp; try with_reducible rfl)
  try simp only [Act.put, List.setIfInBounds_toArray, List.set_cons_zero, List.set_cons_succ]
  refine takeL 4 (v := ?_) rfl (by kernel_rfl) (by kernel_rfl) (by kernel_rfl) (fun _ _ _ h => h) (Or.inl ⟨by rfl, ?_⟩) hHeld ?_
  rotate_left 1
  · (intro w hSw; go_simp; try with_reducible rfl)
  try simp only [Act.put, List.setIfInBounds_toArray, List.set_cons_zero, List.set_cons_succ]
  refine takeL 5 (v := ?_) rfl (by kernel_rfl) (by kernel_rfl) (by kernel_rfl) (fun _ _ _ h => h) (Or.inl ⟨by rfl, ?_⟩) hHeld ?_
  rotate_left 1
  · (intro w hSw; go_simp; try with_reducible rfl)
  try simp only [Act.put, List.setIfInBounds_toArray, List.set_cons_zero, List.set_cons_succ]
  refine wpAnyH_ready (rs := [2, 6]) (by kernel_rfl) (by simp) ?_
  refine consM 2 rfl (fun K hK => ?_) (consM 6 rfl (fun K hK => ?_) AllReadyH.nil)
  · go_simp
    have b1 : Bx (IntsN (W0.alloc (.cells #[.int .i64 b] 3)) p (.slice (some ⟨W0.heap.size, 0, none⟩) 1 1) [b]) := Bx.mk (ints_one W0 p b _ HC.out.wr.lt)
    have HC := Bx.mk (HC.out.alloc (.cells #[.int .i64 b] 3))
    refine hK.out _ _ ⟨HC.out.c0, HC.out.c1⟩ (fun hHeld => ?_)
    clear hK K
    try simp only [Act.put, List.setIfInBounds_toArray, List.set_cons_zero, List.set_cons_succ]
    generalize W0.alloc (.cells #[.int .i64 b] 3) = W1 at *
    generalize W0.heap.size = Db1 at *
    refine wpAnyH_ready (rs := [3, 6]) (by kernel_rfl) (by simp) ?_
    refine consM 3 rfl (fun K hK => ?_) (consM 6 rfl (fun K hK => ?_) AllReadyH.nil)
    · go_simp
      refine (wnum_any 1 [b] _ p _ W1 HC.out.wr b1.out (fun n hn => by simp at hn; subst hn; have := HOK.out; omega) (by simp)).mono ?_
      rintro e W2 ⟨rfl, hw, hg⟩
      show K _ _
      have HC := Bx.mk (HC.out.grown hw hg)
      clear hw hg b1
      refine hK.out _ _ ⟨HC.out.c0, HC.out.c1⟩ (fun hHeld => ?_)
      clear hK K
      try simp only [Act.put, List.setIfInBounds_toArray, List.set_cons_zero, List.set_cons_succ]
      refine stepL 6 (by kernel_rfl) rfl (fun K hK => ?_)
      go_simp
      have b2 : Bx (IntsN (W2.alloc (.cells #[.int .i64 c] 3)) p (.slice (some ⟨W2.heap.size, 0, none⟩) 1 1) [c]) := Bx.mk (ints_one W2 p c _ HC.out.wr.lt)
      have HC := Bx.mk (HC.out.alloc (.cells #[.int .i64 c] 3))
      refine hK.out _ _ ⟨HC.out.c0, HC.out.c1⟩ (fun hHeld => ?_)
      clear hK K
      try simp only [Act.put, List.setIfInBounds_toArray, List.set_cons_zero, List.set_cons_succ]
      generalize W2.alloc (.cells #[.int .i64 c] 3) = W3 at *
      generalize W2.heap.size = Db2 at *
      refine stepL 7 (by kernel_rfl) rfl (fun K hK => ?_)
      go_simp
      refine (wnum_any 2 [c] _ p _ W3 HC.out.wr b2.out (fun n hn => by simp at hn; subst hn; have := HOK.out; omega) (by simp)).mono ?_
      rintro e W4 ⟨rfl, hw, hg⟩
      show K _ _
      have HC := Bx.mk (HC.out.grown hw hg)
      clear hw hg b2
      refine hK.out _ _ ⟨HC.out.c0, HC.out.c1⟩ (fun hHeld => ?_)
      clear hK K
      try simp only [Act.put, List.setIfInBounds_toArray, List.set_cons_zero, List.set_cons_succ]
      refine stepL 8 (by kernel_rfl) rfl (fun K hK => ?_)
      have HC : Bx (BN12 w B p ⟨b, c⟩ (nB ⟨b, c⟩, 0) W4) := Bx.mk (by have h := HC.out; simp only [List.map_cons, List.map_nil] at h; rw [HP.out] at h; exact h)
      go_simp
      refine (wout_ok p _ W4 HC.out.wr).mono ?_
      rintro e W5 ⟨vz, rfl, hoz, hbz⟩
      show K _ _
      have HZ : Bx (OwnB W5 B vz (nB ⟨b, c⟩) ∧ Below B w W5) := Bx.mk ⟨hoz.weak (Nat.le_of_lt (Nat.lt_trans HC.out.lt HC.out.wr.lt)), HC.out.below.trans (hbz.mono (Nat.le_of_lt (Nat.lt_trans HC.out.lt HC.out.wr.lt)))⟩
      have HQ : Bx (W5.cell? ⟨B, 0, none⟩ = some (.int .i64 b) ∧ W5.cell? ⟨B, 1, none⟩ = some (.int .i64 c)) := Bx.mk ⟨(hbz.cell (p := ⟨B, 0, none⟩) (World.block_lt_of_cell? _ _ HC.out.c0)).trans HC.out.c0, (hbz.cell (p := ⟨B, 1, none⟩) (World.block_lt_of_cell? _ _ HC.out.c1)).trans HC.out.c1⟩
      obtain ⟨az, cz, hvz⟩ := own_form hoz
      subst hvz
      clear hoz hbz HC
      refine hK.out _ _ HQ.out (fun hHeld => ?_)
      clear hK K HQ
      try simp only [Act.put, List.setIfInBounds_toArray, List.set_cons_zero, List.set_cons_succ]
      refine takeL 9 (v := ?_) rfl (by kernel_rfl) (by kernel_rfl) (by kernel_rfl) (fun _ _ _ h => h) (Or.inl ⟨by rfl, ?_⟩) hHeld ?_
      rotate_left 1
      · (intro w hSw; go_simp; try with_reducible rfl)
      try simp only [Act.put, List.setIfInBounds_toArray, List.set_cons_zero, List.set_cons_succ]
      refine takeL 10 (v := ?_) rfl (by kernel_rfl) (by kernel_rfl) (by kernel_rfl) (fun _ _ _ h => h) (Or.inl ⟨by rfl, ?_⟩) hHeld ?_
      rotate_left 1
      · (intro w hSw; go_simp; try with_reducible rfl)
      try simp only [Act.put, List.setIfInBounds_toArray, List.set_cons_zero, List.set_cons_succ]
      refine takeL 11 (v := ?_) rfl (by kernel_rfl) (by kernel_rfl) (by kernel_rfl) (fun _ _ _ h => h) (Or.inl ⟨by rfl, ?_⟩) hHeld ?_
      rotate_left 1
      · (intro w hSw; go_simp; try with_reducible rfl)
      try simp only [Act.put, List.setIfInBounds_toArray, List.set_cons_zero, List.set_cons_succ]
      refine takeL 12 (v := ?_) rfl (by kernel_rfl) (by kernel_rfl) (by kernel_rfl) (fun _ _ _ h => h) (Or.inl ⟨by rfl, ?_⟩) hHeld ?_
      rotate_left 1
      · (intro w hSw; go_simp; try with_reducible rfl)
      try simp only [Act.put, List.setIfInBounds_toArray, List.set_cons_zero, List.set_cons_succ]
      refine wpAnyH_done (by kernel_rfl) ?_ _
      refine NoPanic.normal ?_
      clear hHeld
      go_wp2
      go_ret2
      exact ⟨_, rfl, HZ.out⟩
    · go_simp
      have b2 : Bx (IntsN (W1.alloc (.cells #[.int .i64 c] 3)) p (.slice (some ⟨W1.heap.size, 0, none⟩) 1 1) [c]) := Bx.mk (ints_one W1 p c _ HC.out.wr.lt)
      have b1 := Bx.mk (b1.out.grown (kb_below (some p) (below_a (.cells #[.int .i64 c] 3))))
      have HC := Bx.mk (HC.out.alloc (.cells #[.int .i64 c] 3))
      refine hK.out _ _ ⟨HC.out.c0, HC.out.c1⟩ (fun hHeld => ?_)
      clear hK K
      try simp only [Act.put, List.setIfInBounds_toArray, List.set_cons_zero, List.set_cons_succ]
      generalize W1.alloc (.cells #[.int .i64 c] 3) = W2 at *
      generalize W1.heap.size = Db2 at *
      refine stepL 3 (by kernel_rfl) rfl (fun K hK => ?_)
      go_simp
      refine (wnum_any 1 [b] _ p _ W2 HC.out.wr b1.out (fun n hn => by simp at hn; subst hn; have := HOK.out; omega) (by simp)).mono ?_
      rintro e W3 ⟨rfl, hw, hg⟩
      show K _ _
      have b2 := Bx.mk (b2.out.grown hg)
      have HC := Bx.mk (HC.out.grown hw hg)
      clear hw hg b1
      refine hK.out _ _ ⟨HC.out.c0, HC.out.c1⟩ (fun hHeld => ?_)
      clear hK K
      try simp only [Act.put, List.setIfInBounds_toArray, List.set_cons_zero, List.set_cons_succ]
      refine stepL 7 (by kernel_rfl) rfl (fun K hK => ?_)
      go_simp
      refine (wnum_any 2 [c] _ p _ W3 HC.out.wr b2.out (fun n hn => by simp at hn; subst hn; have := HOK.out; omega) (by simp)).mono ?_
      rintro e W4 ⟨rfl, hw, hg⟩
      show K _ _
      have HC := Bx.mk (HC.out.grown hw hg)
      clear hw hg b2
      refine hK.out _ _ ⟨HC.out.c0, HC.out.c1⟩ (fun hHeld => ?_)
      clear hK K
      try simp only [Act.put, List.setIfInBounds_toArray, List.set_cons_zero, List.set_cons_succ]
      refine stepL 8 (by kernel_rfl) rfl (fun K hK => ?_)
      have HC : Bx (BN12 w B p ⟨b, c⟩ (nB ⟨b, c⟩, 0) W4) := Bx.mk (by have h := HC.out; simp only [List.map_cons, List.map_nil] at h; rw [HP.out] at h; exact h)
      go_simp
      refine (wout_ok p _ W4 HC.out.wr).mono ?_
      rintro e W5 ⟨vz, rfl, hoz, hbz⟩
      show K _ _
      have HZ : Bx (OwnB W5 B vz (nB ⟨b, c⟩) ∧ Below B w W5) := Bx.mk ⟨hoz.weak (Nat.le_of_lt (Nat.lt_trans HC.out.lt HC.out.wr.lt)), HC.out.below.trans (hbz.mono (Nat.le_of_lt (Nat.lt_trans HC.out.lt HC.out.wr.lt)))⟩
      have HQ : Bx (W5.cell? ⟨B, 0, none⟩ = some (.int .i64 b) ∧ W5.cell? ⟨B, 1, none⟩ = some (.int .i64 c)) := Bx.mk ⟨(hbz.cell (p := ⟨B, 0, none⟩) (World.block_lt_of_cell? _ _ HC.out.c0)).trans HC.out.c0, (hbz.cell (p := ⟨B, 1, none⟩) (World.block_lt_of_cell? _ _ HC.out.c1)).trans HC.out.c1⟩
      obtain ⟨az, cz, hvz⟩ := own_form hoz
      subst hvz
      clear hoz hbz HC
      refine hK.out _ _ HQ.out (fun hHeld => ?_)
      clear hK K HQ
      try simp only [Act.put, List.setIfInBounds_toArray, List.set_cons_zero, List.set_cons_succ]
      refine takeL 9 (v := ?_) rfl (by kernel_rfl) (by kernel_rfl) (by kernel_rfl) (fun _ _ _ h => h) (Or.inl ⟨by rfl, ?_⟩) hHeld ?_
      rotate_left 1
      · (intro w hSw; go_simp; try with_reducible rfl)
      try simp only [Act.put, List.setIfInBounds_toArray, List.set_cons_zero, List.set_cons_succ]
      refine takeL 10 (v := ?_) rfl (by kernel_rfl) (by kernel_rfl) (by kernel_rfl) (fun _ _ _ h => h) (Or.inl ⟨by rfl, ?_⟩) hHeld ?_
      rotate_left 1
      · (intro w hSw; go_simp; try with_reducible rfl)
      try simp only [Act.put, List.setIfInBounds_toArray, List.set_cons_zero, List.set_cons_succ]
      refine takeL 11 (v := ?_) rfl (by kernel_rfl) (by kernel_rfl) (by kernel_rfl) (fun _ _ _ h => h) (Or.inl ⟨by rfl, ?_⟩) hHeld ?_
      rotate_left 1
      · (intro w hSw; go_simp; try with_reducible rfl)
      try simp only [Act.put, List.setIfInBounds_toArray, List.set_cons_zero, List.set_cons_succ]
      refine takeL 12 (v := ?_) rfl (by kernel_rfl) (by kernel_rfl) (by kernel_rfl) (fun _ _ _ h => h) (Or.inl ⟨by rfl, ?_⟩) hHeld ?_
      rotate_left 1
      · (intro w hSw; go_simp; try with_reducible rfl)
      try simp only [Act.put, List.setIfInBounds_toArray, List.set_cons_zero, List.set_cons_succ]
      refine wpAnyH_done (by kernel_rfl) ?_ _
      refine NoPanic.normal ?_
      clear hHeld
      go_wp2
      go_ret2
      exact ⟨_, rfl, HZ.out⟩
  · go_simp
    have b2 : Bx (IntsN (W0.alloc (.cells #[.int .i64 c] 3)) p (.slice (some ⟨W0.heap.size, 0, none⟩) 1 1) [c]) := Bx.mk (ints_one W0 p c _ HC.out.wr.lt)
    have HC := Bx.mk (HC.out.alloc (.cells #[.int .i64 c] 3))
    refine hK.out _ _ ⟨HC.out.c0, HC.out.c1⟩ (fun hHeld => ?_)
    clear hK K
    try simp only [Act.put, List.setIfInBounds_toArray, List.set_cons_zero, List.set_cons_succ]
    generalize W0.alloc (.cells #[.int .i64 c] 3) = W1 at *
    generalize W0.heap.size = Db2 at *
    refine stepL 2 (by kernel_rfl) rfl (fun K hK => ?_)
    go_simp
    have b1 : Bx (IntsN (W1.alloc (.cells #[.int .i64 b] 3)) p (.slice (some ⟨W1.heap.size, 0, none⟩) 1 1) [b]) := Bx.mk (ints_one W1 p b _ HC.out.wr.lt)
    have b2 := Bx.mk (b2.out.grown (kb_below (some p) (below_a (.cells #[.int .i64 b] 3))))
    have HC := Bx.mk (HC.out.alloc (.cells #[.int .i64 b] 3))
    refine hK.out _ _ ⟨HC.out.c0, HC.out.c1⟩ (fun hHeld => ?_)
    clear hK K
    try simp only [Act.put, List.setIfInBounds_toArray, List.set_cons_zero, List.set_cons_succ]
    generalize W1.alloc (.cells #[.int .i64 b] 3) = W2 at *
    generalize W1.heap.size = Db1 at *
    refine stepL 3 (by kernel_rfl) rfl (fun K hK => ?_)
    go_simp
    refine (wnum_any 1 [b] _ p _ W2 HC.out.wr b1.out (fun n hn => by simp at hn; subst hn; have := HOK.out; omega) (by simp)).mono ?_
    rintro e W3 ⟨rfl, hw, hg⟩
    show K _ _
    have b2 := Bx.mk (b2.out.grown hg)
    have HC := Bx.mk (HC.out.grown hw hg)
    clear hw hg b1
    refine hK.out _ _ ⟨HC.out.c0, HC.out.c1⟩ (fun hHeld => ?_)
    clear hK K
    try simp only [Act.put, List.setIfInBounds_toArray, List.set_cons_zero, List.set_cons_succ]
    refine stepL 7 (by kernel_rfl) rfl (fun K hK => ?_)
    go_simp
    refine (wnum_any 2 [c] _ p _ W3 HC.out.wr b2.out (fun n hn => by simp at hn; subst hn; have := HOK.out; omega) (by simp)).mono ?_
    rintro e W4 ⟨rfl, hw, hg⟩
    show K _ _
    have HC := Bx.mk (HC.out.grown hw hg)
    clear hw hg b2
    refine hK.out _ _ ⟨HC.out.c0, HC.out.c1⟩ (fun hHeld => ?_)
    clear hK K
    try simp only [Act.put, List.setIfInBounds_toArray, List.set_cons_zero, List.set_cons_succ]
    refine stepL 8 (by kernel_rfl) rfl (fun K hK => ?_)
    have HC : Bx (BN12 w B p ⟨b, c⟩ (nB ⟨b, c⟩, 0) W4) := Bx.mk (by have h := HC.out; simp only [List.map_cons, List.map_nil] at h; rw [HP.out] at h; exact h)
    go_simp
    refine (wout_ok p _ W4 HC.out.wr).mono ?_
    rintro e W5 ⟨vz, rfl, hoz, hbz⟩
    show K _ _
    have HZ : Bx (OwnB W5 B vz (nB ⟨b, c⟩) ∧ Below B w W5) := Bx.mk ⟨hoz.weak (Nat.le_of_lt (Nat.lt_trans HC.out.lt HC.out.wr.lt)), HC.out.below.trans (hbz.mono (Nat.le_of_lt (Nat.lt_trans HC.out.lt HC.out.wr.lt)))⟩
    have HQ : Bx (W5.cell? ⟨B, 0, none⟩ = some (.int .i64 b) ∧ W5.cell? ⟨B, 1, none⟩ = some (.int .i64 c)) := Bx.mk ⟨(hbz.cell (p := ⟨B, 0, none⟩) (World.block_lt_of_cell? _ _ HC.out.c0)).trans HC.out.c0, (hbz.cell (p := ⟨B, 1, none⟩) (World.block_lt_of_cell? _ _ HC.out.c1)).trans HC.out.c1⟩
    obtain ⟨az, cz, hvz⟩ := own_form hoz
    subst hvz
    clear hoz hbz HC
    refine hK.out _ _ HQ.out (fun hHeld => ?_)
    clear hK K HQ
    try simp only [Act.put, List.setIfInBounds_toArray, List.set_cons_zero, List.set_cons_succ]
    refine takeL 9 (v := ?_) rfl (by kernel_rfl) (by kernel_rfl) (by kernel_rfl) (fun _ _ _ h => h) (Or.inl ⟨by rfl, ?_⟩) hHeld ?_
    rotate_left 1
    · (intro w hSw; go_simp; try with_reducible rfl)
    try simp only [Act.put, List.setIfInBounds_toArray, List.set_cons_zero, List.set_cons_succ]
    refine takeL 10 (v := ?_) rfl (by kernel_rfl) (by kernel_rfl) (by kernel_rfl) (fun _ _ _ h => h) (Or.inl ⟨by rfl, ?_⟩) hHeld ?_
    rotate_left 1
    · (intro w hSw; go_simp; try with_reducible rfl)
    try simp only [Act.put, List.setIfInBounds_toArray, List.set_cons_zero, List.set_cons_succ]
    refine takeL 11 (v := ?_) rfl (by kernel_rfl) (by kernel_rfl) (by kernel_rfl) (fun _ _ _ h => h) (Or.inl ⟨by rfl, ?_⟩) hHeld ?_
    rotate_left 1
    · (intro w hSw; go_simp; try with_reducible rfl)
    try simp only [Act.put, List.setIfInBounds_toArray, List.set_cons_zero, List.set_cons_succ]
    refine takeL 12 (v := ?_) rfl (by kernel_rfl) (by kernel_rfl) (by kernel_rfl) (fun _ _ _ h => h) (Or.inl ⟨by rfl, ?_⟩) hHeld ?_
    rotate_left 1
    · (intro w hSw; go_simp; try with_reducible rfl)
    try simp only [Act.put, List.setIfInBounds_toArray, List.set_cons_zero, List.set_cons_succ]
    refine wpAnyH_done (by kernel_rfl) ?_ _
    refine NoPanic.normal ?_
    clear hHeld
    go_wp2
    go_ret2
    exact ⟨_, rfl, HZ.out⟩
/-- A reader behind two fields; the two numbers; the error of Read, and its nonce. -/
def nrR (p : List UInt8 × Int) : List UInt8 × Int := stepR (stepR p 1) 2
def nrN (p : List UInt8 × Int) : Nn := ⟨numR p 1, numR (stepR p 1) 2⟩
def nrE (p : List UInt8 × Int) : Int := if (nrR p).2 ≠ 0 then (nrR p).2 else if okN (nrN p) = true then 0 else 3
def nrC (p : List UInt8 × Int) : Nn := if nrE p = 0 then nrN p else Nn.zero
/-- What stays while a nonce is read. -/
structure Rd12 (w : World) (q D : Nat) (p : List UInt8 × Int) (W : World) : Prop where
  rd : IsR W q p.1 p.2
  gr : w.grownBy W (some q)
  res : W.heap[D]? = some (.cells #[.int .i64 0, .int .i64 0] 31 (0, 0))
  at_ : w.heap.size = D
  lt : q < D
theorem Rd12.step {w : World} {q D : Nat} {p p1 : List UInt8 × Int} {W W1 : World} (h : Rd12 w q D p W) (h1 : IsR W1 q p1.1 p1.2) (hg : W.grownBy W1 (some q)) : Rd12 w q D p1 W1 :=
  ⟨h1, kb_trans h.gr hg, by rw [hg.block D (Array.getElem?_eq_some_iff.1 h.res).1 (fun e => by injection e with e; have := h.lt; omega)]; exact h.res, h.at_, h.lt⟩
theorem Rd12.later {w : World} {q D : Nat} {p : List UInt8 × Int} {W W1 : World} (h : Rd12 w q D p W) (hb : Below W.heap.size W W1) : Rd12 w q D p W1 :=
  ⟨h.rd.later hb, kb_trans h.gr (kb_below _ hb), by rw [hb.block D (Array.getElem?_eq_some_iff.1 h.res).1]; exact h.res, h.at_, h.lt⟩
theorem two_off (a b : Int) : ∀ (i : Nat) x, (#[Value.int .i64 a, .int .i64 b])[i]? ≠ some (.int .u8 x)
  | 0, x, h => by simp at h
  | 1, x, h => by simp at h
  | i + 2, x, h => by simp at h
theorem results_pairR {fn : Func} {p u : Tmp} {ty : TypeId} (h : fn.results = #[.cell p ty, .tmp u]) (tmps : Array Value) (P : Program) (w : World) (g : Nat) (cs : Array Value)
    (hp : tmps.getD p undef = .pointer (some ⟨g, 0, none⟩)) (hl : (loadVar ty ⟨g, 0, none⟩).run P w = .ok (.agg cs) w) : (results fn tmps).run P w = .ok (.tuple #[.agg cs, tmps.getD u undef]) w := by
  have hp' : tmps[p]?.getD undef = .pointer (some ⟨g, 0, none⟩) := by simpa using hp
  simp [results, h, hp', asAddr, hl]
set_option maxRecDepth 100000 in
set_option maxHeartbeats 4000000 in
theorem nread_any (q : Nat) (p : List UInt8 × Int) (w : World) (h : IsR w q p.1 p.2) (hl : p.1.length ≤ 5000) :
    Calls Tryd.prog 59 #[.pointer (some ⟨q, 0, none⟩)] w fun e w' => e = .returned (.tuple #[nv (nrC p), .int .i64 (nrE p)]) ∧ IsR w' q (nrR p).1 (nrR p).2 ∧ w.grownBy w' (some q) := by
  obtain ⟨D, hD⟩ : ∃ D, w.heap.size = D := ⟨_, rfl⟩
  have HD := Bx.mk hD
  have HL := Bx.mk hl
  have H0 : Bx (Rd12 w q D p (w.alloc (.cells #[.int .i64 0, .int .i64 0] 31))) := Bx.mk ⟨h.later (below_a _), kb_below _ (below_a _), hnew _ _ _ hD.symm, hD, by rw [← hD]; exact h.lt⟩
  have HC : Bx (∀ n0 n1, (⟨n0, n1⟩ : Nn) = nrN p → ∀ W, Calls Tryd.prog 64 #[.agg #[.int .i64 n0, .int .i64 n1]] W fun e w' => e = .returned (.int .i64 (if okN (nrN p) = true then 0 else 10)) ∧ Below W.heap.size W w') := Bx.mk (fun n0 n1 hn W => by
    have hk := check_any ⟨n0, n1⟩ W
    rw [hn] at hk
    rw [← hn] at hk ⊢
    exact hk)
  clear h hl
  have S1 := Bx.mk (stepR_len p 1)
  have HN : Bx (nrN p = ⟨numR p 1, numR (stepR p 1) 2⟩) := Bx.mk rfl
  have HR : Bx (nrR p = stepR (stepR p 1) 2) := Bx.mk rfl
  obtain ⟨V, hV⟩ : ∃ V, nv (nrC p) = V := ⟨_, rfl⟩
  obtain ⟨E, hE⟩ : ∃ E, nrE p = E := ⟨_, rfl⟩
  have HV := Bx.mk (And.intro hV hE)
  rw [hV, hE]
  clear hV hE
  go_enter Tryd.func59, Tryd.ntmps59
  go_wp2_with fail
  generalize (w.alloc (.cells #[.int .i64 0, .int .i64 0] 31)) = w0 at *
  refine (rnum_any q 1 p.1 p.2 w0 H0.out.rd HL.out (by omega)).mono ?_
  rintro e w1 ⟨rfl, hr1, hg1⟩
  have H1 : Bx (Rd12 w q D (stepR p 1) w1) := Bx.mk (H0.out.step hr1 hg1)
  rw [show (getR p.1 p.2 1).1.n = numR p 1 from rfl]
  clear hr1 hg1 H0
  generalize numR p 1 = n0 at *
  generalize stepR p 1 = p1 at *
  go_wp2_with fail
  refine (rnum_any q 2 p1.1 p1.2 w1 H1.out.rd (by have := HL.out; have := S1.out; omega) (by omega)).mono ?_
  rintro e w2 ⟨rfl, hr1, hg1⟩
  have H2 : Bx (Rd12 w q D (stepR p1 2) w2) := Bx.mk (H1.out.step hr1 hg1)
  rw [show (getR p1.1 p1.2 2).1.n = numR p1 2 from rfl]
  clear hr1 hg1 H1 S1
  generalize numR p1 2 = n1 at *
  rw [← HR.out] at H2
  clear HR
  have H5 : Bx (Rd12 w q D (nrR p) (w2.alloc (.cells #[.int .i64 n0, .int .i64 n1] 31)) ∧ (w2.alloc (.cells #[.int .i64 n0, .int .i64 n1] 31)).heap[w2.heap.size]? = some (.cells #[.int .i64 n0, .int .i64 n1] 31 (0, 0))) := Bx.mk ⟨H2.out.later (below_a _), hnew _ _ _ rfl⟩
  clear H2
  go_wp2_with fail
  generalize (w2.alloc (.cells #[.int .i64 n0, .int .i64 n1] 31)) = w5 at *
  generalize w2.heap.size = G at *
  refine (rerr_any q (nrR p).1 (nrR p).2 w5 H5.out.1.rd).mono ?_
  rintro e w6 ⟨rfl, hw6⟩
  rw [hw6]
  clear hw6 w6
  by_cases he : (nrR p).2 = 0
  · rw [he]
    have hc0 : w5.cell? ⟨G, 0, none⟩ = some (.int .i64 n0) := by rw [cell_of_row _ _ _ _ _ _ H5.out.2]; rfl
    have hc1 : w5.cell? ⟨G, 1, none⟩ = some (.int .i64 n1) := by rw [cell_of_row _ _ _ _ _ _ H5.out.2]; rfl
    go_wp2_with fail
    refine (HC.out n0 n1 HN.out.symm w5).mono ?_
    rintro e w7 ⟨rfl, hb7⟩
    have H7 : Bx (Rd12 w q D (nrR p) w7 ∧ w7.heap[G]? = some (.cells #[.int .i64 n0, .int .i64 n1] 31 (0, 0))) := Bx.mk ⟨H5.out.1.later hb7, by rw [hb7.block G (Array.getElem?_eq_some_iff.1 H5.out.2).1]; exact H5.out.2⟩
    clear hb7 H5 hc0 hc1
    by_cases ho : okN (nrN p) = true
    · rw [if_pos ho]
      have HE : Bx (E = 0 ∧ V = .agg #[.int .i64 n0, .int .i64 n1]) := Bx.mk (by
        have e0 : nrE p = 0 := by unfold nrE; rw [if_neg (by rw [he]; simp), if_pos ho]
        refine ⟨by rw [← HV.out.2, e0], ?_⟩
        rw [← HV.out.1]
        unfold nrC
        rw [if_pos e0, HN.out]
        rfl)
      have hc0 : w7.cell? ⟨G, 0, none⟩ = some (.int .i64 n0) := by rw [cell_of_row _ _ _ _ _ _ H7.out.2]; rfl
      have hc1 : w7.cell? ⟨G, 1, none⟩ = some (.int .i64 n1) := by rw [cell_of_row _ _ _ _ _ _ H7.out.2]; rfl
      clear HV HN HC
      go_wp2_with (refine wpList_store_new rfl 31 _ _ rfl D #[.int .i64 n0, .int .i64 n1] _ _ (by rfl) (by rfl) H7.out.1.res rfl (by kernel_rfl) (by simp [Value.oneCell']) ?_; intro w8 hw8 hr8; have hg8 : Bx (w7.grownBy w8 (some D)) := Bx.mk (by rw [hw8]; exact kb_setCells _ _ _); have HR8 := Bx.mk hr8; clear hw8 hr8)
      refine bodyPost_ret (results_pairR rfl _ _ _ D _ rfl (run_loadVar_row _ D _ _ _ _ _ HR8.out Tryd.underlying31 rfl (by kernel_rfl))) rfl ?_
      exact ⟨by rw [HE.out.1, HE.out.2]; rfl, H7.out.1.rd.asideA H7.out.1.res (two_off _ _) hg8.out (by have := H7.out.1.lt; omega), kb_new H7.out.1.gr hg8.out (by rw [HD.out]; exact Nat.le_refl _)⟩
    · rw [if_neg ho]
      have HE : Bx (E = 3 ∧ V = .agg #[.int .i64 0, .int .i64 0]) := Bx.mk (by
        have e0 : nrE p = 3 := by unfold nrE; rw [if_neg (by rw [he]; simp), if_neg ho]
        refine ⟨by rw [← HV.out.2, e0], ?_⟩
        rw [← HV.out.1]
        unfold nrC
        rw [if_neg (by rw [e0]; simp)]
        rfl)
      clear HV HN HC
      go_wp2_with (refine wpList_store_new rfl 31 _ _ rfl D #[.int .i64 0, .int .i64 0] _ _ (by rfl) (by rfl) H7.out.1.res rfl (by kernel_rfl) (by simp [Value.oneCell']) ?_; intro w8 hw8 hr8; have hg8 : Bx (w7.grownBy w8 (some D)) := Bx.mk (by rw [hw8]; exact kb_setCells _ _ _); have HR8 := Bx.mk hr8; clear hw8 hr8)
      refine bodyPost_ret (results_pairR rfl _ _ _ D _ rfl (run_loadVar_row _ D _ _ _ _ _ HR8.out Tryd.underlying31 rfl (by kernel_rfl))) rfl ?_
      exact ⟨by rw [HE.out.1, HE.out.2]; rfl, H7.out.1.rd.asideA H7.out.1.res (two_off _ _) hg8.out (by have := H7.out.1.lt; omega), kb_new H7.out.1.gr hg8.out (by rw [HD.out]; exact Nat.le_refl _)⟩
  · have HE : Bx (E = (nrR p).2 ∧ V = .agg #[.int .i64 0, .int .i64 0]) := Bx.mk (by
      have e0 : nrE p = (nrR p).2 := by unfold nrE; rw [if_pos he]
      refine ⟨by rw [← HV.out.2, e0], ?_⟩
      rw [← HV.out.1]
      unfold nrC
      rw [if_neg (by rw [e0]; exact he)]
      rfl)
    obtain ⟨er, hre⟩ : ∃ er, (nrR p).2 = er := ⟨_, rfl⟩
    rw [hre] at HE he ⊢
    have HER := Bx.mk hre
    clear HV HN HC hre
    go_wp2_with (refine wpList_store_new rfl 31 _ _ rfl D #[.int .i64 0, .int .i64 0] _ _ (by rfl) (by rfl) H5.out.1.res rfl (by kernel_rfl) (by simp [Value.oneCell']) ?_; intro w8 hw8 hr8; have hg8 : Bx (w5.grownBy w8 (some D)) := Bx.mk (by rw [hw8]; exact kb_setCells _ _ _); have HR8 := Bx.mk hr8; clear hw8 hr8)
    refine bodyPost_ret (results_pairR rfl _ _ _ D _ rfl (run_loadVar_row _ D _ _ _ _ _ HR8.out Tryd.underlying31 rfl (by kernel_rfl))) rfl ?_
    exact ⟨by rw [HE.out.1, HE.out.2]; rfl, H5.out.1.rd.asideA H5.out.1.res (two_off _ _) hg8.out (by have := H5.out.1.lt; omega), kb_new H5.out.1.gr hg8.out (by rw [HD.out]; exact Nat.le_refl _)⟩
end Go.Proofs.YtaoekfomffebhaaDoor
