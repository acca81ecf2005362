/-
  A nonce's bytes, and the nonce of a reader.
-/
import Derived.Test.YtoohcjdjmafliaaW2
import Derived.Test.YtoohcjdjmafliaaIi
import Derived.Test.YtoohcjdjmafliaaIp
import Derived.Test.YtoohcjdjmafliaaIf
namespace Go.Proofs.Ytoohcjdjmafliaa
open Go Go.RowKit
/-- The bytes of a nonce. -/
def nB (n : Nn) : List UInt8 := beN 2 n.b.toNat ++ beN 4 n.c.toNat
theorem nB_length (n : Nn) : (nB n).length = 6 := by simp [nB, beN_length]
/-- What stays while a nonce is written. -/
structure BN12 (w : World) (B p : Nat) (n : Nn) (st : List UInt8 × Int) (W : World) : Prop where
  wr : IsW W p st
  box : W.heap[B]? = some (.cells #[.int .i64 n.b, .int .i64 n.c] 24 (0, 0))
  below : Below B w W
  lt : B < p
theorem BN12.alloc {w : World} {B p : Nat} {c : Nn} {st : List UInt8 × Int} {W : World} (h : BN12 w B p c st W) (o : Obj) : BN12 w B p c st (W.alloc o) :=
  ⟨h.wr.later (below_a _) h.wr.lt, by rw [hold _ _ _ (Nat.lt_trans h.lt h.wr.lt)]; exact h.box, h.below.alloc (Nat.le_of_lt (Nat.lt_trans h.lt h.wr.lt)) _, h.lt⟩
theorem BN12.drew {w : World} {B p : Nat} {c : Nn} {st : List UInt8 × Int} {W : World} (h : BN12 w B p c st W) : BN12 w B p c st W.drew :=
  ⟨h.wr.later (Below.refl _ _).drew h.wr.lt, h.box, h.below.drew, h.lt⟩
theorem BN12.grown {w : World} {B p : Nat} {c : Nn} {st st1 : List UInt8 × Int} {W W1 : World} (h : BN12 w B p c st W) (h1 : IsW W1 p st1) (hg : W.grownBy W1 (some p)) : BN12 w B p c st1 W1 :=
  ⟨h1, by rw [hg.block B (Nat.lt_trans h.lt h.wr.lt) (fun e => by injection e with e; have := h.lt; omega)]; exact h.box, h.below.trans (grown_below hg (Nat.le_of_lt h.lt) (Nat.le_of_lt (Nat.lt_trans h.lt h.wr.lt))), h.lt⟩
theorem BN12.c0 {w : World} {B p : Nat} {b c : Int} {st : List UInt8 × Int} {W : World} (h : BN12 w B p ⟨b, c⟩ st W) : W.cell? ⟨B, 0, none⟩ = some (.int .i64 b) := by rw [cell_of_row _ _ _ _ _ _ h.box]; rfl
theorem BN12.c1 {w : World} {B p : Nat} {b c : Int} {st : List UInt8 × Int} {W : World} (h : BN12 w B p ⟨b, c⟩ st W) : W.cell? ⟨B, 1, none⟩ = some (.int .i64 c) := by rw [cell_of_row _ _ _ _ _ _ h.box]; rfl
theorem put_num12 (l : List UInt8) (s n : Int) (h0 : 0 ≤ s) (h3 : s ≤ 3) (h1 : 0 ≤ n) (h2 : n ≤ most s) (hl : l.length ≤ 1000) : [fNum s n].foldl putS (l, 0) = (l ++ beN (wid s) n.toNat, 0) := by
  have hc : chk (fNum s n) = 0 := by
    unfold chk fNum
    simp only
    rw [if_neg (by omega), if_neg (by omega), if_neg (by simp; omega)]
  have he : enc (fNum s n) = beN (wid s) n.toNat := by unfold enc fNum; simp only; rw [if_neg (by omega)]
  have hw := wid_le s
  rw [show [fNum s n].foldl putS (l, 0) = putS (l, 0) (fNum s n) from rfl, putS_rfs]
  have hr : rfs (l, 0) (fNum s n) = 0 := by
    unfold rfs
    simp only
    rw [if_neg (by simp), if_neg (by rw [hc]; simp), if_neg (by rw [he, beN_length]; omega)]
  rw [if_pos hr, he]
theorem put_nonce (n : Nn) (h : okN n = true) : [fNum 2 n.c].foldl putS ([fNum 1 n.b].foldl putS ([], 0)) = (nB n, 0) := by
  have hh := (okN_iff n).1 h
  rw [put_num12 [] 1 n.b (by omega) (by omega) (by omega) (by unfold most; simp; omega) (by simp)]
  rw [put_num12 _ 2 n.c (by omega) (by omega) (by omega) (by unfold most; simp; omega) (by simp [beN_length, wid])]
  rfl
set_option maxRecDepth 100000 in
set_option maxHeartbeats 4000000 in
theorem nbytes_ok (n : Nn) (w : World) (hc : okN n = true) : Calls Try.prog 23 #[nv n] w fun e w' => ∃ v, e = .returned (.tuple #[v, .int .i64 0]) ∧ OwnB w' w.heap.size v (nB n) ∧ Below w.heap.size w w' := by
  obtain ⟨b, c⟩ := n
  have HOK := Bx.mk ((okN_iff ⟨b, c⟩).mp hc)
  have HP := Bx.mk (put_nonce ⟨b, c⟩ hc)
  have HK := fun (W : World) => check_any ⟨b, c⟩ W
  rw [if_pos hc] at HK
  clear hc
  obtain ⟨z, hz, hzz⟩ := zero_wr
  have HZ := Bx.mk hzz
  clear hzz
  obtain ⟨B, hB⟩ : ∃ B, w.heap.size = B := ⟨_, rfl⟩
  rw [hB]
  have HB := Bx.mk hB
  have HX : Bx ((w.alloc (.cells #[.int .i64 b, .int .i64 c] 24)).heap[B]? = some (.cells #[.int .i64 b, .int .i64 c] 24 (0, 0)) ∧ Below B w (w.alloc (.cells #[.int .i64 b, .int .i64 c] 24)) ∧ (w.alloc (.cells #[.int .i64 b, .int .i64 c] 24)).heap.size = B + 1) := Bx.mk ⟨hnew _ _ _ hB.symm, by rw [← hB]; exact below_a _, by simp [hB]⟩
  unfold nv at HK ⊢
  simp only at HK HOK HP ⊢
  go_enter Try.func23, Try.ntmps23
  go_wp2_with fail
  refine (HK _).mono ?_
  rintro e w2 ⟨rfl, hb2⟩
  obtain ⟨p, hp⟩ : ∃ p, w2.heap.size = p := ⟨_, rfl⟩
  have H2 : Bx (BN12 w B p ⟨b, c⟩ ([], 0) (w2.alloc (.cells z 73))) := Bx.mk ⟨by rw [← hp]; exact new_wr w2 z HZ.out, by
      rw [hold _ _ _ (by have := hb2.size; have := HX.out.2.2; omega), hb2.block B (by have := HX.out.2.2; omega)]
      exact HX.out.1, (HX.out.2.1.trans (hb2.mono (by have := HX.out.2.2; omega))).alloc (by have := hb2.size; have := HX.out.2.2; omega) _, by have := hb2.size; have := HX.out.2.2; omega⟩
  clear hb2 HX HK
  go_upto_region 5 with (fail)
  clear hp
  generalize w2.alloc (.cells z 73) = w3 at *
  have HC := Bx.mk H2.out.drew
  clear H2 hz HZ
  refine wp_region_noPanic ?_
  refine wp_region_held_drew (S := fun W => W.cell? ⟨B, 0, none⟩ = some (.int .i64 b) ∧ W.cell? ⟨B, 1, none⟩ = some (.int .i64 c)) (by kernel_rfl) (⟨HC.out.c0, HC.out.c1⟩) (fun hHeld => ?_)
  generalize w3.drew = W0 at *
  refine takeL 0 (v := ?_) rfl (by kernel_rfl) (by kernel_rfl) (by kernel_rfl) (fun _ _ _ h => h) (Or.inl ⟨by rfl, ?_⟩) hHeld ?_
  rotate_left 1
  · (intro w hSw; go_simp; try with_reducible rfl)
  try simp only [Act.put, List.setIfInBounds_toArray, List.set_cons_zero, List.set_cons_succ]
  refine takeL 1 (v := ?_) rfl (by kernel_rfl) (by kernel_rfl) (by kernel_rfl) (fun _ _ _ h => h) (Or.inl ⟨by rfl, ?_⟩) hHeld ?_
  rotate_left 1
  · (intro w hSw; go_simp; try with_reducible rfl)
  try simp only [Act.put, List.setIfInBounds_toArray, List.set_cons_zero, List.set_cons_succ]
  refine takeL 4 (v := ?_) rfl (by kernel_rfl) (by kernel_rfl) (by kernel_rfl) (fun _ _ _ h => h) (Or.inl ⟨by rfl, ?_⟩) hHeld ?_
  rotate_left 1
  · (intro w hSw; go_simp; try with_reducible rfl)
  try simp only [Act.put, List.setIfInBounds_toArray, List.set_cons_zero, List.set_cons_succ]
  refine takeL 5 (v := ?_) rfl (by kernel_rfl) (by kernel_rfl) (by kernel_rfl) (fun _ _ _ h => h) (Or.inl ⟨by rfl, ?_⟩) hHeld ?_
  rotate_left 1
  · (intro w hSw; go_simp; try with_reducible rfl)
  try simp only [Act.put, List.setIfInBounds_toArray, List.set_cons_zero, List.set_cons_succ]
  refine wpAnyH_ready (rs := [2, 6]) (by kernel_rfl) (by simp) ?_
  refine consM 2 rfl (fun K hK => ?_) (consM 6 rfl (fun K hK => ?_) AllReadyH.nil)
  · go_simp
    have b1 : Bx (IntsN (W0.alloc (.cells #[.int .i64 b] 3)) p (.slice (some ⟨W0.heap.size, 0, none⟩) 1 1) [b]) := Bx.mk (ints_one W0 p b _ HC.out.wr.lt)
    have HC := Bx.mk (HC.out.alloc (.cells #[.int .i64 b] 3))
    refine hK.out _ _ ⟨HC.out.c0, HC.out.c1⟩ (fun hHeld => ?_)
    clear hK K
    try simp only [Act.put, List.setIfInBounds_toArray, List.set_cons_zero, List.set_cons_succ]
    generalize W0.alloc (.cells #[.int .i64 b] 3) = W1 at *
    generalize W0.heap.size = Db1 at *
    refine wpAnyH_ready (rs := [3, 6]) (by kernel_rfl) (by simp) ?_
    refine consM 3 rfl (fun K hK => ?_) (consM 6 rfl (fun K hK => ?_) AllReadyH.nil)
    · go_simp
      refine (wnum_any 1 [b] _ p _ W1 HC.out.wr b1.out (fun n hn => by simp at hn; subst hn; have := HOK.out; omega) (by simp)).mono ?_
      rintro e W2 ⟨rfl, hw, hg⟩
      show K _ _
      have HC := Bx.mk (HC.out.grown hw hg)
      clear hw hg b1
      refine hK.out _ _ ⟨HC.out.c0, HC.out.c1⟩ (fun hHeld => ?_)
      clear hK K
      try simp only [Act.put, List.setIfInBounds_toArray, List.set_cons_zero, List.set_cons_succ]
      refine stepL 6 (by kernel_rfl) rfl (fun K hK => ?_)
      go_simp
      have b2 : Bx (IntsN (W2.alloc (.cells #[.int .i64 c] 3)) p (.slice (some ⟨W2.heap.size, 0, none⟩) 1 1) [c]) := Bx.mk (ints_one W2 p c _ HC.out.wr.lt)
      have HC := Bx.mk (HC.out.alloc (.cells #[.int .i64 c] 3))
      refine hK.out _ _ ⟨HC.out.c0, HC.out.c1⟩ (fun hHeld => ?_)
      clear hK K
      try simp only [Act.put, List.setIfInBounds_toArray, List.set_cons_zero, List.set_cons_succ]
      generalize W2.alloc (.cells #[.int .i64 c] 3) = W3 at *
      generalize W2.heap.size = Db2 at *
      refine stepL 7 (by kernel_rfl) rfl (fun K hK => ?_)
      go_simp
      refine (wnum_any 2 [c] _ p _ W3 HC.out.wr b2.out (fun n hn => by simp at hn; subst hn; have := HOK.out; omega) (by simp)).mono ?_
      rintro e W4 ⟨rfl, hw, hg⟩
      show K _ _
      have HC := Bx.mk (HC.out.grown hw hg)
      clear hw hg b2
      refine hK.out _ _ ⟨HC.out.c0, HC.out.c1⟩ (fun hHeld => ?_)
      clear hK K
      try simp only [Act.put, List.setIfInBounds_toArray, List.set_cons_zero, List.set_cons_succ]
      refine stepL 8 (by kernel_rfl) rfl (fun K hK => ?_)
      have HC : Bx (BN12 w B p ⟨b, c⟩ (nB ⟨b, c⟩, 0) W4) := Bx.mk (by have h := HC.out; simp only [List.map_cons, List.map_nil] at h; rw [HP.out] at h; exact h)
      go_simp
      refine (wout_ok p _ W4 HC.out.wr).mono ?_
      rintro e W5 ⟨vz, rfl, hoz, hbz⟩
      show K _ _
      have HZ : Bx (OwnB W5 B vz (nB ⟨b, c⟩) ∧ Below B w W5) := Bx.mk ⟨hoz.weak (Nat.le_of_lt (Nat.lt_trans HC.out.lt HC.out.wr.lt)), HC.out.below.trans (hbz.mono (Nat.le_of_lt (Nat.lt_trans HC.out.lt HC.out.wr.lt)))⟩
      have HQ : Bx (W5.cell? ⟨B, 0, none⟩ = some (.int .i64 b) ∧ W5.cell? ⟨B, 1, none⟩ = some (.int .i64 c)) := Bx.mk ⟨(hbz.cell (p := ⟨B, 0, none⟩) (World.block_lt_of_cell? _ _ HC.out.c0)).trans HC.out.c0, (hbz.cell (p := ⟨B, 1, none⟩) (World.block_lt_of_cell? _ _ HC.out.c1)).trans HC.out.c1⟩
      obtain ⟨az, cz, hvz⟩ := own_form hoz
      subst hvz
      clear hoz hbz HC
      refine hK.out _ _ HQ.out (fun hHeld => ?_)
      clear hK K HQ
      try simp only [Act.put, List.setIfInBounds_toArray, List.set_cons_zero, List.set_cons_succ]
      refine takeL 9 (v := ?_) rfl (by kernel_rfl) (by kernel_rfl) (by kernel_rfl) (fun _ _ _ h => h) (Or.inl ⟨by rfl, ?_⟩) hHeld ?_
      rotate_left 1
      · (intro w hSw; go_simp; try with_reducible rfl)
      try simp only [Act.put, List.setIfInBounds_toArray, List.set_cons_zero, List.set_cons_succ]
      refine takeL 10 (v := ?_) rfl (by kernel_rfl) (by kernel_rfl) (by kernel_rfl) (fun _ _ _ h => h) (Or.inl ⟨by rfl, ?_⟩) hHeld ?_
      rotate_left 1
      · (intro w hSw; go_simp; try with_reducible rfl)
      try simp only [Act.put, List.setIfInBounds_toArray, List.set_cons_zero, List.set_cons_succ]
      refine takeL 11 (v := ?_) rfl (by kernel_rfl) (by kernel_rfl) (by kernel_rfl) (fun _ _ _ h => h) (Or.inl ⟨by rfl, ?_⟩) hHeld ?_
      rotate_left 1
      · (intro w hSw; go_simp; try with_reducible rfl)
      try simp only [Act.put, List.setIfInBounds_toArray, List.set_cons_zero, List.set_cons_succ]
      refine takeL 12 (v := ?_) rfl (by kernel_rfl) (by kernel_rfl) (by kernel_rfl) (fun _ _ _ h => h) (Or.inl ⟨by rfl, ?_⟩) hHeld ?_
      rotate_left 1
      · (intro w hSw; go_simp; try with_reducible rfl)
      try simp only [Act.put, List.setIfInBounds_toArray, List.set_cons_zero, List.set_cons_succ]
      refine wpAnyH_done (by kernel_rfl) ?_ _
      refine NoPanic.normal ?_
      clear hHeld
      go_wp2
      go_ret2
      exact ⟨_, rfl, HZ.out⟩
    · go_simp
      have b2 : Bx (IntsN (W1.alloc (.cells #[.int .i64 c] 3)) p (.slice (some ⟨W1.heap.size, 0, none⟩) 1 1) [c]) := Bx.mk (ints_one W1 p c _ HC.out.wr.lt)
      have b1 := Bx.mk (b1.out.grown (kb_below (some p) (below_a (.cells #[.int .i64 c] 3))))
      have HC := Bx.mk (HC.out.alloc (.cells #[.int .i64 c] 3))
      refine hK.out _ _ ⟨HC.out.c0, HC.out.c1⟩ (fun hHeld => ?_)
      clear hK K
      try simp only [Act.put, List.setIfInBounds_toArray, List.set_cons_zero, List.set_cons_succ]
      generalize W1.alloc (.cells #[.int .i64 c] 3) = W2 at *
      generalize W1.heap.size = Db2 at *
      refine stepL 3 (by kernel_rfl) rfl (fun K hK => ?_)
      go_simp
      refine (wnum_any 1 [b] _ p _ W2 HC.out.wr b1.out (fun n hn => by simp at hn; subst hn; have := HOK.out; omega) (by simp)).mono ?_
      rintro e W3 ⟨rfl, hw, hg⟩
      show K _ _
      have b2 := Bx.mk (b2.out.grown hg)
      have HC := Bx.mk (HC.out.grown hw hg)
      clear hw hg b1
      refine hK.out _ _ ⟨HC.out.c0, HC.out.c1⟩ (fun hHeld => ?_)
      clear hK K
      try simp only [Act.put, List.setIfInBounds_toArray, List.set_cons_zero, List.set_cons_succ]
      refine stepL 7 (by kernel_rfl) rfl (fun K hK => ?_)
      go_simp
      refine (wnum_any 2 [c] _ p _ W3 HC.out.wr b2.out (fun n hn => by simp at hn; subst hn; have := HOK.out; omega) (by simp)).mono ?_
      rintro e W4 ⟨rfl, hw, hg⟩
      show K _ _
      have HC := Bx.mk (HC.out.grown hw hg)
      clear hw hg b2
      refine hK.out _ _ ⟨HC.out.c0, HC.out.c1⟩ (fun hHeld => ?_)
      clear hK K
      try simp only [Act.put, List.setIfInBounds_toArray, List.set_cons_zero, List.set_cons_succ]
      refine stepL 8 (by kernel_rfl) rfl (fun K hK => ?_)
      have HC : Bx (BN12 w B p ⟨b, c⟩ (nB ⟨b, c⟩, 0) W4) := Bx.mk (by have h := HC.out; simp only [List.map_cons, List.map_nil] at h; rw [HP.out] at h; exact h)
      go_simp
      refine (wout_ok p _ W4 HC.out.wr).mono ?_
      rintro e W5 ⟨vz, rfl, hoz, hbz⟩
      show K _ _
      have HZ : Bx (OwnB W5 B vz (nB ⟨b, c⟩) ∧ Below B w W5) := Bx.mk ⟨hoz.weak (Nat.le_of_lt (Nat.lt_trans HC.out.lt HC.out.wr.lt)), HC.out.below.trans (hbz.mono (Nat.le_of_lt (Nat.lt_trans HC.out.lt HC.out.wr.lt)))⟩
      have HQ : Bx (W5.cell? ⟨B, 0, none⟩ = some (.int .i64 b) ∧ W5.cell? ⟨B, 1, none⟩ = some (.int .i64 c)) := Bx.mk ⟨(hbz.cell (p := ⟨B, 0, none⟩) (World.block_lt_of_cell? _ _ HC.out.c0)).trans HC.out.c0, (hbz.cell (p := ⟨B, 1, none⟩) (World.block_lt_of_cell? _ _ HC.out.c1)).trans HC.out.c1⟩
      obtain ⟨az, cz, hvz⟩ := own_form hoz
      subst hvz
      clear hoz hbz HC
      refine hK.out _ _ HQ.out (fun hHeld => ?_)
      clear hK K HQ
      try simp only [Act.put, List.setIfInBounds_toArray, List.set_cons_zero, List.set_cons_succ]
      refine takeL 9 (v := ?_) rfl (by kernel_rfl) (by kernel_rfl) (by kernel_rfl) (fun _ _ _ h => h) (Or.inl ⟨by rfl, ?_⟩) hHeld ?_
      rotate_left 1
      · (intro w hSw; go_simp; try with_reducible rfl)
      try simp only [Act.put, List.setIfInBounds_toArray, List.set_cons_zero, List.set_cons_succ]
      refine takeL 10 (v := ?_) rfl (by kernel_rfl) (by kernel_rfl) (by kernel_rfl) (fun _ _ _ h => h) (Or.inl ⟨by rfl, ?_⟩) hHeld ?_
      rotate_left 1
      · (intro w hSw; go_simp; try with_reducible rfl)
      try simp only [Act.put, List.setIfInBounds_toArray, List.set_cons_zero, List.set_cons_succ]
      refine takeL 11 (v := ?_) rfl (by kernel_rfl) (by kernel_rfl) (by kernel_rfl) (fun _ _ _ h => h) (Or.inl ⟨by rfl, ?_⟩) hHeld ?_
      rotate_left 1
      · (intro w hSw; go_simp; try with_reducible rfl)
      try simp only [Act.put, List.setIfInBounds_toArray, List.set_cons_zero, List.set_cons_succ]
      refine takeL 12 (v := ?_) rfl (by kernel_rfl) (by kernel_rfl) (by kernel_rfl) (fun _ _ _ h => h) (Or.inl ⟨by rfl, ?_⟩) hHeld ?_
      rotate_left 1
      · (intro w hSw; go_simp; try with_reducible rfl)
      try simp only [Act.put, List.setIfInBounds_toArray, List.set_cons_zero, List.set_cons_succ]
      refine wpAnyH_done (by kernel_rfl) ?_ _
      refine NoPanic.normal ?_
      clear hHeld
      go_wp2
      go_ret2
      exact ⟨_, rfl, HZ.out⟩
  · go_simp
    have b2 : Bx (IntsN (W0.alloc (.cells #[.int .i64 c] 3)) p (.slice (some ⟨W0.heap.size, 0, none⟩) 1 1) [c]) := Bx.mk (ints_one W0 p c _ HC.out.wr.lt)
    have HC := Bx.mk (HC.out.alloc (.cells #[.int .i64 c] 3))
    refine hK.out _ _ ⟨HC.out.c0, HC.out.c1⟩ (fun hHeld => ?_)
    clear hK K
    try simp only [Act.put, List.setIfInBounds_toArray, List.set_cons_zero, List.set_cons_succ]
    generalize W0.alloc (.cells #[.int .i64 c] 3) = W1 at *
    generalize W0.heap.size = Db2 at *
    refine stepL 2 (by kernel_rfl) rfl (fun K hK => ?_)
    go_simp
    have b1 : Bx (IntsN (W1.alloc (.cells #[.int .i64 b] 3)) p (.slice (some ⟨W1.heap.size, 0, none⟩) 1 1) [b]) := Bx.mk (ints_one W1 p b _ HC.out.wr.lt)
    have b2 := Bx.mk (b2.out.grown (kb_below (some p) (below_a (.cells #[.int .i64 b] 3))))
    have HC := Bx.mk (HC.out.alloc (.cells #[.int .i64 b] 3))
    refine hK.out _ _ ⟨HC.out.c0, HC.out.c1⟩ (fun hHeld => ?_)
    clear hK K
    try simp only [Act.put, List.setIfInBounds_toArray, List.set_cons_zero, List.set_cons_succ]
    generalize W1.alloc (.cells #[.int .i64 b] 3) = W2 at *
    generalize W1.heap.size = Db1 at *
    refine stepL 3 (by kernel_rfl) rfl (fun K hK => ?_)
    go_simp
    refine (wnum_any 1 [b] _ p _ W2 HC.out.wr b1.out (fun n hn => by simp at hn; subst hn; have := HOK.out; omega) (by simp)).mono ?_
    rintro e W3 ⟨rfl, hw, hg⟩
    show K _ _
    have b2 := Bx.mk (b2.out.grown hg)
    have HC := Bx.mk (HC.out.grown hw hg)
    clear hw hg b1
    refine hK.out _ _ ⟨HC.out.c0, HC.out.c1⟩ (fun hHeld => ?_)
    clear hK K
    try simp only [Act.put, List.setIfInBounds_toArray, List.set_cons_zero, List.set_cons_succ]
    refine stepL 7 (by kernel_rfl) rfl (fun K hK => ?_)
    go_simp
    refine (wnum_any 2 [c] _ p _ W3 HC.out.wr b2.out (fun n hn => by simp at hn; subst hn; have := HOK.out; omega) (by simp)).mono ?_
    rintro e W4 ⟨rfl, hw, hg⟩
    show K _ _
    have HC := Bx.mk (HC.out.grown hw hg)
    clear hw hg b2
    refine hK.out _ _ ⟨HC.out.c0, HC.out.c1⟩ (fun hHeld => ?_)
    clear hK K
    try simp only [Act.put, List.setIfInBounds_toArray, List.set_cons_zero, List.set_cons_succ]
    refine stepL 8 (by kernel_rfl) rfl (fun K hK => ?_)
    have HC : Bx (BN12 w B p ⟨b, c⟩ (nB ⟨b, c⟩, 0) W4) := Bx.mk (by have h := HC.out; simp only [List.map_cons, List.map_nil] at h; rw [HP.out] at h; exact h)
    go_simp
    refine (wout_ok p _ W4 HC.out.wr).mono ?_
    rintro e W5 ⟨vz, rfl, hoz, hbz⟩
    show K _ _
    have HZ : Bx (OwnB W5 B vz (nB ⟨b, c⟩) ∧ Below B w W5) := Bx.mk ⟨hoz.weak (Nat.le_of_lt (Nat.lt_trans HC.out.lt HC.out.wr.lt)), HC.out.below.trans (hbz.mono (Nat.le_of_lt (Nat.lt_trans HC.out.lt HC.out.wr.lt)))⟩
    have HQ : Bx (W5.cell? ⟨B, 0, none⟩ = some (.int .i64 b) ∧ W5.cell? ⟨B, 1, none⟩ = some (.int .i64 c)) := Bx.mk ⟨(hbz.cell (p := ⟨B, 0, none⟩) (World.block_lt_of_cell? _ _ HC.out.c0)).trans HC.out.c0, (hbz.cell (p := ⟨B, 1, none⟩) (World.block_lt_of_cell? _ _ HC.out.c1)).trans HC.out.c1⟩
    obtain ⟨az, cz, hvz⟩ := own_form hoz
    subst hvz
    clear hoz hbz HC
    refine hK.out _ _ HQ.out (fun hHeld => ?_)
    clear hK K HQ
    try simp only [Act.put, List.setIfInBounds_toArray, List.set_cons_zero, List.set_cons_succ]
    refine takeL 9 (v := ?_) rfl (by kernel_rfl) (by kernel_rfl) (by kernel_rfl) (fun _ _ _ h => h) (Or.inl ⟨by rfl, ?_⟩) hHeld ?_
    rotate_left 1
    · (intro w hSw; go_simp; try with_reducible rfl)
    try simp only [Act.put, List.setIfInBounds_toArray, List.set_cons_zero, List.set_cons_succ]
    refine takeL 10 (v := ?_) rfl (by kernel_rfl) (by kernel_rfl) (by kernel_rfl) (fun _ _ _ h => h) (Or.inl ⟨by rfl, ?_⟩) hHeld ?_
    rotate_left 1
    · (intro w hSw; go_simp; try with_reducible rfl)
    try simp only [Act.put, List.setIfInBounds_toArray, List.set_cons_zero, List.set_cons_succ]
    refine takeL 11 (v := ?_) rfl (by kernel_rfl) (by kernel_rfl) (by kernel_rfl) (fun _ _ _ h => h) (Or.inl ⟨by rfl, ?_⟩) hHeld ?_
    rotate_left 1
    · (intro w hSw; go_simp; try with_reducible rfl)
    try simp only [Act.put, List.setIfInBounds_toArray, List.set_cons_zero, List.set_cons_succ]
    refine takeL 12 (v := ?_) rfl (by kernel_rfl) (by kernel_rfl) (by kernel_rfl) (fun _ _ _ h => h) (Or.inl ⟨by rfl, ?_⟩) hHeld ?_
    rotate_left 1
    · (intro w hSw; go_simp; try with_reducible rfl)
    try simp only [Act.put, List.setIfInBounds_toArray, List.set_cons_zero, List.set_cons_succ]
    refine wpAnyH_done (by kernel_rfl) ?_ _
    refine NoPanic.normal ?_
    clear hHeld
    go_wp2
    go_ret2
    exact ⟨_, rfl, HZ.out⟩
set_option maxRecDepth 100000 in
set_option maxHeartbeats 4000000 in
theorem nbytes_bad (n : Nn) (w : World) (hc : okN n = false) : Calls Try.prog 23 #[nv n] w fun e w' => e = .returned (.tuple #[.slice none 0 0, .int .i64 10]) ∧ Below w.heap.size w w' := by
  have HK := fun (W : World) => check_any n W
  rw [if_neg (by rw [hc]; simp)] at HK
  obtain ⟨b, c⟩ := n
  unfold nv at HK ⊢
  simp only at HK ⊢
  clear hc
  have HBl := Bx.mk (below_a (W := w) (.cells #[.int .i64 b, .int .i64 c] 24))
  go_enter Try.func23, Try.ntmps23
  go_wp2_with fail
  refine (HK _).mono ?_
  rintro e w2 ⟨rfl, hb2⟩
  have H2 := Bx.mk (HBl.out.trans (hb2.mono HBl.out.size))
  clear hb2 HBl HK
  go_wp2
  go_ret2
  exact ⟨rfl, H2.out⟩
/-- A reader behind two fields; the two numbers; the error of Read, and its nonce. -/
def nrR (p : List UInt8 × Int) : List UInt8 × Int := stepR (stepR p 1) 2
def nrN (p : List UInt8 × Int) : Nn := ⟨numR p 1, numR (stepR p 1) 2⟩
def nrE (p : List UInt8 × Int) : Int := if (nrR p).2 ≠ 0 then (nrR p).2 else if okN (nrN p) = true then 0 else 3
def nrC (p : List UInt8 × Int) : Nn := if nrE p = 0 then nrN p else Nn.zero
/-- What stays while a nonce is read. -/
structure Rd12 (w : World) (q D : Nat) (p : List UInt8 × Int) (W : World) : Prop where
  rd : IsR W q p.1 p.2
  gr : w.grownBy W (some q)
  res : W.heap[D]? = some (.cells #[.int .i64 0, .int .i64 0] 24 (0, 0))
  at_ : w.heap.size = D
  lt : q < D
theorem Rd12.step {w : World} {q D : Nat} {p p1 : List UInt8 × Int} {W W1 : World} (h : Rd12 w q D p W) (h1 : IsR W1 q p1.1 p1.2) (hg : W.grownBy W1 (some q)) : Rd12 w q D p1 W1 :=
  ⟨h1, kb_trans h.gr hg, by rw [hg.block D (Array.getElem?_eq_some_iff.1 h.res).1 (fun e => by injection e with e; have := h.lt; omega)]; exact h.res, h.at_, h.lt⟩
theorem Rd12.later {w : World} {q D : Nat} {p : List UInt8 × Int} {W W1 : World} (h : Rd12 w q D p W) (hb : Below W.heap.size W W1) : Rd12 w q D p W1 :=
  ⟨h.rd.later hb, kb_trans h.gr (kb_below _ hb), by rw [hb.block D (Array.getElem?_eq_some_iff.1 h.res).1]; exact h.res, h.at_, h.lt⟩
theorem two_off (a b : Int) : ∀ (i : Nat) x, (#[Value.int .i64 a, .int .i64 b])[i]? ≠ some (.int .u8 x)
  | 0, x, h => by simp at h
  | 1, x, h => by simp at h
  | i + 2, x, h => by simp at h
theorem results_pairR {fn : Func} {p u : Tmp} {ty : TypeId} (h : fn.results = #[.cell p ty, .tmp u]) (tmps : Array Value) (P : Program) (w : World) (g : Nat) (cs : Array Value)
    (hp : tmps.getD p undef = .pointer (some ⟨g, 0, none⟩)) (hl : (loadVar ty ⟨g, 0, none⟩).run P w = .ok (.agg cs) w) : (results fn tmps).run P w = .ok (.tuple #[.agg cs, tmps.getD u undef]) w := by
  have hp' : tmps[p]?.getD undef = .pointer (some ⟨g, 0, none⟩) := by simpa using hp
  simp [results, h, hp', asAddr, hl]
set_option maxRecDepth 100000 in
set_option maxHeartbeats 4000000 in
theorem nread_any (q : Nat) (p : List UInt8 × Int) (w : World) (h : IsR w q p.1 p.2) (hl : p.1.length ≤ 5000) :
    Calls Try.prog 27 #[.pointer (some ⟨q, 0, none⟩)] w fun e w' => e = .returned (.tuple #[nv (nrC p), .int .i64 (nrE p)]) ∧ IsR w' q (nrR p).1 (nrR p).2 ∧ w.grownBy w' (some q) := by
  obtain ⟨D, hD⟩ : ∃ D, w.heap.size = D := ⟨_, rfl⟩
  have HD := Bx.mk hD
  have HL := Bx.mk hl
  have H0 : Bx (Rd12 w q D p (w.alloc (.cells #[.int .i64 0, .int .i64 0] 24))) := Bx.mk ⟨h.later (below_a _), kb_below _ (below_a _), hnew _ _ _ hD.symm, hD, by rw [← hD]; exact h.lt⟩
  have HC : Bx (∀ n0 n1, (⟨n0, n1⟩ : Nn) = nrN p → ∀ W, Calls Try.prog 24 #[.agg #[.int .i64 n0, .int .i64 n1]] W fun e w' => e = .returned (.int .i64 (if okN (nrN p) = true then 0 else 10)) ∧ Below W.heap.size W w') := Bx.mk (fun n0 n1 hn W => by
    have hk := check_any ⟨n0, n1⟩ W
    rw [hn] at hk
    rw [← hn] at hk ⊢
    exact hk)
  clear h hl
  have S1 := Bx.mk (stepR_len p 1)
  have HN : Bx (nrN p = ⟨numR p 1, numR (stepR p 1) 2⟩) := Bx.mk rfl
  have HR : Bx (nrR p = stepR (stepR p 1) 2) := Bx.mk rfl
  obtain ⟨V, hV⟩ : ∃ V, nv (nrC p) = V := ⟨_, rfl⟩
  obtain ⟨E, hE⟩ : ∃ E, nrE p = E := ⟨_, rfl⟩
  have HV := Bx.mk (And.intro hV hE)
  rw [hV, hE]
  clear hV hE
  go_enter Try.func27, Try.ntmps27
  go_wp2_with fail
  generalize (w.alloc (.cells #[.int .i64 0, .int .i64 0] 24)) = w0 at *
  refine (rnum_any q 1 p.1 p.2 w0 H0.out.rd HL.out (by omega)).mono ?_
  rintro e w1 ⟨rfl, hr1, hg1⟩
  have H1 : Bx (Rd12 w q D (stepR p 1) w1) := Bx.mk (H0.out.step hr1 hg1)
  rw [show (getR p.1 p.2 1).1.n = numR p 1 from rfl]
  clear hr1 hg1 H0
  generalize numR p 1 = n0 at *
  generalize stepR p 1 = p1 at *
  go_wp2_with fail
  refine (rnum_any q 2 p1.1 p1.2 w1 H1.out.rd (by have := HL.out; have := S1.out; omega) (by omega)).mono ?_
  rintro e w2 ⟨rfl, hr1, hg1⟩
  have H2 : Bx (Rd12 w q D (stepR p1 2) w2) := Bx.mk (H1.out.step hr1 hg1)
  rw [show (getR p1.1 p1.2 2).1.n = numR p1 2 from rfl]
  clear hr1 hg1 H1 S1
  generalize numR p1 2 = n1 at *
  rw [← HR.out] at H2
  clear HR
  have H5 : Bx (Rd12 w q D (nrR p) (w2.alloc (.cells #[.int .i64 n0, .int .i64 n1] 24)) ∧ (w2.alloc (.cells #[.int .i64 n0, .int .i64 n1] 24)).heap[w2.heap.size]? = some (.cells #[.int .i64 n0, .int .i64 n1] 24 (0, 0))) := Bx.mk ⟨H2.out.later (below_a _), hnew _ _ _ rfl⟩
  clear H2
  go_wp2_with fail
  generalize (w2.alloc (.cells #[.int .i64 n0, .int .i64 n1] 24)) = w5 at *
  generalize w2.heap.size = G at *
  refine (rerr_any q (nrR p).1 (nrR p).2 w5 H5.out.1.rd).mono ?_
  rintro e w6 ⟨rfl, hw6⟩
  rw [hw6]
  clear hw6 w6
  by_cases he : (nrR p).2 = 0
  · rw [he]
    have hc0 : w5.cell? ⟨G, 0, none⟩ = some (.int .i64 n0) := by rw [cell_of_row _ _ _ _ _ _ H5.out.2]; rfl
    have hc1 : w5.cell? ⟨G, 1, none⟩ = some (.int .i64 n1) := by rw [cell_of_row _ _ _ _ _ _ H5.out.2]; rfl
    go_wp2_with fail
    refine (HC.out n0 n1 HN.out.symm w5).mono ?_
    rintro e w7 ⟨rfl, hb7⟩
    have H7 : Bx (Rd12 w q D (nrR p) w7 ∧ w7.heap[G]? = some (.cells #[.int .i64 n0, .int .i64 n1] 24 (0, 0))) := Bx.mk ⟨H5.out.1.later hb7, by rw [hb7.block G (Array.getElem?_eq_some_iff.1 H5.out.2).1]; exact H5.out.2⟩
    clear hb7 H5 hc0 hc1
    by_cases ho : okN (nrN p) = true
    · rw [if_pos ho]
      have HE : Bx (E = 0 ∧ V = .agg #[.int .i64 n0, .int .i64 n1]) := Bx.mk (by
        have e0 : nrE p = 0 := by unfold nrE; rw [if_neg (by rw [he]; simp), if_pos ho]
        refine ⟨by rw [← HV.out.2, e0], ?_⟩
        rw [← HV.out.1]
        unfold nrC
        rw [if_pos e0, HN.out]
        rfl)
      have hc0 : w7.cell? ⟨G, 0, none⟩ = some (.int .i64 n0) := by rw [cell_of_row _ _ _ _ _ _ H7.out.2]; rfl
      have hc1 : w7.cell? ⟨G, 1, none⟩ = some (.int .i64 n1) := by rw [cell_of_row _ _ _ _ _ _ H7.out.2]; rfl
      clear HV HN HC
      go_wp2_with (refine wpList_store_new rfl 24 _ _ rfl D #[.int .i64 n0, .int .i64 n1] _ _ (by rfl) (by rfl) H7.out.1.res rfl (by kernel_rfl) (by simp [Value.oneCell']) ?_; intro w8 hw8 hr8; have hg8 : Bx (w7.grownBy w8 (some D)) := Bx.mk (by rw [hw8]; exact kb_setCells _ _ _); have HR8 := Bx.mk hr8; clear hw8 hr8)
      refine bodyPost_ret (results_pairR rfl _ _ _ D _ rfl (run_loadVar_row _ D _ _ _ _ _ HR8.out Try.underlying24 rfl (by kernel_rfl))) rfl ?_
      exact ⟨by rw [HE.out.1, HE.out.2]; rfl, H7.out.1.rd.asideA H7.out.1.res (two_off _ _) hg8.out (by have := H7.out.1.lt; omega), kb_new H7.out.1.gr hg8.out (by rw [HD.out]; exact Nat.le_refl _)⟩
    · rw [if_neg ho]
      have HE : Bx (E = 3 ∧ V = .agg #[.int .i64 0, .int .i64 0]) := Bx.mk (by
        have e0 : nrE p = 3 := by unfold nrE; rw [if_neg (by rw [he]; simp), if_neg ho]
        refine ⟨by rw [← HV.out.2, e0], ?_⟩
        rw [← HV.out.1]
        unfold nrC
        rw [if_neg (by rw [e0]; simp)]
        rfl)
      clear HV HN HC
      go_wp2_with (refine wpList_store_new rfl 24 _ _ rfl D #[.int .i64 0, .int .i64 0] _ _ (by rfl) (by rfl) H7.out.1.res rfl (by kernel_rfl) (by simp [Value.oneCell']) ?_; intro w8 hw8 hr8; have hg8 : Bx (w7.grownBy w8 (some D)) := Bx.mk (by rw [hw8]; exact kb_setCells _ _ _); have HR8 := Bx.mk hr8; clear hw8 hr8)
      refine bodyPost_ret (results_pairR rfl _ _ _ D _ rfl (run_loadVar_row _ D _ _ _ _ _ HR8.out Try.underlying24 rfl (by kernel_rfl))) rfl ?_
      exact ⟨by rw [HE.out.1, HE.out.2]; rfl, H7.out.1.rd.asideA H7.out.1.res (two_off _ _) hg8.out (by have := H7.out.1.lt; omega), kb_new H7.out.1.gr hg8.out (by rw [HD.out]; exact Nat.le_refl _)⟩
  · have HE : Bx (E = (nrR p).2 ∧ V = .agg #[.int .i64 0, .int .i64 0]) := Bx.mk (by
      have e0 : nrE p = (nrR p).2 := by unfold nrE; rw [if_pos he]
      refine ⟨by rw [← HV.out.2, e0], ?_⟩
      rw [← HV.out.1]
      unfold nrC
      rw [if_neg (by rw [e0]; exact he)]
      rfl)
    obtain ⟨er, hre⟩ : ∃ er, (nrR p).2 = er := ⟨_, rfl⟩
    rw [hre] at HE he ⊢
    have HER := Bx.mk hre
    clear HV HN HC hre
    go_wp2_with (refine wpList_store_new rfl 24 _ _ rfl D #[.int .i64 0, .int .i64 0] _ _ (by rfl) (by rfl) H5.out.1.res rfl (by kernel_rfl) (by simp [Value.oneCell']) ?_; intro w8 hw8 hr8; have hg8 : Bx (w5.grownBy w8 (some D)) := Bx.mk (by rw [hw8]; exact kb_setCells _ _ _); have HR8 := Bx.mk hr8; clear hw8 hr8)
    refine bodyPost_ret (results_pairR rfl _ _ _ D _ rfl (run_loadVar_row _ D _ _ _ _ _ HR8.out Try.underlying24 rfl (by kernel_rfl))) rfl ?_
    exact ⟨by rw [HE.out.1, HE.out.2]; rfl, H5.out.1.rd.asideA H5.out.1.res (two_off _ _) hg8.out (by have := H5.out.1.lt; omega), kb_new H5.out.1.gr hg8.out (by rw [HD.out]; exact Nat.le_refl _)⟩
end Go.Proofs.Ytoohcjdjmafliaa
namespace Go.Proofs.Ytoohcjdjmafliaa
open Go Go.RowKit
/-- Is a nonce old? -/
def forgW (s : Ws) (n : Nn) : Bool := decide (n.b < s.n.b ∨ n.b = s.n.b ∧ 64 ≤ s.n.c - n.c)
/-- A nonce's bit. -/
def bitW (s : Ws) (n : Nn) : BitVec 64 := if n.b = s.n.b ∧ n.c ≤ s.n.c then 1#64 <<< (s.n.c - n.c).toNat else 0#64
/-- A greater nonce is the latest. -/
def riseW (s : Ws) (n : Nn) : Ws := ⟨n, if n.b = s.n.b then s.t <<< (n.c - s.n.c).toNat else 0#64⟩
/-- The latest of a window is a nonce, or the zero one. -/
def Ws.ok (s : Ws) : Prop := 0 ≤ s.n.b ∧ s.n.b ≤ 65535 ∧ 0 ≤ s.n.c ∧ s.n.c ≤ 2147483647
theorem tv_shl (x : BitVec 64) (k : Nat) : IntKind.u64.wrap (tv x * 2 ^ k) = tv (x <<< k) := by
  unfold tv
  rw [IntKind.wrap_u64, BitVec.toNat_shiftLeft, Nat.shiftLeft_eq]
  simp
theorem tv_one (k : Nat) (h : k < 64) : (2 : Int) ^ k = tv (1#64 <<< k) := by
  unfold tv
  rw [BitVec.toNat_shiftLeft, Nat.shiftLeft_eq, BitVec.toNat_ofNat, Nat.mod_eq_of_lt (by decide : 1 < 2 ^ 64), Nat.one_mul, Nat.mod_eq_of_lt (Nat.pow_lt_pow_right (by decide) h)]
  simp
theorem tv_wrap (x : BitVec 64) : IntKind.u64.wrap (tv x) = tv x := by
  unfold tv
  have := x.isLt
  rw [IntKind.wrap_u64]
  omega
/-- A nonce in its own block. -/
def BoxN (T : TypeId) (X : Nat) (n : Nn) (W : World) : Prop := W.heap[X]? = some (.cells #[.int .i64 n.b, .int .i64 n.c] T (0, 0))
theorem BoxN.lt {T : TypeId} {X : Nat} {n : Nn} {W : World} (h : BoxN T X n W) : X < W.heap.size := (Array.getElem?_eq_some_iff.1 h).1
theorem BoxN.later {T : TypeId} {X : Nat} {n : Nn} {W W1 : World} (h : BoxN T X n W) (hb : Below W.heap.size W W1) : BoxN T X n W1 := (hb.block X h.lt).trans h
theorem BoxN.aside {T : TypeId} {X p : Nat} {n : Nn} {W W1 : World} (h : BoxN T X n W) (hg : W.grownBy W1 (some p)) (hne : X ≠ p) : BoxN T X n W1 := (hg.block X h.lt (fun e => hne (by injection e))).trans h
theorem BoxN.cells {T : TypeId} {X : Nat} {n : Nn} {W : World} (h : BoxN T X n W) : W.cell? ⟨X, 0, none⟩ = some (.int .i64 n.b) ∧ W.cell? ⟨X, 1, none⟩ = some (.int .i64 n.c) :=
  ⟨by rw [cell_of_row _ _ _ _ _ _ h]; rfl, by rw [cell_of_row _ _ _ _ _ _ h]; rfl⟩
theorem BoxN.range {T : TypeId} {X : Nat} {n : Nn} {W : World} (h : BoxN T X n W) : W.rangeAt X 0 [.int .i64 n.b, .int .i64 n.c] := fun j u hj => by
  rw [cell_of_row _ _ _ _ _ _ h, Nat.zero_add, ← Array.getElem?_toList]
  exact hj
theorem WinB.range {W : World} {q : Nat} {s : Ws} (h : WinB W q s) : W.rangeAt q 0 [.int .i64 s.n.b, .int .i64 s.n.c] := fun j u hj => by
  have hj2 : j < 2 := (List.getElem?_eq_some_iff.1 hj).1
  rw [cell_of_row _ _ _ _ _ _ h, Nat.zero_add, ← Array.getElem?_toList]
  match j, hj2 with
  | 0, _ => exact hj
  | 1, _ => exact hj
set_option maxRecDepth 100000 in
set_option maxHeartbeats 4000000 in
theorem forgot_any (q : Nat) (s : Ws) (n : Nn) (w : World) (h : WinB w q s) (hs : s.ok) (hn : okN n = true) : Calls Try.prog 31 #[.pointer (some ⟨q, 0, none⟩), nv n] w fun e w' => e = .returned (.bool (forgW s n)) ∧ Below w.heap.size w w' := by
  obtain ⟨c0, c1, c2⟩ := (h.later (below_a (.cells #[.int .i64 n.b, .int .i64 n.c] 24))).cells
  have HBl : Bx (Below w.heap.size w (w.alloc (.cells #[.int .i64 n.b, .int .i64 n.c] 24))) := Bx.mk (below_a _)
  obtain ⟨n1, n2, n3, n4⟩ := (okN_iff n).1 hn
  obtain ⟨s1, s2, s3, s4⟩ := hs
  have hq := h.lt
  have hne : q ≠ w.heap.size := by omega
  obtain ⟨b, c⟩ := n
  obtain ⟨⟨B, C⟩, T⟩ := s
  simp only at c0 c1 c2 n1 n2 n3 n4 s1 s2 s3 s4 HBl
  unfold forgW nv
  simp only
  have e1 : IntKind.i64.wrap (C - c) = C - c := by simp [IntKind.wrap_i64]; omega
  have e2 : wrap64 (C - c) = C - c := by unfold wrap64; omega
  clear h hn hq n1 n2 n3 n4 s1 s2 s3 s4 c2
  by_cases h1 : b < B
  · rw [decide_eq_true (.inl h1)]
    have d1 : decide (b < B) = true := decide_eq_true h1
    go_enter Try.func31, Try.ntmps31
    go_wp2
    skip -- M1
    go_quiet (fail)
    skip -- M2
    go_wp2
    go_ret
    exact ⟨rfl, below_drewN HBl.out _⟩
  · have d1 : decide (b < B) = false := decide_eq_false h1
    by_cases h2 : b = B
    · subst h2
      have d2 : decide (b = b) = true := decide_eq_true rfl
      by_cases h3 : 64 ≤ C - c
      · rw [decide_eq_true (.inr ⟨rfl, h3⟩)]
        go_enter Try.func31, Try.ntmps31
        go_wp2
        go_quiet (fail)
        go_wp2
        go_ret
        exact ⟨rfl, below_drewN HBl.out _⟩
      · rw [decide_eq_false (fun h => h3 (by omega))]
        have d3 : decide (64 ≤ C - c) = false := decide_eq_false h3
        go_enter Try.func31, Try.ntmps31
        go_wp2
        go_quiet (fail)
        go_wp2
        go_ret
        exact ⟨rfl, below_drewN HBl.out _⟩
    · have d2 : decide (b = B) = false := decide_eq_false h2
      rw [decide_eq_false (fun h => by omega)]
      go_enter Try.func31, Try.ntmps31
      go_wp2
      go_quiet (fail)
      go_wp2
      go_ret
      exact ⟨rfl, below_drewN HBl.out _⟩
set_option maxRecDepth 100000 in
set_option maxHeartbeats 4000000 in
theorem bit_any12 (q : Nat) (s : Ws) (n : Nn) (w : World) (h : WinB w q s) (hs : s.ok) (hn : okN n = true) (hk : n.b = s.n.b → s.n.c - n.c < 64) : Calls Try.prog 32 #[.pointer (some ⟨q, 0, none⟩), nv n] w fun e w' => e = .returned (.int .u64 (tv (bitW s n))) ∧ Below w.heap.size w w' := by
  obtain ⟨c0, c1, c2⟩ := (h.later (below_a (.cells #[.int .i64 n.b, .int .i64 n.c] 24))).cells
  have HBl : Bx (Below w.heap.size w (w.alloc (.cells #[.int .i64 n.b, .int .i64 n.c] 24))) := Bx.mk (below_a _)
  obtain ⟨n1, n2, n3, n4⟩ := (okN_iff n).1 hn
  obtain ⟨s1, s2, s3, s4⟩ := hs
  have hq := h.lt
  have hne : q ≠ w.heap.size := by omega
  obtain ⟨b, c⟩ := n
  obtain ⟨⟨B, C⟩, T⟩ := s
  simp only at c0 c1 c2 n1 n2 n3 n4 s1 s2 s3 s4 HBl hk
  unfold bitW nv
  simp only
  have e1 : IntKind.i64.wrap (C - c) = C - c := by simp [IntKind.wrap_i64]; omega
  clear h hn hq n1 n2 n3 n4 s1 s2 s3 s4 c2
  by_cases h1 : b = B
  · subst h1
    have d1 : decide (b = b) = true := decide_eq_true rfl
    have hk := hk rfl
    by_cases h2 : C < c
    · rw [if_neg (fun h => by omega)]
      have d2 : decide (C < c) = true := decide_eq_true h2
      clear hk
      go_enter Try.func32, Try.ntmps32
      go_wp2
      go_quiet (fail)
      go_wp2
      go_ret
      exact ⟨rfl, below_drewN HBl.out _⟩
    · rw [if_pos ⟨rfl, by omega⟩]
      have d2 : decide (C < c) = false := decide_eq_false h2
      obtain ⟨k, hkk⟩ : ∃ k : Nat, C - c = (k : Int) := ⟨(C - c).toNat, by omega⟩
      have hp := tv_one k (by omega)
      rw [hkk, Int.toNat_natCast]
      have e3 : IntKind.i64.wrap (C - c) = (k : Int) := by rw [e1, hkk]
      have e5 := tv_wrap (1#64 <<< k)
      have hk64 : (k : Int) < 64 := by omega
      have hk0 : (0 : Int) ≤ (k : Int) := by omega
      clear hk e1 h2
      go_enter Try.func32, Try.ntmps32
      go_wp2
      go_quiet (fail)
      go_wp2
      skip -- M3
      go_quiet (fail)
      skip -- M4
      go_wp2
      go_ret
      exact ⟨rfl, below_drewN (below_drewN HBl.out _) _⟩
  · rw [if_neg (fun h => h1 h.1)]
    have d1 : decide (b = B) = false := decide_eq_false h1
    go_enter Try.func32, Try.ntmps32
    go_wp2
    go_quiet (fail)
    go_wp2
    go_ret
    exact ⟨rfl, below_drewN HBl.out _⟩
theorem WinB.setT {W : World} {q : Nat} {s : Ws} (h : WinB W q s) (t : BitVec 64) : WinB (W.setCell ⟨q, 2, none⟩ (.int .u64 (tv t))) q ⟨s.n, t⟩ := by
  have := heap_setCells_same q _ [.int .u64 (tv t)] 2 W _ h
  exact this
theorem WinB.setN {W : World} {q : Nat} {s : Ws} (h : WinB W q s) (n : Nn) : WinB (W.setCells q 0 [.int .i64 n.b, .int .i64 n.c]) q ⟨n, s.t⟩ := by
  have := heap_setCells_same q _ [.int .i64 n.b, .int .i64 n.c] 0 W _ h
  exact this
theorem WinB.frozen {W : World} {q : Nat} {s : Ws} (h : WinB W q s) (i : Nat) : W.frozen? ⟨q, i, none⟩ = false := frozen_of_row _ _ _ _ _ h
theorem tv_shlm (x : BitVec 64) (k : Nat) : IntKind.u64.wrap (tv x * 2 ^ min k 64) = tv (x <<< k) := by
  rw [tv_shl]
  by_cases h : k ≤ 64
  · rw [Nat.min_eq_left h]
  · rw [Nat.min_eq_right (by omega), BitVec.shiftLeft_eq_zero (by omega), BitVec.shiftLeft_eq_zero (by omega)]
set_option maxRecDepth 100000 in
set_option maxHeartbeats 4000000 in
theorem rise_same (q : Nat) (s : Ws) (n : Nn) (w : World) (h : WinB w q s) (hs : s.ok) (hn : okN n = true) (hb : n.b = s.n.b) (hl : s.n.c < n.c) : Calls Try.prog 33 #[.pointer (some ⟨q, 0, none⟩), nv n] w fun e w' => e = .returned (.tuple #[]) ∧ WinB w' q (riseW s n) ∧ w.grownBy w' (some q) := by
  obtain ⟨c0, c1, c2⟩ := (h.later (below_a (.cells #[.int .i64 n.b, .int .i64 n.c] 24))).cells
  have HW := Bx.mk (h.later (below_a (.cells #[.int .i64 n.b, .int .i64 n.c] 24)))
  have HX : Bx (BoxN 24 w.heap.size n (w.alloc (.cells #[.int .i64 n.b, .int .i64 n.c] 24))) := Bx.mk (hnew _ _ _ rfl)
  have HG : Bx (w.grownBy (w.alloc (.cells #[.int .i64 n.b, .int .i64 n.c] 24)) (some q)) := Bx.mk (kb_below _ (below_a _))
  obtain ⟨n1, n2, n3, n4⟩ := (okN_iff n).1 hn
  obtain ⟨s1, s2, s3, s4⟩ := hs
  have hq := h.lt
  have hne : q ≠ w.heap.size := by omega
  have hne' : w.heap.size ≠ q := by omega
  clear hq h hn
  obtain ⟨b, c⟩ := n
  obtain ⟨⟨B, C⟩, T⟩ := s
  simp only at c0 c1 c2 n1 n2 n3 n4 s1 s2 s3 s4 HX HG HW hb hl
  subst hb
  unfold riseW nv
  simp only [if_true]
  obtain ⟨k, hk⟩ : ∃ k : Nat, c - C = (k : Int) := ⟨(c - C).toNat, by omega⟩
  rw [hk, Int.toNat_natCast]
  have e1 : IntKind.i64.wrap (c - C) = (k : Int) := by rw [← hk]; simp [IntKind.wrap_i64]; omega
  have e2 := tv_shlm T k
  have e3 : IntKind.u64.wrap (k : Int) = (k : Int) := by rw [IntKind.wrap_u64]; omega
  have f2 := HW.out.frozen 2
  have d1 : decide (b = b) = true := decide_eq_true rfl
  have hk0 : (0 : Int) ≤ (k : Int) := by omega
  have hk1 : (k : Int) ≤ 2147483647 := by omega
  clear hk hl n1 n2 n3 n4 s1 s2 s3 s4
  go_enter Try.func33, Try.ntmps33
  go_wp2
  go_quiet (fail)
  go_wp2
  skip -- M5
  go_region
  have HW2 : Bx (WinB (((w.alloc (.cells #[.int .i64 b, .int .i64 c] 24)).drewN (nq + 1)).setCell ⟨q, 2, none⟩ (.int .u64 (tv (T <<< k)))) q ⟨⟨b, C⟩, T <<< k⟩ ∧ BoxN 24 w.heap.size ⟨b, c⟩ (((w.alloc (.cells #[.int .i64 b, .int .i64 c] 24)).drewN (nq + 1)).setCell ⟨q, 2, none⟩ (.int .u64 (tv (T <<< k)))) ∧ w.grownBy (((w.alloc (.cells #[.int .i64 b, .int .i64 c] 24)).drewN (nq + 1)).setCell ⟨q, 2, none⟩ (.int .u64 (tv (T <<< k)))) (some q)) := Bx.mk (by
    have h1 := HW.out.later (below_drewN (Below.refl _ _) (nq + 1))
    have h2 := HX.out.later (below_drewN (Below.refl _ _) (nq + 1))
    exact ⟨h1.setT (T <<< k), h2.aside (kb_setCell _ 2 _) hne', kb_trans (kb_trans HG.out (kb_drewN _ _ _)) (kb_setCell _ 2 _)⟩)
  generalize (((w.alloc (.cells #[.int .i64 b, .int .i64 c] 24)).drewN (nq + 1)).setCell ⟨q, 2, none⟩ (.int .u64 (tv (T <<< k)))) = w2 at *
  clear c0 c1 c2 f2 HW HX HG
  have f0 := HW2.out.1.frozen 0
  have f1 := HW2.out.1.frozen 1
  obtain ⟨c0, c1, c2⟩ := HW2.out.1.cells
  obtain ⟨x0, x1⟩ := HW2.out.2.1.cells
  go_wp2
  go_end0
  exact ⟨rfl, HW2.out.1.setN ⟨b, c⟩, kb_trans HW2.out.2.2 (kb_trans (kb_setCell _ 0 _) (kb_setCell _ 1 _))⟩
set_option maxRecDepth 100000 in
set_option maxHeartbeats 4000000 in
theorem rise_other (q : Nat) (s : Ws) (n : Nn) (w : World) (h : WinB w q s) (hs : s.ok) (hn : okN n = true) (hb : n.b ≠ s.n.b) : Calls Try.prog 33 #[.pointer (some ⟨q, 0, none⟩), nv n] w fun e w' => e = .returned (.tuple #[]) ∧ WinB w' q (riseW s n) ∧ w.grownBy w' (some q) := by
  obtain ⟨c0, c1, c2⟩ := (h.later (below_a (.cells #[.int .i64 n.b, .int .i64 n.c] 24))).cells
  have HW := Bx.mk (h.later (below_a (.cells #[.int .i64 n.b, .int .i64 n.c] 24)))
  have HX : Bx (BoxN 24 w.heap.size n (w.alloc (.cells #[.int .i64 n.b, .int .i64 n.c] 24))) := Bx.mk (hnew _ _ _ rfl)
  have HG : Bx (w.grownBy (w.alloc (.cells #[.int .i64 n.b, .int .i64 n.c] 24)) (some q)) := Bx.mk (kb_below _ (below_a _))
  obtain ⟨n1, n2, n3, n4⟩ := (okN_iff n).1 hn
  obtain ⟨s1, s2, s3, s4⟩ := hs
  have hq := h.lt
  have hne : q ≠ w.heap.size := by omega
  have hne' : w.heap.size ≠ q := by omega
  clear hq h hn
  obtain ⟨b, c⟩ := n
  obtain ⟨⟨B, C⟩, T⟩ := s
  simp only at c0 c1 c2 n1 n2 n3 n4 s1 s2 s3 s4 HX HG HW hb
  unfold riseW nv
  simp only
  rw [if_neg hb]
  have d1 : decide (b = B) = false := decide_eq_false hb
  have f2 := HW.out.frozen 2
  have hb' : ¬ b = B := hb
  clear hb n1 n2 n3 n4 s1 s2 s3 s4
  go_enter Try.func33, Try.ntmps33
  go_wp2
  go_quiet (fail)
  have HW1 : Bx (WinB ((w.alloc (.cells #[.int .i64 b, .int .i64 c] 24)).drewN nq) q ⟨⟨B, C⟩, T⟩ ∧ BoxN 24 w.heap.size ⟨b, c⟩ ((w.alloc (.cells #[.int .i64 b, .int .i64 c] 24)).drewN nq) ∧ w.grownBy ((w.alloc (.cells #[.int .i64 b, .int .i64 c] 24)).drewN nq) (some q)) := Bx.mk (by
    have h1 := HW.out.later (below_drewN (Below.refl _ _) nq)
    have h2 := HX.out.later (below_drewN (Below.refl _ _) nq)
    exact ⟨h1, h2, kb_trans HG.out (kb_drewN _ _ _)⟩)
  generalize (w.alloc (.cells #[.int .i64 b, .int .i64 c] 24)).drewN nq = w1 at *
  clear c0 c1 c2 f2 HW HX HG
  have f2 := HW1.out.1.frozen 2
  obtain ⟨c0, c1, c2⟩ := HW1.out.1.cells
  go_upto_region 4 with fail
  have HW2 : Bx (WinB (w1.setCell ⟨q, 2, none⟩ (.int .u64 0)) q ⟨⟨B, C⟩, 0#64⟩ ∧ BoxN 24 w.heap.size ⟨b, c⟩ (w1.setCell ⟨q, 2, none⟩ (.int .u64 0)) ∧ w.grownBy (w1.setCell ⟨q, 2, none⟩ (.int .u64 0)) (some q)) := Bx.mk ⟨HW1.out.1.setT 0#64, HW1.out.2.1.aside (kb_setCell _ 2 _) hne', kb_trans HW1.out.2.2 (kb_setCell _ 2 _)⟩
  generalize w1.setCell ⟨q, 2, none⟩ (.int .u64 0) = w2 at *
  clear c0 c1 c2 f2 HW1
  have f0 := HW2.out.1.frozen 0
  have f1 := HW2.out.1.frozen 1
  obtain ⟨c0, c1, c2⟩ := HW2.out.1.cells
  obtain ⟨x0, x1⟩ := HW2.out.2.1.cells
  go_wp2
  go_end0
  exact ⟨rfl, HW2.out.1.setN ⟨b, c⟩, kb_trans HW2.out.2.2 (kb_trans (kb_setCell _ 0 _) (kb_setCell _ 1 _))⟩
end Go.Proofs.Ytoohcjdjmafliaa
namespace Go.Proofs.Ytoohcjdjmafliaa
open Go Go.RowKit
/-- May a nonce be taken? -/
def lookW (s : Ws) (n : Nn) : Int := if okN n = false then 10 else if forgW s n = true then 9 else if s.t &&& bitW s n = 0#64 then 0 else 8
/-- A window behind a Take. -/
def takeW (s : Ws) (n : Nn) : Ws := if lookW s n = 0 then ⟨(if lessN s.n n = true then riseW s n else s).n, (if lessN s.n n = true then riseW s n else s).t ||| bitW (if lessN s.n n = true then riseW s n else s) n⟩ else s
theorem forgW_false {s : Ws} {n : Nn} (h : forgW s n = false) (hb : n.b = s.n.b) : s.n.c - n.c < 64 := by
  unfold forgW at h
  have := of_decide_eq_false h
  omega
theorem takeW_ok {s : Ws} {n : Nn} (h : s.ok) : (takeW s n).ok := by
  unfold takeW
  split
  · rename_i h0
    have hok : okN n = true := by
      unfold lookW at h0
      split at h0
      · omega
      · rename_i h1; simpa using h1
    obtain ⟨h1, h2, h3, h4⟩ := (okN_iff n).1 hok
    split
    · exact ⟨by show 0 ≤ n.b; omega, h2, by show 0 ≤ n.c; omega, h4⟩
    · exact h
  · exact h
theorem zero_ok : Ws.zero.ok := by unfold Ws.zero Ws.ok Nn.zero; simp
set_option maxRecDepth 100000 in
set_option maxHeartbeats 4000000 in
theorem look_any (q : Nat) (s : Ws) (n : Nn) (w : World) (h : WinB w q s) (hs : s.ok) : Calls Try.prog 10 #[.pointer (some ⟨q, 0, none⟩), nv n] w fun e w' => e = .returned (.int .i64 (lookW s n)) ∧ Below w.heap.size w w' := by
  have R1 : Bx (WinB (w.alloc (.cells #[.int .i64 n.b, .int .i64 n.c] 24)) q s ∧ BoxN 24 w.heap.size n (w.alloc (.cells #[.int .i64 n.b, .int .i64 n.c] 24)) ∧ Below w.heap.size w (w.alloc (.cells #[.int .i64 n.b, .int .i64 n.c] 24))) := Bx.mk ⟨h.later (below_a _), hnew _ _ _ rfl, below_a _⟩
  have HCh := Bx.mk fun (W : World) => check_any n W
  have HFo := Bx.mk fun (hn : okN n = true) (W : World) (h : WinB W q s) => forgot_any q s n W h hs hn
  have HBit := Bx.mk fun (hn : okN n = true) (hf : forgW s n = false) (W : World) (h : WinB W q s) => bit_any12 q s n W h hs hn (fun e => forgW_false hf e)
  clear h hs
  unfold lookW
  cases hok : okN n with
  | false =>
    rw [hok] at HCh
    obtain ⟨b, c⟩ := n
    unfold nv at HCh ⊢
    clear HFo HBit hok
    rw [if_pos rfl]
    go_enter Try.func10, Try.ntmps10
    go_wp2_with fail
    refine (HCh.out _).mono ?_
    rintro e w2 ⟨rfl, hb⟩
    have R2 := Bx.mk (R1.out.2.2.trans (hb.mono R1.out.2.2.size))
    clear hb R1 HCh
    go_wp2
    go_ret
    exact ⟨rfl, R2.out⟩
  | true =>
    rw [hok] at HCh
    have HFo := Bx.mk (HFo.out hok)
    have HBit := Bx.mk (HBit.out hok)
    clear hok
    rw [if_neg (by simp)]
    cases hf : forgW s n with
    | true =>
      rw [hf] at HFo
      clear hf HBit
      rw [if_pos rfl]
      obtain ⟨b, c⟩ := n
      unfold nv at HCh HFo ⊢
      go_enter Try.func10, Try.ntmps10
      go_wp2_with fail
      refine (HCh.out _).mono ?_
      rintro e w2 ⟨rfl, hb⟩
      have R2 := Bx.mk (And.intro (R1.out.1.later hb) (And.intro (R1.out.2.1.later hb) (R1.out.2.2.trans (hb.mono R1.out.2.2.size))))
      clear hb R1 HCh
      obtain ⟨x0, x1⟩ := R2.out.2.1.cells
      go_wp2_with fail
      refine (HFo.out _ R2.out.1).mono ?_
      rintro e w3 ⟨rfl, hb⟩
      have R3 := Bx.mk (R2.out.2.2.trans (hb.mono R2.out.2.2.size))
      clear hb R2 HFo x0 x1
      go_wp2
      go_ret
      exact ⟨rfl, R3.out⟩
    | false =>
      rw [hf] at HFo
      have HBit := Bx.mk (HBit.out hf)
      clear hf
      rw [if_neg (by simp)]
      have HV := Bx.mk (tv_eq (s.t &&& bitW s n))
      have HAnd := tv_and s.t (bitW s n)
      generalize bitW s n = z at *
      obtain ⟨b, c⟩ := n
      obtain ⟨⟨B, C⟩, T⟩ := s
      unfold nv at HCh HFo HBit ⊢
      simp only at HAnd HV ⊢
      obtain ⟨X, hX⟩ : ∃ X, w.heap.size = X := ⟨_, rfl⟩
      rw [hX] at R1 ⊢
      generalize T &&& z = y at *
      by_cases hy : y = 0#64
      · rw [if_pos hy]
        have h0 : tv y = 0 := HV.out.2 hy
        rw [h0] at HAnd
        clear hy h0 HV
        go_enter Try.func10, Try.ntmps10
        go_wp2_with fail
        refine (HCh.out _).mono ?_
        rintro e w2 ⟨rfl, hb⟩
        have R2 := Bx.mk (And.intro (R1.out.1.later hb) (And.intro (R1.out.2.1.later hb) (R1.out.2.2.trans (hb.mono (hX ▸ R1.out.2.2.size)))))
        clear hb R1 HCh
        obtain ⟨x0, x1⟩ := R2.out.2.1.cells
        go_wp2_with fail
        refine (HFo.out _ R2.out.1).mono ?_
        rintro e w3 ⟨rfl, hb⟩
        have R3 := Bx.mk (And.intro (R2.out.1.later hb) (And.intro (R2.out.2.1.later hb) (R2.out.2.2.trans (hb.mono (hX ▸ R2.out.2.2.size)))))
        clear hb R2 HFo x0 x1
        go_upto_region 8 with fail
        skip -- M1
        refine wp_region_noPanic ?_
        refine wp_region_held_drew (S := fun W => W.cell? ⟨q, 2, none⟩ = some (.int .u64 (tv T)) ∧ W.rangeAt X 0 [.int .i64 b, .int .i64 c]) (by kernel_rfl) (⟨(R3.out.1.later (Below.refl _ _).drew).cells.2.2, (R3.out.2.1.later (Below.refl _ _).drew).range⟩) (fun hHeld => ?_)
        have R0 : Bx (WinB w3.drew q ⟨⟨B, C⟩, T⟩ ∧ BoxN 24 X ⟨b, c⟩ w3.drew ∧ Below X w w3.drew) := Bx.mk ⟨R3.out.1.later (Below.refl _ _).drew, R3.out.2.1.later (Below.refl _ _).drew, R3.out.2.2.drew⟩
        generalize w3.drew = W0 at *
        clear R3
        refine takeL 0 (v := ?_) rfl (by kernel_rfl) (by kernel_rfl) (by kernel_rfl) (fun _ _ _ h => h) (Or.inl ⟨by rfl, ?_⟩) hHeld ?_
        rotate_left 1
        · (intro w hSw; go_simp; try with_reducible rfl)
        try simp only [Act.put, List.setIfInBounds_toArray, List.set_cons_zero, List.set_cons_succ]
        refine takeL 1 (v := ?_) rfl (by kernel_rfl) (by kernel_rfl) (by kernel_rfl) (fun _ _ _ h => h) (Or.inl ⟨by rfl, ?_⟩) hHeld ?_
        rotate_left 1
        · (intro w hSw; go_simp; try with_reducible rfl)
        try simp only [Act.put, List.setIfInBounds_toArray, List.set_cons_zero, List.set_cons_succ]
        refine takeL 2 (v := ?_) rfl (by kernel_rfl) (by kernel_rfl) (by kernel_rfl) (fun _ _ _ h => h) (Or.inl ⟨by rfl, ?_⟩) hHeld ?_
        rotate_left 1
        · (intro w hSw; go_simp; try with_reducible rfl)
        try simp only [Act.put, List.setIfInBounds_toArray, List.set_cons_zero, List.set_cons_succ]
        refine takeL 3 (v := ?_) rfl (by kernel_rfl) (by kernel_rfl) (by kernel_rfl) (fun _ _ _ h => h) (Or.inl ⟨by rfl, ?_⟩) hHeld ?_
        rotate_left 1
        · (intro w hSw; obtain ⟨q1, q2⟩ := hSw; clear q2; go_simp; try with_reducible rfl)
        try simp only [Act.put, List.setIfInBounds_toArray, List.set_cons_zero, List.set_cons_succ]
        refine takeL 4 (v := ?_) rfl (by kernel_rfl) (by kernel_rfl) (by kernel_rfl) (fun _ _ _ h => h) (Or.inl ⟨by rfl, ?_⟩) hHeld ?_
        rotate_left 1
        · (intro w hSw; go_simp; try with_reducible rfl)
        try simp only [Act.put, List.setIfInBounds_toArray, List.set_cons_zero, List.set_cons_succ]
        refine takeL 5 rfl (by kernel_rfl) (by kernel_rfl) (by kernel_rfl) (fun _ _ _ h => h) (yieldsIf_load_mid (by rfl) _ _ rfl _ _ rfl _ _ (fun w hSw => hSw.2) Try.underlying24 rfl (by kernel_rfl)) hHeld ?_
        try simp only [Act.put, List.setIfInBounds_toArray, List.set_cons_zero, List.set_cons_succ]
        refine stepL 6 (by kernel_rfl) rfl (fun K hK => ?_)
        go_simp
        refine (HBit.out W0 R0.out.1).mono ?_
        rintro e W1 ⟨rfl, hb⟩
        show K _ _
        have R1 : Bx (WinB W1 q ⟨⟨B, C⟩, T⟩ ∧ BoxN 24 X ⟨b, c⟩ W1 ∧ Below X w W1) := Bx.mk ⟨R0.out.1.later hb, R0.out.2.1.later hb, R0.out.2.2.trans (hb.mono (hX ▸ R0.out.2.2.size))⟩
        clear hb R0
        refine hK.out _ _ (⟨R1.out.1.cells.2.2, R1.out.2.1.range⟩) (fun hHeld => ?_)
        clear hK K
        try simp only [Act.put, List.setIfInBounds_toArray, List.set_cons_zero, List.set_cons_succ]
        refine takeL 7 (v := ?_) rfl (by kernel_rfl) (by kernel_rfl) (by kernel_rfl) (fun _ _ _ h => h) (Or.inl ⟨by rfl, ?_⟩) hHeld ?_
        rotate_left 1
        · (intro w hSw; go_simp; try with_reducible rfl)
        try simp only [Act.put, List.setIfInBounds_toArray, List.set_cons_zero, List.set_cons_succ]
        refine takeL 8 (v := ?_) rfl (by kernel_rfl) (by kernel_rfl) (by kernel_rfl) (fun _ _ _ h => h) (Or.inl ⟨by rfl, ?_⟩) hHeld ?_
        rotate_left 1
        · (intro w hSw; go_simp; try with_reducible rfl)
        try simp only [Act.put, List.setIfInBounds_toArray, List.set_cons_zero, List.set_cons_succ]
        refine takeL 9 (v := ?_) rfl (by kernel_rfl) (by kernel_rfl) (by kernel_rfl) (fun _ _ _ h => h) (Or.inl ⟨by rfl, ?_⟩) hHeld ?_
        rotate_left 1
        · (intro w hSw; go_simp; try with_reducible rfl)
        try simp only [Act.put, List.setIfInBounds_toArray, List.set_cons_zero, List.set_cons_succ]
        refine wpAnyH_done (by kernel_rfl) ?_ _
        refine NoPanic.normal ?_
        clear hHeld
        go_wp2
        go_ret
        exact ⟨rfl, R1.out.2.2⟩
      · rw [if_neg hy]
        have h0 : ¬ tv y = 0 := fun h => hy (HV.out.1 h)
        clear hy HV
        go_enter Try.func10, Try.ntmps10
        go_wp2_with fail
        refine (HCh.out _).mono ?_
        rintro e w2 ⟨rfl, hb⟩
        have R2 := Bx.mk (And.intro (R1.out.1.later hb) (And.intro (R1.out.2.1.later hb) (R1.out.2.2.trans (hb.mono (hX ▸ R1.out.2.2.size)))))
        clear hb R1 HCh
        obtain ⟨x0, x1⟩ := R2.out.2.1.cells
        go_wp2_with fail
        refine (HFo.out _ R2.out.1).mono ?_
        rintro e w3 ⟨rfl, hb⟩
        have R3 := Bx.mk (And.intro (R2.out.1.later hb) (And.intro (R2.out.2.1.later hb) (R2.out.2.2.trans (hb.mono (hX ▸ R2.out.2.2.size)))))
        clear hb R2 HFo x0 x1
        go_upto_region 8 with fail
        refine wp_region_noPanic ?_
        refine wp_region_held_drew (S := fun W => W.cell? ⟨q, 2, none⟩ = some (.int .u64 (tv T)) ∧ W.rangeAt X 0 [.int .i64 b, .int .i64 c]) (by kernel_rfl) (⟨(R3.out.1.later (Below.refl _ _).drew).cells.2.2, (R3.out.2.1.later (Below.refl _ _).drew).range⟩) (fun hHeld => ?_)
        have R0 : Bx (WinB w3.drew q ⟨⟨B, C⟩, T⟩ ∧ BoxN 24 X ⟨b, c⟩ w3.drew ∧ Below X w w3.drew) := Bx.mk ⟨R3.out.1.later (Below.refl _ _).drew, R3.out.2.1.later (Below.refl _ _).drew, R3.out.2.2.drew⟩
        generalize w3.drew = W0 at *
        clear R3
        refine takeL 0 (v := ?_) rfl (by kernel_rfl) (by kernel_rfl) (by kernel_rfl) (fun _ _ _ h => h) (Or.inl ⟨by rfl, ?_⟩) hHeld ?_
        rotate_left 1
        · (intro w hSw; go_simp; try with_reducible rfl)
        try simp only [Act.put, List.setIfInBounds_toArray, List.set_cons_zero, List.set_cons_succ]
        refine takeL 1 (v := ?_) rfl (by kernel_rfl) (by kernel_rfl) (by kernel_rfl) (fun _ _ _ h => h) (Or.inl ⟨by rfl, ?_⟩) hHeld ?_
        rotate_left 1
        · (intro w hSw; go_simp; try with_reducible rfl)
        try simp only [Act.put, List.setIfInBounds_toArray, List.set_cons_zero, List.set_cons_succ]
        refine takeL 2 (v := ?_) rfl (by kernel_rfl) (by kernel_rfl) (by kernel_rfl) (fun _ _ _ h => h) (Or.inl ⟨by rfl, ?_⟩) hHeld ?_
        rotate_left 1
        · (intro w hSw; go_simp; try with_reducible rfl)
        try simp only [Act.put, List.setIfInBounds_toArray, List.set_cons_zero, List.set_cons_succ]
        refine takeL 3 (v := ?_) rfl (by kernel_rfl) (by kernel_rfl) (by kernel_rfl) (fun _ _ _ h => h) (Or.inl ⟨by rfl, ?_⟩) hHeld ?_
        rotate_left 1
        · (intro w hSw; obtain ⟨q1, q2⟩ := hSw; clear q2; go_simp; try with_reducible rfl)
        try simp only [Act.put, List.setIfInBounds_toArray, List.set_cons_zero, List.set_cons_succ]
        refine takeL 4 (v := ?_) rfl (by kernel_rfl) (by kernel_rfl) (by kernel_rfl) (fun _ _ _ h => h) (Or.inl ⟨by rfl, ?_⟩) hHeld ?_
        rotate_left 1
        · (intro w hSw; go_simp; try with_reducible rfl)
        try simp only [Act.put, List.setIfInBounds_toArray, List.set_cons_zero, List.set_cons_succ]
        refine takeL 5 rfl (by kernel_rfl) (by kernel_rfl) (by kernel_rfl) (fun _ _ _ h => h) (yieldsIf_load_mid (by rfl) _ _ rfl _ _ rfl _ _ (fun w hSw => hSw.2) Try.underlying24 rfl (by kernel_rfl)) hHeld ?_
        try simp only [Act.put, List.setIfInBounds_toArray, List.set_cons_zero, List.set_cons_succ]
        refine stepL 6 (by kernel_rfl) rfl (fun K hK => ?_)
        go_simp
        refine (HBit.out W0 R0.out.1).mono ?_
        rintro e W1 ⟨rfl, hb⟩
        show K _ _
        have R1 : Bx (WinB W1 q ⟨⟨B, C⟩, T⟩ ∧ BoxN 24 X ⟨b, c⟩ W1 ∧ Below X w W1) := Bx.mk ⟨R0.out.1.later hb, R0.out.2.1.later hb, R0.out.2.2.trans (hb.mono (hX ▸ R0.out.2.2.size))⟩
        clear hb R0
        refine hK.out _ _ (⟨R1.out.1.cells.2.2, R1.out.2.1.range⟩) (fun hHeld => ?_)
        clear hK K
        try simp only [Act.put, List.setIfInBounds_toArray, List.set_cons_zero, List.set_cons_succ]
        refine takeL 7 (v := ?_) rfl (by kernel_rfl) (by kernel_rfl) (by kernel_rfl) (fun _ _ _ h => h) (Or.inl ⟨by rfl, ?_⟩) hHeld ?_
        rotate_left 1
        · (intro w hSw; go_simp; try with_reducible rfl)
        try simp only [Act.put, List.setIfInBounds_toArray, List.set_cons_zero, List.set_cons_succ]
        refine takeL 8 (v := ?_) rfl (by kernel_rfl) (by kernel_rfl) (by kernel_rfl) (fun _ _ _ h => h) (Or.inl ⟨by rfl, ?_⟩) hHeld ?_
        rotate_left 1
        · (intro w hSw; go_simp; try with_reducible rfl)
        try simp only [Act.put, List.setIfInBounds_toArray, List.set_cons_zero, List.set_cons_succ]
        refine takeL 9 (v := ?_) rfl (by kernel_rfl) (by kernel_rfl) (by kernel_rfl) (fun _ _ _ h => h) (Or.inl ⟨by rfl, ?_⟩) hHeld ?_
        rotate_left 1
        · (intro w hSw; go_simp; try with_reducible rfl)
        try simp only [Act.put, List.setIfInBounds_toArray, List.set_cons_zero, List.set_cons_succ]
        refine wpAnyH_done (by kernel_rfl) ?_ _
        refine NoPanic.normal ?_
        clear hHeld
        go_wp2
        go_ret
        exact ⟨rfl, R1.out.2.2⟩
end Go.Proofs.Ytoohcjdjmafliaa
