/-
  Claims: the walks of Bytes and of the chapter's example.
  Claims: the document's claims, whether they are right, their bytes.
-/
import Derived.Test.YtaoekfomffebhaaDoorCa
import Derived.Test.YtaoekfomffebhaaDoorIi
import Derived.Test.YtaoekfomffebhaaDoorP1
namespace Go.Proofs.YtaoekfomffebhaaDoor
open Go Go.RowKit
/-- The bytes of claims. -/
def clB (c : Cl) : List UInt8 := beN 2 c.id.toNat ++ beN 1 c.ro.toNat ++ beN 4 c.ex.toNat ++ beN 2 c.se.toNat
theorem clB_length (c : Cl) : (clB c).length = 9 := by simp [clB, beN_length]
/-- The box of claims. -/
def clC (c : Cl) : Array Value := #[.int .i64 c.id, .int .i64 c.ro, .int .i64 c.ex, .int .i64 c.se]
/-- What stays while claims are written. -/
structure BC (w : World) (B p : Nat) (c : Cl) (st : List UInt8 × Int) (W : World) : Prop where
  wr : IsW W p st
  box : W.heap[B]? = some (.cells (clC c) 30 (0, 0))
  below : Below B w W
  lt : B < p
theorem BC.alloc {w : World} {B p : Nat} {c : Cl} {st : List UInt8 × Int} {W : World} (h : BC w B p c st W) (o : Obj) : BC w B p c st (W.alloc o) :=
  ⟨h.wr.later (below_a _) h.wr.lt, by rw [hold _ _ _ (Nat.lt_trans h.lt h.wr.lt)]; exact h.box, h.below.alloc (Nat.le_of_lt (Nat.lt_trans h.lt h.wr.lt)) _, h.lt⟩
theorem BC.drew {w : World} {B p : Nat} {c : Cl} {st : List UInt8 × Int} {W : World} (h : BC w B p c st W) : BC w B p c st W.drew :=
  ⟨h.wr.later (Below.refl _ _).drew h.wr.lt, h.box, h.below.drew, h.lt⟩
theorem BC.grown {w : World} {B p : Nat} {c : Cl} {st st1 : List UInt8 × Int} {W W1 : World} (h : BC w B p c st W) (h1 : IsW W1 p st1) (hg : W.grownBy W1 (some p)) : BC w B p c st1 W1 :=
  ⟨h1, by rw [hg.block B (Nat.lt_trans h.lt h.wr.lt) (fun e => by injection e with e; have := h.lt; omega)]; exact h.box, h.below.trans (grown_below hg (Nat.le_of_lt h.lt) (Nat.le_of_lt (Nat.lt_trans h.lt h.wr.lt))), h.lt⟩
theorem BC.c0 {w : World} {B p : Nat} {i r x s : Int} {st : List UInt8 × Int} {W : World} (h : BC w B p ⟨i, r, x, s⟩ st W) : W.cell? ⟨B, 0, none⟩ = some (.int .i64 i) := by rw [cell_of_row _ _ _ _ _ _ h.box]; rfl
theorem BC.c1 {w : World} {B p : Nat} {i r x s : Int} {st : List UInt8 × Int} {W : World} (h : BC w B p ⟨i, r, x, s⟩ st W) : W.cell? ⟨B, 1, none⟩ = some (.int .i64 r) := by rw [cell_of_row _ _ _ _ _ _ h.box]; rfl
theorem BC.c2 {w : World} {B p : Nat} {i r x s : Int} {st : List UInt8 × Int} {W : World} (h : BC w B p ⟨i, r, x, s⟩ st W) : W.cell? ⟨B, 2, none⟩ = some (.int .i64 x) := by rw [cell_of_row _ _ _ _ _ _ h.box]; rfl
theorem BC.c3 {w : World} {B p : Nat} {i r x s : Int} {st : List UInt8 × Int} {W : World} (h : BC w B p ⟨i, r, x, s⟩ st W) : W.cell? ⟨B, 3, none⟩ = some (.int .i64 s) := by rw [cell_of_row _ _ _ _ _ _ h.box]; rfl
theorem okC_iff (i r x s : Int) : okC ⟨i, r, x, s⟩ = true ↔ 1 ≤ i ∧ i ≤ 65535 ∧ 0 ≤ r ∧ r ≤ 255 ∧ 0 ≤ x ∧ x ≤ 1073741824 ∧ 1 ≤ s ∧ s ≤ 65535 := by
  simp [okC, and_assoc]
theorem put_num (l : List UInt8) (s n : Int) (h0 : 0 ≤ s) (h3 : s ≤ 3) (h1 : 0 ≤ n) (h2 : n ≤ most s) (hl : l.length ≤ 1000) : [fNum s n].foldl putS (l, 0) = (l ++ beN (wid s) n.toNat, 0) := by
  have hc : chk (fNum s n) = 0 := by
    unfold chk fNum
    simp only
    rw [if_neg (by omega), if_neg (by omega), if_neg (by simp; omega)]
  have he : enc (fNum s n) = beN (wid s) n.toNat := by unfold enc fNum; simp only; rw [if_neg (by omega)]
  have hw := wid_le s
  rw [show [fNum s n].foldl putS (l, 0) = putS (l, 0) (fNum s n) from rfl, putS_rfs]
  have hr : rfs (l, 0) (fNum s n) = 0 := by
    unfold rfs
    simp only
    rw [if_neg (by simp), if_neg (by rw [hc]; simp), if_neg (by rw [he, beN_length]; omega)]
  rw [if_pos hr, he]
theorem put_all (i r x s : Int) (h : okC ⟨i, r, x, s⟩ = true) : [fNum 1 s].foldl putS ([fNum 2 x].foldl putS ([fNum 0 r].foldl putS ([fNum 1 i].foldl putS ([], 0)))) = (clB ⟨i, r, x, s⟩, 0) := by
  have hh := (okC_iff i r x s).mp h
  rw [put_num [] 1 i (by omega) (by omega) (by omega) (by unfold most; simp; omega) (by simp)]
  rw [put_num _ 0 r (by omega) (by omega) (by omega) (by unfold most; simp; omega) (by simp [beN_length, wid])]
  rw [put_num _ 2 x (by omega) (by omega) (by omega) (by unfold most; simp; omega) (by simp [beN_length, wid])]
  rw [put_num _ 1 s (by omega) (by omega) (by omega) (by unfold most; simp; omega) (by simp [beN_length, wid])]
  rfl
set_option maxRecDepth 100000 in
set_option maxHeartbeats 4000000 in
theorem bytes_ok (c : Cl) (w : World) (hc : okC c = true) : Calls Tryd.prog 45 #[clV c] w fun e w' => ∃ v, e = .returned (.tuple #[v, .int .i64 0]) ∧ OwnB w' w.heap.size v (clB c) ∧ Below w.heap.size w w' := by
  obtain ⟨i, r, x, s⟩ := c
  have HOK := Bx.mk ((okC_iff i r x s).mp hc)
  have HP := Bx.mk (put_all i r x s hc)
  have HK := fun (W : World) => ccheck_any ⟨i, r, x, s⟩ W
  rw [if_pos hc] at HK
  clear hc
  obtain ⟨z, hz, hzz⟩ := zero_wr
  have HZ := Bx.mk hzz
  clear hzz
  obtain ⟨B, hB⟩ : ∃ B, w.heap.size = B := ⟨_, rfl⟩
  rw [hB]
  have HB := Bx.mk hB
  have HX : Bx ((w.alloc (.cells #[.int .i64 i, .int .i64 r, .int .i64 x, .int .i64 s] 30)).heap[B]? = some (.cells (clC ⟨i, r, x, s⟩) 30 (0, 0)) ∧ Below B w (w.alloc (.cells #[.int .i64 i, .int .i64 r, .int .i64 x, .int .i64 s] 30)) ∧ (w.alloc (.cells #[.int .i64 i, .int .i64 r, .int .i64 x, .int .i64 s] 30)).heap.size = B + 1) := Bx.mk ⟨by rw [hnew _ _ _ hB.symm]; rfl, by rw [← hB]; exact below_a _, by simp [hB]⟩
  unfold clV at HK ⊢
  simp only at HK ⊢
  go_enter Tryd.func45, Tryd.ntmps45
  go_wp2_with fail
  refine (HK _).mono ?_
  rintro e w2 ⟨rfl, hb2⟩
  obtain ⟨p, hp⟩ : ∃ p, w2.heap.size = p := ⟨_, rfl⟩
  have H2 : Bx (BC w B p ⟨i, r, x, s⟩ ([], 0) (w2.alloc (.cells z 118))) := Bx.mk ⟨by rw [← hp]; exact new_wr w2 z HZ.out, by
      rw [hold _ _ _ (by have := hb2.size; have := HX.out.2.2; omega), hb2.block B (by have := HX.out.2.2; omega)]
      exact HX.out.1, (HX.out.2.1.trans (hb2.mono (by have := HX.out.2.2; omega))).alloc (by have := hb2.size; have := HX.out.2.2; omega) _, by have := hb2.size; have := HX.out.2.2; omega⟩
  clear hb2 HX HK
  go_upto_region 5 with (fail)
  clear hp
  generalize w2.alloc (.cells z 118) = w3 at *
  have HC := Bx.mk H2.out.drew
  clear H2 hz HZ
  refine wp_region_noPanic ?_
  refine wp_region_held_drew (S := fun W => W.cell? ⟨B, 0, none⟩ = some (.int .i64 i) ∧ W.cell? ⟨B, 1, none⟩ = some (.int .i64 r)) (by kernel_rfl) (⟨HC.out.c0, HC.out.c1⟩) (fun hHeld => ?_)
  generalize w3.drew = W0 at *
  refine takeL 0 (v := ?_) rfl (by kernel_rfl) (by kernel_rfl) (by kernel_rfl) (fun _ _ _ h => h) (Or.inl ⟨by rfl, ?_⟩) hHeld ?_
  rotate_left 1
  · (intro w hSw; go_simp; try with_reducible rfl)
  try simp only [Act.put, List.setIfInBounds_toArray, List.set_cons_zero, List.set_cons_succ]
  refine takeL 1 (v := ?_) rfl (by kernel_rfl) (by kernel_rfl) (by kernel_rfl) (fun _ _ _ h => h) (Or.inl ⟨by rfl, ?_⟩) hHeld ?_
  rotate_left 1
  · (intro w hSw; go_simp; try with_reducible rfl)
  try simp only [Act.put, List.setIfInBounds_toArray, List.set_cons_zero, List.set_cons_succ]
  refine takeL 4 (v := ?_) rfl (by kernel_rfl) (by kernel_rfl) (by kernel_rfl) (fun _ _ _ h => h) (Or.inl ⟨by rfl, ?_⟩) hHeld ?_
  rotate_left 1
  · (intro w hSw; go_simp; try with_reducible rfl)
  try simp only [Act.put, List.setIfInBounds_toArray, List.set_cons_zero, List.set_cons_succ]
  refine takeL 5 (v := ?_) rfl (by kernel_rfl) (by kernel_rfl) (by kernel_rfl) (fun _ _ _ h => h) (Or.inl ⟨by rfl, ?_⟩) hHeld ?_
  rotate_left 1
  · (intro w hSw; go_simp; try with_reducible rfl)
  try simp only [Act.put, List.setIfInBounds_toArray, List.set_cons_zero, List.set_cons_succ]
  refine wpAnyH_ready (rs := [2, 6]) (by kernel_rfl) (by simp) ?_
  refine consM 2 rfl (fun K hK => ?_) (consM 6 rfl (fun K hK => ?_) AllReadyH.nil)
  · go_simp
    have b1 : Bx (IntsN (W0.alloc (.cells #[.int .i64 i] 3)) p (.slice (some ⟨W0.heap.size, 0, none⟩) 1 1) [i]) := Bx.mk (ints_one W0 p i _ HC.out.wr.lt)
    have HC := Bx.mk (HC.out.alloc (.cells #[.int .i64 i] 3))
    refine hK.out _ _ ⟨HC.out.c0, HC.out.c1⟩ (fun hHeld => ?_)
    clear hK K
    try simp only [Act.put, List.setIfInBounds_toArray, List.set_cons_zero, List.set_cons_succ]
    generalize W0.alloc (.cells #[.int .i64 i] 3) = W1 at *
    generalize W0.heap.size = Db1 at *
    refine wpAnyH_ready (rs := [3, 6]) (by kernel_rfl) (by simp) ?_
    refine consM 3 rfl (fun K hK => ?_) (consM 6 rfl (fun K hK => ?_) AllReadyH.nil)
    · go_simp
      refine (wnum_any 1 [i] _ p _ W1 HC.out.wr b1.out (fun n hn => by simp at hn; subst hn; have := HOK.out; omega) (by simp)).mono ?_
      rintro e W2 ⟨rfl, hw, hg⟩
      show K _ _
      have HC := Bx.mk (HC.out.grown hw hg)
      clear hw hg b1
      refine hK.out _ _ ⟨HC.out.c0, HC.out.c1⟩ (fun hHeld => ?_)
      clear hK K
      try simp only [Act.put, List.setIfInBounds_toArray, List.set_cons_zero, List.set_cons_succ]
      refine stepL 6 (by kernel_rfl) rfl (fun K hK => ?_)
      go_simp
      have b2 : Bx (IntsN (W2.alloc (.cells #[.int .i64 r] 3)) p (.slice (some ⟨W2.heap.size, 0, none⟩) 1 1) [r]) := Bx.mk (ints_one W2 p r _ HC.out.wr.lt)
      have HC := Bx.mk (HC.out.alloc (.cells #[.int .i64 r] 3))
      refine hK.out _ _ ⟨HC.out.c0, HC.out.c1⟩ (fun hHeld => ?_)
      clear hK K
      try simp only [Act.put, List.setIfInBounds_toArray, List.set_cons_zero, List.set_cons_succ]
      generalize W2.alloc (.cells #[.int .i64 r] 3) = W3 at *
      generalize W2.heap.size = Db2 at *
      refine stepL 7 (by kernel_rfl) rfl (fun K hK => ?_)
      go_simp
      refine (wnum_any 0 [r] _ p _ W3 HC.out.wr b2.out (fun n hn => by simp at hn; subst hn; have := HOK.out; omega) (by simp)).mono ?_
      rintro e W4 ⟨rfl, hw, hg⟩
      show K _ _
      have HC := Bx.mk (HC.out.grown hw hg)
      clear hw hg b2
      refine hK.out _ _ ⟨HC.out.c0, HC.out.c1⟩ (fun hHeld => ?_)
      clear hK K
      try simp only [Act.put, List.setIfInBounds_toArray, List.set_cons_zero, List.set_cons_succ]
      refine wpAnyH_done (by kernel_rfl) ?_ _
      refine NoPanic.normal ?_
      clear hHeld
      go_upto_region 6 with (fail)
      have HC := Bx.mk HC.out.drew
      refine wp_region_noPanic ?_
      refine wp_region_held_drew (S := fun W => W.cell? ⟨B, 2, none⟩ = some (.int .i64 x) ∧ W.cell? ⟨B, 3, none⟩ = some (.int .i64 s)) (by kernel_rfl) (⟨HC.out.c2, HC.out.c3⟩) (fun hHeld => ?_)
      generalize W4.drew = W5 at *
      refine takeL 0 (v := ?_) rfl (by kernel_rfl) (by kernel_rfl) (by kernel_rfl) (fun _ _ _ h => h) (Or.inl ⟨by rfl, ?_⟩) hHeld ?_
      rotate_left 1
      · (intro w hSw; go_simp; try with_reducible rfl)
      try simp only [Act.put, List.setIfInBounds_toArray, List.set_cons_zero, List.set_cons_succ]
      refine takeL 1 (v := ?_) rfl (by kernel_rfl) (by kernel_rfl) (by kernel_rfl) (fun _ _ _ h => h) (Or.inl ⟨by rfl, ?_⟩) hHeld ?_
      rotate_left 1
      · (intro w hSw; go_simp; try with_reducible rfl)
      try simp only [Act.put, List.setIfInBounds_toArray, List.set_cons_zero, List.set_cons_succ]
      refine takeL 4 (v := ?_) rfl (by kernel_rfl) (by kernel_rfl) (by kernel_rfl) (fun _ _ _ h => h) (Or.inl ⟨by rfl, ?_⟩) hHeld ?_
      rotate_left 1
      · (intro w hSw; go_simp; try with_reducible rfl)
      try simp only [Act.put, List.setIfInBounds_toArray, List.set_cons_zero, List.set_cons_succ]
      refine takeL 5 (v := ?_) rfl (by kernel_rfl) (by kernel_rfl) (by kernel_rfl) (fun _ _ _ h => h) (Or.inl ⟨by rfl, ?_⟩) hHeld ?_
      rotate_left 1
      · (intro w hSw; go_simp; try with_reducible rfl)
      try simp only [Act.put, List.setIfInBounds_toArray, List.set_cons_zero, List.set_cons_succ]
      refine wpAnyH_ready (rs := [2, 6]) (by kernel_rfl) (by simp) ?_
      refine consM 2 rfl (fun K hK => ?_) (consM 6 rfl (fun K hK => ?_) AllReadyH.nil)
      · go_simp
        have b3 : Bx (IntsN (W5.alloc (.cells #[.int .i64 x] 3)) p (.slice (some ⟨W5.heap.size, 0, none⟩) 1 1) [x]) := Bx.mk (ints_one W5 p x _ HC.out.wr.lt)
        have HC := Bx.mk (HC.out.alloc (.cells #[.int .i64 x] 3))
        refine hK.out _ _ ⟨HC.out.c2, HC.out.c3⟩ (fun hHeld => ?_)
        clear hK K
        try simp only [Act.put, List.setIfInBounds_toArray, List.set_cons_zero, List.set_cons_succ]
        generalize W5.alloc (.cells #[.int .i64 x] 3) = W6 at *
        generalize W5.heap.size = Db3 at *
        refine wpAnyH_ready (rs := [3, 6]) (by kernel_rfl) (by simp) ?_
        refine consM 3 rfl (fun K hK => ?_) (consM 6 rfl (fun K hK => ?_) AllReadyH.nil)
        · go_simp
          refine (wnum_any 2 [x] _ p _ W6 HC.out.wr b3.out (fun n hn => by simp at hn; subst hn; have := HOK.out; omega) (by simp)).mono ?_
          rintro e W7 ⟨rfl, hw, hg⟩
          show K _ _
          have HC := Bx.mk (HC.out.grown hw hg)
          clear hw hg b3
          refine hK.out _ _ ⟨HC.out.c2, HC.out.c3⟩ (fun hHeld => ?_)
          clear hK K
          try simp only [Act.put, List.setIfInBounds_toArray, List.set_cons_zero, List.set_cons_succ]
          refine stepL 6 (by kernel_rfl) rfl (fun K hK => ?_)
          go_simp
          have b4 : Bx (IntsN (W7.alloc (.cells #[.int .i64 s] 3)) p (.slice (some ⟨W7.heap.size, 0, none⟩) 1 1) [s]) := Bx.mk (ints_one W7 p s _ HC.out.wr.lt)
          have HC := Bx.mk (HC.out.alloc (.cells #[.int .i64 s] 3))
          refine hK.out _ _ ⟨HC.out.c2, HC.out.c3⟩ (fun hHeld => ?_)
          clear hK K
          try simp only [Act.put, List.setIfInBounds_toArray, List.set_cons_zero, List.set_cons_succ]
          generalize W7.alloc (.cells #[.int .i64 s] 3) = W8 at *
          generalize W7.heap.size = Db4 at *
          refine stepL 7 (by kernel_rfl) rfl (fun K hK => ?_)
          go_simp
          refine (wnum_any 1 [s] _ p _ W8 HC.out.wr b4.out (fun n hn => by simp at hn; subst hn; have := HOK.out; omega) (by simp)).mono ?_
          rintro e W9 ⟨rfl, hw, hg⟩
          show K _ _
          have HC := Bx.mk (HC.out.grown hw hg)
          clear hw hg b4
          refine hK.out _ _ ⟨HC.out.c2, HC.out.c3⟩ (fun hHeld => ?_)
          clear hK K
          try simp only [Act.put, List.setIfInBounds_toArray, List.set_cons_zero, List.set_cons_succ]
          refine wpAnyH_done (by kernel_rfl) ?_ _
          refine NoPanic.normal ?_
          clear hHeld
          have HC : Bx (BC w B p ⟨i, r, x, s⟩ (clB ⟨i, r, x, s⟩, 0) W9) := Bx.mk (by have h := HC.out; simp only [List.map_cons, List.map_nil] at h; rw [HP.out] at h; exact h)
          go_wp2_with fail
          refine (wout_ok p _ W9 HC.out.wr).mono ?_
          rintro e wz ⟨vz, rfl, hoz, hbz⟩
          have HZ : Bx (OwnB wz B vz (clB ⟨i, r, x, s⟩) ∧ Below B w wz) := Bx.mk ⟨hoz.weak (Nat.le_of_lt (Nat.lt_trans HC.out.lt HC.out.wr.lt)), HC.out.below.trans (hbz.mono (Nat.le_of_lt (Nat.lt_trans HC.out.lt HC.out.wr.lt)))⟩
          obtain ⟨az, cz, hvz⟩ := own_form hoz
          subst hvz
          clear hoz hbz HC
          go_wp2
          go_ret2
          exact ⟨_, rfl, HZ.out⟩
        · go_simp
          have b4 : Bx (IntsN (W6.alloc (.cells #[.int .i64 s] 3)) p (.slice (some ⟨W6.heap.size, 0, none⟩) 1 1) [s]) := Bx.mk (ints_one W6 p s _ HC.out.wr.lt)
          have b3 := Bx.mk (b3.out.grown (kb_below (some p) (below_a (.cells #[.int .i64 s] 3))))
          have HC := Bx.mk (HC.out.alloc (.cells #[.int .i64 s] 3))
          refine hK.out _ _ ⟨HC.out.c2, HC.out.c3⟩ (fun hHeld => ?_)
          clear hK K
          try simp only [Act.put, List.setIfInBounds_toArray, List.set_cons_zero, List.set_cons_succ]
          generalize W6.alloc (.cells #[.int .i64 s] 3) = W7 at *
          generalize W6.heap.size = Db4 at *
          refine stepL 3 (by kernel_rfl) rfl (fun K hK => ?_)
          go_simp
          refine (wnum_any 2 [x] _ p _ W7 HC.out.wr b3.out (fun n hn => by simp at hn; subst hn; have := HOK.out; omega) (by simp)).mono ?_
          rintro e W8 ⟨rfl, hw, hg⟩
          show K _ _
          have b4 := Bx.mk (b4.out.grown hg)
          have HC := Bx.mk (HC.out.grown hw hg)
          clear hw hg b3
          refine hK.out _ _ ⟨HC.out.c2, HC.out.c3⟩ (fun hHeld => ?_)
          clear hK K
          try simp only [Act.put, List.setIfInBounds_toArray, List.set_cons_zero, List.set_cons_succ]
          refine stepL 7 (by kernel_rfl) rfl (fun K hK => ?_)
          go_simp
          refine (wnum_any 1 [s] _ p _ W8 HC.out.wr b4.out (fun n hn => by simp at hn; subst hn; have := HOK.out; omega) (by simp)).mono ?_
          rintro e W9 ⟨rfl, hw, hg⟩
          show K _ _
          have HC := Bx.mk (HC.out.grown hw hg)
          clear hw hg b4
          refine hK.out _ _ ⟨HC.out.c2, HC.out.c3⟩ (fun hHeld => ?_)
          clear hK K
          try simp only [Act.put, List.setIfInBounds_toArray, List.set_cons_zero, List.set_cons_succ]
          refine wpAnyH_done (by kernel_rfl) ?_ _
          refine NoPanic.normal ?_
          clear hHeld
          have HC : Bx (BC w B p ⟨i, r, x, s⟩ (clB ⟨i, r, x, s⟩, 0) W9) := Bx.mk (by have h := HC.out; simp only [List.map_cons, List.map_nil] at h; rw [HP.out] at h; exact h)
          go_wp2_with fail
          refine (wout_ok p _ W9 HC.out.wr).mono ?_
          rintro e wz ⟨vz, rfl, hoz, hbz⟩
          have HZ : Bx (OwnB wz B vz (clB ⟨i, r, x, s⟩) ∧ Below B w wz) := Bx.mk ⟨hoz.weak (Nat.le_of_lt (Nat.lt_trans HC.out.lt HC.out.wr.lt)), HC.out.below.trans (hbz.mono (Nat.le_of_lt (Nat.lt_trans HC.out.lt HC.out.wr.lt)))⟩
          obtain ⟨az, cz, hvz⟩ := own_form hoz
          subst hvz
          clear hoz hbz HC
          go_wp2
          go_ret2
          exact ⟨_, rfl, HZ.out⟩
      · go_simp
        have b4 : Bx (IntsN (W5.alloc (.cells #[.int .i64 s] 3)) p (.slice (some ⟨W5.heap.size, 0, none⟩) 1 1) [s]) := Bx.mk (ints_one W5 p s _ HC.out.wr.lt)
        have HC := Bx.mk (HC.out.alloc (.cells #[.int .i64 s] 3))
        refine hK.out _ _ ⟨HC.out.c2, HC.out.c3⟩ (fun hHeld => ?_)
        clear hK K
        try simp only [Act.put, List.setIfInBounds_toArray, List.set_cons_zero, List.set_cons_succ]
        generalize W5.alloc (.cells #[.int .i64 s] 3) = W6 at *
        generalize W5.heap.size = Db4 at *
        refine stepL 2 (by kernel_rfl) rfl (fun K hK => ?_)
        go_simp
        have b3 : Bx (IntsN (W6.alloc (.cells #[.int .i64 x] 3)) p (.slice (some ⟨W6.heap.size, 0, none⟩) 1 1) [x]) := Bx.mk (ints_one W6 p x _ HC.out.wr.lt)
        have b4 := Bx.mk (b4.out.grown (kb_below (some p) (below_a (.cells #[.int .i64 x] 3))))
        have HC := Bx.mk (HC.out.alloc (.cells #[.int .i64 x] 3))
        refine hK.out _ _ ⟨HC.out.c2, HC.out.c3⟩ (fun hHeld => ?_)
        clear hK K
        try simp only [Act.put, List.setIfInBounds_toArray, List.set_cons_zero, List.set_cons_succ]
        generalize W6.alloc (.cells #[.int .i64 x] 3) = W7 at *
        generalize W6.heap.size = Db3 at *
        refine stepL 3 (by kernel_rfl) rfl (fun K hK => ?_)
        go_simp
        refine (wnum_any 2 [x] _ p _ W7 HC.out.wr b3.out (fun n hn => by simp at hn; subst hn; have := HOK.out; omega) (by simp)).mono ?_
        rintro e W8 ⟨rfl, hw, hg⟩
        show K _ _
        have b4 := Bx.mk (b4.out.grown hg)
        have HC := Bx.mk (HC.out.grown hw hg)
        clear hw hg b3
        refine hK.out _ _ ⟨HC.out.c2, HC.out.c3⟩ (fun hHeld => ?_)
        clear hK K
        try simp only [Act.put, List.setIfInBounds_toArray, List.set_cons_zero, List.set_cons_succ]
        refine stepL 7 (by kernel_rfl) rfl (fun K hK => ?_)
        go_simp
        refine (wnum_any 1 [s] _ p _ W8 HC.out.wr b4.out (fun n hn => by simp at hn; subst hn; have := HOK.out; omega) (by simp)).mono ?_
        rintro e W9 ⟨rfl, hw, hg⟩
        show K _ _
        have HC := Bx.mk (HC.out.grown hw hg)
        clear hw hg b4
        refine hK.out _ _ ⟨HC.out.c2, HC.out.c3⟩ (fun hHeld => ?_)
        clear hK K
        try simp only [Act.put, List.setIfInBounds_toArray, List.set_cons_zero, List.set_cons_succ]
        refine wpAnyH_done (by kernel_rfl) ?_ _
        refine NoPanic.normal ?_
        clear hHeld
        have HC : Bx (BC w B p ⟨i, r, x, s⟩ (clB ⟨i, r, x, s⟩, 0) W9) := Bx.mk (by have h := HC.out; simp only [List.map_cons, List.map_nil] at h; rw [HP.out] at h; exact h)
        go_wp2_with fail
        refine (wout_ok p _ W9 HC.out.wr).mono ?_
        rintro e wz ⟨vz, rfl, hoz, hbz⟩
        have HZ : Bx (OwnB wz B vz (clB ⟨i, r, x, s⟩) ∧ Below B w wz) := Bx.mk ⟨hoz.weak (Nat.le_of_lt (Nat.lt_trans HC.out.lt HC.out.wr.lt)), HC.out.below.trans (hbz.mono (Nat.le_of_lt (Nat.lt_trans HC.out.lt HC.out.wr.lt)))⟩
        obtain ⟨az, cz, hvz⟩ := own_form hoz
        subst hvz
        clear hoz hbz HC
        go_wp2
        go_ret2
        exact ⟨_, rfl, HZ.out⟩
    · go_simp
      have b2 : Bx (IntsN (W1.alloc (.cells #[.int .i64 r] 3)) p (.slice (some ⟨W1.heap.size, 0, none⟩) 1 1) [r]) := Bx.mk (ints_one W1 p r _ HC.out.wr.lt)
      have b1 := Bx.mk (b1.out.grown (kb_below (some p) (below_a (.cells #[.int .i64 r] 3))))
      have HC := Bx.mk (HC.out.alloc (.cells #[.int .i64 r] 3))
      refine hK.out _ _ ⟨HC.out.c0, HC.out.c1⟩ (fun hHeld => ?_)
      clear hK K
      try simp only [Act.put, List.setIfInBounds_toArray, List.set_cons_zero, List.set_cons_succ]
      generalize W1.alloc (.cells #[.int .i64 r] 3) = W2 at *
      generalize W1.heap.size = Db2 at *
      refine stepL 3 (by kernel_rfl) rfl (fun K hK => ?_)
      go_simp
      refine (wnum_any 1 [i] _ p _ W2 HC.out.wr b1.out (fun n hn => by simp at hn; subst hn; have := HOK.out; omega) (by simp)).mono ?_
      rintro e W3 ⟨rfl, hw, hg⟩
      show K _ _
      have b2 := Bx.mk (b2.out.grown hg)
      have HC := Bx.mk (HC.out.grown hw hg)
      clear hw hg b1
      refine hK.out _ _ ⟨HC.out.c0, HC.out.c1⟩ (fun hHeld => ?_)
      clear hK K
      try simp only [Act.put, List.setIfInBounds_toArray, List.set_cons_zero, List.set_cons_succ]
      refine stepL 7 (by kernel_rfl) rfl (fun K hK => ?_)
      go_simp
      refine (wnum_any 0 [r] _ p _ W3 HC.out.wr b2.out (fun n hn => by simp at hn; subst hn; have := HOK.out; omega) (by simp)).mono ?_
      rintro e W4 ⟨rfl, hw, hg⟩
      show K _ _
      have HC := Bx.mk (HC.out.grown hw hg)
      clear hw hg b2
      refine hK.out _ _ ⟨HC.out.c0, HC.out.c1⟩ (fun hHeld => ?_)
      clear hK K
      try simp only [Act.put, List.setIfInBounds_toArray, List.set_cons_zero, List.set_cons_succ]
      refine wpAnyH_done (by kernel_rfl) ?_ _
      refine NoPanic.normal ?_
      clear hHeld
      go_upto_region 6 with (fail)
      have HC := Bx.mk HC.out.drew
      refine wp_region_noPanic ?_
      refine wp_region_held_drew (S := fun W => W.cell? ⟨B, 2, none⟩ = some (.int .i64 x) ∧ W.cell? ⟨B, 3, none⟩ = some (.int .i64 s)) (by kernel_rfl) (⟨HC.out.c2, HC.out.c3⟩) (fun hHeld => ?_)
      generalize W4.drew = W5 at *
      refine takeL 0 (v := ?_) rfl (by kernel_rfl) (by kernel_rfl) (by kernel_rfl) (fun _ _ _ h => h) (Or.inl ⟨by rfl, ?_⟩) hHeld ?_
      rotate_left 1
      · (intro w hSw; go_simp; try with_reducible rfl)
      try simp only [Act.put, List.setIfInBounds_toArray, List.set_cons_zero, List.set_cons_succ]
      refine takeL 1 (v := ?_) rfl (by kernel_rfl) (by kernel_rfl) (by kernel_rfl) (fun _ _ _ h => h) (Or.inl ⟨by rfl, ?_⟩) hHeld ?_
      rotate_left 1
      · (intro w hSw; go_simp; try with_reducible rfl)
      try simp only [Act.put, List.setIfInBounds_toArray, List.set_cons_zero, List.set_cons_succ]
      refine takeL 4 (v := ?_) rfl (by kernel_rfl) (by kernel_rfl) (by kernel_rfl) (fun _ _ _ h => h) (Or.inl ⟨by rfl, ?_⟩) hHeld ?_
      rotate_left 1
      · (intro w hSw; go_simp; try with_reducible rfl)
      try simp only [Act.put, List.setIfInBounds_toArray, List.set_cons_zero, List.set_cons_succ]
      refine takeL 5 (v := ?_) rfl (by kernel_rfl) (by kernel_rfl) (by kernel_rfl) (fun _ _ _ h => h) (Or.inl ⟨by rfl, ?_⟩) hHeld ?_
      rotate_left 1
      · (intro w hSw; go_simp; try with_reducible rfl)
      try simp only [Act.put, List.setIfInBounds_toArray, List.set_cons_zero, List.set_cons_succ]
      refine wpAnyH_ready (rs := [2, 6]) (by kernel_rfl) (by simp) ?_
      refine consM 2 rfl (fun K hK => ?_) (consM 6 rfl (fun K hK => ?_) AllReadyH.nil)
      · go_simp
        have b3 : Bx (IntsN (W5.alloc (.cells #[.int .i64 x] 3)) p (.slice (some ⟨W5.heap.size, 0, none⟩) 1 1) [x]) := Bx.mk (ints_one W5 p x _ HC.out.wr.lt)
        have HC := Bx.mk (HC.out.alloc (.cells #[.int .i64 x] 3))
        refine hK.out _ _ ⟨HC.out.c2, HC.out.c3⟩ (fun hHeld => ?_)
        clear hK K
        try simp only [Act.put, List.setIfInBounds_toArray, List.set_cons_zero, List.set_cons_succ]
        generalize W5.alloc (.cells #[.int .i64 x] 3) = W6 at *
        generalize W5.heap.size = Db3 at *
        refine wpAnyH_ready (rs := [3, 6]) (by kernel_rfl) (by simp) ?_
        refine consM 3 rfl (fun K hK => ?_) (consM 6 rfl (fun K hK => ?_) AllReadyH.nil)
        · go_simp
          refine (wnum_any 2 [x] _ p _ W6 HC.out.wr b3.out (fun n hn => by simp at hn; subst hn; have := HOK.out; omega) (by simp)).mono ?_
          rintro e W7 ⟨rfl, hw, hg⟩
          show K _ _
          have HC := Bx.mk (HC.out.grown hw hg)
          clear hw hg b3
          refine hK.out _ _ ⟨HC.out.c2, HC.out.c3⟩ (fun hHeld => ?_)
          clear hK K
          try simp only [Act.put, List.setIfInBounds_toArray, List.set_cons_zero, List.set_cons_succ]
          refine stepL 6 (by kernel_rfl) rfl (fun K hK => ?_)
          go_simp
          have b4 : Bx (IntsN (W7.alloc (.cells #[.int .i64 s] 3)) p (.slice (some ⟨W7.heap.size, 0, none⟩) 1 1) [s]) := Bx.mk (ints_one W7 p s _ HC.out.wr.lt)
          have HC := Bx.mk (HC.out.alloc (.cells #[.int .i64 s] 3))
          refine hK.out _ _ ⟨HC.out.c2, HC.out.c3⟩ (fun hHeld => ?_)
          clear hK K
          try simp only [Act.put, List.setIfInBounds_toArray, List.set_cons_zero, List.set_cons_succ]
          generalize W7.alloc (.cells #[.int .i64 s] 3) = W8 at *
          generalize W7.heap.size = Db4 at *
          refine stepL 7 (by kernel_rfl) rfl (fun K hK => ?_)
          go_simp
          refine (wnum_any 1 [s] _ p _ W8 HC.out.wr b4.out (fun n hn => by simp at hn; subst hn; have := HOK.out; omega) (by simp)).mono ?_
          rintro e W9 ⟨rfl, hw, hg⟩
          show K _ _
          have HC := Bx.mk (HC.out.grown hw hg)
          clear hw hg b4
          refine hK.out _ _ ⟨HC.out.c2, HC.out.c3⟩ (fun hHeld => ?_)
          clear hK K
          try simp only [Act.put, List.setIfInBounds_toArray, List.set_cons_zero, List.set_cons_succ]
          refine wpAnyH_done (by kernel_rfl) ?_ _
          refine NoPanic.normal ?_
          clear hHeld
          have HC : Bx (BC w B p ⟨i, r, x, s⟩ (clB ⟨i, r, x, s⟩, 0) W9) := Bx.mk (by have h := HC.out; simp only [List.map_cons, List.map_nil] at h; rw [HP.out] at h; exact h)
          go_wp2_with fail
          refine (wout_ok p _ W9 HC.out.wr).mono ?_
          rintro e wz ⟨vz, rfl, hoz, hbz⟩
          have HZ : Bx (OwnB wz B vz (clB ⟨i, r, x, s⟩) ∧ Below B w wz) := Bx.mk ⟨hoz.weak (Nat.le_of_lt (Nat.lt_trans HC.out.lt HC.out.wr.lt)), HC.out.below.trans (hbz.mono (Nat.le_of_lt (Nat.lt_trans HC.out.lt HC.out.wr.lt)))⟩
          obtain ⟨az, cz, hvz⟩ := own_form hoz
          subst hvz
          clear hoz hbz HC
          go_wp2
          go_ret2
          exact ⟨_, rfl, HZ.out⟩
        · go_simp
          have b4 : Bx (IntsN (W6.alloc (.cells #[.int .i64 s] 3)) p (.slice (some ⟨W6.heap.size, 0, none⟩) 1 1) [s]) := Bx.mk (ints_one W6 p s _ HC.out.wr.lt)
          have b3 := Bx.mk (b3.out.grown (kb_below (some p) (below_a (.cells #[.int .i64 s] 3))))
          have HC := Bx.mk (HC.out.alloc (.cells #[.int .i64 s] 3))
          refine hK.out _ _ ⟨HC.out.c2, HC.out.c3⟩ (fun hHeld => ?_)
          clear hK K
          try simp only [Act.put, List.setIfInBounds_toArray, List.set_cons_zero, List.set_cons_succ]
          generalize W6.alloc (.cells #[.int .i64 s] 3) = W7 at *
          generalize W6.heap.size = Db4 at *
          refine stepL 3 (by kernel_rfl) rfl (fun K hK => ?_)
          go_simp
          refine (wnum_any 2 [x] _ p _ W7 HC.out.wr b3.out (fun n hn => by simp at hn; subst hn; have := HOK.out; omega) (by simp)).mono ?_
          rintro e W8 ⟨rfl, hw, hg⟩
          show K _ _
          have b4 := Bx.mk (b4.out.grown hg)
          have HC := Bx.mk (HC.out.grown hw hg)
          clear hw hg b3
          refine hK.out _ _ ⟨HC.out.c2, HC.out.c3⟩ (fun hHeld => ?_)
          clear hK K
          try simp only [Act.put, List.setIfInBounds_toArray, List.set_cons_zero, List.set_cons_succ]
          refine stepL 7 (by kernel_rfl) rfl (fun K hK => ?_)
          go_simp
          refine (wnum_any 1 [s] _ p _ W8 HC.out.wr b4.out (fun n hn => by simp at hn; subst hn; have := HOK.out; omega) (by simp)).mono ?_
          rintro e W9 ⟨rfl, hw, hg⟩
          show K _ _
          have HC := Bx.mk (HC.out.grown hw hg)
          clear hw hg b4
          refine hK.out _ _ ⟨HC.out.c2, HC.out.c3⟩ (fun hHeld => ?_)
          clear hK K
          try simp only [Act.put, List.setIfInBounds_toArray, List.set_cons_zero, List.set_cons_succ]
          refine wpAnyH_done (by kernel_rfl) ?_ _
          refine NoPanic.normal ?_
          clear hHeld
          have HC : Bx (BC w B p ⟨i, r, x, s⟩ (clB ⟨i, r, x, s⟩, 0) W9) := Bx.mk (by have h := HC.out; simp only [List.map_cons, List.map_nil] at h; rw [HP.out] at h; exact h)
          go_wp2_with fail
          refine (wout_ok p _ W9 HC.out.wr).mono ?_
          rintro e wz ⟨vz, rfl, hoz, hbz⟩
          have HZ : Bx (OwnB wz B vz (clB ⟨i, r, x, s⟩) ∧ Below B w wz) := Bx.mk ⟨hoz.weak (Nat.le_of_lt (Nat.lt_trans HC.out.lt HC.out.wr.lt)), HC.out.below.trans (hbz.mono (Nat.le_of_lt (Nat.lt_trans HC.out.lt HC.out.wr.lt)))⟩
          obtain ⟨az, cz, hvz⟩ := own_form hoz
          subst hvz
          clear hoz hbz HC
          go_wp2
          go_ret2
          exact ⟨_, rfl, HZ.out⟩
      · go_simp
        have b4 : Bx (IntsN (W5.alloc (.cells #[.int .i64 s] 3)) p (.slice (some ⟨W5.heap.size, 0, none⟩) 1 1) [s]) := Bx.mk (ints_one W5 p s _ HC.out.wr.lt)
        have HC := Bx.mk (HC.out.alloc (.cells #[.int .i64 s] 3))
        refine hK.out _ _ ⟨HC.out.c2, HC.out.c3⟩ (fun hHeld => ?_)
        clear hK K
        try simp only [Act.put, List.setIfInBounds_toArray, List.set_cons_zero, List.set_cons_succ]
        generalize W5.alloc (.cells #[.int .i64 s] 3) = W6 at *
        generalize W5.heap.size = Db4 at *
        refine stepL 2 (by kernel_rfl) rfl (fun K hK => ?_)
        go_simp
        have b3 : Bx (IntsN (W6.alloc (.cells #[.int .i64 x] 3)) p (.slice (some ⟨W6.heap.size, 0, none⟩) 1 1) [x]) := Bx.mk (ints_one W6 p x _ HC.out.wr.lt)
        have b4 := Bx.mk (b4.out.grown (kb_below (some p) (below_a (.cells #[.int .i64 x] 3))))
        have HC := Bx.mk (HC.out.alloc (.cells #[.int .i64 x] 3))
        refine hK.out _ _ ⟨HC.out.c2, HC.out.c3⟩ (fun hHeld => ?_)
        clear hK K
        try simp only [Act.put, List.setIfInBounds_toArray, List.set_cons_zero, List.set_cons_succ]
        generalize W6.alloc (.cells #[.int .i64 x] 3) = W7 at *
        generalize W6.heap.size = Db3 at *
        refine stepL 3 (by kernel_rfl) rfl (fun K hK => ?_)
        go_simp
        refine (wnum_any 2 [x] _ p _ W7 HC.out.wr b3.out (fun n hn => by simp at hn; subst hn; have := HOK.out; omega) (by simp)).mono ?_
        rintro e W8 ⟨rfl, hw, hg⟩
        show K _ _
        have b4 := Bx.mk (b4.out.grown hg)
        have HC := Bx.mk (HC.out.grown hw hg)
        clear hw hg b3
        refine hK.out _ _ ⟨HC.out.c2, HC.out.c3⟩ (fun hHeld => ?_)
        clear hK K
        try simp only [Act.put, List.setIfInBounds_toArray, List.set_cons_zero, List.set_cons_succ]
        refine stepL 7 (by kernel_rfl) rfl (fun K hK => ?_)
        go_simp
        refine (wnum_any 1 [s] _ p _ W8 HC.out.wr b4.out (fun n hn => by simp at hn; subst hn; have := HOK.out; omega) (by simp)).mono ?_
        rintro e W9 ⟨rfl, hw, hg⟩
        show K _ _
        have HC := Bx.mk (HC.out.grown hw hg)
        clear hw hg b4
        refine hK.out _ _ ⟨HC.out.c2, HC.out.c3⟩ (fun hHeld => ?_)
        clear hK K
        try simp only [Act.put, List.setIfInBounds_toArray, List.set_cons_zero, List.set_cons_succ]
        refine wpAnyH_done (by kernel_rfl) ?_ _
        refine NoPanic.normal ?_
        clear hHeld
        have HC : Bx (BC w B p ⟨i, r, x, s⟩ (clB ⟨i, r, x, s⟩, 0) W9) := Bx.mk (by have h := HC.out; simp only [List.map_cons, List.map_nil] at h; rw [HP.out] at h; exact h)
        go_wp2_with fail
        refine (wout_ok p _ W9 HC.out.wr).mono ?_
        rintro e wz ⟨vz, rfl, hoz, hbz⟩
        have HZ : Bx (OwnB wz B vz (clB ⟨i, r, x, s⟩) ∧ Below B w wz) := Bx.mk ⟨hoz.weak (Nat.le_of_lt (Nat.lt_trans HC.out.lt HC.out.wr.lt)), HC.out.below.trans (hbz.mono (Nat.le_of_lt (Nat.lt_trans HC.out.lt HC.out.wr.lt)))⟩
        obtain ⟨az, cz, hvz⟩ := own_form hoz
        subst hvz
        clear hoz hbz HC
        go_wp2
        go_ret2
        exact ⟨_, rfl, HZ.out⟩
  · go_simp
    have b2 : Bx (IntsN (W0.alloc (.cells #[.int .i64 r] 3)) p (.slice (some ⟨W0.heap.size, 0, none⟩) 1 1) [r]) := Bx.mk (ints_one W0 p r _ HC.out.wr.lt)
    have HC := Bx.mk (HC.out.alloc (.cells #[.int .i64 r] 3))
    refine hK.out _ _ ⟨HC.out.c0, HC.out.c1⟩ (fun hHeld => ?_)
    clear hK K
    try simp only [Act.put, List.setIfInBounds_toArray, List.set_cons_zero, List.set_cons_succ]
    generalize W0.alloc (.cells #[.int .i64 r] 3) = W1 at *
    generalize W0.heap.size = Db2 at *
    refine stepL 2 (by kernel_rfl) rfl (fun K hK => ?_)
    go_simp
    have b1 : Bx (IntsN (W1.alloc (.cells #[.int .i64 i] 3)) p (.slice (some ⟨W1.heap.size, 0, none⟩) 1 1) [i]) := Bx.mk (ints_one W1 p i _ HC.out.wr.lt)
    have b2 := Bx.mk (b2.out.grown (kb_below (some p) (below_a (.cells #[.int .i64 i] 3))))
    have HC := Bx.mk (HC.out.alloc (.cells #[.int .i64 i] 3))
    refine hK.out _ _ ⟨HC.out.c0, HC.out.c1⟩ (fun hHeld => ?_)
    clear hK K
    try simp only [Act.put, List.setIfInBounds_toArray, List.set_cons_zero, List.set_cons_succ]
    generalize W1.alloc (.cells #[.int .i64 i] 3) = W2 at *
    generalize W1.heap.size = Db1 at *
    refine stepL 3 (by kernel_rfl) rfl (fun K hK => ?_)
    go_simp
    refine (wnum_any 1 [i] _ p _ W2 HC.out.wr b1.out (fun n hn => by simp at hn; subst hn; have := HOK.out; omega) (by simp)).mono ?_
    rintro e W3 ⟨rfl, hw, hg⟩
    show K _ _
    have b2 := Bx.mk (b2.out.grown hg)
    have HC := Bx.mk (HC.out.grown hw hg)
    clear hw hg b1
    refine hK.out _ _ ⟨HC.out.c0, HC.out.c1⟩ (fun hHeld => ?_)
    clear hK K
    try simp only [Act.put, List.setIfInBounds_toArray, List.set_cons_zero, List.set_cons_succ]
    refine stepL 7 (by kernel_rfl) rfl (fun K hK => ?_)
    go_simp
    refine (wnum_any 0 [r] _ p _ W3 HC.out.wr b2.out (fun n hn => by simp at hn; subst hn; have := HOK.out; omega) (by simp)).mono ?_
    rintro e W4 ⟨rfl, hw, hg⟩
    show K _ _
    have HC := Bx.mk (HC.out.grown hw hg)
    clear hw hg b2
    refine hK.out _ _ ⟨HC.out.c0, HC.out.c1⟩ (fun hHeld => ?_)
    clear hK K
    try simp only [Act.put, List.setIfInBounds_toArray, List.set_cons_zero, List.set_cons_succ]
    refine wpAnyH_done (by kernel_rfl) ?_ _
    refine NoPanic.normal ?_
    clear hHeld
    go_upto_region 6 with (fail)
    have HC := Bx.mk HC.out.drew
    refine wp_region_noPanic ?_
    refine wp_region_held_drew (S := fun W => W.cell? ⟨B, 2, none⟩ = some (.int .i64 x) ∧ W.cell? ⟨B, 3, none⟩ = some (.int .i64 s)) (by kernel_rfl) (⟨HC.out.c2, HC.out.c3⟩) (fun hHeld => ?_)
    generalize W4.drew = W5 at *
    refine takeL 0 (v := ?_) rfl (by kernel_rfl) (by kernel_rfl) (by kernel_rfl) (fun _ _ _ h => h) (Or.inl ⟨by rfl, ?_⟩) hHeld ?_
    rotate_left 1
    · (intro w hSw; go_simp; try with_reducible rfl)
    try simp only [Act.put, List.setIfInBounds_toArray, List.set_cons_zero, List.set_cons_succ]
    refine takeL 1 (v := ?_) rfl (by kernel_rfl) (by kernel_rfl) (by kernel_rfl) (fun _ _ _ h => h) (Or.inl ⟨by rfl, ?_⟩) hHeld ?_
    rotate_left 1
    · (intro w hSw; go_simp; try with_reducible rfl)
    try simp only [Act.put, List.setIfInBounds_toArray, List.set_cons_zero, List.set_cons_succ]
    refine takeL 4 (v := ?_) rfl (by kernel_rfl) (by kernel_rfl) (by kernel_rfl) (fun _ _ _ h => h) (Or.inl ⟨by rfl, ?_⟩) hHeld ?_
    rotate_left 1
    · (intro w hSw; go_simp; try with_reducible rfl)
    try simp only [Act.put, List.setIfInBounds_toArray, List.set_cons_zero, List.set_cons_succ]
    refine takeL 5 (v := ?_) rfl (by kernel_rfl) (by kernel_rfl) (by kernel_rfl) (fun _ _ _ h => h) (Or.inl ⟨by rfl, ?_⟩) hHeld ?_
    rotate_left 1
    · (intro w hSw; go_simp; try with_reducible rfl)
    try simp only [Act.put, List.setIfInBounds_toArray, List.set_cons_zero, List.set_cons_succ]
    refine wpAnyH_ready (rs := [2, 6]) (by kernel_rfl) (by simp) ?_
    refine consM 2 rfl (fun K hK => ?_) (consM 6 rfl (fun K hK => ?_) AllReadyH.nil)
    · go_simp
      have b3 : Bx (IntsN (W5.alloc (.cells #[.int .i64 x] 3)) p (.slice (some ⟨W5.heap.size, 0, none⟩) 1 1) [x]) := Bx.mk (ints_one W5 p x _ HC.out.wr.lt)
      have HC := Bx.mk (HC.out.alloc (.cells #[.int .i64 x] 3))
      refine hK.out _ _ ⟨HC.out.c2, HC.out.c3⟩ (fun hHeld => ?_)
      clear hK K
      try simp only [Act.put, List.setIfInBounds_toArray, List.set_cons_zero, List.set_cons_succ]
      generalize W5.alloc (.cells #[.int .i64 x] 3) = W6 at *
      generalize W5.heap.size = Db3 at *
      refine wpAnyH_ready (rs := [3, 6]) (by kernel_rfl) (by simp) ?_
      refine consM 3 rfl (fun K hK => ?_) (consM 6 rfl (fun K hK => ?_) AllReadyH.nil)
      · go_simp
        refine (wnum_any 2 [x] _ p _ W6 HC.out.wr b3.out (fun n hn => by simp at hn; subst hn; have := HOK.out; omega) (by simp)).mono ?_
        rintro e W7 ⟨rfl, hw, hg⟩
        show K _ _
        have HC := Bx.mk (HC.out.grown hw hg)
        clear hw hg b3
        refine hK.out _ _ ⟨HC.out.c2, HC.out.c3⟩ (fun hHeld => ?_)
        clear hK K
        try simp only [Act.put, List.setIfInBounds_toArray, List.set_cons_zero, List.set_cons_succ]
        refine stepL 6 (by kernel_rfl) rfl (fun K hK => ?_)
        go_simp
        have b4 : Bx (IntsN (W7.alloc (.cells #[.int .i64 s] 3)) p (.slice (some ⟨W7.heap.size, 0, none⟩) 1 1) [s]) := Bx.mk (ints_one W7 p s _ HC.out.wr.lt)
        have HC := Bx.mk (HC.out.alloc (.cells #[.int .i64 s] 3))
        refine hK.out _ _ ⟨HC.out.c2, HC.out.c3⟩ (fun hHeld => ?_)
        clear hK K
        try simp only [Act.put, List.setIfInBounds_toArray, List.set_cons_zero, List.set_cons_succ]
        generalize W7.alloc (.cells #[.int .i64 s] 3) = W8 at *
        generalize W7.heap.size = Db4 at *
        refine stepL 7 (by kernel_rfl) rfl (fun K hK => ?_)
        go_simp
        refine (wnum_any 1 [s] _ p _ W8 HC.out.wr b4.out (fun n hn => by simp at hn; subst hn; have := HOK.out; omega) (by simp)).mono ?_
        rintro e W9 ⟨rfl, hw, hg⟩
        show K _ _
        have HC := Bx.mk (HC.out.grown hw hg)
        clear hw hg b4
        refine hK.out _ _ ⟨HC.out.c2, HC.out.c3⟩ (fun hHeld => ?_)
        clear hK K
        try simp only [Act.put, List.setIfInBounds_toArray, List.set_cons_zero, List.set_cons_succ]
        refine wpAnyH_done (by kernel_rfl) ?_ _
        refine NoPanic.normal ?_
        clear hHeld
        have HC : Bx (BC w B p ⟨i, r, x, s⟩ (clB ⟨i, r, x, s⟩, 0) W9) := Bx.mk (by have h := HC.out; simp only [List.map_cons, List.map_nil] at h; rw [HP.out] at h; exact h)
        go_wp2_with fail
        refine (wout_ok p _ W9 HC.out.wr).mono ?_
        rintro e wz ⟨vz, rfl, hoz, hbz⟩
        have HZ : Bx (OwnB wz B vz (clB ⟨i, r, x, s⟩) ∧ Below B w wz) := Bx.mk ⟨hoz.weak (Nat.le_of_lt (Nat.lt_trans HC.out.lt HC.out.wr.lt)), HC.out.below.trans (hbz.mono (Nat.le_of_lt (Nat.lt_trans HC.out.lt HC.out.wr.lt)))⟩
        obtain ⟨az, cz, hvz⟩ := own_form hoz
        subst hvz
        clear hoz hbz HC
        go_wp2
        go_ret2
        exact ⟨_, rfl, HZ.out⟩
      · go_simp
        have b4 : Bx (IntsN (W6.alloc (.cells #[.int .i64 s] 3)) p (.slice (some ⟨W6.heap.size, 0, none⟩) 1 1) [s]) := Bx.mk (ints_one W6 p s _ HC.out.wr.lt)
        have b3 := Bx.mk (b3.out.grown (kb_below (some p) (below_a (.cells #[.int .i64 s] 3))))
        have HC := Bx.mk (HC.out.alloc (.cells #[.int .i64 s] 3))
        refine hK.out _ _ ⟨HC.out.c2, HC.out.c3⟩ (fun hHeld => ?_)
        clear hK K
        try simp only [Act.put, List.setIfInBounds_toArray, List.set_cons_zero, List.set_cons_succ]
        generalize W6.alloc (.cells #[.int .i64 s] 3) = W7 at *
        generalize W6.heap.size = Db4 at *
        refine stepL 3 (by kernel_rfl) rfl (fun K hK => ?_)
        go_simp
        refine (wnum_any 2 [x] _ p _ W7 HC.out.wr b3.out (fun n hn => by simp at hn; subst hn; have := HOK.out; omega) (by simp)).mono ?_
        rintro e W8 ⟨rfl, hw, hg⟩
        show K _ _
        have b4 := Bx.mk (b4.out.grown hg)
        have HC := Bx.mk (HC.out.grown hw hg)
        clear hw hg b3
        refine hK.out _ _ ⟨HC.out.c2, HC.out.c3⟩ (fun hHeld => ?_)
        clear hK K
        try simp only [Act.put, List.setIfInBounds_toArray, List.set_cons_zero, List.set_cons_succ]
        refine stepL 7 (by kernel_rfl) rfl (fun K hK => ?_)
        go_simp
        refine (wnum_any 1 [s] _ p _ W8 HC.out.wr b4.out (fun n hn => by simp at hn; subst hn; have := HOK.out; omega) (by simp)).mono ?_
        rintro e W9 ⟨rfl, hw, hg⟩
        show K _ _
        have HC := Bx.mk (HC.out.grown hw hg)
        clear hw hg b4
        refine hK.out _ _ ⟨HC.out.c2, HC.out.c3⟩ (fun hHeld => ?_)
        clear hK K
        try simp only [Act.put, List.setIfInBounds_toArray, List.set_cons_zero, List.set_cons_succ]
        refine wpAnyH_done (by kernel_rfl) ?_ _
        refine NoPanic.normal ?_
        clear hHeld
        have HC : Bx (BC w B p ⟨i, r, x, s⟩ (clB ⟨i, r, x, s⟩, 0) W9) := Bx.mk (by have h := HC.out; simp only [List.map_cons, List.map_nil] at h; rw [HP.out] at h; exact h)
        go_wp2_with fail
        refine (wout_ok p _ W9 HC.out.wr).mono ?_
        rintro e wz ⟨vz, rfl, hoz, hbz⟩
        have HZ : Bx (OwnB wz B vz (clB ⟨i, r, x, s⟩) ∧ Below B w wz) := Bx.mk ⟨hoz.weak (Nat.le_of_lt (Nat.lt_trans HC.out.lt HC.out.wr.lt)), HC.out.below.trans (hbz.mono (Nat.le_of_lt (Nat.lt_trans HC.out.lt HC.out.wr.lt)))⟩
        obtain ⟨az, cz, hvz⟩ := own_form hoz
        subst hvz
        clear hoz hbz HC
        go_wp2
        go_ret2
        exact ⟨_, rfl, HZ.out⟩
    · go_simp
      have b4 : Bx (IntsN (W5.alloc (.cells #[.int .i64 s] 3)) p (.slice (some ⟨W5.heap.size, 0, none⟩) 1 1) [s]) := Bx.mk (ints_one W5 p s _ HC.out.wr.lt)
      have HC := Bx.mk (HC.out.alloc (.cells #[.int .i64 s] 3))
      refine hK.out _ _ ⟨HC.out.c2, HC.out.c3⟩ (fun hHeld => ?_)
      clear hK K
      try simp only [Act.put, List.setIfInBounds_toArray, List.set_cons_zero, List.set_cons_succ]
      generalize W5.alloc (.cells #[.int .i64 s] 3) = W6 at *
      generalize W5.heap.size = Db4 at *
      refine stepL 2 (by kernel_rfl) rfl (fun K hK => ?_)
      go_simp
      have b3 : Bx (IntsN (W6.alloc (.cells #[.int .i64 x] 3)) p (.slice (some ⟨W6.heap.size, 0, none⟩) 1 1) [x]) := Bx.mk (ints_one W6 p x _ HC.out.wr.lt)
      have b4 := Bx.mk (b4.out.grown (kb_below (some p) (below_a (.cells #[.int .i64 x] 3))))
      have HC := Bx.mk (HC.out.alloc (.cells #[.int .i64 x] 3))
      refine hK.out _ _ ⟨HC.out.c2, HC.out.c3⟩ (fun hHeld => ?_)
      clear hK K
      try simp only [Act.put, List.setIfInBounds_toArray, List.set_cons_zero, List.set_cons_succ]
      generalize W6.alloc (.cells #[.int .i64 x] 3) = W7 at *
      generalize W6.heap.size = Db3 at *
      refine stepL 3 (by kernel_rfl) rfl (fun K hK => ?_)
      go_simp
      refine (wnum_any 2 [x] _ p _ W7 HC.out.wr b3.out (fun n hn => by simp at hn; subst hn; have := HOK.out; omega) (by simp)).mono ?_
      rintro e W8 ⟨rfl, hw, hg⟩
      show K _ _
      have b4 := Bx.mk (b4.out.grown hg)
      have HC := Bx.mk (HC.out.grown hw hg)
      clear hw hg b3
      refine hK.out _ _ ⟨HC.out.c2, HC.out.c3⟩ (fun hHeld => ?_)
      clear hK K
      try simp only [Act.put, List.setIfInBounds_toArray, List.set_cons_zero, List.set_cons_succ]
      refine stepL 7 (by kernel_rfl) rfl (fun K hK => ?_)
      go_simp
      refine (wnum_any 1 [s] _ p _ W8 HC.out.wr b4.out (fun n hn => by simp at hn; subst hn; have := HOK.out; omega) (by simp)).mono ?_
      rintro e W9 ⟨rfl, hw, hg⟩
      show K _ _
      have HC := Bx.mk (HC.out.grown hw hg)
      clear hw hg b4
      refine hK.out _ _ ⟨HC.out.c2, HC.out.c3⟩ (fun hHeld => ?_)
      clear hK K
      try simp only [Act.put, List.setIfInBounds_toArray, List.set_cons_zero, List.set_cons_succ]
      refine wpAnyH_done (by kernel_rfl) ?_ _
      refine NoPanic.normal ?_
      clear hHeld
      have HC : Bx (BC w B p ⟨i, r, x, s⟩ (clB ⟨i, r, x, s⟩, 0) W9) := Bx.mk (by have h := HC.out; simp only [List.map_cons, List.map_nil] at h; rw [HP.out] at h; exact h)
      go_wp2_with fail
      refine (wout_ok p _ W9 HC.out.wr).mono ?_
      rintro e wz ⟨vz, rfl, hoz, hbz⟩
      have HZ : Bx (OwnB wz B vz (clB ⟨i, r, x, s⟩) ∧ Below B w wz) := Bx.mk ⟨hoz.weak (Nat.le_of_lt (Nat.lt_trans HC.out.lt HC.out.wr.lt)), HC.out.below.trans (hbz.mono (Nat.le_of_lt (Nat.lt_trans HC.out.lt HC.out.wr.lt)))⟩
      obtain ⟨az, cz, hvz⟩ := own_form hoz
      subst hvz
      clear hoz hbz HC
      go_wp2
      go_ret2
      exact ⟨_, rfl, HZ.out⟩
end Go.Proofs.YtaoekfomffebhaaDoor
namespace Go.Proofs.YtaoekfomffebhaaDoor
open Go Go.RowKit
set_option maxRecDepth 100000 in
theorem cto_any (c : Cl) (w : World) : Calls Tryd.prog 23 #[clV c] w fun e w' => e = .returned (clV c) ∧ Below w.heap.size w w' := by
  obtain ⟨i, r, x, s⟩ := c
  unfold clV
  simp only
  go_enter Tryd.func23, Tryd.ntmps23
  go_wp2
  refine bodyPost_ret (results_cell_row rfl _ _ (w.heap.size + 1) _ _ _ _ rfl (hnew _ _ _ (by simp)) Tryd.underlying30 rfl (by kernel_rfl)) rfl ?_
  exact ⟨rfl, (below_a _).trans ((below_a _).mono (by simp))⟩
set_option maxRecDepth 100000 in
theorem cof_any (c : Cl) (w : World) : Calls Tryd.prog 25 #[clV c] w fun e w' => e = .returned (clV c) ∧ Below w.heap.size w w' := by
  obtain ⟨i, r, x, s⟩ := c
  unfold clV
  simp only
  go_enter Tryd.func25, Tryd.ntmps25
  go_wp2
  refine bodyPost_ret (results_cell_row rfl _ _ (w.heap.size + 1) _ _ _ _ rfl (hnew _ _ _ (by simp)) Tryd.underlying23 rfl (by kernel_rfl)) rfl ?_
  exact ⟨rfl, (below_a _).trans ((below_a _).mono (by simp))⟩
theorem chk_num2 (s n : Int) (h0 : 0 ≤ s) (h3 : s ≤ 3) (h1 : 0 ≤ n) (h2 : n ≤ most s) : chk (fNum s n) = 0 := by
  unfold chk fNum
  simp only
  rw [if_neg (by omega), if_neg (by omega), if_neg (by simp; omega)]
theorem enc_num2 (s n : Int) (h3 : s ≤ 3) : enc (fNum s n) = beN (wid s) n.toNat := by unfold enc fNum; simp only; rw [if_neg (by omega)]
/-- What stays while the document's bytes are written. -/
structure DB (w : World) (B : Nat) (c : Cl) (W : World) : Prop where
  box : W.heap[B]? = some (.cells (clC c) 23 (0, 0))
  below : Below B w W
theorem DB.later {w : World} {B : Nat} {c : Cl} {W W1 : World} (h : DB w B c W) {K : Nat} (hb : Below K W W1) (hK : B < K) : DB w B c W1 :=
  ⟨by rw [hb.block B hK]; exact h.box, h.below.trans (hb.mono (Nat.le_of_lt hK))⟩
theorem DB.lt {w : World} {B : Nat} {c : Cl} {W : World} (h : DB w B c W) : B < W.heap.size := (Array.getElem?_eq_some_iff.1 h.box).1
theorem DB.cell {w : World} {B : Nat} {c : Cl} {W : World} (h : DB w B c W) (k : Nat) (v : Value) (hv : (clC c)[k]? = some v) : W.cell? ⟨B, k, none⟩ = some v := by rw [cell_of_row _ _ _ _ _ _ h.box]; exact hv
set_option maxRecDepth 100000 in
set_option maxHeartbeats 2000000 in
theorem rbytes_any (c : Cl) (w : World) (hc : okC c = true) : Calls Tryd.prog 53 #[clV c] w fun e w' => ∃ v, e = .returned v ∧ OwnB w' w.heap.size v (clB c) ∧ Below w.heap.size w w' := by
  obtain ⟨i, r, x, s⟩ := c
  have HOK := Bx.mk ((okC_iff i r x s).mp hc)
  have K1 := Bx.mk (chk_num2 1 i (by omega) (by omega) (by have := HOK.out; omega) (by have := HOK.out; unfold most; simp; omega))
  have K3 := Bx.mk (chk_num2 2 x (by omega) (by omega) (by have := HOK.out; omega) (by have := HOK.out; unfold most; simp; omega))
  have K4 := Bx.mk (chk_num2 1 s (by omega) (by omega) (by have := HOK.out; omega) (by have := HOK.out; unfold most; simp; omega))
  have E1 : Bx (enc (fNum 1 i) = beN 2 i.toNat) := Bx.mk (enc_num2 1 i (by omega))
  have E3 : Bx (enc (fNum 2 x) = beN 4 x.toNat) := Bx.mk (enc_num2 2 x (by omega))
  have E4 : Bx (enc (fNum 1 s) = beN 2 s.toNat) := Bx.mk (enc_num2 1 s (by omega))
  obtain ⟨rb, hrb⟩ : ∃ rb, UInt8.ofNat (r.toNat % 256) = rb := ⟨_, rfl⟩
  have hw8 : IntKind.u8.wrap r = ub rb := by rw [← hrb, ub_nat, IntWalk.u8_in _ (by have := HOK.out; omega)]; have := HOK.out; omega
  have HRB : Bx (beN 1 r.toNat = [rb]) := Bx.mk (by rw [← hrb]; simp [beN])
  clear hrb hc
  obtain ⟨B, hB⟩ : ∃ B, w.heap.size = B := ⟨_, rfl⟩
  have H0 : Bx (DB w B ⟨i, r, x, s⟩ (w.alloc (.cells #[.int .i64 i, .int .i64 r, .int .i64 x, .int .i64 s] 23))) := Bx.mk ⟨hnew _ _ _ hB.symm, by rw [← hB]; exact below_a _⟩
  unfold clV
  simp only
  rw [hB]
  go_enter Tryd.func53, Tryd.ntmps53
  go_wp2_with fail
  generalize w.alloc (.cells #[.int .i64 i, .int .i64 r, .int .i64 x, .int .i64 s] 23) = w0 at *
  refine (rout_any (fNum 1 i) _ w0 ⟨_, rfl, Bytes.nil _⟩ K1.out).mono ?_
  rintro e w1 ⟨v1, rfl, ho1, hb1⟩
  rw [E1.out] at ho1
  have H1 : Bx (DB w B ⟨i, r, x, s⟩ w1 ∧ OwnB w1 (B + 1) v1 (beN 2 i.toNat)) := Bx.mk ⟨H0.out.later hb1 H0.out.lt, ho1.weak H0.out.lt⟩
  obtain ⟨a1, c1, hv1⟩ := own_form ho1
  subst hv1
  clear ho1 hb1 H0 K1 E1
  have hc1 : w1.cell? ⟨B, 1, none⟩ = some (.int .i64 r) := H1.out.1.cell 1 _ rfl
  have HA : Bx (DB w B ⟨i, r, x, s⟩ (w1.alloc (.cells #[.int .u8 (ub rb)] 5)) ∧ OwnB (w1.alloc (.cells #[.int .u8 (ub rb)] 5)) (B + 1) (.slice a1 (beN 2 i.toNat).length c1) (beN 2 i.toNat) ∧ Bytes (w1.alloc (.cells #[.int .u8 (ub rb)] 5)) (.slice (some ⟨w1.heap.size, 0, none⟩) 1 1) [rb] ∧ B + 1 ≤ (w1.alloc (.cells #[.int .u8 (ub rb)] 5)).heap.size) := Bx.mk ⟨H1.out.1.later (below_a _) H1.out.1.lt, own_a H1.out.2 _, built1 _ _, by have := H1.out.1.lt; simp; omega⟩
  clear H1
  go_upto_region 3 with (refine wpList_ap rfl _ _ rfl (B + 1) _ _ rfl HA.out.2.1 _ _ rfl HA.out.2.2.1 (by simp [beN_length]) HA.out.2.2.2 ?_; intro v2 w2 ho2 hg2 _)
  have H2 : Bx (DB w B ⟨i, r, x, s⟩ w2 ∧ OwnB w2 (B + 1) v2 (beN 2 i.toNat ++ beN 1 r.toNat)) := Bx.mk ⟨HA.out.1.later (own_below HA.out.2.1 hg2 HA.out.2.2.2) (by omega), by rw [HRB.out]; exact ho2⟩
  obtain ⟨a2, c2, hv2⟩ := own_form H2.out.2
  subst hv2
  clear ho2 hg2 HA hc1 HRB hw8
  have hc2 : w2.cell? ⟨B, 2, none⟩ = some (.int .i64 x) := H2.out.1.cell 2 _ rfl
  go_wp2_with fail
  refine (rout_any (fNum 2 x) _ w2 ⟨_, rfl, Bytes.nil _⟩ K3.out).mono ?_
  rintro e w3 ⟨v3, rfl, ho3, hb3⟩
  rw [E3.out] at ho3
  have H3 : Bx (DB w B ⟨i, r, x, s⟩ w3 ∧ OwnB w3 (B + 1) (.slice a2 (beN 2 i.toNat ++ beN 1 r.toNat).length c2) (beN 2 i.toNat ++ beN 1 r.toNat) ∧ Bytes w3 v3 (beN 4 x.toNat) ∧ B + 1 ≤ w3.heap.size) := Bx.mk ⟨H2.out.1.later hb3 H2.out.1.lt, H2.out.2.later hb3 (fun g hg => (H2.out.2.lt g hg).1), ho3.bytes, by have := H2.out.1.lt; have := hb3.size; omega⟩
  obtain ⟨a3, c3, hv3⟩ := own_form ho3
  subst hv3
  clear ho3 hb3 H2 K3 E3 hc2
  go_upto_region 4 with (refine wpList_ap rfl _ _ rfl (B + 1) _ _ rfl H3.out.2.1 _ _ rfl H3.out.2.2.1 (by simp [beN_length]) H3.out.2.2.2 ?_; intro v4 w4 ho4 hg4 _)
  have H4 : Bx (DB w B ⟨i, r, x, s⟩ w4 ∧ OwnB w4 (B + 1) v4 (beN 2 i.toNat ++ beN 1 r.toNat ++ beN 4 x.toNat)) := Bx.mk ⟨H3.out.1.later (own_below H3.out.2.1 hg4 H3.out.2.2.2) (by omega), ho4⟩
  obtain ⟨a4, c4, hv4⟩ := own_form ho4
  subst hv4
  clear ho4 hg4 H3
  have hc3 : w4.cell? ⟨B, 3, none⟩ = some (.int .i64 s) := H4.out.1.cell 3 _ rfl
  go_wp2_with fail
  refine (rout_any (fNum 1 s) _ w4 ⟨_, rfl, Bytes.nil _⟩ K4.out).mono ?_
  rintro e w5 ⟨v5, rfl, ho5, hb5⟩
  rw [E4.out] at ho5
  have H5 : Bx (DB w B ⟨i, r, x, s⟩ w5 ∧ OwnB w5 (B + 1) (.slice a4 (beN 2 i.toNat ++ beN 1 r.toNat ++ beN 4 x.toNat).length c4) (beN 2 i.toNat ++ beN 1 r.toNat ++ beN 4 x.toNat) ∧ Bytes w5 v5 (beN 2 s.toNat) ∧ B + 1 ≤ w5.heap.size) := Bx.mk ⟨H4.out.1.later hb5 H4.out.1.lt, H4.out.2.later hb5 (fun g hg => (H4.out.2.lt g hg).1), ho5.bytes, by have := H4.out.1.lt; have := hb5.size; omega⟩
  obtain ⟨a5, c5, hv5⟩ := own_form ho5
  subst hv5
  clear ho5 hb5 H4 K4 E4 hc3
  go_wp2_with (refine wpList_ap rfl _ _ rfl (B + 1) _ _ rfl H5.out.2.1 _ _ rfl H5.out.2.2.1 (by simp [beN_length]) H5.out.2.2.2 ?_; intro v6 w6 ho6 hg6 _)
  go_ret
  exact ⟨_, rfl, ho6.weak (by omega), H5.out.1.below.trans ((own_below H5.out.2.1 hg6 H5.out.2.2.2).mono (by omega))⟩
end Go.Proofs.YtaoekfomffebhaaDoor
