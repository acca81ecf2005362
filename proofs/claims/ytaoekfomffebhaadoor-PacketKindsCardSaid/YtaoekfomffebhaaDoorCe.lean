/-
  Claims: the walks of Bytes and of the chapter's example.
  Claims: the document's claims, whether they are right, their bytes.
-/
import Derived.Test.YtaoekfomffebhaaDoorCa
import Derived.Test.YtaoekfomffebhaaDoorIp
import Derived.Test.YtaoekfomffebhaaDoorP1
import Derived.LoopN
namespace Go.Proofs.YtaoekfomffebhaaDoor
open Go Go.RowKit
/-- The bytes of claims. -/
def clB (c : Cl) : List UInt8 := beN 2 c.id.toNat ++ beN 1 c.ro.toNat ++ beN 4 c.ex.toNat ++ beN 2 c.se.toNat
theorem clB_length (c : Cl) : (clB c).length = 9 := by simp [clB, beN_length]
/-- The box of claims. -/
def clC (c : Cl) : Array Value := #[.int .i64 c.id, .int .i64 c.ro, .int .i64 c.ex, .int .i64 c.se]
/-- What stays while claims are written. -/
structure BC (w : World) (B p : Nat) (c : Cl) (st : List UInt8 × Int) (W : World) : Prop where
  wr : IsW W p st
  box : W.heap[B]? = some (.cells (clC c) 30 (0, 0))
  below : Below B w W
  lt : B < p
theorem BC.alloc {w : World} {B p : Nat} {c : Cl} {st : List UInt8 × Int} {W : World} (h : BC w B p c st W) (o : Obj) : BC w B p c st (W.alloc o) :=
  ⟨h.wr.later (below_a _) h.wr.lt, by rw [hold _ _ _ (Nat.lt_trans h.lt h.wr.lt)]; exact h.box, h.below.alloc (Nat.le_of_lt (Nat.lt_trans h.lt h.wr.lt)) _, h.lt⟩
theorem BC.drew {w : World} {B p : Nat} {c : Cl} {st : List UInt8 × Int} {W : World} (h : BC w B p c st W) : BC w B p c st W.drew :=
  ⟨h.wr.later (Below.refl _ _).drew h.wr.lt, h.box, h.below.drew, h.lt⟩
theorem BC.grown {w : World} {B p : Nat} {c : Cl} {st st1 : List UInt8 × Int} {W W1 : World} (h : BC w B p c st W) (h1 : IsW W1 p st1) (hg : W.grownBy W1 (some p)) : BC w B p c st1 W1 :=
  ⟨h1, by rw [hg.block B (Nat.lt_trans h.lt h.wr.lt) (fun e => by injection e with e; have := h.lt; omega)]; exact h.box, h.below.trans (grown_below hg (Nat.le_of_lt h.lt) (Nat.le_of_lt (Nat.lt_trans h.lt h.wr.lt))), h.lt⟩
theorem BC.c0 {w : World} {B p : Nat} {i r x s : Int} {st : List UInt8 × Int} {W : World} (h : BC w B p ⟨i, r, x, s⟩ st W) : W.cell? ⟨B, 0, none⟩ = some (.int .i64 i) := by rw [cell_of_row _ _ _ _ _ _ h.box]; rfl
theorem BC.c1 {w : World} {B p : Nat} {i r x s : Int} {st : List UInt8 × Int} {W : World} (h : BC w B p ⟨i, r, x, s⟩ st W) : W.cell? ⟨B, 1, none⟩ = some (.int .i64 r) := by rw [cell_of_row _ _ _ _ _ _ h.box]; rfl
theorem BC.c2 {w : World} {B p : Nat} {i r x s : Int} {st : List UInt8 × Int} {W : World} (h : BC w B p ⟨i, r, x, s⟩ st W) : W.cell? ⟨B, 2, none⟩ = some (.int .i64 x) := by rw [cell_of_row _ _ _ _ _ _ h.box]; rfl
theorem BC.c3 {w : World} {B p : Nat} {i r x s : Int} {st : List UInt8 × Int} {W : World} (h : BC w B p ⟨i, r, x, s⟩ st W) : W.cell? ⟨B, 3, none⟩ = some (.int .i64 s) := by rw [cell_of_row _ _ _ _ _ _ h.box]; rfl
theorem okC_iff (i r x s : Int) : okC ⟨i, r, x, s⟩ = true ↔ 1 ≤ i ∧ i ≤ 65535 ∧ 0 ≤ r ∧ r ≤ 255 ∧ 0 ≤ x ∧ x ≤ 1073741824 ∧ 1 ≤ s ∧ s ≤ 65535 := by
  simp [okC, and_assoc]
theorem put_num (l : List UInt8) (s n : Int) (h0 : 0 ≤ s) (h3 : s ≤ 3) (h1 : 0 ≤ n) (h2 : n ≤ most s) (hl : l.length ≤ 1000) : [fNum s n].foldl putS (l, 0) = (l ++ beN (wid s) n.toNat, 0) := by
  have hc : chk (fNum s n) = 0 := by
    unfold chk fNum
    simp only
    rw [if_neg (by omega), if_neg (by omega), if_neg (by simp; omega)]
  have he : enc (fNum s n) = beN (wid s) n.toNat := by unfold enc fNum; simp only; rw [if_neg (by omega)]
  have hw := wid_le s
  rw [show [fNum s n].foldl putS (l, 0) = putS (l, 0) (fNum s n) from rfl, putS_rfs]
  have hr : rfs (l, 0) (fNum s n) = 0 := by
    unfold rfs
    simp only
    rw [if_neg (by simp), if_neg (by rw [hc]; simp), if_neg (by rw [he, beN_length]; omega)]
  rw [if_pos hr, he]
theorem put_all (i r x s : Int) (h : okC ⟨i, r, x, s⟩ = true) : [fNum 1 s].foldl putS ([fNum 2 x].foldl putS ([fNum 0 r].foldl putS ([fNum 1 i].foldl putS ([], 0)))) = (clB ⟨i, r, x, s⟩, 0) := by
  have hh := (okC_iff i r x s).mp h
  rw [put_num [] 1 i (by omega) (by omega) (by omega) (by unfold most; simp; omega) (by simp)]
  rw [put_num _ 0 r (by omega) (by omega) (by omega) (by unfold most; simp; omega) (by simp [beN_length, wid])]
  rw [put_num _ 2 x (by omega) (by omega) (by omega) (by unfold most; simp; omega) (by simp [beN_length, wid])]
  rw [put_num _ 1 s (by omega) (by omega) (by omega) (by unfold most; simp; omega) (by simp [beN_length, wid])]
  rfl
set_option maxRecDepth 100000 in
set_option maxHeartbeats 4000000 in
theorem bytes_ok (c : Cl) (w : World) (hc : okC c = true) : Calls Tryd.prog 45 #[clV c] w fun e w' => ∃ v, e = .returned (.tuple #[v, .int .i64 0]) ∧ OwnB w' w.heap.size v (clB c) ∧ Below w.heap.size w w' := by
  obtain ⟨i, r, x, s⟩ := c
  have HOK := Bx.mk ((okC_iff i r x s).mp hc)
  have HP := Bx.mk (put_all i r x s hc)
  have HK := fun (W : World) => ccheck_any ⟨i, r, x, s⟩ W
  rw [if_pos hc] at HK
  clear hc
  obtain ⟨z, hz, hzz⟩ := zero_wr
  have HZ := Bx.mk hzz
  clear hzz
  obtain ⟨B, hB⟩ : ∃ B, w.heap.size = B := ⟨_, rfl⟩
  rw [hB]
  have HB := Bx.mk hB
  have HX : Bx ((w.alloc (.cells #[.int .i64 i, .int .i64 r, .int .i64 x, .int .i64 s] 30)).heap[B]? = some (.cells (clC ⟨i, r, x, s⟩) 30 (0, 0)) ∧ Below B w (w.alloc (.cells #[.int .i64 i, .int .i64 r, .int .i64 x, .int .i64 s] 30)) ∧ (w.alloc (.cells #[.int .i64 i, .int .i64 r, .int .i64 x, .int .i64 s] 30)).heap.size = B + 1) := Bx.mk ⟨by rw [hnew _ _ _ hB.symm]; rfl, by rw [← hB]; exact below_a _, by simp [hB]⟩
  unfold clV at HK ⊢
  simp only at HK ⊢
  go_enter Tryd.func45, Tryd.ntmps45
  go_wp2_with fail
  refine (HK _).mono ?_
  rintro e w2 ⟨rfl, hb2⟩
  obtain ⟨p, hp⟩ : ∃ p, w2.heap.size = p := ⟨_, rfl⟩
  have H2 : Bx (BC w B p ⟨i, r, x, s⟩ ([], 0) (w2.alloc (.cells z 118))) := Bx.mk ⟨by rw [← hp]; exact new_wr w2 z HZ.out, by
      rw [hold _ _ _ (by have := hb2.size; have := HX.out.2.2; omega), hb2.block B (by have := HX.out.2.2; omega)]
      exact HX.out.1, (HX.out.2.1.trans (hb2.mono (by have := HX.out.2.2; omega))).alloc (by have := hb2.size; have := HX.out.2.2; omega) _, by have := hb2.size; have := HX.out.2.2; omega⟩
  clear hb2 HX HK
  go_upto_region 5 with (fail)
  clear hp
  generalize w2.alloc (.cells z 118) = w3 at *
  have HC := Bx.mk H2.out.drew
  clear H2 hz HZ
  refine wp_region_noPanic ?_
  refine wp_region_held_drew (S := fun W => W.cell? ⟨B, 0, none⟩ = some (.int .i64 i) ∧ W.cell? ⟨B, 1, none⟩ = some (.int .i64 r)) (by kernel_rfl) (⟨HC.out.c0, HC.out.c1⟩) (fun hHeld => ?_)
  generalize w3.drew = W0 at *
  refine takeL 0 (v := ?_) rfl (by kernel_rfl) (by kernel_rfl) (by kernel_rfl) (fun _ _ _ h => h) (Or.inl ⟨by rfl, ?_⟩) hHeld ?_
  rotate_left 1
  · (intro w hSw; go_simp; try with_reducible rfl)
  try simp only [Act.put, List.setIfInBounds_toArray, List.set_cons_zero, List.set_cons_succ]
  refine takeL 1 (v := ?_) rfl (by kernel_rfl) (by kernel_rfl) (by kernel_rfl) (fun _ _ _ h => h) (Or.inl ⟨by rfl, ?_⟩) hHeld ?_
  rotate_left 1
  · (intro w hSw; go_simp; try with_reducible rfl)
  try simp only [Act.put, List.setIfInBounds_toArray, List.set_cons_zero, List.set_cons_succ]
  refine takeL 4 (v := ?_) rfl (by kernel_rfl) (by kernel_rfl) (by kernel_rfl) (fun _ _ _ h => h) (Or.inl ⟨by rfl, ?_⟩) hHeld ?_
  rotate_left 1
  · (intro w hSw; go_simp; try with_reducible rfl)
  try simp only [Act.put, List.setIfInBounds_toArray, List.set_cons_zero, List.set_cons_succ]
  refine takeL 5 (v := ?_) rfl (by kernel_rfl) (by kernel_rfl) (by kernel_rfl) (fun _ _ _ h => h) (Or.inl ⟨by rfl, ?_⟩) hHeld ?_
  rotate_left 1
  · (intro w hSw; go_simp; try with_reducible rfl)
  try simp only [Act.put, List.setIfInBounds_toArray, List.set_cons_zero, List.set_cons_succ]
  refine wpAnyH_ready (rs := [2, 6]) (by kernel_rfl) (by simp) ?_
  refine consM 2 rfl (fun K hK => ?_) (consM 6 rfl (fun K hK => ?_) AllReadyH.nil)
  · go_simp
    have b1 : Bx (IntsN (W0.alloc (.cells #[.int .i64 i] 3)) p (.slice (some ⟨W0.heap.size, 0, none⟩) 1 1) [i]) := Bx.mk (ints_one W0 p i _ HC.out.wr.lt)
    have HC := Bx.mk (HC.out.alloc (.cells #[.int .i64 i] 3))
    refine hK.out _ _ ⟨HC.out.c0, HC.out.c1⟩ (fun hHeld => ?_)
    clear hK K
    try simp only [Act.put, List.setIfInBounds_toArray, List.set_cons_zero, List.set_cons_succ]
    generalize W0.alloc (.cells #[.int .i64 i] 3) = W1 at *
    generalize W0.heap.size = Db1 at *
    refine wpAnyH_ready (rs := [3, 6]) (by kernel_rfl) (by simp) ?_
    refine consM 3 rfl (fun K hK => ?_) (consM 6 rfl (fun K hK => ?_) AllReadyH.nil)
    · go_simp
      refine (wnum_any 1 [i] _ p _ W1 HC.out.wr b1.out (fun n hn => by simp at hn; subst hn; have := HOK.out; omega) (by simp)).mono ?_
      rintro e W2 ⟨rfl, hw, hg⟩
      show K _ _
      have HC := Bx.mk (HC.out.grown hw hg)
      clear hw hg b1
      refine hK.out _ _ ⟨HC.out.c0, HC.out.c1⟩ (fun hHeld => ?_)
      clear hK K
      try simp only [Act.put, List.setIfInBounds_toArray, List.set_cons_zero, List.set_cons_succ]
      refine stepL 6 (by kernel_rfl) rfl (fun K hK => ?_)
      go_simp
      have b2 : Bx (IntsN (W2.alloc (.cells #[.int .i64 r] 3)) p (.slice (some ⟨W2.heap.size, 0, none⟩) 1 1) [r]) := Bx.mk (ints_one W2 p r _ HC.out.wr.lt)
      have HC := Bx.mk (HC.out.alloc (.cells #[.int .i64 r] 3))
      refine hK.out _ _ ⟨HC.out.c0, HC.out.c1⟩ (fun hHeld => ?_)
      clear hK K
      try simp only [Act.put, List.setIfInBounds_toArray, List.set_cons_zero, List.set_cons_succ]
      generalize W2.alloc (.cells #[.int .i64 r] 3) = W3 at *
      generalize W2.heap.size = Db2 at *
      refine stepL 7 (by kernel_rfl) rfl (fun K hK => ?_)
      go_simp
      refine (wnum_any 0 [r] _ p _ W3 HC.out.wr b2.out (fun n hn => by simp at hn; subst hn; have := HOK.out; omega) (by simp)).mono ?_
      rintro e W4 ⟨rfl, hw, hg⟩
      show K _ _
      have HC := Bx.mk (HC.out.grown hw hg)
      clear hw hg b2
      refine hK.out _ _ ⟨HC.out.c0, HC.out.c1⟩ (fun hHeld => ?_)
      clear hK K
      try simp only [Act.put, List.setIfInBounds_toArray, List.set_cons_zero, List.set_cons_succ]
      refine wpAnyH_done (by kernel_rfl) ?_ _
      refine NoPanic.normal ?_
      clear hHeld
      go_upto_region 6 with (fail)
      have HC := Bx.mk HC.out.drew
      refine wp_region_noPanic ?_
      refine wp_region_held_drew (S := fun W => W.cell? ⟨B, 2, none⟩ = some (.int .i64 x) ∧ W.cell? ⟨B, 3, none⟩ = some (.int .i64 s)) (by kernel_rfl) (⟨HC.out.c2, HC.out.c3⟩) (fun hHeld => ?_)
      generalize W4.drew = W5 at *
      refine takeL 0 (v := ?_) rfl (by kernel_rfl) (by kernel_rfl) (by kernel_rfl) (fun _ _ _ h => h) (Or.inl ⟨by rfl, ?_⟩) hHeld ?_
      rotate_left 1
      · (intro w hSw; go_simp; try with_reducible rfl)
      try simp only [Act.put, List.setIfInBounds_toArray, List.set_cons_zero, List.set_cons_succ]
      refine takeL 1 (v := ?_) rfl (by kernel_rfl) (by kernel_rfl) (by kernel_rfl) (fun _ _ _ h => h) (Or.inl ⟨by rfl, ?_⟩) hHeld ?_
      rotate_left 1
      · (intro w hSw; go_simp; try with_reducible rfl)
      try simp only [Act.put, List.setIfInBounds_toArray, List.set_cons_zero, List.set_cons_succ]
      refine takeL 4 (v := ?_) rfl (by kernel_rfl) (by kernel_rfl) (by kernel_rfl) (fun _ _ _ h => h) (Or.inl ⟨by rfl, ?_⟩) hHeld ?_
      rotate_left 1
      · (intro w hSw; go_simp; try with_reducible rfl)
      try simp only [Act.put, List.setIfInBounds_toArray, List.set_cons_zero, List.set_cons_succ]
      refine takeL 5 (v := ?_) rfl (by kernel_rfl) (by kernel_rfl) (by kernel_rfl) (fun _ _ _ h => h) (Or.inl ⟨by rfl, ?_⟩) hHeld ?_
      rotate_left 1
      · (intro w hSw; go_simp; try with_reducible rfl)
      try simp only [Act.put, List.setIfInBounds_toArray, List.set_cons_zero, List.set_cons_succ]
      refine wpAnyH_ready (rs := [2, 6]) (by kernel_rfl) (by simp) ?_
      refine consM 2 rfl (fun K hK => ?_) (consM 6 rfl (fun K hK => ?_) AllReadyH.nil)
      · go_simp
        have b3 : Bx (IntsN (W5.alloc (.cells #[.int .i64 x] 3)) p (.slice (some ⟨W5.heap.size, 0, none⟩) 1 1) [x]) := Bx.mk (ints_one W5 p x _ HC.out.wr.lt)
        have HC := Bx.mk (HC.out.alloc (.cells #[.int .i64 x] 3))
        refine hK.out _ _ ⟨HC.out.c2, HC.out.c3⟩ (fun hHeld => ?_)
        clear hK K
        try simp only [Act.put, List.setIfInBounds_toArray, List.set_cons_zero, List.set_cons_succ]
        generalize W5.alloc (.cells #[.int .i64 x] 3) = W6 at *
        generalize W5.heap.size = Db3 at *
        refine wpAnyH_ready (rs := [3, 6]) (by kernel_rfl) (by simp) ?_
        refine consM 3 rfl (fun K hK => ?_) (consM 6 rfl (fun K hK => ?_) AllReadyH.nil)
        · go_simp
          refine (wnum_any 2 [x] _ p _ W6 HC.out.wr b3.out (fun n hn => by simp at hn; subst hn; have := HOK.out; omega) (by simp)).mono ?_
          rintro e W7 ⟨rfl, hw, hg⟩
          show K _ _
          have HC := Bx.mk (HC.out.grown hw hg)
          clear hw hg b3
          refine hK.out _ _ ⟨HC.out.c2, HC.out.c3⟩ (fun hHeld => ?_)
          clear hK K
          try simp only [Act.put, List.setIfInBounds_toArray, List.set_cons_zero, List.set_cons_succ]
          refine stepL 6 (by kernel_rfl) rfl (fun K hK => ?_)
          go_simp
          have b4 : Bx (IntsN (W7.alloc (.cells #[.int .i64 s] 3)) p (.slice (some ⟨W7.heap.size, 0, none⟩) 1 1) [s]) := Bx.mk (ints_one W7 p s _ HC.out.wr.lt)
          have HC := Bx.mk (HC.out.alloc (.cells #[.int .i64 s] 3))
          refine hK.out _ _ ⟨HC.out.c2, HC.out.c3⟩ (fun hHeld => ?_)
          clear hK K
          try simp only [Act.put, List.setIfInBounds_toArray, List.set_cons_zero, List.set_cons_succ]
          generalize W7.alloc (.cells #[.int .i64 s] 3) = W8 at *
          generalize W7.heap.size = Db4 at *
          refine stepL 7 (by kernel_rfl) rfl (fun K hK => ?_)
          go_simp
          refine (wnum_any 1 [s] _ p _ W8 HC.out.wr b4.out (fun n hn => by simp at hn; subst hn; have := HOK.out; omega) (by simp)).mono ?_
          rintro e W9 ⟨rfl, hw, hg⟩
          show K _ _
          have HC := Bx.mk (HC.out.grown hw hg)
          clear hw hg b4
          refine hK.out _ _ ⟨HC.out.c2, HC.out.c3⟩ (fun hHeld => ?_)
          clear hK K
          try simp only [Act.put, List.setIfInBounds_toArray, List.set_cons_zero, List.set_cons_succ]
          refine wpAnyH_done (by kernel_rfl) ?_ _
          refine NoPanic.normal ?_
          clear hHeld
          have HC : Bx (BC w B p ⟨i, r, x, s⟩ (clB ⟨i, r, x, s⟩, 0) W9) := Bx.mk (by have h := HC.out; simp only [List.map_cons, List.map_nil] at h; rw [HP.out] at h; exact h)
          go_wp2_with fail
          refine (wout_ok p _ W9 HC.out.wr).mono ?_
          rintro e wz ⟨vz, rfl, hoz, hbz⟩
          have HZ : Bx (OwnB wz B vz (clB ⟨i, r, x, s⟩) ∧ Below B w wz) := Bx.mk ⟨hoz.weak (Nat.le_of_lt (Nat.lt_trans HC.out.lt HC.out.wr.lt)), HC.out.below.trans (hbz.mono (Nat.le_of_lt (Nat.lt_trans HC.out.lt HC.out.wr.lt)))⟩
          obtain ⟨az, cz, hvz⟩ := own_form hoz
          subst hvz
          clear hoz hbz HC
          go_wp2
          go_ret2
          exact ⟨_, rfl, HZ.out⟩
        · go_simp
          have b4 : Bx (IntsN (W6.alloc (.cells #[.int .i64 s] 3)) p (.slice (some ⟨W6.heap.size, 0, none⟩) 1 1) [s]) := Bx.mk (ints_one W6 p s _ HC.out.wr.lt)
          have b3 := Bx.mk (b3.out.grown (kb_below (some p) (below_a (.cells #[.int .i64 s] 3))))
          have HC := Bx.mk (HC.out.alloc (.cells #[.int .i64 s] 3))
          refine hK.out _ _ ⟨HC.out.c2, HC.out.c3⟩ (fun hHeld => ?_)
          clear hK K
          try simp only [Act.put, List.setIfInBounds_toArray, List.set_cons_zero, List.set_cons_succ]
          generalize W6.alloc (.cells #[.int .i64 s] 3) = W7 at *
          generalize W6.heap.size = Db4 at *
          refine stepL 3 (by kernel_rfl) rfl (fun K hK => ?_)
          go_simp
          refine (wnum_any 2 [x] _ p _ W7 HC.out.wr b3.out (fun n hn => by simp at hn; subst hn; have := HOK.out; omega) (by simp)).mono ?_
          rintro e W8 ⟨rfl, hw, hg⟩
          show K _ _
          have b4 := Bx.mk (b4.out.grown hg)
          have HC := Bx.mk (HC.out.grown hw hg)
          clear hw hg b3
          refine hK.out _ _ ⟨HC.out.c2, HC.out.c3⟩ (fun hHeld => ?_)
          clear hK K
          try simp only [Act.put, List.setIfInBounds_toArray, List.set_cons_zero, List.set_cons_succ]
          refine stepL 7 (by kernel_rfl) rfl (fun K hK => ?_)
          go_simp
          refine (wnum_any 1 [s] _ p _ W8 HC.out.wr b4.out (fun n hn => by simp at hn; subst hn; have := HOK.out; omega) (by simp)).mono ?_
          rintro e W9 ⟨rfl, hw, hg⟩
          show K _ _
          have HC := Bx.mk (HC.out.grown hw hg)
          clear hw hg b4
          refine hK.out _ _ ⟨HC.out.c2, HC.out.c3⟩ (fun hHeld => ?_)
          clear hK K
          try simp only [Act.put, List.setIfInBounds_toArray, List.set_cons_zero, List.set_cons_succ]
          refine wpAnyH_done (by kernel_rfl) ?_ _
          refine NoPanic.normal ?_
          clear hHeld
          have HC : Bx (BC w B p ⟨i, r, x, s⟩ (clB ⟨i, r, x, s⟩, 0) W9) := Bx.mk (by have h := HC.out; simp only [List.map_cons, List.map_nil] at h; rw [HP.out] at h; exact h)
          go_wp2_with fail
          refine (wout_ok p _ W9 HC.out.wr).mono ?_
          rintro e wz ⟨vz, rfl, hoz, hbz⟩
          have HZ : Bx (OwnB wz B vz (clB ⟨i, r, x, s⟩) ∧ Below B w wz) := Bx.mk ⟨hoz.weak (Nat.le_of_lt (Nat.lt_trans HC.out.lt HC.out.wr.lt)), HC.out.below.trans (hbz.mono (Nat.le_of_lt (Nat.lt_trans HC.out.lt HC.out.wr.lt)))⟩
          obtain ⟨az, cz, hvz⟩ := own_form hoz
          subst hvz
          clear hoz hbz HC
          go_wp2
          go_ret2
          exact ⟨_, rfl, HZ.out⟩
      · go_simp
        have b4 : Bx (IntsN (W5.alloc (.cells #[.int .i64 s] 3)) p (.slice (some ⟨W5.heap.size, 0, none⟩) 1 1) [s]) := Bx.mk (ints_one W5 p s _ HC.out.wr.lt)
        have HC := Bx.mk (HC.out.alloc (.cells #[.int .i64 s] 3))
        refine hK.out _ _ ⟨HC.out.c2, HC.out.c3⟩ (fun hHeld => ?_)
        clear hK K
        try simp only [Act.put, List.setIfInBounds_toArray, List.set_cons_zero, List.set_cons_succ]
        generalize W5.alloc (.cells #[.int .i64 s] 3) = W6 at *
        generalize W5.heap.size = Db4 at *
        refine stepL 2 (by kernel_rfl) rfl (fun K hK => ?_)
        go_simp
        have b3 : Bx (IntsN (W6.alloc (.cells #[.int .i64 x] 3)) p (.slice (some ⟨W6.heap.size, 0, none⟩) 1 1) [x]) := Bx.mk (ints_one W6 p x _ HC.out.wr.lt)
        have b4 := Bx.mk (b4.out.grown (kb_below (some p) (below_a (.cells #[.int .i64 x] 3))))
        have HC := Bx.mk (HC.out.alloc (.cells #[.int .i64 x] 3))
        refine hK.out _ _ ⟨HC.out.c2, HC.out.c3⟩ (fun hHeld => ?_)
        clear hK K
        try simp only [Act.put, List.setIfInBounds_toArray, List.set_cons_zero, List.set_cons_succ]
        generalize W6.alloc (.cells #[.int .i64 x] 3) = W7 at *
        generalize W6.heap.size = Db3 at *
        refine stepL 3 (by kernel_rfl) rfl (fun K hK => ?_)
        go_simp
        refine (wnum_any 2 [x] _ p _ W7 HC.out.wr b3.out (fun n hn => by simp at hn; subst hn; have := HOK.out; omega) (by simp)).mono ?_
        rintro e W8 ⟨rfl, hw, hg⟩
        show K _ _
        have b4 := Bx.mk (b4.out.grown hg)
        have HC := Bx.mk (HC.out.grown hw hg)
        clear hw hg b3
        refine hK.out _ _ ⟨HC.out.c2, HC.out.c3⟩ (fun hHeld => ?_)
        clear hK K
        try simp only [Act.put, List.setIfInBounds_toArray, List.set_cons_zero, List.set_cons_succ]
        refine stepL 7 (by kernel_rfl) rfl (fun K hK => ?_)
        go_simp
        refine (wnum_any 1 [s] _ p _ W8 HC.out.wr b4.out (fun n hn => by simp at hn; subst hn; have := HOK.out; omega) (by simp)).mono ?_
        rintro e W9 ⟨rfl, hw, hg⟩
        show K _ _
        have HC := Bx.mk (HC.out.grown hw hg)
        clear hw hg b4
        refine hK.out _ _ ⟨HC.out.c2, HC.out.c3⟩ (fun hHeld => ?_)
        clear hK K
        try simp only [Act.put, List.setIfInBounds_toArray, List.set_cons_zero, List.set_cons_succ]
        refine wpAnyH_done (by kernel_rfl) ?_ _
        refine NoPanic.normal ?_
        clear hHeld
        have HC : Bx (BC w B p ⟨i, r, x, s⟩ (clB ⟨i, r, x, s⟩, 0) W9) := Bx.mk (by have h := HC.out; simp only [List.map_cons, List.map_nil] at h; rw [HP.out] at h; exact h)
        go_wp2_with fail
        refine (wout_ok p _ W9 HC.out.wr).mono ?_
        rintro e wz ⟨vz, rfl, hoz, hbz⟩
        have HZ : Bx (OwnB wz B vz (clB ⟨i, r, x, s⟩) ∧ Below B w wz) := Bx.mk ⟨hoz.weak (Nat.le_of_lt (Nat.lt_trans HC.out.lt HC.out.wr.lt)), HC.out.below.trans (hbz.mono (Nat.le_of_lt (Nat.lt_trans HC.out.lt HC.out.wr.lt)))⟩
        obtain ⟨az, cz, hvz⟩ := own_form hoz
        subst hvz
        clear hoz hbz HC
        go_wp2
        go_ret2
        exact ⟨_, rfl, HZ.out⟩
    · go_simp
      have b2 : Bx (IntsN (W1.alloc (.cells #[.int .i64 r] 3)) p (.slice (some ⟨W1.heap.size, 0, none⟩) 1 1) [r]) := Bx.mk (ints_one W1 p r _ HC.out.wr.lt)
      have b1 := Bx.mk (b1.out.grown (kb_below (some p) (below_a (.cells #[.int .i64 r] 3))))
      have HC := Bx.mk (HC.out.alloc (.cells #[.int .i64 r] 3))
      refine hK.out _ _ ⟨HC.out.c0, HC.out.c1⟩ (fun hHeld => ?_)
      clear hK K
      try simp only [Act.put, List.setIfInBounds_toArray, List.set_cons_zero, List.set_cons_succ]
      generalize W1.alloc (.cells #[.int .i64 r] 3) = W2 at *
      generalize W1.heap.size = Db2 at *
      refine stepL 3 (by kernel_rfl) rfl (fun K hK => ?_)
      go_simp
      refine (wnum_any 1 [i] _ p _ W2 HC.out.wr b1.out (fun n hn => by simp at hn; subst hn; have := HOK.out; omega) (by simp)).mono ?_
      rintro e W3 ⟨rfl, hw, hg⟩
      show K _ _
      have b2 := Bx.mk (b2.out.grown hg)
      have HC := Bx.mk (HC.out.grown hw hg)
      clear hw hg b1
      refine hK.out _ _ ⟨HC.out.c0, HC.out.c1⟩ (fun hHeld => ?_)
      clear hK K
      try simp only [Act.put, List.setIfInBounds_toArray, List.set_cons_zero, List.set_cons_succ]
      refine stepL 7 (by kernel_rfl) rfl (fun K hK => ?_)
      go_simp
      refine (wnum_any 0 [r] _ p _ W3 HC.out.wr b2.out (fun n hn => by simp at hn; subst hn; have := HOK.out; omega) (by simp)).mono ?_
      rintro e W4 ⟨rfl, hw, hg⟩
      show K _ _
      have HC := Bx.mk (HC.out.grown hw hg)
      clear hw hg b2
      refine hK.out _ _ ⟨HC.out.c0, HC.out.c1⟩ (fun hHeld => ?_)
      clear hK K
      try simp only [Act.put, List.setIfInBounds_toArray, List.set_cons_zero, List.set_cons_succ]
      refine wpAnyH_done (by kernel_rfl) ?_ _
      refine NoPanic.normal ?_
      clear hHeld
      go_upto_region 6 with (fail)
      have HC := Bx.mk HC.out.drew
      refine wp_region_noPanic ?_
      refine wp_region_held_drew (S := fun W => W.cell? ⟨B, 2, none⟩ = some (.int .i64 x) ∧ W.cell? ⟨B, 3, none⟩ = some (.int .i64 s)) (by kernel_rfl) (⟨HC.out.c2, HC.out.c3⟩) (fun hHeld => ?_)
      generalize W4.drew = W5 at *
      refine takeL 0 (v := ?_) rfl (by kernel_rfl) (by kernel_rfl) (by kernel_rfl) (fun _ _ _ h => h) (Or.inl ⟨by rfl, ?_⟩) hHeld ?_
      rotate_left 1
      · (intro w hSw; go_simp; try with_reducible rfl)
      try simp only [Act.put, List.setIfInBounds_toArray, List.set_cons_zero, List.set_cons_succ]
      refine takeL 1 (v := ?_) rfl (by kernel_rfl) (by kernel_rfl) (by kernel_rfl) (fun _ _ _ h => h) (Or.inl ⟨by rfl, ?_⟩) hHeld ?_
      rotate_left 1
      · (intro w hSw; go_simp; try with_reducible rfl)
      try simp only [Act.put, List.setIfInBounds_toArray, List.set_cons_zero, List.set_cons_succ]
      refine takeL 4 (v := ?_) rfl (by kernel_rfl) (by kernel_rfl) (by kernel_rfl) (fun _ _ _ h => h) (Or.inl ⟨by rfl, ?_⟩) hHeld ?_
      rotate_left 1
      · (intro w hSw; go_simp; try with_reducible rfl)
      try simp only [Act.put, List.setIfInBounds_toArray, List.set_cons_zero, List.set_cons_succ]
      refine takeL 5 (v := ?_) rfl (by kernel_rfl) (by kernel_rfl) (by kernel_rfl) (fun _ _ _ h => h) (Or.inl ⟨by rfl, ?_⟩) hHeld ?_
      rotate_left 1
      · (intro w hSw; go_simp; try with_reducible rfl)
      try simp only [Act.put, List.setIfInBounds_toArray, List.set_cons_zero, List.set_cons_succ]
      refine wpAnyH_ready (rs := [2, 6]) (by kernel_rfl) (by simp) ?_
      refine consM 2 rfl (fun K hK => ?_) (consM 6 rfl (fun K hK => ?_) AllReadyH.nil)
      · go_simp
        have b3 : Bx (IntsN (W5.alloc (.cells #[.int .i64 x] 3)) p (.slice (some ⟨W5.heap.size, 0, none⟩) 1 1) [x]) := Bx.mk (ints_one W5 p x _ HC.out.wr.lt)
        have HC := Bx.mk (HC.out.alloc (.cells #[.int .i64 x] 3))
        refine hK.out _ _ ⟨HC.out.c2, HC.out.c3⟩ (fun hHeld => ?_)
        clear hK K
        try simp only [Act.put, List.setIfInBounds_toArray, List.set_cons_zero, List.set_cons_succ]
        generalize W5.alloc (.cells #[.int .i64 x] 3) = W6 at *
        generalize W5.heap.size = Db3 at *
        refine wpAnyH_ready (rs := [3, 6]) (by kernel_rfl) (by simp) ?_
        refine consM 3 rfl (fun K hK => ?_) (consM 6 rfl (fun K hK => ?_) AllReadyH.nil)
        · go_simp
          refine (wnum_any 2 [x] _ p _ W6 HC.out.wr b3.out (fun n hn => by simp at hn; subst hn; have := HOK.out; omega) (by simp)).mono ?_
          rintro e W7 ⟨rfl, hw, hg⟩
          show K _ _
          have HC := Bx.mk (HC.out.grown hw hg)
          clear hw hg b3
          refine hK.out _ _ ⟨HC.out.c2, HC.out.c3⟩ (fun hHeld => ?_)
          clear hK K
          try simp only [Act.put, List.setIfInBounds_toArray, List.set_cons_zero, List.set_cons_succ]
          refine stepL 6 (by kernel_rfl) rfl (fun K hK => ?_)
          go_simp
          have b4 : Bx (IntsN (W7.alloc (.cells #[.int .i64 s] 3)) p (.slice (some ⟨W7.heap.size, 0, none⟩) 1 1) [s]) := Bx.mk (ints_one W7 p s _ HC.out.wr.lt)
          have HC := Bx.mk (HC.out.alloc (.cells #[.int .i64 s] 3))
          refine hK.out _ _ ⟨HC.out.c2, HC.out.c3⟩ (fun hHeld => ?_)
          clear hK K
          try simp only [Act.put, List.setIfInBounds_toArray, List.set_cons_zero, List.set_cons_succ]
          generalize W7.alloc (.cells #[.int .i64 s] 3) = W8 at *
          generalize W7.heap.size = Db4 at *
          refine stepL 7 (by kernel_rfl) rfl (fun K hK => ?_)
          go_simp
          refine (wnum_any 1 [s] _ p _ W8 HC.out.wr b4.out (fun n hn => by simp at hn; subst hn; have := HOK.out; omega) (by simp)).mono ?_
          rintro e W9 ⟨rfl, hw, hg⟩
          show K _ _
          have HC := Bx.mk (HC.out.grown hw hg)
          clear hw hg b4
          refine hK.out _ _ ⟨HC.out.c2, HC.out.c3⟩ (fun hHeld => ?_)
          clear hK K
          try simp only [Act.put, List.setIfInBounds_toArray, List.set_cons_zero, List.set_cons_succ]
          refine wpAnyH_done (by kernel_rfl) ?_ _
          refine NoPanic.normal ?_
          clear hHeld
          have HC : Bx (BC w B p ⟨i, r, x, s⟩ (clB ⟨i, r, x, s⟩, 0) W9) := Bx.mk (by have h := HC.out; simp only [List.map_cons, List.map_nil] at h; rw [HP.out] at h; exact h)
          go_wp2_with fail
          refine (wout_ok p _ W9 HC.out.wr).mono ?_
          rintro e wz ⟨vz, rfl, hoz, hbz⟩
          have HZ : Bx (OwnB wz B vz (clB ⟨i, r, x, s⟩) ∧ Below B w wz) := Bx.mk ⟨hoz.weak (Nat.le_of_lt (Nat.lt_trans HC.out.lt HC.out.wr.lt)), HC.out.below.trans (hbz.mono (Nat.le_of_lt (Nat.lt_trans HC.out.lt HC.out.wr.lt)))⟩
          obtain ⟨az, cz, hvz⟩ := own_form hoz
          subst hvz
          clear hoz hbz HC
          go_wp2
          go_ret2
          exact ⟨_, rfl, HZ.out⟩
        · go_simp
          have b4 : Bx (IntsN (W6.alloc (.cells #[.int .i64 s] 3)) p (.slice (some ⟨W6.heap.size, 0, none⟩) 1 1) [s]) := Bx.mk (ints_one W6 p s _ HC.out.wr.lt)
          have b3 := Bx.mk (b3.out.grown (kb_below (some p) (below_a (.cells #[.int .i64 s] 3))))
          have HC := Bx.mk (HC.out.alloc (.cells #[.int .i64 s] 3))
          refine hK.out _ _ ⟨HC.out.c2, HC.out.c3⟩ (fun hHeld => ?_)
          clear hK K
          try simp only [Act.put, List.setIfInBounds_toArray, List.set_cons_zero, List.set_cons_succ]
          generalize W6.alloc (.cells #[.int .i64 s] 3) = W7 at *
          generalize W6.heap.size = Db4 at *
          refine stepL 3 (by kernel_rfl) rfl (fun K hK => ?_)
          go_simp
          refine (wnum_any 2 [x] _ p _ W7 HC.out.wr b3.out (fun n hn => by simp at hn; subst hn; have := HOK.out; omega) (by simp)).mono ?_
          rintro e W8 ⟨rfl, hw, hg⟩
          show K _ _
          have b4 := Bx.mk (b4.out.grown hg)
          have HC := Bx.mk (HC.out.grown hw hg)
          clear hw hg b3
          refine hK.out _ _ ⟨HC.out.c2, HC.out.c3⟩ (fun hHeld => ?_)
          clear hK K
          try simp only [Act.put, List.setIfInBounds_toArray, List.set_cons_zero, List.set_cons_succ]
          refine stepL 7 (by kernel_rfl) rfl (fun K hK => ?_)
          go_simp
          refine (wnum_any 1 [s] _ p _ W8 HC.out.wr b4.out (fun n hn => by simp at hn; subst hn; have := HOK.out; omega) (by simp)).mono ?_
          rintro e W9 ⟨rfl, hw, hg⟩
          show K _ _
          have HC := Bx.mk (HC.out.grown hw hg)
          clear hw hg b4
          refine hK.out _ _ ⟨HC.out.c2, HC.out.c3⟩ (fun hHeld => ?_)
          clear hK K
          try simp only [Act.put, List.setIfInBounds_toArray, List.set_cons_zero, List.set_cons_succ]
          refine wpAnyH_done (by kernel_rfl) ?_ _
          refine NoPanic.normal ?_
          clear hHeld
          have HC : Bx (BC w B p ⟨i, r, x, s⟩ (clB ⟨i, r, x, s⟩, 0) W9) := Bx.mk (by have h := HC.out; simp only [List.map_cons, List.map_nil] at h; rw [HP.out] at h; exact h)
          go_wp2_with fail
          refine (wout_ok p _ W9 HC.out.wr).mono ?_
          rintro e wz ⟨vz, rfl, hoz, hbz⟩
          have HZ : Bx (OwnB wz B vz (clB ⟨i, r, x, s⟩) ∧ Below B w wz) := Bx.mk ⟨hoz.weak (Nat.le_of_lt (Nat.lt_trans HC.out.lt HC.out.wr.lt)), HC.out.below.trans (hbz.mono (Nat.le_of_lt (Nat.lt_trans HC.out.lt HC.out.wr.lt)))⟩
          obtain ⟨az, cz, hvz⟩ := own_form hoz
          subst hvz
          clear hoz hbz HC
          go_wp2
          go_ret2
          exact ⟨_, rfl, HZ.out⟩
      · go_simp
        have b4 : Bx (IntsN (W5.alloc (.cells #[.int .i64 s] 3)) p (.slice (some ⟨W5.heap.size, 0, none⟩) 1 1) [s]) := Bx.mk (ints_one W5 p s _ HC.out.wr.lt)
        have HC := Bx.mk (HC.out.alloc (.cells #[.int .i64 s] 3))
        refine hK.out _ _ ⟨HC.out.c2, HC.out.c3⟩ (fun hHeld => ?_)
        clear hK K
        try simp only [Act.put, List.setIfInBounds_toArray, List.set_cons_zero, List.set_cons_succ]
        generalize W5.alloc (.cells #[.int .i64 s] 3) = W6 at *
        generalize W5.heap.size = Db4 at *
        refine stepL 2 (by kernel_rfl) rfl (fun K hK => ?_)
        go_simp
        have b3 : Bx (IntsN (W6.alloc (.cells #[.int .i64 x] 3)) p (.slice (some ⟨W6.heap.size, 0, none⟩) 1 1) [x]) := Bx.mk (ints_one W6 p x _ HC.out.wr.lt)
        have b4 := Bx.mk (b4.out.grown (kb_below (some p) (below_a (.cells #[.int .i64 x] 3))))
        have HC := Bx.mk (HC.out.alloc (.cells #[.int .i64 x] 3))
        refine hK.out _ _ ⟨HC.out.c2, HC.out.c3⟩ (fun hHeld => ?_)
        clear hK K
        try simp only [Act.put, List.setIfInBounds_toArray, List.set_cons_zero, List.set_cons_succ]
        generalize W6.alloc (.cells #[.int .i64 x] 3) = W7 at *
        generalize W6.heap.size = Db3 at *
        refine stepL 3 (by kernel_rfl) rfl (fun K hK => ?_)
        go_simp
        refine (wnum_any 2 [x] _ p _ W7 HC.out.wr b3.out (fun n hn => by simp at hn; subst hn; have := HOK.out; omega) (by simp)).mono ?_
        rintro e W8 ⟨rfl, hw, hg⟩
        show K _ _
        have b4 := Bx.mk (b4.out.grown hg)
        have HC := Bx.mk (HC.out.grown hw hg)
        clear hw hg b3
        refine hK.out _ _ ⟨HC.out.c2, HC.out.c3⟩ (fun hHeld => ?_)
        clear hK K
        try simp only [Act.put, List.setIfInBounds_toArray, List.set_cons_zero, List.set_cons_succ]
        refine stepL 7 (by kernel_rfl) rfl (fun K hK => ?_)
        go_simp
        refine (wnum_any 1 [s] _ p _ W8 HC.out.wr b4.out (fun n hn => by simp at hn; subst hn; have := HOK.out; omega) (by simp)).mono ?_
        rintro e W9 ⟨rfl, hw, hg⟩
        show K _ _
        have HC := Bx.mk (HC.out.grown hw hg)
        clear hw hg b4
        refine hK.out _ _ ⟨HC.out.c2, HC.out.c3⟩ (fun hHeld => ?_)
        clear hK K
        try simp only [Act.put, List.setIfInBounds_toArray, List.set_cons_zero, List.set_cons_succ]
        refine wpAnyH_done (by kernel_rfl) ?_ _
        refine NoPanic.normal ?_
        clear hHeld
        have HC : Bx (BC w B p ⟨i, r, x, s⟩ (clB ⟨i, r, x, s⟩, 0) W9) := Bx.mk (by have h := HC.out; simp only [List.map_cons, List.map_nil] at h; rw [HP.out] at h; exact h)
        go_wp2_with fail
        refine (wout_ok p _ W9 HC.out.wr).mono ?_
        rintro e wz ⟨vz, rfl, hoz, hbz⟩
        have HZ : Bx (OwnB wz B vz (clB ⟨i, r, x, s⟩) ∧ Below B w wz) := Bx.mk ⟨hoz.weak (Nat.le_of_lt (Nat.lt_trans HC.out.lt HC.out.wr.lt)), HC.out.below.trans (hbz.mono (Nat.le_of_lt (Nat.lt_trans HC.out.lt HC.out.wr.lt)))⟩
        obtain ⟨az, cz, hvz⟩ := own_form hoz
        subst hvz
        clear hoz hbz HC
        go_wp2
        go_ret2
        exact ⟨_, rfl, HZ.out⟩
  · go_simp
    have b2 : Bx (IntsN (W0.alloc (.cells #[.int .i64 r] 3)) p (.slice (some ⟨W0.heap.size, 0, none⟩) 1 1) [r]) := Bx.mk (ints_one W0 p r _ HC.out.wr.lt)
    have HC := Bx.mk (HC.out.alloc (.cells #[.int .i64 r] 3))
    refine hK.out _ _ ⟨HC.out.c0, HC.out.c1⟩ (fun hHeld => ?_)
    clear hK K
    try simp only [Act.put, List.setIfInBounds_toArray, List.set_cons_zero, List.set_cons_succ]
    generalize W0.alloc (.cells #[.int .i64 r] 3) = W1 at *
    generalize W0.heap.size = Db2 at *
    refine stepL 2 (by kernel_rfl) rfl (fun K hK => ?_)
    go_simp
    have b1 : Bx (IntsN (W1.alloc (.cells #[.int .i64 i] 3)) p (.slice (some ⟨W1.heap.size, 0, none⟩) 1 1) [i]) := Bx.mk (ints_one W1 p i _ HC.out.wr.lt)
    have b2 := Bx.mk (b2.out.grown (kb_below (some p) (below_a (.cells #[.int .i64 i] 3))))
    have HC := Bx.mk (HC.out.alloc (.cells #[.int .i64 i] 3))
    refine hK.out _ _ ⟨HC.out.c0, HC.out.c1⟩ (fun hHeld => ?_)
    clear hK K
    try simp only [Act.put, List.setIfInBounds_toArray, List.set_cons_zero, List.set_cons_succ]
    generalize W1.alloc (.cells #[.int .i64 i] 3) = W2 at *
    generalize W1.heap.size = Db1 at *
    refine stepL 3 (by kernel_rfl) rfl (fun K hK => ?_)
    go_simp
    refine (wnum_any 1 [i] _ p _ W2 HC.out.wr b1.out (fun n hn => by simp at hn; subst hn; have := HOK.out; omega) (by simp)).mono ?_
    rintro e W3 ⟨rfl, hw, hg⟩
    show K _ _
    have b2 := Bx.mk (b2.out.grown hg)
    have HC := Bx.mk (HC.out.grown hw hg)
    clear hw hg b1
    refine hK.out _ _ ⟨HC.out.c0, HC.out.c1⟩ (fun hHeld => ?_)
    clear hK K
    try simp only [Act.put, List.setIfInBounds_toArray, List.set_cons_zero, List.set_cons_succ]
    refine stepL 7 (by kernel_rfl) rfl (fun K hK => ?_)
    go_simp
    refine (wnum_any 0 [r] _ p _ W3 HC.out.wr b2.out (fun n hn => by simp at hn; subst hn; have := HOK.out; omega) (by simp)).mono ?_
    rintro e W4 ⟨rfl, hw, hg⟩
    show K _ _
    have HC := Bx.mk (HC.out.grown hw hg)
    clear hw hg b2
    refine hK.out _ _ ⟨HC.out.c0, HC.out.c1⟩ (fun hHeld => ?_)
    clear hK K
    try simp only [Act.put, List.setIfInBounds_toArray, List.set_cons_zero, List.set_cons_succ]
    refine wpAnyH_done (by kernel_rfl) ?_ _
    refine NoPanic.normal ?_
    clear hHeld
    go_upto_region 6 with (fail)
    have HC := Bx.mk HC.out.drew
    refine wp_region_noPanic ?_
    refine wp_region_held_drew (S := fun W => W.cell? ⟨B, 2, none⟩ = some (.int .i64 x) ∧ W.cell? ⟨B, 3, none⟩ = some (.int .i64 s)) (by kernel_rfl) (⟨HC.out.c2, HC.out.c3⟩) (fun hHeld => ?_)
    generalize W4.drew = W5 at *
    refine takeL 0 (v := ?_) rfl (by kernel_rfl) (by kernel_rfl) (by kernel_rfl) (fun _ _ _ h => h) (Or.inl ⟨by rfl, ?_⟩) hHeld ?_
    rotate_left 1
    · (intro w hSw; go_simp; try with_reducible rfl)
    try simp only [Act.put, List.setIfInBounds_toArray, List.set_cons_zero, List.set_cons_succ]
    refine takeL 1 (v := ?_) rfl (by kernel_rfl) (by kernel_rfl) (by kernel_rfl) (fun _ _ _ h => h) (Or.inl ⟨by rfl, ?_⟩) hHeld ?_
    rotate_left 1
    · (intro w hSw; go_simp; try with_reducible rfl)
    try simp only [Act.put, List.setIfInBounds_toArray, List.set_cons_zero, List.set_cons_succ]
    refine takeL 4 (v := ?_) rfl (by kernel_rfl) (by kernel_rfl) (by kernel_rfl) (fun _ _ _ h => h) (Or.inl ⟨by rfl, ?_⟩) hHeld ?_
    rotate_left 1
    · (intro w hSw; go_simp; try with_reducible rfl)
    try simp only [Act.put, List.setIfInBounds_toArray, List.set_cons_zero, List.set_cons_succ]
    refine takeL 5 (v := ?_) rfl (by kernel_rfl) (by kernel_rfl) (by kernel_rfl) (fun _ _ _ h => h) (Or.inl ⟨by rfl, ?_⟩) hHeld ?_
    rotate_left 1
    · (intro w hSw; go_simp; try with_reducible rfl)
    try simp only [Act.put, List.setIfInBounds_toArray, List.set_cons_zero, List.set_cons_succ]
    refine wpAnyH_ready (rs := [2, 6]) (by kernel_rfl) (by simp) ?_
    refine consM 2 rfl (fun K hK => ?_) (consM 6 rfl (fun K hK => ?_) AllReadyH.nil)
    · go_simp
      have b3 : Bx (IntsN (W5.alloc (.cells #[.int .i64 x] 3)) p (.slice (some ⟨W5.heap.size, 0, none⟩) 1 1) [x]) := Bx.mk (ints_one W5 p x _ HC.out.wr.lt)
      have HC := Bx.mk (HC.out.alloc (.cells #[.int .i64 x] 3))
      refine hK.out _ _ ⟨HC.out.c2, HC.out.c3⟩ (fun hHeld => ?_)
      clear hK K
      try simp only [Act.put, List.setIfInBounds_toArray, List.set_cons_zero, List.set_cons_succ]
      generalize W5.alloc (.cells #[.int .i64 x] 3) = W6 at *
      generalize W5.heap.size = Db3 at *
      refine wpAnyH_ready (rs := [3, 6]) (by kernel_rfl) (by simp) ?_
      refine consM 3 rfl (fun K hK => ?_) (consM 6 rfl (fun K hK => ?_) AllReadyH.nil)
      · go_simp
        refine (wnum_any 2 [x] _ p _ W6 HC.out.wr b3.out (fun n hn => by simp at hn; subst hn; have := HOK.out; omega) (by simp)).mono ?_
        rintro e W7 ⟨rfl, hw, hg⟩
        show K _ _
        have HC := Bx.mk (HC.out.grown hw hg)
        clear hw hg b3
        refine hK.out _ _ ⟨HC.out.c2, HC.out.c3⟩ (fun hHeld => ?_)
        clear hK K
        try simp only [Act.put, List.setIfInBounds_toArray, List.set_cons_zero, List.set_cons_succ]
        refine stepL 6 (by kernel_rfl) rfl (fun K hK => ?_)
        go_simp
        have b4 : Bx (IntsN (W7.alloc (.cells #[.int .i64 s] 3)) p (.slice (some ⟨W7.heap.size, 0, none⟩) 1 1) [s]) := Bx.mk (ints_one W7 p s _ HC.out.wr.lt)
        have HC := Bx.mk (HC.out.alloc (.cells #[.int .i64 s] 3))
        refine hK.out _ _ ⟨HC.out.c2, HC.out.c3⟩ (fun hHeld => ?_)
        clear hK K
        try simp only [Act.put, List.setIfInBounds_toArray, List.set_cons_zero, List.set_cons_succ]
        generalize W7.alloc (.cells #[.int .i64 s] 3) = W8 at *
        generalize W7.heap.size = Db4 at *
        refine stepL 7 (by kernel_rfl) rfl (fun K hK => ?_)
        go_simp
        refine (wnum_any 1 [s] _ p _ W8 HC.out.wr b4.out (fun n hn => by simp at hn; subst hn; have := HOK.out; omega) (by simp)).mono ?_
        rintro e W9 ⟨rfl, hw, hg⟩
        show K _ _
        have HC := Bx.mk (HC.out.grown hw hg)
        clear hw hg b4
        refine hK.out _ _ ⟨HC.out.c2, HC.out.c3⟩ (fun hHeld => ?_)
        clear hK K
        try simp only [Act.put, List.setIfInBounds_toArray, List.set_cons_zero, List.set_cons_succ]
        refine wpAnyH_done (by kernel_rfl) ?_ _
        refine NoPanic.normal ?_
        clear hHeld
        have HC : Bx (BC w B p ⟨i, r, x, s⟩ (clB ⟨i, r, x, s⟩, 0) W9) := Bx.mk (by have h := HC.out; simp only [List.map_cons, List.map_nil] at h; rw [HP.out] at h; exact h)
        go_wp2_with fail
        refine (wout_ok p _ W9 HC.out.wr).mono ?_
        rintro e wz ⟨vz, rfl, hoz, hbz⟩
        have HZ : Bx (OwnB wz B vz (clB ⟨i, r, x, s⟩) ∧ Below B w wz) := Bx.mk ⟨hoz.weak (Nat.le_of_lt (Nat.lt_trans HC.out.lt HC.out.wr.lt)), HC.out.below.trans (hbz.mono (Nat.le_of_lt (Nat.lt_trans HC.out.lt HC.out.wr.lt)))⟩
        obtain ⟨az, cz, hvz⟩ := own_form hoz
        subst hvz
        clear hoz hbz HC
        go_wp2
        go_ret2
        exact ⟨_, rfl, HZ.out⟩
      · go_simp
        have b4 : Bx (IntsN (W6.alloc (.cells #[.int .i64 s] 3)) p (.slice (some ⟨W6.heap.size, 0, none⟩) 1 1) [s]) := Bx.mk (ints_one W6 p s _ HC.out.wr.lt)
        have b3 := Bx.mk (b3.out.grown (kb_below (some p) (below_a (.cells #[.int .i64 s] 3))))
        have HC := Bx.mk (HC.out.alloc (.cells #[.int .i64 s] 3))
        refine hK.out _ _ ⟨HC.out.c2, HC.out.c3⟩ (fun hHeld => ?_)
        clear hK K
        try simp only [Act.put, List.setIfInBounds_toArray, List.set_cons_zero, List.set_cons_succ]
        generalize W6.alloc (.cells #[.int .i64 s] 3) = W7 at *
        generalize W6.heap.size = Db4 at *
        refine stepL 3 (by kernel_rfl) rfl (fun K hK => ?_)
        go_simp
        refine (wnum_any 2 [x] _ p _ W7 HC.out.wr b3.out (fun n hn => by simp at hn; subst hn; have := HOK.out; omega) (by simp)).mono ?_
        rintro e W8 ⟨rfl, hw, hg⟩
        show K _ _
        have b4 := Bx.mk (b4.out.grown hg)
        have HC := Bx.mk (HC.out.grown hw hg)
        clear hw hg b3
        refine hK.out _ _ ⟨HC.out.c2, HC.out.c3⟩ (fun hHeld => ?_)
        clear hK K
        try simp only [Act.put, List.setIfInBounds_toArray, List.set_cons_zero, List.set_cons_succ]
        refine stepL 7 (by kernel_rfl) rfl (fun K hK => ?_)
        go_simp
        refine (wnum_any 1 [s] _ p _ W8 HC.out.wr b4.out (fun n hn => by simp at hn; subst hn; have := HOK.out; omega) (by simp)).mono ?_
        rintro e W9 ⟨rfl, hw, hg⟩
        show K _ _
        have HC := Bx.mk (HC.out.grown hw hg)
        clear hw hg b4
        refine hK.out _ _ ⟨HC.out.c2, HC.out.c3⟩ (fun hHeld => ?_)
        clear hK K
        try simp only [Act.put, List.setIfInBounds_toArray, List.set_cons_zero, List.set_cons_succ]
        refine wpAnyH_done (by kernel_rfl) ?_ _
        refine NoPanic.normal ?_
        clear hHeld
        have HC : Bx (BC w B p ⟨i, r, x, s⟩ (clB ⟨i, r, x, s⟩, 0) W9) := Bx.mk (by have h := HC.out; simp only [List.map_cons, List.map_nil] at h; rw [HP.out] at h; exact h)
        go_wp2_with fail
        refine (wout_ok p _ W9 HC.out.wr).mono ?_
        rintro e wz ⟨vz, rfl, hoz, hbz⟩
        have HZ : Bx (OwnB wz B vz (clB ⟨i, r, x, s⟩) ∧ Below B w wz) := Bx.mk ⟨hoz.weak (Nat.le_of_lt (Nat.lt_trans HC.out.lt HC.out.wr.lt)), HC.out.below.trans (hbz.mono (Nat.le_of_lt (Nat.lt_trans HC.out.lt HC.out.wr.lt)))⟩
        obtain ⟨az, cz, hvz⟩ := own_form hoz
        subst hvz
        clear hoz hbz HC
        go_wp2
        go_ret2
        exact ⟨_, rfl, HZ.out⟩
    · go_simp
      have b4 : Bx (IntsN (W5.alloc (.cells #[.int .i64 s] 3)) p (.slice (some ⟨W5.heap.size, 0, none⟩) 1 1) [s]) := Bx.mk (ints_one W5 p s _ HC.out.wr.lt)
      have HC := Bx.mk (HC.out.alloc (.cells #[.int .i64 s] 3))
      refine hK.out _ _ ⟨HC.out.c2, HC.out.c3⟩ (fun hHeld => ?_)
      clear hK K
      try simp only [Act.put, List.setIfInBounds_toArray, List.set_cons_zero, List.set_cons_succ]
      generalize W5.alloc (.cells #[.int .i64 s] 3) = W6 at *
      generalize W5.heap.size = Db4 at *
      refine stepL 2 (by kernel_rfl) rfl (fun K hK => ?_)
      go_simp
      have b3 : Bx (IntsN (W6.alloc (.cells #[.int .i64 x] 3)) p (.slice (some ⟨W6.heap.size, 0, none⟩) 1 1) [x]) := Bx.mk (ints_one W6 p x _ HC.out.wr.lt)
      have b4 := Bx.mk (b4.out.grown (kb_below (some p) (below_a (.cells #[.int .i64 x] 3))))
      have HC := Bx.mk (HC.out.alloc (.cells #[.int .i64 x] 3))
      refine hK.out _ _ ⟨HC.out.c2, HC.out.c3⟩ (fun hHeld => ?_)
      clear hK K
      try simp only [Act.put, List.setIfInBounds_toArray, List.set_cons_zero, List.set_cons_succ]
      generalize W6.alloc (.cells #[.int .i64 x] 3) = W7 at *
      generalize W6.heap.size = Db3 at *
      refine stepL 3 (by kernel_rfl) rfl (fun K hK => ?_)
      go_simp
      refine (wnum_any 2 [x] _ p _ W7 HC.out.wr b3.out (fun n hn => by simp at hn; subst hn; have := HOK.out; omega) (by simp)).mono ?_
      rintro e W8 ⟨rfl, hw, hg⟩
      show K _ _
      have b4 := Bx.mk (b4.out.grown hg)
      have HC := Bx.mk (HC.out.grown hw hg)
      clear hw hg b3
      refine hK.out _ _ ⟨HC.out.c2, HC.out.c3⟩ (fun hHeld => ?_)
      clear hK K
      try simp only [Act.put, List.setIfInBounds_toArray, List.set_cons_zero, List.set_cons_succ]
      refine stepL 7 (by kernel_rfl) rfl (fun K hK => ?_)
      go_simp
      refine (wnum_any 1 [s] _ p _ W8 HC.out.wr b4.out (fun n hn => by simp at hn; subst hn; have := HOK.out; omega) (by simp)).mono ?_
      rintro e W9 ⟨rfl, hw, hg⟩
      show K _ _
      have HC := Bx.mk (HC.out.grown hw hg)
      clear hw hg b4
      refine hK.out _ _ ⟨HC.out.c2, HC.out.c3⟩ (fun hHeld => ?_)
      clear hK K
      try simp only [Act.put, List.setIfInBounds_toArray, List.set_cons_zero, List.set_cons_succ]
      refine wpAnyH_done (by kernel_rfl) ?_ _
      refine NoPanic.normal ?_
      clear hHeld
      have HC : Bx (BC w B p ⟨i, r, x, s⟩ (clB ⟨i, r, x, s⟩, 0) W9) := Bx.mk (by have h := HC.out; simp only [List.map_cons, List.map_nil] at h; rw [HP.out] at h; exact h)
      go_wp2_with fail
      refine (wout_ok p _ W9 HC.out.wr).mono ?_
      rintro e wz ⟨vz, rfl, hoz, hbz⟩
      have HZ : Bx (OwnB wz B vz (clB ⟨i, r, x, s⟩) ∧ Below B w wz) := Bx.mk ⟨hoz.weak (Nat.le_of_lt (Nat.lt_trans HC.out.lt HC.out.wr.lt)), HC.out.below.trans (hbz.mono (Nat.le_of_lt (Nat.lt_trans HC.out.lt HC.out.wr.lt)))⟩
      obtain ⟨az, cz, hvz⟩ := own_form hoz
      subst hvz
      clear hoz hbz HC
      go_wp2
      go_ret2
      exact ⟨_, rfl, HZ.out⟩
end Go.Proofs.YtaoekfomffebhaaDoor
namespace Go.Proofs.YtaoekfomffebhaaDoor
open Go Go.RowKit
set_option maxRecDepth 100000 in
theorem cto_any (c : Cl) (w : World) : Calls Tryd.prog 23 #[clV c] w fun e w' => e = .returned (clV c) ∧ Below w.heap.size w w' := by
  obtain ⟨i, r, x, s⟩ := c
  unfold clV
  simp only
  go_enter Tryd.func23, Tryd.ntmps23
  go_wp2
  refine bodyPost_ret (results_cell_row rfl _ _ (w.heap.size + 1) _ _ _ _ rfl (hnew _ _ _ (by simp)) Tryd.underlying30 rfl (by kernel_rfl)) rfl ?_
  exact ⟨rfl, (below_a _).trans ((below_a _).mono (by simp))⟩
theorem chk_num2 (s n : Int) (h0 : 0 ≤ s) (h3 : s ≤ 3) (h1 : 0 ≤ n) (h2 : n ≤ most s) : chk (fNum s n) = 0 := by
  unfold chk fNum
  simp only
  rw [if_neg (by omega), if_neg (by omega), if_neg (by simp; omega)]
theorem enc_num2 (s n : Int) (h3 : s ≤ 3) : enc (fNum s n) = beN (wid s) n.toNat := by unfold enc fNum; simp only; rw [if_neg (by omega)]
/-- What stays while the document's bytes are written. -/
structure DB (w : World) (B : Nat) (c : Cl) (W : World) : Prop where
  box : W.heap[B]? = some (.cells (clC c) 23 (0, 0))
  below : Below B w W
theorem DB.later {w : World} {B : Nat} {c : Cl} {W W1 : World} (h : DB w B c W) {K : Nat} (hb : Below K W W1) (hK : B < K) : DB w B c W1 :=
  ⟨by rw [hb.block B hK]; exact h.box, h.below.trans (hb.mono (Nat.le_of_lt hK))⟩
theorem DB.lt {w : World} {B : Nat} {c : Cl} {W : World} (h : DB w B c W) : B < W.heap.size := (Array.getElem?_eq_some_iff.1 h.box).1
theorem DB.cell {w : World} {B : Nat} {c : Cl} {W : World} (h : DB w B c W) (k : Nat) (v : Value) (hv : (clC c)[k]? = some v) : W.cell? ⟨B, k, none⟩ = some v := by rw [cell_of_row _ _ _ _ _ _ h.box]; exact hv
end Go.Proofs.YtaoekfomffebhaaDoor
namespace Go.Proofs.YtaoekfomffebhaaDoor
open Go Go.RowKit
/-- What stays while claims are read. -/
structure RdS (w : World) (q D : Nat) (p : List UInt8 × Int) (W : World) : Prop where
  rd : IsR W q p.1 p.2
  gr : w.grownBy W (some q)
  res : W.heap[D]? = some (.cells #[.int .i64 0, .int .i64 0, .int .i64 0, .int .i64 0] 30 (0, 0))
  at_ : w.heap.size = D
  lt : q < D
theorem RdS.step {w : World} {q D : Nat} {p p1 : List UInt8 × Int} {W W1 : World} (h : RdS w q D p W) (h1 : IsR W1 q p1.1 p1.2) (hg : W.grownBy W1 (some q)) : RdS w q D p1 W1 :=
  ⟨h1, kb_trans h.gr hg, by rw [hg.block D (Array.getElem?_eq_some_iff.1 h.res).1 (fun e => by injection e with e; have := h.lt; omega)]; exact h.res, h.at_, h.lt⟩
theorem RdS.later {w : World} {q D : Nat} {p : List UInt8 × Int} {W W1 : World} (h : RdS w q D p W) (hb : Below W.heap.size W W1) : RdS w q D p W1 :=
  ⟨h.rd.later hb, kb_trans h.gr (kb_below _ hb), by rw [hb.block D (Array.getElem?_eq_some_iff.1 h.res).1]; exact h.res, h.at_, h.lt⟩
end Go.Proofs.YtaoekfomffebhaaDoor
namespace Go.Proofs.YtaoekfomffebhaaDoor
open Go Go.RowKit
end Go.Proofs.YtaoekfomffebhaaDoor
namespace Go.Proofs.YtaoekfomffebhaaDoor
open Go Go.RowKit
end Go.Proofs.YtaoekfomffebhaaDoor
namespace Go.Proofs.YtaoekfomffebhaaDoor
open Go Go.RowKit
theorem Bytes.nowhere {w : World} {v : Value} {l : List UInt8} (h : Bytes w v l) : BytesN w w.heap.size v l := by
  refine ⟨h, fun h0 e => ?_⟩
  obtain ⟨a, cap, rfl, -, -, hr⟩ := h
  obtain ⟨c, o, rfl, hc⟩ := hr h0
  injection e with e
  simp only at e
  have := World.block_lt_of_cell? _ _ (hc 0 h0)
  simp only at this
  omega
/-- What stays while the document's claims are read. -/
structure PS (w : World) (D : Nat) (cs : Array Value) (W : World) : Prop where
  res : W.heap[D]? = some (.cells #[.int .i64 0, .int .i64 0, .int .i64 0, .int .i64 0] 23 (0, 0))
  arr : W.heap[D + 1]? = some (.cells cs 157 (0, 0))
  siz : W.heap[D + 2]? = some (.cells #[.int .i64 1, .int .i64 0, .int .i64 2, .int .i64 1] 157 (0, 0))
  below : Below D w W
theorem PS.lt {w : World} {D : Nat} {cs : Array Value} {W : World} (h : PS w D cs W) : D + 2 < W.heap.size := (Array.getElem?_eq_some_iff.1 h.siz).1
theorem PS.later {w : World} {D : Nat} {cs : Array Value} {W W1 : World} (h : PS w D cs W) (hb : Below W.heap.size W W1) : PS w D cs W1 :=
  have h0 := h.lt
  ⟨by rw [hb.block D (by omega)]; exact h.res, by rw [hb.block (D + 1) (by omega)]; exact h.arr, by rw [hb.block (D + 2) h0]; exact h.siz, h.below.trans (hb.mono (by omega))⟩
theorem PS.set {w : World} {D : Nat} {cs : Array Value} {W : World} (h : PS w D cs W) (i : Nat) (v : Value) : PS w D (cs.setIfInBounds i v) (W.setCell ⟨D + 1, i, none⟩ v) :=
  have hg := kb_set1 W (D + 1) i v
  have h0 := h.lt
  ⟨by rw [hg.block D (by omega) (fun e => by injection e with e; omega)]; exact h.res, by rw [heap_setCell_same _ _ _ _ _ _ h.arr], by rw [hg.block (D + 2) h0 (fun e => by injection e with e; omega)]; exact h.siz, h.below.setCell (by show D ≤ D + 1; omega) _⟩
end Go.Proofs.YtaoekfomffebhaaDoor
