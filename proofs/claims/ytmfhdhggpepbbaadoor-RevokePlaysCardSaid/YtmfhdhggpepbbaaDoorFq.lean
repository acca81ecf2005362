/-
  RevokePlays: is what a set tells the document's?
-/
import Derived.Test.YtmfhdhggpepbbaaDoorFp
namespace Go.Proofs.YtmfhdhggpepbbaaDoor
open Go Go.RowKit
set_option maxRecDepth 100000 in
theorem open128 {a : Act} (h : Fr 128 a) : ∃ x : Nat → Value, a = ⟨List.toArray (x 0 :: x 1 :: x 2 :: x 3 :: x 4 :: x 5 :: x 6 :: x 7 :: x 8 :: x 9 :: x 10 :: x 11 :: x 12 :: x 13 :: x 14 :: x 15 :: x 16 :: x 17 :: x 18 :: x 19 :: x 20 :: x 21 :: x 22 :: x 23 :: x 24 :: x 25 :: x 26 :: x 27 :: x 28 :: x 29 :: x 30 :: x 31 :: x 32 :: x 33 :: x 34 :: x 35 :: x 36 :: x 37 :: x 38 :: x 39 :: x 40 :: x 41 :: x 42 :: x 43 :: x 44 :: x 45 :: x 46 :: x 47 :: x 48 :: x 49 :: x 50 :: x 51 :: x 52 :: x 53 :: x 54 :: x 55 :: x 56 :: x 57 :: x 58 :: x 59 :: x 60 :: x 61 :: x 62 :: x 63 :: x 64 :: x 65 :: x 66 :: x 67 :: x 68 :: x 69 :: x 70 :: x 71 :: x 72 :: x 73 :: x 74 :: x 75 :: x 76 :: x 77 :: x 78 :: x 79 :: x 80 :: x 81 :: x 82 :: x 83 :: x 84 :: x 85 :: x 86 :: x 87 :: x 88 :: x 89 :: x 90 :: x 91 :: x 92 :: x 93 :: x 94 :: x 95 :: x 96 :: x 97 :: x 98 :: x 99 :: x 100 :: x 101 :: x 102 :: x 103 :: x 104 :: x 105 :: x 106 :: x 107 :: x 108 :: x 109 :: x 110 :: x 111 :: x 112 :: x 113 :: x 114 :: x 115 :: x 116 :: x 117 :: x 118 :: x 119 :: x 120 :: x 121 :: x 122 :: x 123 :: x 124 :: x 125 :: x 126 :: x 127 :: []), []⟩ ∧ ∀ i, a.eval (.tmp i) = x i := ⟨fun i => a.tmps.getD i undef, h.form, fun _ => rfl⟩
/-- What the loop over all serials leaves alone. -/
structure TA (v0 v1 v2 v9 : Value) (a : Act) : Prop where
  fr : Fr 128 a
  s0 : a.eval (.tmp 0) = v0
  s1 : a.eval (.tmp 1) = v1
  s2 : a.eval (.tmp 2) = v2
  s9 : a.eval (.tmp 9) = v9
/-- What the loops over the logs leave alone. -/
structure TB (v0 v1 v2 v11 : Value) (a : Act) : Prop where
  fr : Fr 128 a
  s0 : a.eval (.tmp 0) = v0
  s1 : a.eval (.tmp 1) = v1
  s2 : a.eval (.tmp 2) = v2
  s11 : a.eval (.tmp 11) = v11
/-- The set and the document's. -/
structure TW (w : World) (p q : Nat) (l : L4) (W : World) : Prop where
  b : Below w.heap.size w W
  s : SetAt W p l
  r : RAt W q l
theorem TW.later {w : World} {p q : Nat} {l : L4} {W W1 : World} (h : TW w p q l W) (hb : Below W.heap.size W W1) : TW w p q l W1 := ⟨h.b.trans (hb.mono h.b.size), h.s.later hb, h.r.later hb⟩
set_option maxRecDepth 100000 in
set_option maxHeartbeats 4000000 in
theorem roundTA (w : World) (p q : Nat) (sv : Int) (l : L4) (hg : Good l) (aw : Option Addr) (n cw : Nat) (al : List Int) (hal : ∀ x ∈ al, hasL4 l x = true) (hri : ∀ k, k + 1 < al.length → al.getD k 0 < al.getD (k + 1) 0) (hn : al.length = n) (hn5 : n ≤ 5000)
    (Q : Exit → Act → World → Prop) (k : Nat) (a : Act) (wr : World) (hk : k < n) (h : TA (.pointer (some ⟨p, 0, none⟩)) (.pointer (some ⟨q, 0, none⟩)) (.int .i64 sv) (.slice aw n cw) a) (h10 : a.eval (.tmp 10) = .int .i64 (k : Int)) (ht : TW w p q l wr) (hl : IsL wr (.slice aw n cw) al) :
    Code.wp Tryd.prog (loopAt (Tryd.f18.body) 1) (Exit.then (fun a' w' => TA (.pointer (some ⟨p, 0, none⟩)) (.pointer (some ⟨q, 0, none⟩)) (.int .i64 sv) (.slice aw n cw) a' ∧ a'.eval (.tmp 10) = .int .i64 ((k + 1 : Nat) : Int) ∧ TW w p q l w' ∧ IsL w' (.slice aw n cw) al) Q) a wr := by
  have HI : Bx (∀ W, Below wr.heap.size wr W → IsL W (.slice aw n cw) al) := ⟨fun W hb => hl.later hb⟩
  obtain ⟨_, _, hv, _, _, hr⟩ := hl.ints
  injection hv with p1 p2 p3
  subst p1
  clear p2 p3
  obtain ⟨c, o, rfl, hf⟩ := hr (by omega)
  have HC : Bx (∀ W, Below wr.heap.size wr W → ∀ j, j < n → W.cell? ⟨c, o + j, none⟩ = some (.int .i64 (al.getD j 0))) := ⟨fun W hb j hj => by
    have h0 := hf j (by omega)
    rw [hb.cell (p := ⟨c, o + j, none⟩) (World.block_lt_of_cell? _ _ h0)]
    exact h0⟩
  obtain ⟨x, hx⟩ : ∃ x, al.getD k 0 = x := ⟨_, rfl⟩
  have hxm : x ∈ al := by
    rw [← hx, List.getD_eq_getElem?_getD, List.getElem?_eq_getElem (by omega : k < al.length)]
    exact List.getElem_mem _
  have hxl := hal _ hxm
  have HX := Bx.mk hx
  have HH := Bx.mk (fun (W : World) (h : RAt W q l) => rhas8 x q l W h hg)
  rw [hxl] at HH
  have S0 := Bx.mk ht
  have HRi := Bx.mk hri
  clear hri hal
  have hk0 : (0 : Int) ≤ (k : Int) := by omega
  have hk1 : (k : Int) < (n : Int) := by omega
  have hn1 : (n : Int) ≤ 5000 := by omega
  obtain ⟨y, rfl, hy⟩ := open128 h.fr
  have e0 := (hy 0).symm.trans h.s0
  have e1 := (hy 1).symm.trans h.s1
  have e2 := (hy 2).symm.trans h.s2
  have e9 := (hy 9).symm.trans h.s9
  have e10 := (hy 10).symm.trans h10
  clear h h10 ht hl hr hf hxm hxl hg hy hx
  have B0 := Bx.mk (Below.refl wr.heap.size wr)
  rw [e0, e1, e2, e9, e10]
  clear e0 e1 e2 e9 e10
  by_cases hk2 : k = 0
  · subst hk2
    have HD : Bx (∀ W, Below wr.heap.size wr W → W.cell? ⟨c, o, none⟩ = some (.int .i64 x)) := ⟨fun W hb => by have h0 := HC.out W hb 0 (by omega); rw [HX.out] at h0; exact h0⟩
    clear HC
    conv => arg 2; whnf
    go_upto_region 11 with fail
    have R0 := Bx.mk (And.intro (S0.out.later (Below.refl _ _).drew) (B0.out.drew))
    clear S0 B0
    refine wp_region_noPanic ?_
    refine wp_region_held_drew (S := fun W => W.cell? ⟨c, o, none⟩ = some (.int .i64 x)) (by kernel_rfl) (HD.out _ R0.out.2) (fun hHeld => ?_)
    generalize wr.drew = W0 at *
    refine takeL 0 (v := ?_) rfl (by kernel_rfl) (by kernel_rfl) (by kernel_rfl) (fun _ _ _ h => h) (Or.inl ⟨by rfl, ?_⟩) hHeld ?_
    rotate_left 1
    · (intro w hSw; go_simp; try with_reducible rfl)
    try simp only [Act.put, List.setIfInBounds_toArray, List.set_cons_zero, List.set_cons_succ]
    refine takeL 1 (v := ?_) rfl (by kernel_rfl) (by kernel_rfl) (by kernel_rfl) (fun _ _ _ h => h) (Or.inl ⟨by rfl, ?_⟩) hHeld ?_
    rotate_left 1
    · (intro w hSw; go_simp; try with_reducible rfl)
    try simp only [Act.put, List.setIfInBounds_toArray, List.set_cons_zero, List.set_cons_succ]
    refine takeL 2 (v := ?_) rfl (by kernel_rfl) (by kernel_rfl) (by kernel_rfl) (fun _ _ _ h => h) (Or.inl ⟨by rfl, ?_⟩) hHeld ?_
    rotate_left 1
    · (intro w hSw; go_simp; try with_reducible rfl)
    try simp only [Act.put, List.setIfInBounds_toArray, List.set_cons_zero, List.set_cons_succ]
    refine takeL 3 (v := ?_) rfl (by kernel_rfl) (by kernel_rfl) (by kernel_rfl) (fun _ _ _ h => h) (Or.inl ⟨by rfl, ?_⟩) hHeld ?_
    rotate_left 1
    · (intro w hSw; go_simp; try with_reducible rfl)
    try simp only [Act.put, List.setIfInBounds_toArray, List.set_cons_zero, List.set_cons_succ]
    refine takeL 4 (v := ?_) rfl (by kernel_rfl) (by kernel_rfl) (by kernel_rfl) (fun _ _ _ h => h) (Or.inl ⟨by rfl, ?_⟩) hHeld ?_
    rotate_left 1
    · (intro w hSw; have c1 := hSw; go_simp; try with_reducible rfl)
    try simp only [Act.put, List.setIfInBounds_toArray, List.set_cons_zero, List.set_cons_succ]
    refine stepL 5 (by kernel_rfl) rfl (fun K hK => ?_)
    go_simp
    refine (HH.out W0 R0.out.1.r).mono ?_
    rintro e W1 ⟨rfl, hw⟩
    have hw2 := hw.symm
    subst hw2
    show K _ _
    refine hK.out _ _ (HD.out _ R0.out.2) (fun hHeld => ?_)
    clear hK K hw
    try simp only [Act.put, List.setIfInBounds_toArray, List.set_cons_zero, List.set_cons_succ]
    refine takeL 6 (v := ?_) rfl (by kernel_rfl) (by kernel_rfl) (by kernel_rfl) (fun _ _ _ h => h) (Or.inl ⟨by rfl, ?_⟩) hHeld ?_
    rotate_left 1
    · (intro w hSw; go_simp; try with_reducible rfl)
    try simp only [Act.put, List.setIfInBounds_toArray, List.set_cons_zero, List.set_cons_succ]
    refine takeL 7 (v := ?_) rfl (by kernel_rfl) (by kernel_rfl) (by kernel_rfl) (fun _ _ _ h => h) (Or.inl ⟨by rfl, ?_⟩) hHeld ?_
    rotate_left 1
    · (intro w hSw; go_simp; try with_reducible rfl)
    try simp only [Act.put, List.setIfInBounds_toArray, List.set_cons_zero, List.set_cons_succ]
    refine takeL 8 (v := ?_) rfl (by kernel_rfl) (by kernel_rfl) (by kernel_rfl) (fun _ _ _ h => h) (Or.inl ⟨by rfl, ?_⟩) hHeld ?_
    rotate_left 1
    · (intro w hSw; go_simp; try with_reducible rfl)
    try simp only [Act.put, List.setIfInBounds_toArray, List.set_cons_zero, List.set_cons_succ]
    refine takeL 9 (v := ?_) rfl (by kernel_rfl) (by kernel_rfl) (by kernel_rfl) (fun _ _ _ h => h) (Or.inl ⟨by rfl, ?_⟩) hHeld ?_
    rotate_left 1
    · (intro w hSw; go_simp; try with_reducible rfl)
    try simp only [Act.put, List.setIfInBounds_toArray, List.set_cons_zero, List.set_cons_succ]
    refine takeL 10 (v := ?_) rfl (by kernel_rfl) (by kernel_rfl) (by kernel_rfl) (fun _ _ _ h => h) (Or.inl ⟨by rfl, ?_⟩) hHeld ?_
    rotate_left 1
    · (intro w hSw; go_simp; try with_reducible rfl)
    try simp only [Act.put, List.setIfInBounds_toArray, List.set_cons_zero, List.set_cons_succ]
    refine takeL 11 (v := undef) rfl (by kernel_rfl) (by kernel_rfl) (by kernel_rfl) (fun _ _ _ h => h) (Or.inr ⟨by rfl, rfl⟩) hHeld ?_
    try simp only [Act.put, List.setIfInBounds_toArray, List.set_cons_zero, List.set_cons_succ]
    refine takeL 12 (v := undef) rfl (by kernel_rfl) (by kernel_rfl) (by kernel_rfl) (fun _ _ _ h => h) (Or.inr ⟨by rfl, rfl⟩) hHeld ?_
    try simp only [Act.put, List.setIfInBounds_toArray, List.set_cons_zero, List.set_cons_succ]
    refine takeL 13 (v := undef) rfl (by kernel_rfl) (by kernel_rfl) (by kernel_rfl) (fun _ _ _ h => h) (Or.inr ⟨by rfl, rfl⟩) hHeld ?_
    try simp only [Act.put, List.setIfInBounds_toArray, List.set_cons_zero, List.set_cons_succ]
    refine takeL 14 (v := undef) rfl (by kernel_rfl) (by kernel_rfl) (by kernel_rfl) (fun _ _ _ h => h) (Or.inr ⟨by rfl, rfl⟩) hHeld ?_
    try simp only [Act.put, List.setIfInBounds_toArray, List.set_cons_zero, List.set_cons_succ]
    refine takeL 15 (v := undef) rfl (by kernel_rfl) (by kernel_rfl) (by kernel_rfl) (fun _ _ _ h => h) (Or.inr ⟨by rfl, rfl⟩) hHeld ?_
    try simp only [Act.put, List.setIfInBounds_toArray, List.set_cons_zero, List.set_cons_succ]
    refine takeL 16 (v := undef) rfl (by kernel_rfl) (by kernel_rfl) (by kernel_rfl) (fun _ _ _ h => h) (Or.inr ⟨by rfl, rfl⟩) hHeld ?_
    try simp only [Act.put, List.setIfInBounds_toArray, List.set_cons_zero, List.set_cons_succ]
    refine takeL 17 (v := undef) rfl (by kernel_rfl) (by kernel_rfl) (by kernel_rfl) (fun _ _ _ h => h) (Or.inr ⟨by rfl, rfl⟩) hHeld ?_
    try simp only [Act.put, List.setIfInBounds_toArray, List.set_cons_zero, List.set_cons_succ]
    refine takeL 18 (v := undef) rfl (by kernel_rfl) (by kernel_rfl) (by kernel_rfl) (fun _ _ _ h => h) (Or.inr ⟨by rfl, rfl⟩) hHeld ?_
    try simp only [Act.put, List.setIfInBounds_toArray, List.set_cons_zero, List.set_cons_succ]
    refine takeL 19 (v := undef) rfl (by kernel_rfl) (by kernel_rfl) (by kernel_rfl) (fun _ _ _ h => h) (Or.inr ⟨by rfl, rfl⟩) hHeld ?_
    try simp only [Act.put, List.setIfInBounds_toArray, List.set_cons_zero, List.set_cons_succ]
    refine takeL 20 (v := undef) rfl (by kernel_rfl) (by kernel_rfl) (by kernel_rfl) (fun _ _ _ h => h) (Or.inr ⟨by rfl, rfl⟩) hHeld ?_
    try simp only [Act.put, List.setIfInBounds_toArray, List.set_cons_zero, List.set_cons_succ]
    refine takeL 21 (v := ?_) rfl (by kernel_rfl) (by kernel_rfl) (by kernel_rfl) (fun _ _ _ h => h) (Or.inl ⟨by rfl, ?_⟩) hHeld ?_
    rotate_left 1
    · (intro w hSw; go_simp; try with_reducible rfl)
    try simp only [Act.put, List.setIfInBounds_toArray, List.set_cons_zero, List.set_cons_succ]
    refine takeL 22 (v := ?_) rfl (by kernel_rfl) (by kernel_rfl) (by kernel_rfl) (fun _ _ _ h => h) (Or.inl ⟨by rfl, ?_⟩) hHeld ?_
    rotate_left 1
    · (intro w hSw; go_simp; try with_reducible rfl)
    try simp only [Act.put, List.setIfInBounds_toArray, List.set_cons_zero, List.set_cons_succ]
    refine wpAnyH_done (by kernel_rfl) ?_ _
    refine NoPanic.normal ?_
    clear hHeld
    have HF := Bx.mk (And.intro R0.out.1 (HI.out _ R0.out.2))
    clear R0 HI
    go_wp2
    first | exact ⟨⟨⟨rfl, rfl⟩, rfl, rfl, rfl, rfl⟩, HF.out⟩ | exact ⟨⟨⟨rfl, rfl⟩, rfl, rfl, rfl, rfl⟩, by first | rfl | go_num, HF.out⟩
  obtain ⟨j, hj⟩ : ∃ j, k = j + 1 := ⟨k - 1, by omega⟩
  obtain ⟨z, hz⟩ : ∃ z, al.getD j 0 = z := ⟨_, rfl⟩
  have HZ := Bx.mk hz
  have hri := HRi.out j (by omega)
  rw [hz, ← hj, HX.out] at hri
  have hge : ¬ x ≤ z := by omega
  have hj0 : (0 : Int) ≤ (j : Int) := by omega
  have hj1 : (j : Int) < (n : Int) := by omega
  have hj2 : (0 : Int) < (k : Int) := by omega
  have hj3 : IntKind.i64.wrap ((k : Int) - 1) = (j : Int) := by rw [IntKind.wrap_i64]; omega
  have hj5 : 0 < k := by omega
  have HJ := Bx.mk hj
  clear hz hri hk2 hj
  have HD : Bx (∀ W, Below wr.heap.size wr W → W.cell? ⟨c, o + k, none⟩ = some (.int .i64 x) ∧ W.cell? ⟨c, o + j, none⟩ = some (.int .i64 z)) := ⟨fun W hb => by have h0 := HC.out W hb k (by omega); have h1 := HC.out W hb j (by have := HJ.out; omega); rw [HX.out] at h0; rw [HZ.out] at h1; exact ⟨h0, h1⟩⟩
  clear HC
  conv => arg 2; whnf
  go_upto_region 11 with fail
  have R0 := Bx.mk (And.intro (S0.out.later (Below.refl _ _).drew) (B0.out.drew))
  clear S0 B0
  refine wp_region_noPanic ?_
  refine wp_region_held_drew (S := fun W => W.cell? ⟨c, o + k, none⟩ = some (.int .i64 x) ∧ W.cell? ⟨c, o + j, none⟩ = some (.int .i64 z)) (by kernel_rfl) (HD.out _ R0.out.2) (fun hHeld => ?_)
  generalize wr.drew = W0 at *
  refine takeL 0 (v := ?_) rfl (by kernel_rfl) (by kernel_rfl) (by kernel_rfl) (fun _ _ _ h => h) (Or.inl ⟨by rfl, ?_⟩) hHeld ?_
  rotate_left 1
  · (intro w hSw; go_simp; try with_reducible rfl)
  try simp only [Act.put, List.setIfInBounds_toArray, List.set_cons_zero, List.set_cons_succ]
  refine takeL 1 (v := ?_) rfl (by kernel_rfl) (by kernel_rfl) (by kernel_rfl) (fun _ _ _ h => h) (Or.inl ⟨by rfl, ?_⟩) hHeld ?_
  rotate_left 1
  · (intro w hSw; go_simp; try with_reducible rfl)
  try simp only [Act.put, List.setIfInBounds_toArray, List.set_cons_zero, List.set_cons_succ]
  refine takeL 2 (v := ?_) rfl (by kernel_rfl) (by kernel_rfl) (by kernel_rfl) (fun _ _ _ h => h) (Or.inl ⟨by rfl, ?_⟩) hHeld ?_
  rotate_left 1
  · (intro w hSw; go_simp; try with_reducible rfl)
  try simp only [Act.put, List.setIfInBounds_toArray, List.set_cons_zero, List.set_cons_succ]
  refine takeL 3 (v := ?_) rfl (by kernel_rfl) (by kernel_rfl) (by kernel_rfl) (fun _ _ _ h => h) (Or.inl ⟨by rfl, ?_⟩) hHeld ?_
  rotate_left 1
  · (intro w hSw; go_simp; try with_reducible rfl)
  try simp only [Act.put, List.setIfInBounds_toArray, List.set_cons_zero, List.set_cons_succ]
  refine takeL 4 (v := ?_) rfl (by kernel_rfl) (by kernel_rfl) (by kernel_rfl) (fun _ _ _ h => h) (Or.inl ⟨by rfl, ?_⟩) hHeld ?_
  rotate_left 1
  · (intro w hSw; have c1 := hSw.1; go_simp; try with_reducible rfl)
  try simp only [Act.put, List.setIfInBounds_toArray, List.set_cons_zero, List.set_cons_succ]
  refine stepL 5 (by kernel_rfl) rfl (fun K hK => ?_)
  go_simp
  refine (HH.out W0 R0.out.1.r).mono ?_
  rintro e W1 ⟨rfl, hw⟩
  have hw2 := hw.symm
  subst hw2
  show K _ _
  refine hK.out _ _ (HD.out _ R0.out.2) (fun hHeld => ?_)
  clear hK K hw
  try simp only [Act.put, List.setIfInBounds_toArray, List.set_cons_zero, List.set_cons_succ]
  refine takeL 6 (v := ?_) rfl (by kernel_rfl) (by kernel_rfl) (by kernel_rfl) (fun _ _ _ h => h) (Or.inl ⟨by rfl, ?_⟩) hHeld ?_
  rotate_left 1
  · (intro w hSw; go_simp; try with_reducible rfl)
  try simp only [Act.put, List.setIfInBounds_toArray, List.set_cons_zero, List.set_cons_succ]
  refine takeL 7 (v := ?_) rfl (by kernel_rfl) (by kernel_rfl) (by kernel_rfl) (fun _ _ _ h => h) (Or.inl ⟨by rfl, ?_⟩) hHeld ?_
  rotate_left 1
  · (intro w hSw; go_simp; try with_reducible rfl)
  try simp only [Act.put, List.setIfInBounds_toArray, List.set_cons_zero, List.set_cons_succ]
  refine takeL 8 (v := ?_) rfl (by kernel_rfl) (by kernel_rfl) (by kernel_rfl) (fun _ _ _ h => h) (Or.inl ⟨by rfl, ?_⟩) hHeld ?_
  rotate_left 1
  · (intro w hSw; go_simp; try with_reducible rfl)
  try simp only [Act.put, List.setIfInBounds_toArray, List.set_cons_zero, List.set_cons_succ]
  refine takeL 9 (v := ?_) rfl (by kernel_rfl) (by kernel_rfl) (by kernel_rfl) (fun _ _ _ h => h) (Or.inl ⟨by rfl, ?_⟩) hHeld ?_
  rotate_left 1
  · (intro w hSw; go_simp; try with_reducible rfl)
  try simp only [Act.put, List.setIfInBounds_toArray, List.set_cons_zero, List.set_cons_succ]
  refine takeL 10 (v := ?_) rfl (by kernel_rfl) (by kernel_rfl) (by kernel_rfl) (fun _ _ _ h => h) (Or.inl ⟨by rfl, ?_⟩) hHeld ?_
  rotate_left 1
  · (intro w hSw; go_simp; try with_reducible rfl)
  try simp only [Act.put, List.setIfInBounds_toArray, List.set_cons_zero, List.set_cons_succ]
  refine takeL 11 (v := ?_) rfl (by kernel_rfl) (by kernel_rfl) (by kernel_rfl) (fun _ _ _ h => h) (Or.inl ⟨by rfl, ?_⟩) hHeld ?_
  rotate_left 1
  · (intro w hSw; go_simp; try with_reducible rfl)
  try simp only [Act.put, List.setIfInBounds_toArray, List.set_cons_zero, List.set_cons_succ]
  refine takeL 12 (v := ?_) rfl (by kernel_rfl) (by kernel_rfl) (by kernel_rfl) (fun _ _ _ h => h) (Or.inl ⟨by rfl, ?_⟩) hHeld ?_
  rotate_left 1
  · (intro w hSw; go_simp; try with_reducible rfl)
  try simp only [Act.put, List.setIfInBounds_toArray, List.set_cons_zero, List.set_cons_succ]
  refine takeL 13 (v := ?_) rfl (by kernel_rfl) (by kernel_rfl) (by kernel_rfl) (fun _ _ _ h => h) (Or.inl ⟨by rfl, ?_⟩) hHeld ?_
  rotate_left 1
  · (intro w hSw; go_simp; try with_reducible rfl)
  try simp only [Act.put, List.setIfInBounds_toArray, List.set_cons_zero, List.set_cons_succ]
  refine takeL 14 (v := ?_) rfl (by kernel_rfl) (by kernel_rfl) (by kernel_rfl) (fun _ _ _ h => h) (Or.inl ⟨by rfl, ?_⟩) hHeld ?_
  rotate_left 1
  · (intro w hSw; go_simp; try with_reducible rfl)
  try simp only [Act.put, List.setIfInBounds_toArray, List.set_cons_zero, List.set_cons_succ]
  refine takeL 15 (v := ?_) rfl (by kernel_rfl) (by kernel_rfl) (by kernel_rfl) (fun _ _ _ h => h) (Or.inl ⟨by rfl, ?_⟩) hHeld ?_
  rotate_left 1
  · (intro w hSw; have c1 := hSw.2; go_simp; try with_reducible rfl)
  try simp only [Act.put, List.setIfInBounds_toArray, List.set_cons_zero, List.set_cons_succ]
  refine takeL 16 (v := ?_) rfl (by kernel_rfl) (by kernel_rfl) (by kernel_rfl) (fun _ _ _ h => h) (Or.inl ⟨by rfl, ?_⟩) hHeld ?_
  rotate_left 1
  · (intro w hSw; go_simp; try with_reducible rfl)
  try simp only [Act.put, List.setIfInBounds_toArray, List.set_cons_zero, List.set_cons_succ]
  refine takeL 17 (v := ?_) rfl (by kernel_rfl) (by kernel_rfl) (by kernel_rfl) (fun _ _ _ h => h) (Or.inl ⟨by rfl, ?_⟩) hHeld ?_
  rotate_left 1
  · (intro w hSw; go_simp; try with_reducible rfl)
  try simp only [Act.put, List.setIfInBounds_toArray, List.set_cons_zero, List.set_cons_succ]
  refine takeL 18 (v := ?_) rfl (by kernel_rfl) (by kernel_rfl) (by kernel_rfl) (fun _ _ _ h => h) (Or.inl ⟨by rfl, ?_⟩) hHeld ?_
  rotate_left 1
  · (intro w hSw; go_simp; try with_reducible rfl)
  try simp only [Act.put, List.setIfInBounds_toArray, List.set_cons_zero, List.set_cons_succ]
  refine takeL 19 (v := ?_) rfl (by kernel_rfl) (by kernel_rfl) (by kernel_rfl) (fun _ _ _ h => h) (Or.inl ⟨by rfl, ?_⟩) hHeld ?_
  rotate_left 1
  · (intro w hSw; have c1 := hSw.1; go_simp; try with_reducible rfl)
  try simp only [Act.put, List.setIfInBounds_toArray, List.set_cons_zero, List.set_cons_succ]
  refine takeL 20 (v := ?_) rfl (by kernel_rfl) (by kernel_rfl) (by kernel_rfl) (fun _ _ _ h => h) (Or.inl ⟨by rfl, ?_⟩) hHeld ?_
  rotate_left 1
  · (intro w hSw; go_simp; try with_reducible rfl)
  try simp only [Act.put, List.setIfInBounds_toArray, List.set_cons_zero, List.set_cons_succ]
  refine takeL 21 (v := ?_) rfl (by kernel_rfl) (by kernel_rfl) (by kernel_rfl) (fun _ _ _ h => h) (Or.inl ⟨by rfl, ?_⟩) hHeld ?_
  rotate_left 1
  · (intro w hSw; go_simp; try with_reducible rfl)
  try simp only [Act.put, List.setIfInBounds_toArray, List.set_cons_zero, List.set_cons_succ]
  refine takeL 22 (v := ?_) rfl (by kernel_rfl) (by kernel_rfl) (by kernel_rfl) (fun _ _ _ h => h) (Or.inl ⟨by rfl, ?_⟩) hHeld ?_
  rotate_left 1
  · (intro w hSw; go_simp; try with_reducible rfl)
  try simp only [Act.put, List.setIfInBounds_toArray, List.set_cons_zero, List.set_cons_succ]
  refine wpAnyH_done (by kernel_rfl) ?_ _
  refine NoPanic.normal ?_
  clear hHeld
  have HF := Bx.mk (And.intro R0.out.1 (HI.out _ R0.out.2))
  clear R0 HI
  go_wp2
  first | exact ⟨⟨⟨rfl, rfl⟩, rfl, rfl, rfl, rfl⟩, HF.out⟩ | exact ⟨⟨⟨rfl, rfl⟩, rfl, rfl, rfl, rfl⟩, by first | rfl | go_num, HF.out⟩
set_option maxRecDepth 100000 in
set_option maxHeartbeats 1000000 in
theorem lastTA (w : World) (p q : Nat) (sv : Int) (l : L4) (aw : Option Addr) (n cw : Nat) (al : List Int) (hn5 : n ≤ 5000)
    (Q : Exit → Act → World → Prop) (N : Act → World → Prop) (a : Act) (wr : World) (h : TA (.pointer (some ⟨p, 0, none⟩)) (.pointer (some ⟨q, 0, none⟩)) (.int .i64 sv) (.slice aw n cw) a) (h10 : a.eval (.tmp 10) = .int .i64 (n : Int)) (ht : TW w p q l wr) (_hl : IsL wr (.slice aw n cw) al)
    (hq : ∀ a' w', TA (.pointer (some ⟨p, 0, none⟩)) (.pointer (some ⟨q, 0, none⟩)) (.int .i64 sv) (.slice aw n cw) a' → TW w p q l w' → Q (.exit 2) a' w') : Code.wp Tryd.prog (loopAt (Tryd.f18.body) 1) (Exit.then N Q) a wr := by
  have HQ := Bx.mk hq
  have HS := Bx.mk ht
  have hn1 : (n : Int) ≤ 5000 := by omega
  obtain ⟨y, rfl, hy⟩ := open128 h.fr
  have e0 := (hy 0).symm.trans h.s0
  have e1 := (hy 1).symm.trans h.s1
  have e2 := (hy 2).symm.trans h.s2
  have e9 := (hy 9).symm.trans h.s9
  have e10 := (hy 10).symm.trans h10
  clear h h10 ht _hl hy hq
  rw [e0, e1, e2, e9, e10]
  clear e0 e1 e2 e9 e10
  conv => arg 2; whnf
  go_wp2
  exact HQ.out _ _ ⟨⟨rfl, rfl⟩, rfl, rfl, rfl, rfl⟩ HS.out
theorem loopTA (w : World) (p q : Nat) (sv : Int) (l : L4) (hg : Good l) (aw : Option Addr) (n cw : Nat) (al : List Int) (hal : ∀ x ∈ al, hasL4 l x = true) (hri : ∀ k, k + 1 < al.length → al.getD k 0 < al.getD (k + 1) 0) (hn : al.length = n) (hn5 : n ≤ 5000)
    (Q : Exit → Act → World → Prop) (a : Act) (wr : World) (h : TA (.pointer (some ⟨p, 0, none⟩)) (.pointer (some ⟨q, 0, none⟩)) (.int .i64 sv) (.slice aw n cw) a) (h10 : a.eval (.tmp 10) = .int .i64 0) (ht : TW w p q l wr) (hl : IsL wr (.slice aw n cw) al)
    (hq : ∀ a' w', TA (.pointer (some ⟨p, 0, none⟩)) (.pointer (some ⟨q, 0, none⟩)) (.int .i64 sv) (.slice aw n cw) a' → TW w p q l w' → Q (.exit 2) a' w') : Code.wp Tryd.prog (.loop (loopAt (Tryd.f18.body) 1)) Q a wr :=
  wp_count n (fun k a' w' => TA (.pointer (some ⟨p, 0, none⟩)) (.pointer (some ⟨q, 0, none⟩)) (.int .i64 sv) (.slice aw n cw) a' ∧ a'.eval (.tmp 10) = .int .i64 (k : Int) ∧ TW w p q l w' ∧ IsL w' (.slice aw n cw) al) 0 (Nat.zero_le _) ⟨h, h10, ht, hl⟩
    (fun k a' w' hk hI => roundTA w p q sv l hg aw n cw al hal hri hn hn5 Q k a' w' hk hI.1 hI.2.1 hI.2.2.1 hI.2.2.2)
    (fun a' w' hI => lastTA w p q sv l aw n cw al hn5 Q _ a' w' hI.1 hI.2.1 hI.2.2.1 hI.2.2.2 hq)
set_option maxRecDepth 100000 in
set_option maxHeartbeats 4000000 in
theorem roundTB (w : World) (p q : Nat) (sv : Int) (l : L4) (hg : Good l) (Q : Exit → Act → World → Prop) (i j : Nat) (a : Act) (wr : World) (hi : i < 4) (hj : j < (lN l i).length)
    (h : TB (.pointer (some ⟨p, 0, none⟩)) (.pointer (some ⟨q, 0, none⟩)) (.int .i64 sv) (.int .i64 (i : Int)) a) (h12 : a.eval (.tmp 12) = .int .i64 (j : Int)) (ht : TW w p q l wr) :
    Code.wp Tryd.prog (loopAt (Tryd.f18.body) 3) (Exit.then (fun a' w' => (TB (.pointer (some ⟨p, 0, none⟩)) (.pointer (some ⟨q, 0, none⟩)) (.int .i64 sv) (.int .i64 (i : Int)) a' ∧ TW w p q l w') ∧ a'.eval (.tmp 12) = .int .i64 ((j + 1 : Nat) : Int)) Q) a wr := by
  obtain ⟨x, hxr, hrw⟩ := ht.r
  obtain ⟨ai, ci, huf⟩ := (hrw.nth i hi).form
  have kq : wr.cell? ⟨q, i, none⟩ = some (.slice ai (lN l i).length ci) := by
    rw [cell_of_row _ _ _ _ _ _ hxr, ← huf]
    exact uN_at x i hi
  have hrl := hrw.nth i hi
  rw [huf] at hrl
  obtain ⟨_, _, hv, _, _, hf⟩ := hrl.ints
  injection hv with v1 v2 v3
  subst v1
  clear v2 v3
  obtain ⟨c, o, rfl, hcell⟩ := hf (by omega)
  have kc := hcell j hj
  obtain ⟨s, hs⟩ : ∃ s, (lN l i).getD j 0 = s := ⟨_, rfl⟩
  have hsm : s ∈ lN l i := by
    rw [← hs, List.getD_eq_getElem?_getD, List.getElem?_eq_getElem hj]
    exact List.getElem_mem hj
  have hsl : hasL4 l s = true := by
    unfold hasL4
    simp only [Bool.or_eq_true, decide_eq_true_iff]
    match i, hi with
    | 0, _ => exact .inl hsm
    | 1, _ => exact .inr (.inl hsm)
    | 2, _ => exact .inr (.inr (.inl hsm))
    | 3, _ => exact .inr (.inr (.inr hsm))
  rw [hs] at kc
  have HH := Bx.mk (has_any8 s (.pointer (some ⟨p, 0, none⟩)) l wr (.inr ⟨p, rfl, ht.s⟩) hg)
  rw [hsl] at HH
  have hl2 := (hg.nth i hi).1
  obtain ⟨n, hn⟩ : ∃ n, (lN l i).length = n := ⟨_, rfl⟩
  rw [hn] at kq hj hl2
  have HT := Bx.mk ht
  have hn1 : (n : Int) ≤ 256 := by omega
  have hj0 : (0 : Int) ≤ (j : Int) := by omega
  have hj1 : (j : Int) < (n : Int) := by omega
  have hi0 : (0 : Int) ≤ (i : Int) := by omega
  have hi1 : (i : Int) < 4 := by omega
  obtain ⟨y, rfl, hy⟩ := open128 h.fr
  have e0 := (hy 0).symm.trans h.s0
  have e1 := (hy 1).symm.trans h.s1
  have e2 := (hy 2).symm.trans h.s2
  have e11 := (hy 11).symm.trans h.s11
  have e12 := (hy 12).symm.trans h12
  clear h h12 ht hy hxr hrw huf hrl hf hcell hs hsm hsl hg hn hl2
  rw [e0, e1, e2, e11, e12]
  clear e0 e1 e2 e11 e12
  conv => arg 2; whnf
  go_wp2_with fail
  refine HH.out.mono ?_
  rintro e w1 ⟨rfl, hb⟩
  have HT1 := Bx.mk (HT.out.later hb)
  clear hb HT HH kq kc
  go_wp2
  first | exact ⟨⟨⟨rfl, rfl⟩, rfl, rfl, rfl, rfl⟩, HT1.out⟩ | exact ⟨⟨⟨⟨rfl, rfl⟩, rfl, rfl, rfl, rfl⟩, HT1.out⟩, by first | rfl | go_num⟩
set_option maxRecDepth 100000 in
set_option maxHeartbeats 1000000 in
theorem lastTB (w : World) (p q : Nat) (sv : Int) (l : L4) (hg : Good l) (Q : Exit → Act → World → Prop) (N : Act → World → Prop) (i : Nat) (a : Act) (wr : World) (hi : i < 4)
    (h : TB (.pointer (some ⟨p, 0, none⟩)) (.pointer (some ⟨q, 0, none⟩)) (.int .i64 sv) (.int .i64 (i : Int)) a) (h12 : a.eval (.tmp 12) = .int .i64 ((lN l i).length : Int)) (ht : TW w p q l wr)
    (hq : ∀ a' w', TB (.pointer (some ⟨p, 0, none⟩)) (.pointer (some ⟨q, 0, none⟩)) (.int .i64 sv) (.int .i64 (i : Int)) a' → TW w p q l w' → Q (.exit 6) a' w') : Code.wp Tryd.prog (loopAt (Tryd.f18.body) 3) (Exit.then N Q) a wr := by
  have HQ := Bx.mk hq
  have HS := Bx.mk ht
  obtain ⟨x, hxr, hrw⟩ := ht.r
  obtain ⟨ai, ci, huf⟩ := (hrw.nth i hi).form
  have kq : wr.cell? ⟨q, i, none⟩ = some (.slice ai (lN l i).length ci) := by
    rw [cell_of_row _ _ _ _ _ _ hxr, ← huf]
    exact uN_at x i hi
  have hl2 := (hg.nth i hi).1
  obtain ⟨n, hn⟩ : ∃ n, (lN l i).length = n := ⟨_, rfl⟩
  rw [hn] at kq hl2 h12
  have hn1 : (n : Int) ≤ 256 := by omega
  have hi0 : (0 : Int) ≤ (i : Int) := by omega
  have hi1 : (i : Int) < 4 := by omega
  obtain ⟨y, rfl, hy⟩ := open128 h.fr
  have e0 := (hy 0).symm.trans h.s0
  have e1 := (hy 1).symm.trans h.s1
  have e2 := (hy 2).symm.trans h.s2
  have e11 := (hy 11).symm.trans h.s11
  have e12 := (hy 12).symm.trans h12
  clear h h12 ht hy hq hxr hrw huf hg hn hl2
  rw [e0, e1, e2, e11, e12]
  clear e0 e1 e2 e11 e12
  conv => arg 2; whnf
  go_wp2
  exact HQ.out _ _ ⟨⟨rfl, rfl⟩, rfl, rfl, rfl, rfl⟩ HS.out
theorem loopTB (w : World) (p q : Nat) (sv : Int) (l : L4) (hg : Good l) (Q : Exit → Act → World → Prop) (i : Nat) (a : Act) (wr : World) (hi : i < 4)
    (h : TB (.pointer (some ⟨p, 0, none⟩)) (.pointer (some ⟨q, 0, none⟩)) (.int .i64 sv) (.int .i64 (i : Int)) a) (h12 : a.eval (.tmp 12) = .int .i64 0) (ht : TW w p q l wr)
    (hq : ∀ a' w', TB (.pointer (some ⟨p, 0, none⟩)) (.pointer (some ⟨q, 0, none⟩)) (.int .i64 sv) (.int .i64 (i : Int)) a' → TW w p q l w' → Q (.exit 6) a' w') : Code.wp Tryd.prog (.loop (loopAt (Tryd.f18.body) 3)) Q a wr :=
  wp_count (lN l i).length (fun j a' w' => (TB (.pointer (some ⟨p, 0, none⟩)) (.pointer (some ⟨q, 0, none⟩)) (.int .i64 sv) (.int .i64 (i : Int)) a' ∧ TW w p q l w') ∧ a'.eval (.tmp 12) = .int .i64 (j : Int)) 0 (Nat.zero_le _) ⟨⟨h, ht⟩, h12⟩
    (fun j a' w' hj hI => roundTB w p q sv l hg Q i j a' w' hi hj hI.1.1 hI.2 hI.1.2)
    (fun a' w' hI => lastTB w p q sv l hg Q _ i a' w' hi hI.1.1 hI.2 hI.1.2 hq)
end Go.Proofs.YtmfhdhggpepbbaaDoor
