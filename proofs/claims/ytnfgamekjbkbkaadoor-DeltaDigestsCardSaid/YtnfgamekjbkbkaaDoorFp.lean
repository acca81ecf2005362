/-
  Revocations: the document's print of a set.
-/
import Derived.Test.YtnfgamekjbkbkaaDoorFj
import Derived.Test.YtnfgamekjbkbkaaDoorJg
namespace Go.Proofs.YtnfgamekjbkbkaaDoor
open Go Go.RowKit
theorem Rows4.nth {W : World} {u : VV} {m : L4} (h : Rows4 W u m) : ∀ i, i < 4 → IsL W (uN u i) (lN m i)
  | 0, _ => h.a
  | 1, _ => h.b
  | 2, _ => h.c
  | 3, _ => h.d
theorem Good.nth {m : L4} (h : Good m) : ∀ i, i < 4 → (lN m i).length ≤ 256 ∧ ∀ x ∈ lN m i, okS x = true
  | 0, _ => ⟨h.a, fun x hx => h.s x (.inl hx)⟩
  | 1, _ => ⟨h.b, fun x hx => h.s x (.inr (.inl hx))⟩
  | 2, _ => ⟨h.c, fun x hx => h.s x (.inr (.inr (.inl hx)))⟩
  | 3, _ => ⟨h.d, fun x hx => h.s x (.inr (.inr (.inr hx)))⟩
/-- The bytes of the first logs. -/
def preB (l : L4) : Nat → List UInt8
  | 0 => []
  | i + 1 => preB l i ++ logB (lN l i)
theorem preB_four (l : L4) : preB l 4 = printB l := by
  unfold printB
  simp [preB, lN, List.append_assoc]
theorem preB_len {l : L4} (h : Good l) : ∀ i, i ≤ 4 → (preB l i).length ≤ i * 514
  | 0, _ => by simp [preB]
  | i + 1, hi => by
    have h1 := preB_len h i (by omega)
    have h2 := (h.nth i (by omega)).1
    unfold preB
    rw [List.length_append, logB_length]
    omega
/-- The two bytes of a number. -/
def hiB (n : Nat) : UInt8 := UInt8.ofNat (n / 256 % 256)
def loB (n : Nat) : UInt8 := UInt8.ofNat (n % 256)
theorem beN_hl (n : Nat) : beN 2 n = [hiB n, loB n] := by
  simp [beN, hiB, loB]
theorem hi_wrap (n : Nat) (_h : n ≤ 65535) : IntKind.u8.wrap (IntKind.i64.wrap ((n : Int) / 256)) = ub (hiB n) := by
  unfold ub hiB
  rw [IntKind.wrap_u8, IntKind.wrap_i64, UInt8.toNat_ofNat']
  omega
theorem lo_wrap (n : Nat) (h : n ≤ 65535) : IntKind.u8.wrap ((n : Int).tmod 256) = ub (loB n) := by
  unfold ub loB
  rw [IntKind.wrap_u8, UInt8.toNat_ofNat', Int.tmod_eq_emod_of_nonneg (by omega)]
  omega
theorem two_bytes (W : World) (x y : UInt8) : Bytes (W.alloc (.cells #[.int .u8 (ub x), .int .u8 (ub y)] 5)) (.slice (some ⟨W.heap.size, 0, none⟩) 2 2) [x, y] := by
  refine ⟨some ⟨W.heap.size, 0, none⟩, 2, rfl, Nat.le_refl _, (fun h => by cases h), fun _ => ⟨W.heap.size, 0, rfl, fun i hi => ?_⟩⟩
  rw [cell_of_row _ _ _ _ _ _ (hnew W _ _ rfl)]
  match i, hi with
  | 0, _ => rfl
  | 1, _ => rfl
theorem be2s_snoc (l : List Int) (k : Nat) (h : k < l.length) : be2s (l.take (k + 1)) = be2s (l.take k) ++ beN 2 (l.getD k 0).toNat := by
  rw [take_snoc l k h]
  unfold be2s
  simp
set_option maxRecDepth 100000 in
theorem open72 {a : Act} (h : Fr 72 a) : ∃ x : Nat → Value, a = ⟨List.toArray (x 0 :: x 1 :: x 2 :: x 3 :: x 4 :: x 5 :: x 6 :: x 7 :: x 8 :: x 9 :: x 10 :: x 11 :: x 12 :: x 13 :: x 14 :: x 15 :: x 16 :: x 17 :: x 18 :: x 19 :: x 20 :: x 21 :: x 22 :: x 23 :: x 24 :: x 25 :: x 26 :: x 27 :: x 28 :: x 29 :: x 30 :: x 31 :: x 32 :: x 33 :: x 34 :: x 35 :: x 36 :: x 37 :: x 38 :: x 39 :: x 40 :: x 41 :: x 42 :: x 43 :: x 44 :: x 45 :: x 46 :: x 47 :: x 48 :: x 49 :: x 50 :: x 51 :: x 52 :: x 53 :: x 54 :: x 55 :: x 56 :: x 57 :: x 58 :: x 59 :: x 60 :: x 61 :: x 62 :: x 63 :: x 64 :: x 65 :: x 66 :: x 67 :: x 68 :: x 69 :: x 70 :: x 71 :: []), []⟩ ∧ ∀ i, a.eval (.tmp i) = x i := ⟨fun i => a.tmps.getD i undef, h.form, fun _ => rfl⟩
/-- What the print leaves alone. -/
structure PF (v0 v3 v4 v6 : Value) (a : Act) : Prop where
  fr : Fr 72 a
  s0 : a.eval (.tmp 0) = v0
  s3 : a.eval (.tmp 3) = v3
  s4 : a.eval (.tmp 4) = v4
  s6 : a.eval (.tmp 6) = v6
/-- What stays while the bytes are laid. -/
structure PW (w : World) (E : Nat) (tb z32 : Array Value) (bs : List UInt8) (v : Value) (W : World) : Prop where
  k : KR w E [(E + 1, .cells z32 121), (E, .cells tb 59)] W
  o : OwnB W (E + 2) v bs
theorem PW.later {w : World} {E : Nat} {tb z32 : Array Value} {bs : List UInt8} {v : Value} {W W1 : World} (h : PW w E tb z32 bs v W) (hb : Below W.heap.size W W1) : PW w E tb z32 bs v W1 := ⟨h.k.later hb, h.o.later hb (fun g hg => (h.o.lt g hg).1)⟩
theorem PW.ap {w : World} {E : Nat} {tb z32 : Array Value} {bs cs : List UInt8} {v v1 : Value} {W W1 : World} (h : PW w E tb z32 bs v W) (ho : OwnB W1 (E + 2) v1 cs) (hg : W.grownBy W1 v.ownBlock) : PW w E tb z32 cs v1 W1 := by
  have hlt := fun g hg => (h.o.lt g hg).2
  refine ⟨?_, ho⟩
  cases hv : v.ownBlock with
  | none =>
    rw [hv] at hg
    exact ⟨fun x hx => by rw [hg.block _ (h.k.lt hx) (by simp)]; exact h.k.rows x hx, h.k.below.trans ⟨hg.os, hg.tape, hg.output, hg.size, fun c hc => hg.block c (by have := h.k.le; omega) (by simp)⟩, Nat.le_trans h.k.le hg.size⟩
  | some g =>
    have hg0 := hlt g hv
    rw [hv] at hg
    refine h.k.grown hg (by omega) (fun x hx => ?_)
    simp only [List.mem_cons, List.not_mem_nil, or_false] at hx
    rcases hx with rfl | rfl
    · show E + 1 ≠ g
      omega
    · show E ≠ g
      omega
/-- Between two rounds of the inner loop. -/
structure PI (w : World) (E q : Nat) (tb z32 : Array Value) (l : L4) (i j : Nat) (a : Act) (W : World) : Prop where
  fr : PF (.pointer (some ⟨q, 0, none⟩)) (.pointer (some ⟨E, 0, none⟩)) (.pointer (some ⟨E + 1, 0, none⟩)) (.int .i64 (i : Int)) a
  s7 : a.eval (.tmp 7) = .int .i64 (j : Int)
  st : PW w E tb z32 (preB l i ++ (beN 2 (lN l i).length ++ be2s ((lN l i).take j))) (a.eval (.tmp 5)) W
/-- Between two rounds of the outer loop. -/
structure PO (w : World) (E q : Nat) (tb z32 : Array Value) (l : L4) (i : Nat) (a : Act) (W : World) : Prop where
  fr : PF (.pointer (some ⟨q, 0, none⟩)) (.pointer (some ⟨E, 0, none⟩)) (.pointer (some ⟨E + 1, 0, none⟩)) (.int .i64 (i : Int)) a
  st : PW w E tb z32 (preB l i) (a.eval (.tmp 5)) W
set_option maxRecDepth 100000 in
set_option maxHeartbeats 4000000 in
theorem roundPI (w : World) (E q : Nat) (tb z32 : Array Value) (x : VV) (l : L4) (hE : w.heap.size = E) (hy : w.heap[q]? = some (.cells #[x.a, x.b, x.c, x.d] 79 (0, 0))) (hr : Rows4 w x l) (hg : Good l)
    (Q : Exit → Act → World → Prop) (i j : Nat) (a : Act) (wr : World) (hi : i < 4) (hj : j < (lN l i).length) (h : PI w E q tb z32 l i j a wr) :
    Code.wp Tryd.prog (loopAt (Tryd.f64.body) 1) (Exit.then (fun a' w' => PI w E q tb z32 l i (j + 1) a' w') Q) a wr := by
  have HS := h.st
  have hql := (Array.getElem?_eq_some_iff.1 hy).1
  have hpl := preB_len hg i (by omega)
  have hlg := hg.nth i hi
  obtain ⟨u, hu⟩ : ∃ u, lN l i = u := ⟨_, rfl⟩
  obtain ⟨bs, hbs⟩ : ∃ bs, preB l i ++ (beN 2 (lN l i).length ++ be2s ((lN l i).take j)) = bs := ⟨_, rfl⟩
  have HNx : Bx (preB l i ++ (beN 2 (lN l i).length ++ be2s ((lN l i).take (j + 1))) = bs ++ beN 2 ((lN l i).getD j 0).toNat) := ⟨by rw [be2s_snoc _ _ hj, ← hbs]; simp [List.append_assoc]⟩
  have hbl : bs.length ≤ 5000 := by
    rw [← hbs, List.length_append, List.length_append, beN_length, be2s_length, List.length_take]
    omega
  rw [hbs] at HS
  have HU : Bx (∀ W, Below E w W → W.heap[q]? = some (.cells #[x.a, x.b, x.c, x.d] 79 (0, 0)) ∧ IsL W (uN x i) (lN l i)) := ⟨fun W hb => ⟨by rw [hb.block q (by omega)]; exact hy, (hr.nth i hi).later (by rw [hE]; exact hb)⟩⟩
  rw [hu] at hj hlg HU
  obtain ⟨ai, ci, huf⟩ := (hr.nth i hi).form
  rw [hu] at huf
  have HC : Bx (∀ W, Below E w W → W.cell? ⟨q, i, none⟩ = some (.slice ai u.length ci) ∧ IsL W (.slice ai u.length ci) u) := ⟨fun W hb => ⟨by rw [cell_of_row _ _ _ _ _ _ (HU.out W hb).1, ← huf]; exact uN_at x i hi, by rw [← huf]; exact (HU.out W hb).2⟩⟩
  obtain ⟨n, hn⟩ : ∃ n, u.length = n := ⟨_, rfl⟩
  have hsn : okS (u.getD j 0) = true := hlg.2 _ (by rw [List.getD_eq_getElem?_getD, List.getElem?_eq_getElem hj]; exact List.getElem_mem hj)
  have hsn2 : 1 ≤ u.getD j 0 ∧ u.getD j 0 ≤ 65535 := by
    unfold okS at hsn
    rw [Bool.and_eq_true, decide_eq_true_iff, decide_eq_true_iff] at hsn
    exact hsn
  obtain ⟨s, hs⟩ : ∃ s : Nat, u.getD j 0 = (s : Int) := ⟨(u.getD j 0).toNat, by omega⟩
  have hs5 : s ≤ 65535 := by omega
  clear hsn2
  have HGs : Bx (beN 2 ((lN l i).getD j 0).toNat = [hiB s, loB s]) := ⟨by rw [hu, hs, Int.toNat_natCast, beN_hl]⟩
  have hhi := hi_wrap s hs5
  have hlo := lo_wrap s hs5
  have HCc : Bx (∀ W, Below E w W → ∃ c o, ai = some ⟨c, o, none⟩ ∧ W.cell? ⟨c, o + j, none⟩ = some (.int .i64 (s : Int))) := ⟨fun W hb => by
    obtain ⟨_, _, hv, _, _, hf⟩ := (HC.out W hb).2.ints
    injection hv with v1 v2 v3
    subst v1
    obtain ⟨c, o, hc, hcell⟩ := hf (by omega)
    exact ⟨c, o, hc, by rw [hcell j hj, hs]⟩⟩
  rw [hn] at HC hj
  have hn256 : (n : Int) ≤ 256 := by omega
  have hj0 : (0 : Int) ≤ (j : Int) := by omega
  have hj1 : (j : Int) < (n : Int) := by omega
  have hi0 : (0 : Int) ≤ (i : Int) := by omega
  have hi1 : (i : Int) < 4 := by omega
  obtain ⟨c, o, hco, -⟩ := HCc.out wr HS.k.below
  subst hco
  have HCd : Bx (∀ W, Below E w W → W.cell? ⟨q, i, none⟩ = some (.slice (some ⟨c, o, none⟩) n ci) ∧ W.cell? ⟨c, o + j, none⟩ = some (.int .i64 (s : Int))) := ⟨fun W hb => ⟨(HC.out W hb).1, by
    obtain ⟨c', o', e, h1⟩ := HCc.out W hb
    injection e with e
    injection e with e1 e2 e3
    subst e1 e2
    exact h1⟩⟩
  generalize hiB s = bh at *
  generalize loB s = bl at *
  have HBl := Bx.mk hbl
  obtain ⟨z, hz⟩ : ∃ z, a.eval (.tmp 5) = z := ⟨_, rfl⟩
  rw [hz] at HS
  obtain ⟨za, zc, rfl⟩ := own_form HS.o
  have S0 := Bx.mk HS
  obtain ⟨y, rfl, hy2⟩ := open72 h.fr.fr
  have e5 := (hy2 5).symm.trans hz
  have e7 := (hy2 7).symm.trans h.s7
  have e0 := (hy2 0).symm.trans h.fr.s0
  have e3 := (hy2 3).symm.trans h.fr.s3
  have e4 := (hy2 4).symm.trans h.fr.s4
  have e6 := (hy2 6).symm.trans h.fr.s6
  obtain ⟨L, hL⟩ : ∃ L, bs.length = L := ⟨_, rfl⟩
  rw [hL] at S0 e5
  clear h hy2 HS hz hy hr hg hlg hu hbs hbl huf hsn hs HU HC HCc hql hpl hL hE hn
  rw [e0, e3, e4, e5, e6, e7]
  clear e0 e3 e4 e5 e6 e7
  have kq := (HCd.out wr S0.out.k.below).1
  conv => arg 2; whnf
  go_upto_region 9 with fail
  clear kq
  have R0 := Bx.mk (S0.out.later (Below.refl _ _).drew)
  clear S0
  refine wp_region_noPanic ?_
  refine wp_region_held_drew (S := fun W => W.cell? ⟨q, i, none⟩ = some (.slice (some ⟨c, o, none⟩) n ci) ∧ W.cell? ⟨c, o + j, none⟩ = some (.int .i64 (s : Int))) (by kernel_rfl) (HCd.out _ R0.out.k.below) (fun hHeld => ?_)
  generalize wr.drew = W0 at *
  refine takeL 0 (v := ?_) rfl (by kernel_rfl) (by kernel_rfl) (by kernel_rfl) (fun _ _ _ h => h) (Or.inl ⟨by rfl, ?_⟩) hHeld ?_
  rotate_left 1
  · (intro w hSw; go_simp; try with_reducible rfl)
  try simp only [Act.put, List.setIfInBounds_toArray, List.set_cons_zero, List.set_cons_succ]
  refine takeL 1 (v := ?_) rfl (by kernel_rfl) (by kernel_rfl) (by kernel_rfl) (fun _ _ _ h => h) (Or.inl ⟨by rfl, ?_⟩) hHeld ?_
  rotate_left 1
  · (intro w hSw; go_simp; try with_reducible rfl)
  try simp only [Act.put, List.setIfInBounds_toArray, List.set_cons_zero, List.set_cons_succ]
  refine takeL 2 (v := ?_) rfl (by kernel_rfl) (by kernel_rfl) (by kernel_rfl) (fun _ _ _ h => h) (Or.inl ⟨by rfl, ?_⟩) hHeld ?_
  rotate_left 1
  · (intro w hSw; go_simp; try with_reducible rfl)
  try simp only [Act.put, List.setIfInBounds_toArray, List.set_cons_zero, List.set_cons_succ]
  refine takeL 3 (v := ?_) rfl (by kernel_rfl) (by kernel_rfl) (by kernel_rfl) (fun _ _ _ h => h) (Or.inl ⟨by rfl, ?_⟩) hHeld ?_
  rotate_left 1
  · (intro w hSw; go_simp; try with_reducible rfl)
  try simp only [Act.put, List.setIfInBounds_toArray, List.set_cons_zero, List.set_cons_succ]
  refine takeL 4 (v := ?_) rfl (by kernel_rfl) (by kernel_rfl) (by kernel_rfl) (fun _ _ _ h => h) (Or.inl ⟨by rfl, ?_⟩) hHeld ?_
  rotate_left 1
  · (intro w hSw; go_simp; try with_reducible rfl)
  try simp only [Act.put, List.setIfInBounds_toArray, List.set_cons_zero, List.set_cons_succ]
  refine takeL 5 (v := ?_) rfl (by kernel_rfl) (by kernel_rfl) (by kernel_rfl) (fun _ _ _ h => h) (Or.inl ⟨by rfl, ?_⟩) hHeld ?_
  rotate_left 1
  · (intro w hSw; go_simp; try with_reducible rfl)
  try simp only [Act.put, List.setIfInBounds_toArray, List.set_cons_zero, List.set_cons_succ]
  refine takeL 6 (v := ?_) rfl (by kernel_rfl) (by kernel_rfl) (by kernel_rfl) (fun _ _ _ h => h) (Or.inl ⟨by rfl, ?_⟩) hHeld ?_
  rotate_left 1
  · (intro w hSw; have c1 := hSw.1; go_simp; try with_reducible rfl)
  try simp only [Act.put, List.setIfInBounds_toArray, List.set_cons_zero, List.set_cons_succ]
  refine takeL 7 (v := ?_) rfl (by kernel_rfl) (by kernel_rfl) (by kernel_rfl) (fun _ _ _ h => h) (Or.inl ⟨by rfl, ?_⟩) hHeld ?_
  rotate_left 1
  · (intro w hSw; go_simp; try with_reducible rfl)
  try simp only [Act.put, List.setIfInBounds_toArray, List.set_cons_zero, List.set_cons_succ]
  refine takeL 8 (v := ?_) rfl (by kernel_rfl) (by kernel_rfl) (by kernel_rfl) (fun _ _ _ h => h) (Or.inl ⟨by rfl, ?_⟩) hHeld ?_
  rotate_left 1
  · (intro w hSw; go_simp; try with_reducible rfl)
  try simp only [Act.put, List.setIfInBounds_toArray, List.set_cons_zero, List.set_cons_succ]
  refine takeL 9 (v := ?_) rfl (by kernel_rfl) (by kernel_rfl) (by kernel_rfl) (fun _ _ _ h => h) (Or.inl ⟨by rfl, ?_⟩) hHeld ?_
  rotate_left 1
  · (intro w hSw; have c1 := hSw.2; go_simp; try with_reducible rfl)
  try simp only [Act.put, List.setIfInBounds_toArray, List.set_cons_zero, List.set_cons_succ]
  refine takeL 10 (v := ?_) rfl (by kernel_rfl) (by kernel_rfl) (by kernel_rfl) (fun _ _ _ h => h) (Or.inl ⟨by rfl, ?_⟩) hHeld ?_
  rotate_left 1
  · (intro w hSw; go_simp; try with_reducible rfl)
  try simp only [Act.put, List.setIfInBounds_toArray, List.set_cons_zero, List.set_cons_succ]
  refine takeL 11 (v := ?_) rfl (by kernel_rfl) (by kernel_rfl) (by kernel_rfl) (fun _ _ _ h => h) (Or.inl ⟨by rfl, ?_⟩) hHeld ?_
  rotate_left 1
  · (intro w hSw; go_simp; try with_reducible rfl)
  try simp only [Act.put, List.setIfInBounds_toArray, List.set_cons_zero, List.set_cons_succ]
  refine takeL 12 (v := ?_) rfl (by kernel_rfl) (by kernel_rfl) (by kernel_rfl) (fun _ _ _ h => h) (Or.inl ⟨by rfl, ?_⟩) hHeld ?_
  rotate_left 1
  · (intro w hSw; go_simp; try with_reducible rfl)
  try simp only [Act.put, List.setIfInBounds_toArray, List.set_cons_zero, List.set_cons_succ]
  refine takeL 13 (v := ?_) rfl (by kernel_rfl) (by kernel_rfl) (by kernel_rfl) (fun _ _ _ h => h) (Or.inl ⟨by rfl, ?_⟩) hHeld ?_
  rotate_left 1
  · (intro w hSw; go_simp; try with_reducible rfl)
  try simp only [Act.put, List.setIfInBounds_toArray, List.set_cons_zero, List.set_cons_succ]
  refine takeL 14 (v := ?_) rfl (by kernel_rfl) (by kernel_rfl) (by kernel_rfl) (fun _ _ _ h => h) (Or.inl ⟨by rfl, ?_⟩) hHeld ?_
  rotate_left 1
  · (intro w hSw; go_simp; try with_reducible rfl)
  try simp only [Act.put, List.setIfInBounds_toArray, List.set_cons_zero, List.set_cons_succ]
  refine takeL 15 (v := ?_) rfl (by kernel_rfl) (by kernel_rfl) (by kernel_rfl) (fun _ _ _ h => h) (Or.inl ⟨by rfl, ?_⟩) hHeld ?_
  rotate_left 1
  · (intro w hSw; go_simp; try with_reducible rfl)
  try simp only [Act.put, List.setIfInBounds_toArray, List.set_cons_zero, List.set_cons_succ]
  refine takeL 16 (v := ?_) rfl (by kernel_rfl) (by kernel_rfl) (by kernel_rfl) (fun _ _ _ h => h) (Or.inl ⟨by rfl, ?_⟩) hHeld ?_
  rotate_left 1
  · (intro w hSw; go_simp; try with_reducible rfl)
  try simp only [Act.put, List.setIfInBounds_toArray, List.set_cons_zero, List.set_cons_succ]
  refine takeL 17 (v := ?_) rfl (by kernel_rfl) (by kernel_rfl) (by kernel_rfl) (fun _ _ _ h => h) (Or.inl ⟨by rfl, ?_⟩) hHeld ?_
  rotate_left 1
  · (intro w hSw; have c1 := hSw.1; go_simp; try with_reducible rfl)
  try simp only [Act.put, List.setIfInBounds_toArray, List.set_cons_zero, List.set_cons_succ]
  refine takeL 18 (v := ?_) rfl (by kernel_rfl) (by kernel_rfl) (by kernel_rfl) (fun _ _ _ h => h) (Or.inl ⟨by rfl, ?_⟩) hHeld ?_
  rotate_left 1
  · (intro w hSw; go_simp; try with_reducible rfl)
  try simp only [Act.put, List.setIfInBounds_toArray, List.set_cons_zero, List.set_cons_succ]
  refine takeL 19 (v := ?_) rfl (by kernel_rfl) (by kernel_rfl) (by kernel_rfl) (fun _ _ _ h => h) (Or.inl ⟨by rfl, ?_⟩) hHeld ?_
  rotate_left 1
  · (intro w hSw; go_simp; try with_reducible rfl)
  try simp only [Act.put, List.setIfInBounds_toArray, List.set_cons_zero, List.set_cons_succ]
  refine takeL 20 (v := ?_) rfl (by kernel_rfl) (by kernel_rfl) (by kernel_rfl) (fun _ _ _ h => h) (Or.inl ⟨by rfl, ?_⟩) hHeld ?_
  rotate_left 1
  · (intro w hSw; have c1 := hSw.2; go_simp; try with_reducible rfl)
  try simp only [Act.put, List.setIfInBounds_toArray, List.set_cons_zero, List.set_cons_succ]
  refine takeL 21 (v := ?_) rfl (by kernel_rfl) (by kernel_rfl) (by kernel_rfl) (fun _ _ _ h => h) (Or.inl ⟨by rfl, ?_⟩) hHeld ?_
  rotate_left 1
  · (intro w hSw; go_simp; try with_reducible rfl)
  try simp only [Act.put, List.setIfInBounds_toArray, List.set_cons_zero, List.set_cons_succ]
  refine takeL 22 (v := ?_) rfl (by kernel_rfl) (by kernel_rfl) (by kernel_rfl) (fun _ _ _ h => h) (Or.inl ⟨by rfl, ?_⟩) hHeld ?_
  rotate_left 1
  · (intro w hSw; go_simp; try with_reducible rfl)
  try simp only [Act.put, List.setIfInBounds_toArray, List.set_cons_zero, List.set_cons_succ]
  refine stepL 23 (by kernel_rfl) rfl (fun K hK => ?_)
  go_simp
  have R1 := Bx.mk (And.intro (R0.out.later (below_a (.cells #[.int .u8 (ub bh), .int .u8 (ub bl)] 5))) (two_bytes W0 bh bl))
  clear R0
  refine hK.out _ _ (HCd.out _ R1.out.1.k.below) (fun hHeld => ?_)
  clear hK K
  try simp only [Act.put, List.setIfInBounds_toArray, List.set_cons_zero, List.set_cons_succ]
  refine stepL 24 (by kernel_rfl) rfl (fun K hK => ?_)
  refine step_ap rfl _ _ rfl (E + 2) _ bs (by rfl) R1.out.1.o _ [bh, bl] (by rfl) R1.out.2 (by have := HBl.out; simp; omega) (by have := R1.out.1.k.lt (.head _); omega) ?_
  intro v' W2 ho hgr _
  show K _ _
  have R2 := Bx.mk (R1.out.1.ap ho hgr)
  clear ho hgr R1
  refine hK.out _ _ (HCd.out _ R2.out.k.below) (fun hHeld => ?_)
  clear hK K
  try simp only [Act.put, List.setIfInBounds_toArray, List.set_cons_zero, List.set_cons_succ]
  refine takeL 25 (v := ?_) rfl (by kernel_rfl) (by kernel_rfl) (by kernel_rfl) (fun _ _ _ h => h) (Or.inl ⟨by rfl, ?_⟩) hHeld ?_
  rotate_left 1
  · (intro w hSw; go_simp; try with_reducible rfl)
  try simp only [Act.put, List.setIfInBounds_toArray, List.set_cons_zero, List.set_cons_succ]
  refine wpAnyH_done (by kernel_rfl) ?_ _
  refine NoPanic.normal ?_
  clear hHeld
  go_wp2
  refine ⟨⟨⟨rfl, rfl⟩, rfl, rfl, rfl, rfl⟩, by first | rfl | go_num, ?_⟩
  rw [HNx.out, HGs.out]
  exact R2.out
set_option maxRecDepth 100000 in
set_option maxHeartbeats 1000000 in
theorem lastPI (w : World) (E q : Nat) (tb z32 : Array Value) (x : VV) (l : L4) (hE : w.heap.size = E) (hy : w.heap[q]? = some (.cells #[x.a, x.b, x.c, x.d] 79 (0, 0))) (hr : Rows4 w x l) (hg : Good l)
    (Q : Exit → Act → World → Prop) (N : Act → World → Prop) (i : Nat) (a : Act) (wr : World) (hi : i < 4) (h : PI w E q tb z32 l i (lN l i).length a wr)
    (hq : ∀ a' w', PI w E q tb z32 l i (lN l i).length a' w' → Q (.exit 2) a' w') : Code.wp Tryd.prog (loopAt (Tryd.f64.body) 1) (Exit.then N Q) a wr := by
  have HQ := Bx.mk hq
  have HS := Bx.mk h.st
  have hql := (Array.getElem?_eq_some_iff.1 hy).1
  have hlg := (hg.nth i hi).1
  obtain ⟨ai, ci, huf⟩ := (hr.nth i hi).form
  have kq : wr.cell? ⟨q, i, none⟩ = some (.slice ai (lN l i).length ci) := by
    rw [cell_of_row _ _ _ _ _ _ (show wr.heap[q]? = some (.cells #[x.a, x.b, x.c, x.d] 79 (0, 0)) by rw [h.st.k.below.block q (by omega)]; exact hy), ← huf]
    exact uN_at x i hi
  have hi0 : (0 : Int) ≤ (i : Int) := by omega
  have hi1 : (i : Int) < 4 := by omega
  obtain ⟨y, rfl, hy2⟩ := open72 h.fr.fr
  have e7 := (hy2 7).symm.trans h.s7
  have e0 := (hy2 0).symm.trans h.fr.s0
  have e3 := (hy2 3).symm.trans h.fr.s3
  have e4 := (hy2 4).symm.trans h.fr.s4
  have e6 := (hy2 6).symm.trans h.fr.s6
  rw [hy2 5] at HS
  obtain ⟨n, hn⟩ : ∃ n, (lN l i).length = n := ⟨_, rfl⟩
  have HN := Bx.mk hn
  rw [hn] at kq e7 HQ hlg
  have hn256 : (n : Int) ≤ 256 := by omega
  clear h hy2 hy hr hg hq huf hn hlg
  rw [e0, e3, e4, e6, e7]
  clear e0 e3 e4 e6 e7
  conv => arg 2; whnf
  go_wp2
  exact HQ.out _ _ ⟨⟨⟨rfl, rfl⟩, rfl, rfl, rfl, rfl⟩, rfl, by have h := HS.out; rw [HN.out] at h ⊢; exact h⟩
theorem loopPI (w : World) (E q : Nat) (tb z32 : Array Value) (x : VV) (l : L4) (hE : w.heap.size = E) (hy : w.heap[q]? = some (.cells #[x.a, x.b, x.c, x.d] 79 (0, 0))) (hr : Rows4 w x l) (hg : Good l)
    (Q : Exit → Act → World → Prop) (i : Nat) (a : Act) (wr : World) (hi : i < 4) (h : PI w E q tb z32 l i 0 a wr)
    (hq : ∀ a' w', PI w E q tb z32 l i (lN l i).length a' w' → Q (.exit 2) a' w') : Code.wp Tryd.prog (.loop (loopAt (Tryd.f64.body) 1)) Q a wr :=
  wp_count (lN l i).length (fun j a w' => PI w E q tb z32 l i j a w') 0 (Nat.zero_le _) h (fun j a w' hj hI => roundPI w E q tb z32 x l hE hy hr hg Q i j a w' hi hj hI) (fun a w' hI => lastPI w E q tb z32 x l hE hy hr hg Q _ i a w' hi hI hq)
set_option maxRecDepth 100000 in
set_option maxHeartbeats 4000000 in
theorem roundPO (w : World) (E q : Nat) (tb z32 : Array Value) (x : VV) (l : L4) (hE : w.heap.size = E) (hy : w.heap[q]? = some (.cells #[x.a, x.b, x.c, x.d] 79 (0, 0))) (hr : Rows4 w x l) (hg : Good l)
    (Q : Exit → Act → World → Prop) (i : Nat) (a : Act) (wr : World) (hi : i < 4) (h : PO w E q tb z32 l i a wr) :
    Code.wp Tryd.prog (loopAt (Tryd.f64.body) 0) (Exit.then (fun a' w' => PO w E q tb z32 l (i + 1) a' w') Q) a wr := by
  have HS := h.st
  have HL := Bx.mk (fun Q a wr h hq => loopPI w E q tb z32 x l hE hy hr hg Q i a wr hi h hq)
  have hql := (Array.getElem?_eq_some_iff.1 hy).1
  have hpl := preB_len hg i (by omega)
  have hlg := (hg.nth i hi).1
  obtain ⟨ai, ci, huf⟩ := (hr.nth i hi).form
  have HCd : Bx (∀ W, Below E w W → W.cell? ⟨q, i, none⟩ = some (.slice ai (lN l i).length ci)) := ⟨fun W hb => by
    rw [cell_of_row _ _ _ _ _ _ (show W.heap[q]? = some (.cells #[x.a, x.b, x.c, x.d] 79 (0, 0)) by rw [hb.block q (by omega)]; exact hy), ← huf]
    exact uN_at x i hi⟩
  obtain ⟨n, hn⟩ : ∃ n, (lN l i).length = n := ⟨_, rfl⟩
  have hhi := hi_wrap n (by omega)
  have hlo := lo_wrap n (by omega)
  have HGs : Bx (beN 2 (lN l i).length = [hiB n, loB n]) := ⟨by rw [hn, beN_hl]⟩
  rw [hn] at HCd
  have hn256 : (n : Int) ≤ 256 := by omega
  have hi0 : (0 : Int) ≤ (i : Int) := by omega
  have hi1 : (i : Int) < 4 := by omega
  generalize hiB n = bh at *
  generalize loB n = bl at *
  have HPl := Bx.mk hpl
  obtain ⟨z, hz⟩ : ∃ z, a.eval (.tmp 5) = z := ⟨_, rfl⟩
  rw [hz] at HS
  obtain ⟨za, zc, rfl⟩ := own_form HS.o
  obtain ⟨bs, hbs⟩ : ∃ bs, preB l i = bs := ⟨_, rfl⟩
  have HBs := Bx.mk hbs
  have S0 := Bx.mk HS
  obtain ⟨y, rfl, hy2⟩ := open72 h.fr.fr
  have e5 := (hy2 5).symm.trans hz
  have e0 := (hy2 0).symm.trans h.fr.s0
  have e3 := (hy2 3).symm.trans h.fr.s3
  have e4 := (hy2 4).symm.trans h.fr.s4
  have e6 := (hy2 6).symm.trans h.fr.s6
  rw [hbs] at S0 e5 HPl
  obtain ⟨L, hL⟩ : ∃ L, bs.length = L := ⟨_, rfl⟩
  rw [hL] at S0 e5
  clear h hy2 HS hz hy hr hg hlg huf hql hpl hL hE hn hbs
  rw [e0, e3, e4, e5, e6]
  clear e0 e3 e4 e5 e6
  conv => arg 2; whnf
  go_upto_region 5 with fail
  have R0 := Bx.mk (S0.out.later (Below.refl _ _).drew)
  clear S0
  refine wp_region_noPanic ?_
  refine wp_region_held_drew (S := fun W => W.cell? ⟨q, i, none⟩ = some (.slice ai n ci)) (by kernel_rfl) (HCd.out _ R0.out.k.below) (fun hHeld => ?_)
  generalize wr.drew = W0 at *
  refine takeL 0 (v := ?_) rfl (by kernel_rfl) (by kernel_rfl) (by kernel_rfl) (fun _ _ _ h => h) (Or.inl ⟨by rfl, ?_⟩) hHeld ?_
  rotate_left 1
  · (intro w hSw; go_simp; try with_reducible rfl)
  try simp only [Act.put, List.setIfInBounds_toArray, List.set_cons_zero, List.set_cons_succ]
  refine takeL 1 (v := ?_) rfl (by kernel_rfl) (by kernel_rfl) (by kernel_rfl) (fun _ _ _ h => h) (Or.inl ⟨by rfl, ?_⟩) hHeld ?_
  rotate_left 1
  · (intro w hSw; go_simp; try with_reducible rfl)
  try simp only [Act.put, List.setIfInBounds_toArray, List.set_cons_zero, List.set_cons_succ]
  refine takeL 2 (v := ?_) rfl (by kernel_rfl) (by kernel_rfl) (by kernel_rfl) (fun _ _ _ h => h) (Or.inl ⟨by rfl, ?_⟩) hHeld ?_
  rotate_left 1
  · (intro w hSw; go_simp; try with_reducible rfl)
  try simp only [Act.put, List.setIfInBounds_toArray, List.set_cons_zero, List.set_cons_succ]
  refine takeL 3 (v := ?_) rfl (by kernel_rfl) (by kernel_rfl) (by kernel_rfl) (fun _ _ _ h => h) (Or.inl ⟨by rfl, ?_⟩) hHeld ?_
  rotate_left 1
  · (intro w hSw; go_simp; try with_reducible rfl)
  try simp only [Act.put, List.setIfInBounds_toArray, List.set_cons_zero, List.set_cons_succ]
  refine takeL 4 (v := ?_) rfl (by kernel_rfl) (by kernel_rfl) (by kernel_rfl) (fun _ _ _ h => h) (Or.inl ⟨by rfl, ?_⟩) hHeld ?_
  rotate_left 1
  · (intro w hSw; go_simp; try with_reducible rfl)
  try simp only [Act.put, List.setIfInBounds_toArray, List.set_cons_zero, List.set_cons_succ]
  refine takeL 5 (v := ?_) rfl (by kernel_rfl) (by kernel_rfl) (by kernel_rfl) (fun _ _ _ h => h) (Or.inl ⟨by rfl, ?_⟩) hHeld ?_
  rotate_left 1
  · (intro w hSw; go_simp; try with_reducible rfl)
  try simp only [Act.put, List.setIfInBounds_toArray, List.set_cons_zero, List.set_cons_succ]
  refine takeL 6 (v := ?_) rfl (by kernel_rfl) (by kernel_rfl) (by kernel_rfl) (fun _ _ _ h => h) (Or.inl ⟨by rfl, ?_⟩) hHeld ?_
  rotate_left 1
  · (intro w hSw; have c1 := hSw; go_simp; try with_reducible rfl)
  try simp only [Act.put, List.setIfInBounds_toArray, List.set_cons_zero, List.set_cons_succ]
  refine takeL 7 (v := ?_) rfl (by kernel_rfl) (by kernel_rfl) (by kernel_rfl) (fun _ _ _ h => h) (Or.inl ⟨by rfl, ?_⟩) hHeld ?_
  rotate_left 1
  · (intro w hSw; go_simp; try with_reducible rfl)
  try simp only [Act.put, List.setIfInBounds_toArray, List.set_cons_zero, List.set_cons_succ]
  refine takeL 8 (v := ?_) rfl (by kernel_rfl) (by kernel_rfl) (by kernel_rfl) (fun _ _ _ h => h) (Or.inl ⟨by rfl, ?_⟩) hHeld ?_
  rotate_left 1
  · (intro w hSw; go_simp; try with_reducible rfl)
  try simp only [Act.put, List.setIfInBounds_toArray, List.set_cons_zero, List.set_cons_succ]
  refine takeL 9 (v := ?_) rfl (by kernel_rfl) (by kernel_rfl) (by kernel_rfl) (fun _ _ _ h => h) (Or.inl ⟨by rfl, ?_⟩) hHeld ?_
  rotate_left 1
  · (intro w hSw; go_simp; try with_reducible rfl)
  try simp only [Act.put, List.setIfInBounds_toArray, List.set_cons_zero, List.set_cons_succ]
  refine takeL 10 (v := ?_) rfl (by kernel_rfl) (by kernel_rfl) (by kernel_rfl) (fun _ _ _ h => h) (Or.inl ⟨by rfl, ?_⟩) hHeld ?_
  rotate_left 1
  · (intro w hSw; go_simp; try with_reducible rfl)
  try simp only [Act.put, List.setIfInBounds_toArray, List.set_cons_zero, List.set_cons_succ]
  refine takeL 11 (v := ?_) rfl (by kernel_rfl) (by kernel_rfl) (by kernel_rfl) (fun _ _ _ h => h) (Or.inl ⟨by rfl, ?_⟩) hHeld ?_
  rotate_left 1
  · (intro w hSw; go_simp; try with_reducible rfl)
  try simp only [Act.put, List.setIfInBounds_toArray, List.set_cons_zero, List.set_cons_succ]
  refine takeL 12 (v := ?_) rfl (by kernel_rfl) (by kernel_rfl) (by kernel_rfl) (fun _ _ _ h => h) (Or.inl ⟨by rfl, ?_⟩) hHeld ?_
  rotate_left 1
  · (intro w hSw; go_simp; try with_reducible rfl)
  try simp only [Act.put, List.setIfInBounds_toArray, List.set_cons_zero, List.set_cons_succ]
  refine takeL 13 (v := ?_) rfl (by kernel_rfl) (by kernel_rfl) (by kernel_rfl) (fun _ _ _ h => h) (Or.inl ⟨by rfl, ?_⟩) hHeld ?_
  rotate_left 1
  · (intro w hSw; go_simp; try with_reducible rfl)
  try simp only [Act.put, List.setIfInBounds_toArray, List.set_cons_zero, List.set_cons_succ]
  refine takeL 14 (v := ?_) rfl (by kernel_rfl) (by kernel_rfl) (by kernel_rfl) (fun _ _ _ h => h) (Or.inl ⟨by rfl, ?_⟩) hHeld ?_
  rotate_left 1
  · (intro w hSw; go_simp; try with_reducible rfl)
  try simp only [Act.put, List.setIfInBounds_toArray, List.set_cons_zero, List.set_cons_succ]
  refine takeL 15 (v := ?_) rfl (by kernel_rfl) (by kernel_rfl) (by kernel_rfl) (fun _ _ _ h => h) (Or.inl ⟨by rfl, ?_⟩) hHeld ?_
  rotate_left 1
  · (intro w hSw; have c1 := hSw; go_simp; try with_reducible rfl)
  try simp only [Act.put, List.setIfInBounds_toArray, List.set_cons_zero, List.set_cons_succ]
  refine takeL 16 (v := ?_) rfl (by kernel_rfl) (by kernel_rfl) (by kernel_rfl) (fun _ _ _ h => h) (Or.inl ⟨by rfl, ?_⟩) hHeld ?_
  rotate_left 1
  · (intro w hSw; go_simp; try with_reducible rfl)
  try simp only [Act.put, List.setIfInBounds_toArray, List.set_cons_zero, List.set_cons_succ]
  refine takeL 17 (v := ?_) rfl (by kernel_rfl) (by kernel_rfl) (by kernel_rfl) (fun _ _ _ h => h) (Or.inl ⟨by rfl, ?_⟩) hHeld ?_
  rotate_left 1
  · (intro w hSw; go_simp; try with_reducible rfl)
  try simp only [Act.put, List.setIfInBounds_toArray, List.set_cons_zero, List.set_cons_succ]
  refine takeL 18 (v := ?_) rfl (by kernel_rfl) (by kernel_rfl) (by kernel_rfl) (fun _ _ _ h => h) (Or.inl ⟨by rfl, ?_⟩) hHeld ?_
  rotate_left 1
  · (intro w hSw; go_simp; try with_reducible rfl)
  try simp only [Act.put, List.setIfInBounds_toArray, List.set_cons_zero, List.set_cons_succ]
  refine stepL 19 (by kernel_rfl) rfl (fun K hK => ?_)
  go_simp
  have R1 := Bx.mk (And.intro (R0.out.later (below_a (.cells #[.int .u8 (ub bh), .int .u8 (ub bl)] 5))) (two_bytes W0 bh bl))
  clear R0
  refine hK.out _ _ (HCd.out _ R1.out.1.k.below) (fun hHeld => ?_)
  clear hK K
  try simp only [Act.put, List.setIfInBounds_toArray, List.set_cons_zero, List.set_cons_succ]
  refine stepL 20 (by kernel_rfl) rfl (fun K hK => ?_)
  refine step_ap rfl _ _ rfl (E + 2) _ bs (by rfl) R1.out.1.o _ [bh, bl] (by rfl) R1.out.2 (by have := HPl.out; simp; omega) (by have := R1.out.1.k.lt (.head _); omega) ?_
  intro v' W2 ho hgr _
  show K _ _
  have R2 := Bx.mk (R1.out.1.ap ho hgr)
  clear ho hgr R1
  refine hK.out _ _ (HCd.out _ R2.out.k.below) (fun hHeld => ?_)
  clear hK K
  try simp only [Act.put, List.setIfInBounds_toArray, List.set_cons_zero, List.set_cons_succ]
  refine takeL 21 (v := ?_) rfl (by kernel_rfl) (by kernel_rfl) (by kernel_rfl) (fun _ _ _ h => h) (Or.inl ⟨by rfl, ?_⟩) hHeld ?_
  rotate_left 1
  · (intro w hSw; go_simp; try with_reducible rfl)
  try simp only [Act.put, List.setIfInBounds_toArray, List.set_cons_zero, List.set_cons_succ]
  refine wpAnyH_done (by kernel_rfl) ?_ _
  refine NoPanic.normal ?_
  clear hHeld
  go_wp2_with fail
  refine HL.out _ _ W2 ⟨⟨⟨rfl, rfl⟩, rfl, rfl, rfl, rfl⟩, by first | rfl | go_num, ?_⟩ ?_
  · rw [HGs.out, HBs.out]
    have h := R2.out
    have e : bs ++ ([bh, bl] ++ be2s ((lN l i).take 0)) = bs ++ [bh, bl] := by simp [be2s]
    rw [e]
    exact h
  intro a5 w5 h5
  have HS5 := h5.st
  obtain ⟨g, rfl, hg2⟩ := open72 h5.fr.fr
  have f0 := (hg2 0).symm.trans h5.fr.s0
  have f3 := (hg2 3).symm.trans h5.fr.s3
  have f4 := (hg2 4).symm.trans h5.fr.s4
  have f6 := (hg2 6).symm.trans h5.fr.s6
  rw [hg2 5] at HS5
  have HS6 := Bx.mk HS5
  clear h5 hg2 HS5 R2 HL
  rw [f0, f3, f4, f6]
  clear f0 f3 f4 f6
  go_wp2
  refine ⟨⟨⟨rfl, rfl⟩, rfl, rfl, rfl, by first | rfl | go_num⟩, ?_⟩
  have h := HS6.out
  rw [List.take_length] at h
  exact h
set_option maxRecDepth 100000 in
set_option maxHeartbeats 1000000 in
theorem lastPO (w : World) (E q : Nat) (tb z32 : Array Value) (l : L4) (Q : Exit → Act → World → Prop) (N : Act → World → Prop) (a : Act) (wr : World) (h : PO w E q tb z32 l 4 a wr)
    (hq : ∀ a' w', PO w E q tb z32 l 4 a' w' → Q (.exit 0) a' w') : Code.wp Tryd.prog (loopAt (Tryd.f64.body) 0) (Exit.then N Q) a wr := by
  have HQ := Bx.mk hq
  have HS := Bx.mk h.st
  obtain ⟨y, rfl, hy2⟩ := open72 h.fr.fr
  have e0 := (hy2 0).symm.trans h.fr.s0
  have e3 := (hy2 3).symm.trans h.fr.s3
  have e4 := (hy2 4).symm.trans h.fr.s4
  have e6 := (hy2 6).symm.trans h.fr.s6
  rw [hy2 5] at HS
  clear h hy2 hq
  rw [e0, e3, e4, e6]
  clear e0 e3 e4 e6
  conv => arg 2; whnf
  go_wp2
  exact HQ.out _ _ ⟨⟨⟨rfl, rfl⟩, rfl, rfl, rfl, rfl⟩, HS.out⟩
theorem loopPO (w : World) (E q : Nat) (tb z32 : Array Value) (x : VV) (l : L4) (hE : w.heap.size = E) (hy : w.heap[q]? = some (.cells #[x.a, x.b, x.c, x.d] 79 (0, 0))) (hr : Rows4 w x l) (hg : Good l)
    (Q : Exit → Act → World → Prop) (a : Act) (wr : World) (h : PO w E q tb z32 l 0 a wr) (hq : ∀ a' w', PO w E q tb z32 l 4 a' w' → Q (.exit 0) a' w') : Code.wp Tryd.prog (.loop (loopAt (Tryd.f64.body) 0)) Q a wr :=
  wp_count 4 (fun i a w' => PO w E q tb z32 l i a w') 0 (Nat.zero_le _) h (fun i a w' hi hI => roundPO w E q tb z32 x l hE hy hr hg Q i a w' hi hI) (fun a w' hI => lastPO w E q tb z32 l Q _ a w' hI hq)
set_option maxRecDepth 100000 in
set_option maxHeartbeats 2000000 in
theorem rprint8 (q : Nat) (l : L4) (w : World) (hs : RAt w q l) (hg : Good l) : Calls Tryd.prog 64 #[.pointer (some ⟨q, 0, none⟩), .agg (u32s (kTab ++ hTab))] w fun e w' => e = .returned (.agg (u8s (sha (printB l)))) ∧ Below w.heap.size w w' := by
  obtain ⟨x, hy, hr⟩ := hs
  obtain ⟨E, hE⟩ : ∃ E, w.heap.size = E := ⟨_, rfl⟩
  obtain ⟨tb, htb⟩ : ∃ t, u32s (kTab ++ hTab) = t := ⟨_, rfl⟩
  obtain ⟨z32, hz32⟩ : ∃ z, u8s (List.replicate 32 0) = z := ⟨_, rfl⟩
  have hz32v : ∀ W : World, (zeroValue 121).run Tryd.prog W = .ok (.agg z32) W := fun W => by rw [← hz32, zero32]; kernel_rfl
  have HIt : Bx ((Tryd.prog.info? 59).map (·.size) = some tb.size) := ⟨by rw [← htb]; kernel_rfl⟩
  have HL := Bx.mk (loopPO w E q tb z32 x l hE hy hr hg)
  have K0 : Bx (KR w E [(E + 1, .cells z32 121), (E, .cells tb 59)] ((w.alloc (.cells tb 59)).alloc (.cells z32 121))) := Bx.mk (by
    subst hE
    have h := ((KR.start w).new (.cells tb 59)).new (.cells z32 121)
    simpa using h)
  have HRs := Bx.mk (fun (W : World) (v : Value) (h : Bytes W v (printB l)) => rsum_any (printB l) v W h (by have := preB_len hg 4 (Nat.le_refl _); rw [preB_four] at this; omega))
  rw [htb] at HRs ⊢
  have HZ := Bx.mk hz32
  obtain ⟨pb, hpb⟩ : ∃ p, sha (printB l) = p := ⟨_, rfl⟩
  have HIL : Bx (pb.length = 32) := Bx.mk (by rw [← hpb]; exact sha_length _)
  rw [hpb] at HRs ⊢
  have HI3 : Bx ((Tryd.prog.info? 121).map (·.size) = some (u8s pb).size) := Bx.mk (by rw [u8s_size, HIL.out]; kernel_rfl)
  have HSz : Bx ((u8s pb).size = z32.size) := Bx.mk (by rw [← hz32, u8s_size, u8s_size, HIL.out]; simp)
  have HPf := Bx.mk (preB_four l)
  rw [hE]
  clear hy hr hg htb hz32 hpb
  go_enter Tryd.func64, Tryd.ntmps64
  go_wp2_with fail
  generalize (w.alloc (.cells tb 59)).alloc (.cells z32 121) = w0 at *
  refine HL.out _ _ w0 ⟨⟨⟨rfl, rfl⟩, rfl, rfl, rfl, rfl⟩, K0.out, OwnB.nil _ _⟩ ?_
  intro a5 w5 h5
  have HS5 := h5.st
  rw [HPf.out] at HS5
  obtain ⟨g, rfl, hg2⟩ := open72 h5.fr.fr
  have f0 := (hg2 0).symm.trans h5.fr.s0
  have f3 := (hg2 3).symm.trans h5.fr.s3
  have f4 := (hg2 4).symm.trans h5.fr.s4
  have f6 := (hg2 6).symm.trans h5.fr.s6
  rw [hg2 5] at HS5
  obtain ⟨z, hz⟩ : ∃ z, g 5 = z := ⟨_, rfl⟩
  rw [hz] at HS5
  have HS6 := Bx.mk HS5
  clear h5 hg2 HS5 K0 HL
  rw [f0, f3, f4, f6, hz]
  clear f0 f3 f4 f6 hz
  go_wp2_with (refine wpList_load_row rfl 59 _ rfl E (by rfl) _ tb (0, 0) _ (HS6.out.k.rows _ (.tail _ (.head _))) Tryd.underlying59 rfl HIt.out ?_)
  refine (HRs.out w5 z HS6.out.o.bytes).mono ?_
  rintro e w6 ⟨rfl, hb⟩
  have K6 := Bx.mk (HS6.out.k.later hb)
  clear hb HS6 HRs
  go_wp2_with (refine wpList_store_new rfl 121 _ _ rfl (E + 1) (u8s pb) _ _ (by rfl) (by rfl) (K6.out.rows _ (.head _)) HSz.out HI3.out (one_u8s _) ?_; intro w9 hw hr; have HR := Bx.mk hr; have HBw := Bx.mk (show Below E w w9 by rw [hw]; exact below_setCells (by omega) _ _ _ _ K6.out.below); clear hw hr K6)
  refine bodyPost_ret (results_cell_row rfl _ _ (E + 1) _ (u8s pb) _ _ rfl HR.out Tryd.underlying121 rfl HI3.out) rfl ?_
  exact ⟨rfl, HBw.out⟩
end Go.Proofs.YtnfgamekjbkbkaaDoor
