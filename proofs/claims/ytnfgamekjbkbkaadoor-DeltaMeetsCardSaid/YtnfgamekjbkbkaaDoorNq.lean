/-
  DeltaMeets: two sets made of beginnings.
-/
import Derived.Test.YtnfgamekjbkbkaaDoorNp
import Derived.Test.YtnfgamekjbkbkaaDoorD5
import Derived.Test.YtnfgamekjbkbkaaDoorJc
import Derived.Test.YtnfgamekjbkbkaaDoorD1
namespace Go.Proofs.YtnfgamekjbkbkaaDoor
open Go Go.RowKit
set_option maxRecDepth 100000 in
theorem open181 {a : Act} (h : Fr 181 a) : ∃ x : Nat → Value, a = ⟨List.toArray (x 0 :: x 1 :: x 2 :: x 3 :: x 4 :: x 5 :: x 6 :: x 7 :: x 8 :: x 9 :: x 10 :: x 11 :: x 12 :: x 13 :: x 14 :: x 15 :: x 16 :: x 17 :: x 18 :: x 19 :: x 20 :: x 21 :: x 22 :: x 23 :: x 24 :: x 25 :: x 26 :: x 27 :: x 28 :: x 29 :: x 30 :: x 31 :: x 32 :: x 33 :: x 34 :: x 35 :: x 36 :: x 37 :: x 38 :: x 39 :: x 40 :: x 41 :: x 42 :: x 43 :: x 44 :: x 45 :: x 46 :: x 47 :: x 48 :: x 49 :: x 50 :: x 51 :: x 52 :: x 53 :: x 54 :: x 55 :: x 56 :: x 57 :: x 58 :: x 59 :: x 60 :: x 61 :: x 62 :: x 63 :: x 64 :: x 65 :: x 66 :: x 67 :: x 68 :: x 69 :: x 70 :: x 71 :: x 72 :: x 73 :: x 74 :: x 75 :: x 76 :: x 77 :: x 78 :: x 79 :: x 80 :: x 81 :: x 82 :: x 83 :: x 84 :: x 85 :: x 86 :: x 87 :: x 88 :: x 89 :: x 90 :: x 91 :: x 92 :: x 93 :: x 94 :: x 95 :: x 96 :: x 97 :: x 98 :: x 99 :: x 100 :: x 101 :: x 102 :: x 103 :: x 104 :: x 105 :: x 106 :: x 107 :: x 108 :: x 109 :: x 110 :: x 111 :: x 112 :: x 113 :: x 114 :: x 115 :: x 116 :: x 117 :: x 118 :: x 119 :: x 120 :: x 121 :: x 122 :: x 123 :: x 124 :: x 125 :: x 126 :: x 127 :: x 128 :: x 129 :: x 130 :: x 131 :: x 132 :: x 133 :: x 134 :: x 135 :: x 136 :: x 137 :: x 138 :: x 139 :: x 140 :: x 141 :: x 142 :: x 143 :: x 144 :: x 145 :: x 146 :: x 147 :: x 148 :: x 149 :: x 150 :: x 151 :: x 152 :: x 153 :: x 154 :: x 155 :: x 156 :: x 157 :: x 158 :: x 159 :: x 160 :: x 161 :: x 162 :: x 163 :: x 164 :: x 165 :: x 166 :: x 167 :: x 168 :: x 169 :: x 170 :: x 171 :: x 172 :: x 173 :: x 174 :: x 175 :: x 176 :: x 177 :: x 178 :: x 179 :: x 180 :: []), []⟩ ∧ ∀ i, a.eval (.tmp i) = x i := ⟨fun i => a.tmps.getD i undef, h.form, fun _ => rfl⟩
/-- The frame of the first loop. -/
structure PM (v3 v5 v6 v8 v10 v11 v12 v13 : Value) (a : Act) : Prop where
  fr : Fr 181 a
  s3 : a.eval (.tmp 3) = v3
  s5 : a.eval (.tmp 5) = v5
  s6 : a.eval (.tmp 6) = v6
  s8 : a.eval (.tmp 8) = v8
  s10 : a.eval (.tmp 10) = v10
  s11 : a.eval (.tmp 11) = v11
  s12 : a.eval (.tmp 12) = v12
  s13 : a.eval (.tmp 13) = v13
/-- Between two rounds. -/
structure DM (w : World) (E X Y qq : Nat) (va vb : V4) (l mx my : L4) (W : World) : Prop where
  k : KR w E [(E + 1, .cells #[.int .i64 va.a, .int .i64 va.b, .int .i64 va.c, .int .i64 va.d] 22), (E + 2, .cells #[.int .i64 vb.a, .int .i64 vb.b, .int .i64 vb.c, .int .i64 vb.d] 22)] W
  r : RAt W qq l
  x : SetAt W X mx
  y : SetAt W Y my
  o : E + 2 < qq ∧ qq < X ∧ X < Y
theorem DM.later {w : World} {E X Y qq : Nat} {va vb : V4} {l mx my : L4} {W W1 : World} (h : DM w E X Y qq va vb l mx my W) (hb : Below W.heap.size W W1) : DM w E X Y qq va vb l mx my W1 := ⟨h.k.later hb, h.r.later hb, h.x.later hb, h.y.later hb, h.o⟩
theorem DM.onX {w : World} {E X Y qq : Nat} {va vb : V4} {l mx my m1 : L4} {W W1 : World} (h : DM w E X Y qq va vb l mx my W) (hg : W.grownBy W1 (some X)) (hs : SetAt W1 X m1) : DM w E X Y qq va vb l m1 my W1 := by
  obtain ⟨o1, o2, o3⟩ := h.o
  exact ⟨h.k.grown hg (by omega) (by intro z hz; simp at hz; rcases hz with rfl | rfl <;> (simp only; omega)), h.r.far9 hg h.x (by omega), hs, h.y.beside h.x hg (by omega), h.o⟩
theorem DM.onY {w : World} {E X Y qq : Nat} {va vb : V4} {l mx my m1 : L4} {W W1 : World} (h : DM w E X Y qq va vb l mx my W) (hg : W.grownBy W1 (some Y)) (hs : SetAt W1 Y m1) : DM w E X Y qq va vb l mx m1 W1 := by
  obtain ⟨o1, o2, o3⟩ := h.o
  exact ⟨h.k.grown hg (by omega) (by intro z hz; simp at hz; rcases hz with rfl | rfl <;> (simp only; omega)), h.r.far9 hg h.y (by omega), h.x.beside h.y hg (by omega), hs, h.o⟩
/-- The logs up to one. -/
def maskL (m : L4) : Nat → L4
  | 0 => ⟨[], [], [], []⟩
  | 1 => ⟨m.a, [], [], []⟩
  | 2 => ⟨m.a, m.b, [], []⟩
  | 3 => ⟨m.a, m.b, m.c, []⟩
  | _ => m
/-- A remainder of a number. -/
theorem rem_facts (x : Int) (n : Nat) (hn : (n : Int) ≤ 1000) : ∃ c : Nat, c ≤ n ∧ (IntKind.u64.wrap x).tmod ((n : Int) + 1) = (c : Int) ∧ IntKind.i64.wrap (c : Int) = (c : Int) := by
  have h1 : 0 ≤ IntKind.u64.wrap x := by rw [IntKind.wrap_u64]; omega
  have h2 := Int.emod_nonneg (IntKind.u64.wrap x) (show ((n : Int) + 1) ≠ 0 by omega)
  have h3 := Int.emod_lt_of_pos (IntKind.u64.wrap x) (show 0 < ((n : Int) + 1) by omega)
  rw [Int.tmod_eq_emod_of_nonneg h1]
  exact ⟨((IntKind.u64.wrap x) % ((n : Int) + 1)).toNat, by omega, by omega, by rw [IntKind.wrap_i64]; omega⟩
/-- What holds ahead of a round. -/
def IM1 (w : World) (E X Y qq : Nat) (va vb : V4) (l : L4) (room : Int) (k : Nat) (a : Act) (W : World) : Prop :=
  ∃ N K : N4, N.Le l.len ∧ K.Le l.len ∧ PM (.int .i64 room) (.pointer (some ⟨E + 1, 0, none⟩)) (.pointer (some ⟨E + 2, 0, none⟩)) (.bool false) (.pointer (some ⟨qq, 0, none⟩)) (.pointer (some ⟨X, 0, none⟩)) (.pointer (some ⟨Y, 0, none⟩)) (.int .i64 (k : Int)) a ∧ DM w E X Y qq va vb l (maskL (l.pre N) k) (maskL (l.pre K) k) W
set_option maxRecDepth 100000 in
set_option maxHeartbeats 16000000 in
theorem mround0 (w : World) (E X Y qq : Nat) (va vb : V4) (l : L4) (room : Int) (hg : Good l) (hnd : NoDup l) (h40 : Most l 40) (Q : Exit → Act → World → Prop) (a : Act) (wr : World) (hI : IM1 w E X Y qq va vb l room 0 a wr) :
    Code.wp Tryd.prog (loopAt Tryd.f6.body 0) (Exit.then (fun a' w' => IM1 w E X Y qq va vb l room 1 a' w') Q) a wr := by
  obtain ⟨N, K, hN, hK, h, hD⟩ := hI
  have hD : DM w E X Y qq va vb l ⟨[], [], [], []⟩ ⟨[], [], [], []⟩ wr := hD
  obtain ⟨xr, hxr, hur⟩ := id hD.r
  obtain ⟨u1, u2, u3, u4, b1, b2, b3, b4, rfl⟩ := hur.forms
  obtain ⟨n, hn⟩ : ∃ n, l.a.length = n := ⟨_, rfl⟩
  have hn4 : (n : Int) ≤ 40 := by have := h40.a; omega
  have hn0 : (0 : Int) ≤ (n : Int) := by omega
  obtain ⟨c, hc, hcm, hcw⟩ := rem_facts va.a n (by omega)
  obtain ⟨d, hd, hdm, hdw⟩ := rem_facts vb.a n (by omega)
  have hnw : IntKind.i64.wrap ((n : Int) + 1) = (n : Int) + 1 := by rw [IntKind.wrap_i64]; omega
  have hnu : IntKind.u64.wrap ((n : Int) + 1) = (n : Int) + 1 := by rw [IntKind.wrap_u64]; omega
  have hnz : ¬ ((n : Int) + 1 = 0) := by omega
  have hcap : n ≤ b1 := by
    obtain ⟨a', cap', hv, hc', -, -⟩ := hur.a
    injection hv with e1 e2 e3
    omega
  have hk1 := fun W => cut_h u1 n b1 c (by omega) W
  have hk2 := fun W => cut_h u1 n b1 d (by omega) W
  have hc0 : (0 : Int) ≤ (c : Int) := by omega
  have hd0 : (0 : Int) ≤ (d : Int) := by omega
  have hc1 : (c : Int) ≤ (b1 : Int) := by omega
  have hd1 : (d : Int) ≤ (b1 : Int) := by omega
  have hIL : ∀ (m : Nat), m ≤ n → ∀ W, IsL W (.slice u1 n b1) l.a → IsL W (.slice u1 m b1) (l.a.take m) := fun m hm W h => h.cut m hm b1 (by omega) (fun e => by
    obtain ⟨_, _, hv, _, hn', _⟩ := h
    injection hv with v1 v2 v3
    subst v1 v3
    exact hn' e)
  have hok : ∀ m, ∀ x ∈ l.a.take m, okS x = true := fun m x hx => hg.s x (.inl (List.mem_of_mem_take hx))
  have hlt : ∀ m, (l.a.take m).length ≤ 40 := fun m => by rw [List.length_take]; have := h40.a; omega
  have gm : ∀ M : N4, Good ⟨[], [], [], []⟩ := fun M => ⟨fun x hx => by
    have hp := (hg.pre M).s x
    simp only [List.not_mem_nil, or_false] at hx
    , by simp, by simp, by simp, by simp⟩
  have HR1 := Bx.mk (fun W (hs : SetAt W X ⟨[], [], [], []⟩) (hv : IsL W (.slice u1 n b1) l.a) => by
    have h := revoke_any 0 (.slice u1 c b1) (l.a.take c) X ⟨[], [], [], []⟩ W hs (gm N) (hIL c hc W hv) (by have := hlt c; omega)
    rw [rev_first0 (m := ⟨[], [], [], []⟩) rfl (hok c) (nodup_take _ hnd.a) (by have := hlt c; omega)] at h
    exact h)
  have HR2 := Bx.mk (fun W (hs : SetAt W Y ⟨[], [], [], []⟩) (hv : IsL W (.slice u1 n b1) l.a) => by
    have h := revoke_any 0 (.slice u1 d b1) (l.a.take d) Y ⟨[], [], [], []⟩ W hs (gm K) (hIL d hd W hv) (by have := hlt d; omega)
    rw [rev_first0 (m := ⟨[], [], [], []⟩) rfl (hok d) (nodup_take _ hnd.a) (by have := hlt d; omega)] at h
    exact h)
  rw [hn] at hxr hur
  have c6 : wr.cell? ⟨qq, 0, none⟩ = some (.slice u1 n b1) := by rw [cell_of_row _ _ _ _ _ _ hxr]; rfl
  have HU := Bx.mk hur.a
  have S0 := Bx.mk hD
  have HEnd := Bx.mk (show (⟨c, N.b, N.c, N.d⟩ : N4).Le l.len ∧ (⟨d, K.b, K.c, K.d⟩ : N4).Le l.len from ⟨⟨by simpa [L4.len, hn] using hc, hN.b, hN.c, hN.d⟩, ⟨by simpa [L4.len, hn] using hd, hK.b, hK.c, hK.d⟩⟩)
  clear hD hxr hur hc hd hcap hIL hok hlt gm hg hnd h40 hN hK hn
  obtain ⟨y, rfl, hy⟩ := open181 h.fr
  have e3 := (hy 3).symm.trans h.s3
  have e5 := (hy 5).symm.trans h.s5
  have e6 := (hy 6).symm.trans h.s6
  have e8 := (hy 8).symm.trans h.s8
  have e10 := (hy 10).symm.trans h.s10
  have e11 := (hy 11).symm.trans h.s11
  have e12 := (hy 12).symm.trans h.s12
  have e13 := (hy 13).symm.trans h.s13
  clear h hy
  rw [e3, e5, e6, e8, e10, e11, e12, e13]
  clear e3 e5 e6 e8 e10 e11 e12 e13
  conv => arg 2; whnf
  go_upto_region 7 with fail
  have S1 := Bx.mk (S0.out.later (Below.refl _ _).drew)
  have HU1 := Bx.mk (HU.out.later (Below.refl _ _).drew)
  clear S0 HU c6
  refine wp_region_noPanic ?_
  refine wp_region_held_drew (S := fun W => W.cell? ⟨E + 1, 0, none⟩ = some (.int .i64 va.a) ∧ W.cell? ⟨E + 2, 0, none⟩ = some (.int .i64 vb.a)) (by kernel_rfl) (⟨by rw [cell_of_row _ _ _ _ _ _ (S1.out.k.rows _ (.head _))]; rfl, by rw [cell_of_row _ _ _ _ _ _ (S1.out.k.rows _ (.tail _ (.head _)))]; rfl⟩) (fun hHeld => ?_)
  generalize wr.drew = W0 at *
  refine takeL 0 (v := ?_) rfl (by kernel_rfl) (by kernel_rfl) (by kernel_rfl) (fun _ _ _ h => h) (Or.inl ⟨by rfl, ?_⟩) hHeld ?_
  rotate_left 1
  · (intro w hSw; go_simp; try with_reducible rfl)
  try simp only [Act.put, List.setIfInBounds_toArray, List.set_cons_zero, List.set_cons_succ]
  refine takeL 1 (v := ?_) rfl (by kernel_rfl) (by kernel_rfl) (by kernel_rfl) (fun _ _ _ h => h) (Or.inl ⟨by rfl, ?_⟩) hHeld ?_
  rotate_left 1
  · (intro w hSw; go_simp; try with_reducible rfl)
  try simp only [Act.put, List.setIfInBounds_toArray, List.set_cons_zero, List.set_cons_succ]
  refine takeL 2 (v := ?_) rfl (by kernel_rfl) (by kernel_rfl) (by kernel_rfl) (fun _ _ _ h => h) (Or.inl ⟨by rfl, ?_⟩) hHeld ?_
  rotate_left 1
  · (intro w hSw; obtain ⟨q1, q2⟩ := hSw; go_simp; try with_reducible rfl)
  try simp only [Act.put, List.setIfInBounds_toArray, List.set_cons_zero, List.set_cons_succ]
  refine takeL 3 (v := ?_) rfl (by kernel_rfl) (by kernel_rfl) (by kernel_rfl) (fun _ _ _ h => h) (Or.inl ⟨by rfl, ?_⟩) hHeld ?_
  rotate_left 1
  · (intro w hSw; go_simp; try with_reducible rfl)
  try simp only [Act.put, List.setIfInBounds_toArray, List.set_cons_zero, List.set_cons_succ]
  refine takeL 4 (v := ?_) rfl (by kernel_rfl) (by kernel_rfl) (by kernel_rfl) (fun _ _ _ h => h) (Or.inl ⟨by rfl, ?_⟩) hHeld ?_
  rotate_left 1
  · (intro w hSw; go_simp; try with_reducible rfl)
  try simp only [Act.put, List.setIfInBounds_toArray, List.set_cons_zero, List.set_cons_succ]
  refine takeL 5 (v := ?_) rfl (by kernel_rfl) (by kernel_rfl) (by kernel_rfl) (fun _ _ _ h => h) (Or.inl ⟨by rfl, ?_⟩) hHeld ?_
  rotate_left 1
  · (intro w hSw; go_simp; try with_reducible rfl)
  try simp only [Act.put, List.setIfInBounds_toArray, List.set_cons_zero, List.set_cons_succ]
  refine takeL 6 (v := ?_) rfl (by kernel_rfl) (by kernel_rfl) (by kernel_rfl) (fun _ _ _ h => h) (Or.inl ⟨by rfl, ?_⟩) hHeld ?_
  rotate_left 1
  · (intro w hSw; go_simp; try with_reducible rfl)
  try simp only [Act.put, List.setIfInBounds_toArray, List.set_cons_zero, List.set_cons_succ]
  refine takeL 7 (v := ?_) rfl (by kernel_rfl) (by kernel_rfl) (by kernel_rfl) (fun _ _ _ h => h) (Or.inl ⟨by rfl, ?_⟩) hHeld ?_
  rotate_left 1
  · (intro w hSw; go_simp; try with_reducible rfl)
  try simp only [Act.put, List.setIfInBounds_toArray, List.set_cons_zero, List.set_cons_succ]
  refine takeL 8 (v := ?_) rfl (by kernel_rfl) (by kernel_rfl) (by kernel_rfl) (fun _ _ _ h => h) (Or.inl ⟨by rfl, ?_⟩) hHeld ?_
  rotate_left 1
  · (intro w hSw; go_simp; try with_reducible rfl)
  try simp only [Act.put, List.setIfInBounds_toArray, List.set_cons_zero, List.set_cons_succ]
  refine takeL 9 (v := ?_) rfl (by kernel_rfl) (by kernel_rfl) (by kernel_rfl) (fun _ _ _ h => h) (Or.inl ⟨by rfl, ?_⟩) hHeld ?_
  rotate_left 1
  · (intro w hSw; go_simp; try with_reducible rfl)
  try simp only [Act.put, List.setIfInBounds_toArray, List.set_cons_zero, List.set_cons_succ]
  refine takeL 10 (v := ?_) rfl (by kernel_rfl) (by kernel_rfl) (by kernel_rfl) (fun _ _ _ h => h) (Or.inl ⟨by rfl, ?_⟩) hHeld ?_
  rotate_left 1
  · (intro w hSw; go_simp; try with_reducible rfl)
  try simp only [Act.put, List.setIfInBounds_toArray, List.set_cons_zero, List.set_cons_succ]
  refine takeL 11 (v := ?_) rfl (by kernel_rfl) (by kernel_rfl) (by kernel_rfl) (fun _ _ _ h => h) (Or.inl ⟨by rfl, ?_⟩) hHeld ?_
  rotate_left 1
  · (intro w hSw; go_simp; try with_reducible rfl)
  try simp only [Act.put, List.setIfInBounds_toArray, List.set_cons_zero, List.set_cons_succ]
  refine takeL 12 (v := ?_) rfl (by kernel_rfl) (by kernel_rfl) (by kernel_rfl) (fun _ _ _ h => h) (Or.inl ⟨by rfl, ?_⟩) hHeld ?_
  rotate_left 1
  · (intro w hSw; obtain ⟨q1, q2⟩ := hSw; go_simp; try with_reducible rfl)
  try simp only [Act.put, List.setIfInBounds_toArray, List.set_cons_zero, List.set_cons_succ]
  refine takeL 13 (v := ?_) rfl (by kernel_rfl) (by kernel_rfl) (by kernel_rfl) (fun _ _ _ h => h) (Or.inl ⟨by rfl, ?_⟩) hHeld ?_
  rotate_left 1
  · (intro w hSw; go_simp; try with_reducible rfl)
  try simp only [Act.put, List.setIfInBounds_toArray, List.set_cons_zero, List.set_cons_succ]
  refine takeL 14 (v := ?_) rfl (by kernel_rfl) (by kernel_rfl) (by kernel_rfl) (fun _ _ _ h => h) (Or.inl ⟨by rfl, ?_⟩) hHeld ?_
  rotate_left 1
  · (intro w hSw; go_simp; try with_reducible rfl)
  try simp only [Act.put, List.setIfInBounds_toArray, List.set_cons_zero, List.set_cons_succ]
  refine takeL 15 (v := ?_) rfl (by kernel_rfl) (by kernel_rfl) (by kernel_rfl) (fun _ _ _ h => h) (Or.inl ⟨by rfl, ?_⟩) hHeld ?_
  rotate_left 1
  · (intro w hSw; go_simp; try with_reducible rfl)
  try simp only [Act.put, List.setIfInBounds_toArray, List.set_cons_zero, List.set_cons_succ]
  refine takeL 16 (v := ?_) rfl (by kernel_rfl) (by kernel_rfl) (by kernel_rfl) (fun _ _ _ h => h) (Or.inl ⟨by rfl, ?_⟩) hHeld ?_
  rotate_left 1
  · (intro w hSw; go_simp; try with_reducible rfl)
  try simp only [Act.put, List.setIfInBounds_toArray, List.set_cons_zero, List.set_cons_succ]
  refine takeL 17 (v := ?_) rfl (by kernel_rfl) (by kernel_rfl) (by kernel_rfl) (fun _ _ _ h => h) (Or.inl ⟨by rfl, ?_⟩) hHeld ?_
  rotate_left 1
  · (intro w hSw; go_simp; try with_reducible rfl)
  try simp only [Act.put, List.setIfInBounds_toArray, List.set_cons_zero, List.set_cons_succ]
  refine takeL 18 (v := ?_) rfl (by kernel_rfl) (by kernel_rfl) (by kernel_rfl) (fun _ _ _ h => h) (Or.inl ⟨by rfl, ?_⟩) hHeld ?_
  rotate_left 1
  · (intro w hSw; go_simp; try with_reducible rfl)
  try simp only [Act.put, List.setIfInBounds_toArray, List.set_cons_zero, List.set_cons_succ]
  refine takeL 19 (v := ?_) rfl (by kernel_rfl) (by kernel_rfl) (by kernel_rfl) (fun _ _ _ h => h) (Or.inl ⟨by rfl, ?_⟩) hHeld ?_
  rotate_left 1
  · (intro w hSw; go_simp; try with_reducible rfl)
  try simp only [Act.put, List.setIfInBounds_toArray, List.set_cons_zero, List.set_cons_succ]
  refine takeL 20 (v := ?_) rfl (by kernel_rfl) (by kernel_rfl) (by kernel_rfl) (fun _ _ _ h => h) (Or.inl ⟨by rfl, ?_⟩) hHeld ?_
  rotate_left 1
  · (intro w hSw; go_simp; try with_reducible rfl)
  try simp only [Act.put, List.setIfInBounds_toArray, List.set_cons_zero, List.set_cons_succ]
  refine takeL 21 (v := ?_) rfl (by kernel_rfl) (by kernel_rfl) (by kernel_rfl) (fun _ _ _ h => h) (Or.inl ⟨by rfl, ?_⟩) hHeld ?_
  rotate_left 1
  · (intro w hSw; go_simp; try with_reducible rfl)
  try simp only [Act.put, List.setIfInBounds_toArray, List.set_cons_zero, List.set_cons_succ]
  refine wpAnyH_done (by kernel_rfl) ?_ _
  refine NoPanic.normal ?_
  clear hHeld
  go_wp2_with fail
  refine (HR1.out W0 S1.out.x HU1.out).mono ?_
  rintro e w1 ⟨rfl, hs, hg⟩
  have S2 := Bx.mk (S1.out.onX hg hs)
  have HU2 := Bx.mk (HU1.out.beside S1.out.x hg)
  clear hs hg S1 HU1 HR1
  go_wp2_with fail
  refine (HR2.out w1 S2.out.y HU2.out).mono ?_
  rintro e w2 ⟨rfl, hs, hg⟩
  have S3 := Bx.mk (S2.out.onY hg hs)
  clear hs hg S2 HU2 HR2
  go_wp2
  exact ⟨⟨c, N.b, N.c, N.d⟩, ⟨d, K.b, K.c, K.d⟩, HEnd.out.1, HEnd.out.2, ⟨⟨rfl, rfl⟩, rfl, rfl, rfl, rfl, rfl, rfl, rfl, rfl⟩, S3.out⟩
set_option maxRecDepth 100000 in
set_option maxHeartbeats 16000000 in
theorem mround1 (w : World) (E X Y qq : Nat) (va vb : V4) (l : L4) (room : Int) (hg : Good l) (hnd : NoDup l) (h40 : Most l 40) (Q : Exit → Act → World → Prop) (a : Act) (wr : World) (hI : IM1 w E X Y qq va vb l room 1 a wr) :
    Code.wp Tryd.prog (loopAt Tryd.f6.body 0) (Exit.then (fun a' w' => IM1 w E X Y qq va vb l room 2 a' w') Q) a wr := by
  obtain ⟨N, K, hN, hK, h, hD⟩ := hI
  have hD : DM w E X Y qq va vb l ⟨l.a.take N.a, [], [], []⟩ ⟨l.a.take K.a, [], [], []⟩ wr := hD
  obtain ⟨xr, hxr, hur⟩ := id hD.r
  obtain ⟨u1, u2, u3, u4, b1, b2, b3, b4, rfl⟩ := hur.forms
  obtain ⟨n, hn⟩ : ∃ n, l.b.length = n := ⟨_, rfl⟩
  have hn4 : (n : Int) ≤ 40 := by have := h40.b; omega
  have hn0 : (0 : Int) ≤ (n : Int) := by omega
  obtain ⟨c, hc, hcm, hcw⟩ := rem_facts va.b n (by omega)
  obtain ⟨d, hd, hdm, hdw⟩ := rem_facts vb.b n (by omega)
  have hnw : IntKind.i64.wrap ((n : Int) + 1) = (n : Int) + 1 := by rw [IntKind.wrap_i64]; omega
  have hnu : IntKind.u64.wrap ((n : Int) + 1) = (n : Int) + 1 := by rw [IntKind.wrap_u64]; omega
  have hnz : ¬ ((n : Int) + 1 = 0) := by omega
  have hcap : n ≤ b2 := by
    obtain ⟨a', cap', hv, hc', -, -⟩ := hur.b
    injection hv with e1 e2 e3
    omega
  have hk1 := fun W => cut_h u2 n b2 c (by omega) W
  have hk2 := fun W => cut_h u2 n b2 d (by omega) W
  have hc0 : (0 : Int) ≤ (c : Int) := by omega
  have hd0 : (0 : Int) ≤ (d : Int) := by omega
  have hc1 : (c : Int) ≤ (b2 : Int) := by omega
  have hd1 : (d : Int) ≤ (b2 : Int) := by omega
  have hIL : ∀ (m : Nat), m ≤ n → ∀ W, IsL W (.slice u2 n b2) l.b → IsL W (.slice u2 m b2) (l.b.take m) := fun m hm W h => h.cut m hm b2 (by omega) (fun e => by
    obtain ⟨_, _, hv, _, hn', _⟩ := h
    injection hv with v1 v2 v3
    subst v1 v3
    exact hn' e)
  have hok : ∀ m, ∀ x ∈ l.b.take m, okS x = true := fun m x hx => hg.s x (.inr (.inl (List.mem_of_mem_take hx)))
  have hlt : ∀ m, (l.b.take m).length ≤ 40 := fun m => by rw [List.length_take]; have := h40.b; omega
  have gm : ∀ M : N4, Good ⟨l.a.take M.a, [], [], []⟩ := fun M => ⟨fun x hx => by
    have hp := (hg.pre M).s x
    simp only [List.not_mem_nil, or_false] at hx
    exact hp (.inl hx), (hg.pre M).a, by simp, by simp, by simp⟩
  have HR1 := Bx.mk (fun W (hs : SetAt W X ⟨l.a.take N.a, [], [], []⟩) (hv : IsL W (.slice u2 n b2) l.b) => by
    have h := revoke_any 1 (.slice u2 c b2) (l.b.take c) X ⟨l.a.take N.a, [], [], []⟩ W hs (gm N) (hIL c hc W hv) (by have := hlt c; omega)
    rw [rev_first1 (m := ⟨l.a.take N.a, [], [], []⟩) rfl (hok c) (nodup_take _ hnd.b) (by have := hlt c; omega)] at h
    exact h)
  have HR2 := Bx.mk (fun W (hs : SetAt W Y ⟨l.a.take K.a, [], [], []⟩) (hv : IsL W (.slice u2 n b2) l.b) => by
    have h := revoke_any 1 (.slice u2 d b2) (l.b.take d) Y ⟨l.a.take K.a, [], [], []⟩ W hs (gm K) (hIL d hd W hv) (by have := hlt d; omega)
    rw [rev_first1 (m := ⟨l.a.take K.a, [], [], []⟩) rfl (hok d) (nodup_take _ hnd.b) (by have := hlt d; omega)] at h
    exact h)
  rw [hn] at hxr hur
  have c6 : wr.cell? ⟨qq, 1, none⟩ = some (.slice u2 n b2) := by rw [cell_of_row _ _ _ _ _ _ hxr]; rfl
  have HU := Bx.mk hur.b
  have S0 := Bx.mk hD
  have HEnd := Bx.mk (show (⟨N.a, c, N.c, N.d⟩ : N4).Le l.len ∧ (⟨K.a, d, K.c, K.d⟩ : N4).Le l.len from ⟨⟨hN.a, by simpa [L4.len, hn] using hc, hN.c, hN.d⟩, ⟨hK.a, by simpa [L4.len, hn] using hd, hK.c, hK.d⟩⟩)
  clear hD hxr hur hc hd hcap hIL hok hlt gm hg hnd h40 hN hK hn
  obtain ⟨y, rfl, hy⟩ := open181 h.fr
  have e3 := (hy 3).symm.trans h.s3
  have e5 := (hy 5).symm.trans h.s5
  have e6 := (hy 6).symm.trans h.s6
  have e8 := (hy 8).symm.trans h.s8
  have e10 := (hy 10).symm.trans h.s10
  have e11 := (hy 11).symm.trans h.s11
  have e12 := (hy 12).symm.trans h.s12
  have e13 := (hy 13).symm.trans h.s13
  clear h hy
  rw [e3, e5, e6, e8, e10, e11, e12, e13]
  clear e3 e5 e6 e8 e10 e11 e12 e13
  conv => arg 2; whnf
  go_upto_region 7 with fail
  have S1 := Bx.mk (S0.out.later (Below.refl _ _).drew)
  have HU1 := Bx.mk (HU.out.later (Below.refl _ _).drew)
  clear S0 HU c6
  refine wp_region_noPanic ?_
  refine wp_region_held_drew (S := fun W => W.cell? ⟨E + 1, 1, none⟩ = some (.int .i64 va.b) ∧ W.cell? ⟨E + 2, 1, none⟩ = some (.int .i64 vb.b)) (by kernel_rfl) (⟨by rw [cell_of_row _ _ _ _ _ _ (S1.out.k.rows _ (.head _))]; rfl, by rw [cell_of_row _ _ _ _ _ _ (S1.out.k.rows _ (.tail _ (.head _)))]; rfl⟩) (fun hHeld => ?_)
  generalize wr.drew = W0 at *
  refine takeL 0 (v := ?_) rfl (by kernel_rfl) (by kernel_rfl) (by kernel_rfl) (fun _ _ _ h => h) (Or.inl ⟨by rfl, ?_⟩) hHeld ?_
  rotate_left 1
  · (intro w hSw; go_simp; try with_reducible rfl)
  try simp only [Act.put, List.setIfInBounds_toArray, List.set_cons_zero, List.set_cons_succ]
  refine takeL 1 (v := ?_) rfl (by kernel_rfl) (by kernel_rfl) (by kernel_rfl) (fun _ _ _ h => h) (Or.inl ⟨by rfl, ?_⟩) hHeld ?_
  rotate_left 1
  · (intro w hSw; go_simp; try with_reducible rfl)
  try simp only [Act.put, List.setIfInBounds_toArray, List.set_cons_zero, List.set_cons_succ]
  refine takeL 2 (v := ?_) rfl (by kernel_rfl) (by kernel_rfl) (by kernel_rfl) (fun _ _ _ h => h) (Or.inl ⟨by rfl, ?_⟩) hHeld ?_
  rotate_left 1
  · (intro w hSw; obtain ⟨q1, q2⟩ := hSw; go_simp; try with_reducible rfl)
  try simp only [Act.put, List.setIfInBounds_toArray, List.set_cons_zero, List.set_cons_succ]
  refine takeL 3 (v := ?_) rfl (by kernel_rfl) (by kernel_rfl) (by kernel_rfl) (fun _ _ _ h => h) (Or.inl ⟨by rfl, ?_⟩) hHeld ?_
  rotate_left 1
  · (intro w hSw; go_simp; try with_reducible rfl)
  try simp only [Act.put, List.setIfInBounds_toArray, List.set_cons_zero, List.set_cons_succ]
  refine takeL 4 (v := ?_) rfl (by kernel_rfl) (by kernel_rfl) (by kernel_rfl) (fun _ _ _ h => h) (Or.inl ⟨by rfl, ?_⟩) hHeld ?_
  rotate_left 1
  · (intro w hSw; go_simp; try with_reducible rfl)
  try simp only [Act.put, List.setIfInBounds_toArray, List.set_cons_zero, List.set_cons_succ]
  refine takeL 5 (v := ?_) rfl (by kernel_rfl) (by kernel_rfl) (by kernel_rfl) (fun _ _ _ h => h) (Or.inl ⟨by rfl, ?_⟩) hHeld ?_
  rotate_left 1
  · (intro w hSw; go_simp; try with_reducible rfl)
  try simp only [Act.put, List.setIfInBounds_toArray, List.set_cons_zero, List.set_cons_succ]
  refine takeL 6 (v := ?_) rfl (by kernel_rfl) (by kernel_rfl) (by kernel_rfl) (fun _ _ _ h => h) (Or.inl ⟨by rfl, ?_⟩) hHeld ?_
  rotate_left 1
  · (intro w hSw; go_simp; try with_reducible rfl)
  try simp only [Act.put, List.setIfInBounds_toArray, List.set_cons_zero, List.set_cons_succ]
  refine takeL 7 (v := ?_) rfl (by kernel_rfl) (by kernel_rfl) (by kernel_rfl) (fun _ _ _ h => h) (Or.inl ⟨by rfl, ?_⟩) hHeld ?_
  rotate_left 1
  · (intro w hSw; go_simp; try with_reducible rfl)
  try simp only [Act.put, List.setIfInBounds_toArray, List.set_cons_zero, List.set_cons_succ]
  refine takeL 8 (v := ?_) rfl (by kernel_rfl) (by kernel_rfl) (by kernel_rfl) (fun _ _ _ h => h) (Or.inl ⟨by rfl, ?_⟩) hHeld ?_
  rotate_left 1
  · (intro w hSw; go_simp; try with_reducible rfl)
  try simp only [Act.put, List.setIfInBounds_toArray, List.set_cons_zero, List.set_cons_succ]
  refine takeL 9 (v := ?_) rfl (by kernel_rfl) (by kernel_rfl) (by kernel_rfl) (fun _ _ _ h => h) (Or.inl ⟨by rfl, ?_⟩) hHeld ?_
  rotate_left 1
  · (intro w hSw; go_simp; try with_reducible rfl)
  try simp only [Act.put, List.setIfInBounds_toArray, List.set_cons_zero, List.set_cons_succ]
  refine takeL 10 (v := ?_) rfl (by kernel_rfl) (by kernel_rfl) (by kernel_rfl) (fun _ _ _ h => h) (Or.inl ⟨by rfl, ?_⟩) hHeld ?_
  rotate_left 1
  · (intro w hSw; go_simp; try with_reducible rfl)
  try simp only [Act.put, List.setIfInBounds_toArray, List.set_cons_zero, List.set_cons_succ]
  refine takeL 11 (v := ?_) rfl (by kernel_rfl) (by kernel_rfl) (by kernel_rfl) (fun _ _ _ h => h) (Or.inl ⟨by rfl, ?_⟩) hHeld ?_
  rotate_left 1
  · (intro w hSw; go_simp; try with_reducible rfl)
  try simp only [Act.put, List.setIfInBounds_toArray, List.set_cons_zero, List.set_cons_succ]
  refine takeL 12 (v := ?_) rfl (by kernel_rfl) (by kernel_rfl) (by kernel_rfl) (fun _ _ _ h => h) (Or.inl ⟨by rfl, ?_⟩) hHeld ?_
  rotate_left 1
  · (intro w hSw; obtain ⟨q1, q2⟩ := hSw; go_simp; try with_reducible rfl)
  try simp only [Act.put, List.setIfInBounds_toArray, List.set_cons_zero, List.set_cons_succ]
  refine takeL 13 (v := ?_) rfl (by kernel_rfl) (by kernel_rfl) (by kernel_rfl) (fun _ _ _ h => h) (Or.inl ⟨by rfl, ?_⟩) hHeld ?_
  rotate_left 1
  · (intro w hSw; go_simp; try with_reducible rfl)
  try simp only [Act.put, List.setIfInBounds_toArray, List.set_cons_zero, List.set_cons_succ]
  refine takeL 14 (v := ?_) rfl (by kernel_rfl) (by kernel_rfl) (by kernel_rfl) (fun _ _ _ h => h) (Or.inl ⟨by rfl, ?_⟩) hHeld ?_
  rotate_left 1
  · (intro w hSw; go_simp; try with_reducible rfl)
  try simp only [Act.put, List.setIfInBounds_toArray, List.set_cons_zero, List.set_cons_succ]
  refine takeL 15 (v := ?_) rfl (by kernel_rfl) (by kernel_rfl) (by kernel_rfl) (fun _ _ _ h => h) (Or.inl ⟨by rfl, ?_⟩) hHeld ?_
  rotate_left 1
  · (intro w hSw; go_simp; try with_reducible rfl)
  try simp only [Act.put, List.setIfInBounds_toArray, List.set_cons_zero, List.set_cons_succ]
  refine takeL 16 (v := ?_) rfl (by kernel_rfl) (by kernel_rfl) (by kernel_rfl) (fun _ _ _ h => h) (Or.inl ⟨by rfl, ?_⟩) hHeld ?_
  rotate_left 1
  · (intro w hSw; go_simp; try with_reducible rfl)
  try simp only [Act.put, List.setIfInBounds_toArray, List.set_cons_zero, List.set_cons_succ]
  refine takeL 17 (v := ?_) rfl (by kernel_rfl) (by kernel_rfl) (by kernel_rfl) (fun _ _ _ h => h) (Or.inl ⟨by rfl, ?_⟩) hHeld ?_
  rotate_left 1
  · (intro w hSw; go_simp; try with_reducible rfl)
  try simp only [Act.put, List.setIfInBounds_toArray, List.set_cons_zero, List.set_cons_succ]
  refine takeL 18 (v := ?_) rfl (by kernel_rfl) (by kernel_rfl) (by kernel_rfl) (fun _ _ _ h => h) (Or.inl ⟨by rfl, ?_⟩) hHeld ?_
  rotate_left 1
  · (intro w hSw; go_simp; try with_reducible rfl)
  try simp only [Act.put, List.setIfInBounds_toArray, List.set_cons_zero, List.set_cons_succ]
  refine takeL 19 (v := ?_) rfl (by kernel_rfl) (by kernel_rfl) (by kernel_rfl) (fun _ _ _ h => h) (Or.inl ⟨by rfl, ?_⟩) hHeld ?_
  rotate_left 1
  · (intro w hSw; go_simp; try with_reducible rfl)
  try simp only [Act.put, List.setIfInBounds_toArray, List.set_cons_zero, List.set_cons_succ]
  refine takeL 20 (v := ?_) rfl (by kernel_rfl) (by kernel_rfl) (by kernel_rfl) (fun _ _ _ h => h) (Or.inl ⟨by rfl, ?_⟩) hHeld ?_
  rotate_left 1
  · (intro w hSw; go_simp; try with_reducible rfl)
  try simp only [Act.put, List.setIfInBounds_toArray, List.set_cons_zero, List.set_cons_succ]
  refine takeL 21 (v := ?_) rfl (by kernel_rfl) (by kernel_rfl) (by kernel_rfl) (fun _ _ _ h => h) (Or.inl ⟨by rfl, ?_⟩) hHeld ?_
  rotate_left 1
  · (intro w hSw; go_simp; try with_reducible rfl)
  try simp only [Act.put, List.setIfInBounds_toArray, List.set_cons_zero, List.set_cons_succ]
  refine wpAnyH_done (by kernel_rfl) ?_ _
  refine NoPanic.normal ?_
  clear hHeld
  go_wp2_with fail
  refine (HR1.out W0 S1.out.x HU1.out).mono ?_
  rintro e w1 ⟨rfl, hs, hg⟩
  have S2 := Bx.mk (S1.out.onX hg hs)
  have HU2 := Bx.mk (HU1.out.beside S1.out.x hg)
  clear hs hg S1 HU1 HR1
  go_wp2_with fail
  refine (HR2.out w1 S2.out.y HU2.out).mono ?_
  rintro e w2 ⟨rfl, hs, hg⟩
  have S3 := Bx.mk (S2.out.onY hg hs)
  clear hs hg S2 HU2 HR2
  go_wp2
  exact ⟨⟨N.a, c, N.c, N.d⟩, ⟨K.a, d, K.c, K.d⟩, HEnd.out.1, HEnd.out.2, ⟨⟨rfl, rfl⟩, rfl, rfl, rfl, rfl, rfl, rfl, rfl, rfl⟩, S3.out⟩
set_option maxRecDepth 100000 in
set_option maxHeartbeats 16000000 in
theorem mround2 (w : World) (E X Y qq : Nat) (va vb : V4) (l : L4) (room : Int) (hg : Good l) (hnd : NoDup l) (h40 : Most l 40) (Q : Exit → Act → World → Prop) (a : Act) (wr : World) (hI : IM1 w E X Y qq va vb l room 2 a wr) :
    Code.wp Tryd.prog (loopAt Tryd.f6.body 0) (Exit.then (fun a' w' => IM1 w E X Y qq va vb l room 3 a' w') Q) a wr := by
  obtain ⟨N, K, hN, hK, h, hD⟩ := hI
  have hD : DM w E X Y qq va vb l ⟨l.a.take N.a, l.b.take N.b, [], []⟩ ⟨l.a.take K.a, l.b.take K.b, [], []⟩ wr := hD
  obtain ⟨xr, hxr, hur⟩ := id hD.r
  obtain ⟨u1, u2, u3, u4, b1, b2, b3, b4, rfl⟩ := hur.forms
  obtain ⟨n, hn⟩ : ∃ n, l.c.length = n := ⟨_, rfl⟩
  have hn4 : (n : Int) ≤ 40 := by have := h40.c; omega
  have hn0 : (0 : Int) ≤ (n : Int) := by omega
  obtain ⟨c, hc, hcm, hcw⟩ := rem_facts va.c n (by omega)
  obtain ⟨d, hd, hdm, hdw⟩ := rem_facts vb.c n (by omega)
  have hnw : IntKind.i64.wrap ((n : Int) + 1) = (n : Int) + 1 := by rw [IntKind.wrap_i64]; omega
  have hnu : IntKind.u64.wrap ((n : Int) + 1) = (n : Int) + 1 := by rw [IntKind.wrap_u64]; omega
  have hnz : ¬ ((n : Int) + 1 = 0) := by omega
  have hcap : n ≤ b3 := by
    obtain ⟨a', cap', hv, hc', -, -⟩ := hur.c
    injection hv with e1 e2 e3
    omega
  have hk1 := fun W => cut_h u3 n b3 c (by omega) W
  have hk2 := fun W => cut_h u3 n b3 d (by omega) W
  have hc0 : (0 : Int) ≤ (c : Int) := by omega
  have hd0 : (0 : Int) ≤ (d : Int) := by omega
  have hc1 : (c : Int) ≤ (b3 : Int) := by omega
  have hd1 : (d : Int) ≤ (b3 : Int) := by omega
  have hIL : ∀ (m : Nat), m ≤ n → ∀ W, IsL W (.slice u3 n b3) l.c → IsL W (.slice u3 m b3) (l.c.take m) := fun m hm W h => h.cut m hm b3 (by omega) (fun e => by
    obtain ⟨_, _, hv, _, hn', _⟩ := h
    injection hv with v1 v2 v3
    subst v1 v3
    exact hn' e)
  have hok : ∀ m, ∀ x ∈ l.c.take m, okS x = true := fun m x hx => hg.s x (.inr (.inr (.inl (List.mem_of_mem_take hx))))
  have hlt : ∀ m, (l.c.take m).length ≤ 40 := fun m => by rw [List.length_take]; have := h40.c; omega
  have gm : ∀ M : N4, Good ⟨l.a.take M.a, l.b.take M.b, [], []⟩ := fun M => ⟨fun x hx => by
    have hp := (hg.pre M).s x
    simp only [List.not_mem_nil, or_false] at hx
    exact hp (hx.elim .inl fun h => .inr (.inl h)), (hg.pre M).a, (hg.pre M).b, by simp, by simp⟩
  have HR1 := Bx.mk (fun W (hs : SetAt W X ⟨l.a.take N.a, l.b.take N.b, [], []⟩) (hv : IsL W (.slice u3 n b3) l.c) => by
    have h := revoke_any 2 (.slice u3 c b3) (l.c.take c) X ⟨l.a.take N.a, l.b.take N.b, [], []⟩ W hs (gm N) (hIL c hc W hv) (by have := hlt c; omega)
    rw [rev_first2 (m := ⟨l.a.take N.a, l.b.take N.b, [], []⟩) rfl (hok c) (nodup_take _ hnd.c) (by have := hlt c; omega)] at h
    exact h)
  have HR2 := Bx.mk (fun W (hs : SetAt W Y ⟨l.a.take K.a, l.b.take K.b, [], []⟩) (hv : IsL W (.slice u3 n b3) l.c) => by
    have h := revoke_any 2 (.slice u3 d b3) (l.c.take d) Y ⟨l.a.take K.a, l.b.take K.b, [], []⟩ W hs (gm K) (hIL d hd W hv) (by have := hlt d; omega)
    rw [rev_first2 (m := ⟨l.a.take K.a, l.b.take K.b, [], []⟩) rfl (hok d) (nodup_take _ hnd.c) (by have := hlt d; omega)] at h
    exact h)
  rw [hn] at hxr hur
  have c6 : wr.cell? ⟨qq, 2, none⟩ = some (.slice u3 n b3) := by rw [cell_of_row _ _ _ _ _ _ hxr]; rfl
  have HU := Bx.mk hur.c
  have S0 := Bx.mk hD
  have HEnd := Bx.mk (show (⟨N.a, N.b, c, N.d⟩ : N4).Le l.len ∧ (⟨K.a, K.b, d, K.d⟩ : N4).Le l.len from ⟨⟨hN.a, hN.b, by simpa [L4.len, hn] using hc, hN.d⟩, ⟨hK.a, hK.b, by simpa [L4.len, hn] using hd, hK.d⟩⟩)
  clear hD hxr hur hc hd hcap hIL hok hlt gm hg hnd h40 hN hK hn
  obtain ⟨y, rfl, hy⟩ := open181 h.fr
  have e3 := (hy 3).symm.trans h.s3
  have e5 := (hy 5).symm.trans h.s5
  have e6 := (hy 6).symm.trans h.s6
  have e8 := (hy 8).symm.trans h.s8
  have e10 := (hy 10).symm.trans h.s10
  have e11 := (hy 11).symm.trans h.s11
  have e12 := (hy 12).symm.trans h.s12
  have e13 := (hy 13).symm.trans h.s13
  clear h hy
  rw [e3, e5, e6, e8, e10, e11, e12, e13]
  clear e3 e5 e6 e8 e10 e11 e12 e13
  conv => arg 2; whnf
  go_upto_region 7 with fail
  have S1 := Bx.mk (S0.out.later (Below.refl _ _).drew)
  have HU1 := Bx.mk (HU.out.later (Below.refl _ _).drew)
  clear S0 HU c6
  refine wp_region_noPanic ?_
  refine wp_region_held_drew (S := fun W => W.cell? ⟨E + 1, 2, none⟩ = some (.int .i64 va.c) ∧ W.cell? ⟨E + 2, 2, none⟩ = some (.int .i64 vb.c)) (by kernel_rfl) (⟨by rw [cell_of_row _ _ _ _ _ _ (S1.out.k.rows _ (.head _))]; rfl, by rw [cell_of_row _ _ _ _ _ _ (S1.out.k.rows _ (.tail _ (.head _)))]; rfl⟩) (fun hHeld => ?_)
  generalize wr.drew = W0 at *
  refine takeL 0 (v := ?_) rfl (by kernel_rfl) (by kernel_rfl) (by kernel_rfl) (fun _ _ _ h => h) (Or.inl ⟨by rfl, ?_⟩) hHeld ?_
  rotate_left 1
  · (intro w hSw; go_simp; try with_reducible rfl)
  try simp only [Act.put, List.setIfInBounds_toArray, List.set_cons_zero, List.set_cons_succ]
  refine takeL 1 (v := ?_) rfl (by kernel_rfl) (by kernel_rfl) (by kernel_rfl) (fun _ _ _ h => h) (Or.inl ⟨by rfl, ?_⟩) hHeld ?_
  rotate_left 1
  · (intro w hSw; go_simp; try with_reducible rfl)
  try simp only [Act.put, List.setIfInBounds_toArray, List.set_cons_zero, List.set_cons_succ]
  refine takeL 2 (v := ?_) rfl (by kernel_rfl) (by kernel_rfl) (by kernel_rfl) (fun _ _ _ h => h) (Or.inl ⟨by rfl, ?_⟩) hHeld ?_
  rotate_left 1
  · (intro w hSw; obtain ⟨q1, q2⟩ := hSw; go_simp; try with_reducible rfl)
  try simp only [Act.put, List.setIfInBounds_toArray, List.set_cons_zero, List.set_cons_succ]
  refine takeL 3 (v := ?_) rfl (by kernel_rfl) (by kernel_rfl) (by kernel_rfl) (fun _ _ _ h => h) (Or.inl ⟨by rfl, ?_⟩) hHeld ?_
  rotate_left 1
  · (intro w hSw; go_simp; try with_reducible rfl)
  try simp only [Act.put, List.setIfInBounds_toArray, List.set_cons_zero, List.set_cons_succ]
  refine takeL 4 (v := ?_) rfl (by kernel_rfl) (by kernel_rfl) (by kernel_rfl) (fun _ _ _ h => h) (Or.inl ⟨by rfl, ?_⟩) hHeld ?_
  rotate_left 1
  · (intro w hSw; go_simp; try with_reducible rfl)
  try simp only [Act.put, List.setIfInBounds_toArray, List.set_cons_zero, List.set_cons_succ]
  refine takeL 5 (v := ?_) rfl (by kernel_rfl) (by kernel_rfl) (by kernel_rfl) (fun _ _ _ h => h) (Or.inl ⟨by rfl, ?_⟩) hHeld ?_
  rotate_left 1
  · (intro w hSw; go_simp; try with_reducible rfl)
  try simp only [Act.put, List.setIfInBounds_toArray, List.set_cons_zero, List.set_cons_succ]
  refine takeL 6 (v := ?_) rfl (by kernel_rfl) (by kernel_rfl) (by kernel_rfl) (fun _ _ _ h => h) (Or.inl ⟨by rfl, ?_⟩) hHeld ?_
  rotate_left 1
  · (intro w hSw; go_simp; try with_reducible rfl)
  try simp only [Act.put, List.setIfInBounds_toArray, List.set_cons_zero, List.set_cons_succ]
  refine takeL 7 (v := ?_) rfl (by kernel_rfl) (by kernel_rfl) (by kernel_rfl) (fun _ _ _ h => h) (Or.inl ⟨by rfl, ?_⟩) hHeld ?_
  rotate_left 1
  · (intro w hSw; go_simp; try with_reducible rfl)
  try simp only [Act.put, List.setIfInBounds_toArray, List.set_cons_zero, List.set_cons_succ]
  refine takeL 8 (v := ?_) rfl (by kernel_rfl) (by kernel_rfl) (by kernel_rfl) (fun _ _ _ h => h) (Or.inl ⟨by rfl, ?_⟩) hHeld ?_
  rotate_left 1
  · (intro w hSw; go_simp; try with_reducible rfl)
  try simp only [Act.put, List.setIfInBounds_toArray, List.set_cons_zero, List.set_cons_succ]
  refine takeL 9 (v := ?_) rfl (by kernel_rfl) (by kernel_rfl) (by kernel_rfl) (fun _ _ _ h => h) (Or.inl ⟨by rfl, ?_⟩) hHeld ?_
  rotate_left 1
  · (intro w hSw; go_simp; try with_reducible rfl)
  try simp only [Act.put, List.setIfInBounds_toArray, List.set_cons_zero, List.set_cons_succ]
  refine takeL 10 (v := ?_) rfl (by kernel_rfl) (by kernel_rfl) (by kernel_rfl) (fun _ _ _ h => h) (Or.inl ⟨by rfl, ?_⟩) hHeld ?_
  rotate_left 1
  · (intro w hSw; go_simp; try with_reducible rfl)
  try simp only [Act.put, List.setIfInBounds_toArray, List.set_cons_zero, List.set_cons_succ]
  refine takeL 11 (v := ?_) rfl (by kernel_rfl) (by kernel_rfl) (by kernel_rfl) (fun _ _ _ h => h) (Or.inl ⟨by rfl, ?_⟩) hHeld ?_
  rotate_left 1
  · (intro w hSw; go_simp; try with_reducible rfl)
  try simp only [Act.put, List.setIfInBounds_toArray, List.set_cons_zero, List.set_cons_succ]
  refine takeL 12 (v := ?_) rfl (by kernel_rfl) (by kernel_rfl) (by kernel_rfl) (fun _ _ _ h => h) (Or.inl ⟨by rfl, ?_⟩) hHeld ?_
  rotate_left 1
  · (intro w hSw; obtain ⟨q1, q2⟩ := hSw; go_simp; try with_reducible rfl)
  try simp only [Act.put, List.setIfInBounds_toArray, List.set_cons_zero, List.set_cons_succ]
  refine takeL 13 (v := ?_) rfl (by kernel_rfl) (by kernel_rfl) (by kernel_rfl) (fun _ _ _ h => h) (Or.inl ⟨by rfl, ?_⟩) hHeld ?_
  rotate_left 1
  · (intro w hSw; go_simp; try with_reducible rfl)
  try simp only [Act.put, List.setIfInBounds_toArray, List.set_cons_zero, List.set_cons_succ]
  refine takeL 14 (v := ?_) rfl (by kernel_rfl) (by kernel_rfl) (by kernel_rfl) (fun _ _ _ h => h) (Or.inl ⟨by rfl, ?_⟩) hHeld ?_
  rotate_left 1
  · (intro w hSw; go_simp; try with_reducible rfl)
  try simp only [Act.put, List.setIfInBounds_toArray, List.set_cons_zero, List.set_cons_succ]
  refine takeL 15 (v := ?_) rfl (by kernel_rfl) (by kernel_rfl) (by kernel_rfl) (fun _ _ _ h => h) (Or.inl ⟨by rfl, ?_⟩) hHeld ?_
  rotate_left 1
  · (intro w hSw; go_simp; try with_reducible rfl)
  try simp only [Act.put, List.setIfInBounds_toArray, List.set_cons_zero, List.set_cons_succ]
  refine takeL 16 (v := ?_) rfl (by kernel_rfl) (by kernel_rfl) (by kernel_rfl) (fun _ _ _ h => h) (Or.inl ⟨by rfl, ?_⟩) hHeld ?_
  rotate_left 1
  · (intro w hSw; go_simp; try with_reducible rfl)
  try simp only [Act.put, List.setIfInBounds_toArray, List.set_cons_zero, List.set_cons_succ]
  refine takeL 17 (v := ?_) rfl (by kernel_rfl) (by kernel_rfl) (by kernel_rfl) (fun _ _ _ h => h) (Or.inl ⟨by rfl, ?_⟩) hHeld ?_
  rotate_left 1
  · (intro w hSw; go_simp; try with_reducible rfl)
  try simp only [Act.put, List.setIfInBounds_toArray, List.set_cons_zero, List.set_cons_succ]
  refine takeL 18 (v := ?_) rfl (by kernel_rfl) (by kernel_rfl) (by kernel_rfl) (fun _ _ _ h => h) (Or.inl ⟨by rfl, ?_⟩) hHeld ?_
  rotate_left 1
  · (intro w hSw; go_simp; try with_reducible rfl)
  try simp only [Act.put, List.setIfInBounds_toArray, List.set_cons_zero, List.set_cons_succ]
  refine takeL 19 (v := ?_) rfl (by kernel_rfl) (by kernel_rfl) (by kernel_rfl) (fun _ _ _ h => h) (Or.inl ⟨by rfl, ?_⟩) hHeld ?_
  rotate_left 1
  · (intro w hSw; go_simp; try with_reducible rfl)
  try simp only [Act.put, List.setIfInBounds_toArray, List.set_cons_zero, List.set_cons_succ]
  refine takeL 20 (v := ?_) rfl (by kernel_rfl) (by kernel_rfl) (by kernel_rfl) (fun _ _ _ h => h) (Or.inl ⟨by rfl, ?_⟩) hHeld ?_
  rotate_left 1
  · (intro w hSw; go_simp; try with_reducible rfl)
  try simp only [Act.put, List.setIfInBounds_toArray, List.set_cons_zero, List.set_cons_succ]
  refine takeL 21 (v := ?_) rfl (by kernel_rfl) (by kernel_rfl) (by kernel_rfl) (fun _ _ _ h => h) (Or.inl ⟨by rfl, ?_⟩) hHeld ?_
  rotate_left 1
  · (intro w hSw; go_simp; try with_reducible rfl)
  try simp only [Act.put, List.setIfInBounds_toArray, List.set_cons_zero, List.set_cons_succ]
  refine wpAnyH_done (by kernel_rfl) ?_ _
  refine NoPanic.normal ?_
  clear hHeld
  go_wp2_with fail
  refine (HR1.out W0 S1.out.x HU1.out).mono ?_
  rintro e w1 ⟨rfl, hs, hg⟩
  have S2 := Bx.mk (S1.out.onX hg hs)
  have HU2 := Bx.mk (HU1.out.beside S1.out.x hg)
  clear hs hg S1 HU1 HR1
  go_wp2_with fail
  refine (HR2.out w1 S2.out.y HU2.out).mono ?_
  rintro e w2 ⟨rfl, hs, hg⟩
  have S3 := Bx.mk (S2.out.onY hg hs)
  clear hs hg S2 HU2 HR2
  go_wp2
  exact ⟨⟨N.a, N.b, c, N.d⟩, ⟨K.a, K.b, d, K.d⟩, HEnd.out.1, HEnd.out.2, ⟨⟨rfl, rfl⟩, rfl, rfl, rfl, rfl, rfl, rfl, rfl, rfl⟩, S3.out⟩
set_option maxRecDepth 100000 in
set_option maxHeartbeats 16000000 in
theorem mround3 (w : World) (E X Y qq : Nat) (va vb : V4) (l : L4) (room : Int) (hg : Good l) (hnd : NoDup l) (h40 : Most l 40) (Q : Exit → Act → World → Prop) (a : Act) (wr : World) (hI : IM1 w E X Y qq va vb l room 3 a wr) :
    Code.wp Tryd.prog (loopAt Tryd.f6.body 0) (Exit.then (fun a' w' => IM1 w E X Y qq va vb l room 4 a' w') Q) a wr := by
  obtain ⟨N, K, hN, hK, h, hD⟩ := hI
  have hD : DM w E X Y qq va vb l ⟨l.a.take N.a, l.b.take N.b, l.c.take N.c, []⟩ ⟨l.a.take K.a, l.b.take K.b, l.c.take K.c, []⟩ wr := hD
  obtain ⟨xr, hxr, hur⟩ := id hD.r
  obtain ⟨u1, u2, u3, u4, b1, b2, b3, b4, rfl⟩ := hur.forms
  obtain ⟨n, hn⟩ : ∃ n, l.d.length = n := ⟨_, rfl⟩
  have hn4 : (n : Int) ≤ 40 := by have := h40.d; omega
  have hn0 : (0 : Int) ≤ (n : Int) := by omega
  obtain ⟨c, hc, hcm, hcw⟩ := rem_facts va.d n (by omega)
  obtain ⟨d, hd, hdm, hdw⟩ := rem_facts vb.d n (by omega)
  have hnw : IntKind.i64.wrap ((n : Int) + 1) = (n : Int) + 1 := by rw [IntKind.wrap_i64]; omega
  have hnu : IntKind.u64.wrap ((n : Int) + 1) = (n : Int) + 1 := by rw [IntKind.wrap_u64]; omega
  have hnz : ¬ ((n : Int) + 1 = 0) := by omega
  have hcap : n ≤ b4 := by
    obtain ⟨a', cap', hv, hc', -, -⟩ := hur.d
    injection hv with e1 e2 e3
    omega
  have hk1 := fun W => cut_h u4 n b4 c (by omega) W
  have hk2 := fun W => cut_h u4 n b4 d (by omega) W
  have hc0 : (0 : Int) ≤ (c : Int) := by omega
  have hd0 : (0 : Int) ≤ (d : Int) := by omega
  have hc1 : (c : Int) ≤ (b4 : Int) := by omega
  have hd1 : (d : Int) ≤ (b4 : Int) := by omega
  have hIL : ∀ (m : Nat), m ≤ n → ∀ W, IsL W (.slice u4 n b4) l.d → IsL W (.slice u4 m b4) (l.d.take m) := fun m hm W h => h.cut m hm b4 (by omega) (fun e => by
    obtain ⟨_, _, hv, _, hn', _⟩ := h
    injection hv with v1 v2 v3
    subst v1 v3
    exact hn' e)
  have hok : ∀ m, ∀ x ∈ l.d.take m, okS x = true := fun m x hx => hg.s x (.inr (.inr (.inr (List.mem_of_mem_take hx))))
  have hlt : ∀ m, (l.d.take m).length ≤ 40 := fun m => by rw [List.length_take]; have := h40.d; omega
  have gm : ∀ M : N4, Good ⟨l.a.take M.a, l.b.take M.b, l.c.take M.c, []⟩ := fun M => ⟨fun x hx => by
    have hp := (hg.pre M).s x
    simp only [List.not_mem_nil, or_false] at hx
    exact hp (hx.elim .inl fun h => .inr (h.elim .inl fun h => .inr (.inl h))), (hg.pre M).a, (hg.pre M).b, (hg.pre M).c, by simp⟩
  have HR1 := Bx.mk (fun W (hs : SetAt W X ⟨l.a.take N.a, l.b.take N.b, l.c.take N.c, []⟩) (hv : IsL W (.slice u4 n b4) l.d) => by
    have h := revoke_any 3 (.slice u4 c b4) (l.d.take c) X ⟨l.a.take N.a, l.b.take N.b, l.c.take N.c, []⟩ W hs (gm N) (hIL c hc W hv) (by have := hlt c; omega)
    rw [rev_first3 (m := ⟨l.a.take N.a, l.b.take N.b, l.c.take N.c, []⟩) rfl (hok c) (nodup_take _ hnd.d) (by have := hlt c; omega)] at h
    exact h)
  have HR2 := Bx.mk (fun W (hs : SetAt W Y ⟨l.a.take K.a, l.b.take K.b, l.c.take K.c, []⟩) (hv : IsL W (.slice u4 n b4) l.d) => by
    have h := revoke_any 3 (.slice u4 d b4) (l.d.take d) Y ⟨l.a.take K.a, l.b.take K.b, l.c.take K.c, []⟩ W hs (gm K) (hIL d hd W hv) (by have := hlt d; omega)
    rw [rev_first3 (m := ⟨l.a.take K.a, l.b.take K.b, l.c.take K.c, []⟩) rfl (hok d) (nodup_take _ hnd.d) (by have := hlt d; omega)] at h
    exact h)
  rw [hn] at hxr hur
  have c6 : wr.cell? ⟨qq, 3, none⟩ = some (.slice u4 n b4) := by rw [cell_of_row _ _ _ _ _ _ hxr]; rfl
  have HU := Bx.mk hur.d
  have S0 := Bx.mk hD
  have HEnd := Bx.mk (show (⟨N.a, N.b, N.c, c⟩ : N4).Le l.len ∧ (⟨K.a, K.b, K.c, d⟩ : N4).Le l.len from ⟨⟨hN.a, hN.b, hN.c, by simpa [L4.len, hn] using hc⟩, ⟨hK.a, hK.b, hK.c, by simpa [L4.len, hn] using hd⟩⟩)
  clear hD hxr hur hc hd hcap hIL hok hlt gm hg hnd h40 hN hK hn
  obtain ⟨y, rfl, hy⟩ := open181 h.fr
  have e3 := (hy 3).symm.trans h.s3
  have e5 := (hy 5).symm.trans h.s5
  have e6 := (hy 6).symm.trans h.s6
  have e8 := (hy 8).symm.trans h.s8
  have e10 := (hy 10).symm.trans h.s10
  have e11 := (hy 11).symm.trans h.s11
  have e12 := (hy 12).symm.trans h.s12
  have e13 := (hy 13).symm.trans h.s13
  clear h hy
  rw [e3, e5, e6, e8, e10, e11, e12, e13]
  clear e3 e5 e6 e8 e10 e11 e12 e13
  conv => arg 2; whnf
  go_upto_region 7 with fail
  have S1 := Bx.mk (S0.out.later (Below.refl _ _).drew)
  have HU1 := Bx.mk (HU.out.later (Below.refl _ _).drew)
  clear S0 HU c6
  refine wp_region_noPanic ?_
  refine wp_region_held_drew (S := fun W => W.cell? ⟨E + 1, 3, none⟩ = some (.int .i64 va.d) ∧ W.cell? ⟨E + 2, 3, none⟩ = some (.int .i64 vb.d)) (by kernel_rfl) (⟨by rw [cell_of_row _ _ _ _ _ _ (S1.out.k.rows _ (.head _))]; rfl, by rw [cell_of_row _ _ _ _ _ _ (S1.out.k.rows _ (.tail _ (.head _)))]; rfl⟩) (fun hHeld => ?_)
  generalize wr.drew = W0 at *
  refine takeL 0 (v := ?_) rfl (by kernel_rfl) (by kernel_rfl) (by kernel_rfl) (fun _ _ _ h => h) (Or.inl ⟨by rfl, ?_⟩) hHeld ?_
  rotate_left 1
  · (intro w hSw; go_simp; try with_reducible rfl)
  try simp only [Act.put, List.setIfInBounds_toArray, List.set_cons_zero, List.set_cons_succ]
  refine takeL 1 (v := ?_) rfl (by kernel_rfl) (by kernel_rfl) (by kernel_rfl) (fun _ _ _ h => h) (Or.inl ⟨by rfl, ?_⟩) hHeld ?_
  rotate_left 1
  · (intro w hSw; go_simp; try with_reducible rfl)
  try simp only [Act.put, List.setIfInBounds_toArray, List.set_cons_zero, List.set_cons_succ]
  refine takeL 2 (v := ?_) rfl (by kernel_rfl) (by kernel_rfl) (by kernel_rfl) (fun _ _ _ h => h) (Or.inl ⟨by rfl, ?_⟩) hHeld ?_
  rotate_left 1
  · (intro w hSw; obtain ⟨q1, q2⟩ := hSw; go_simp; try with_reducible rfl)
  try simp only [Act.put, List.setIfInBounds_toArray, List.set_cons_zero, List.set_cons_succ]
  refine takeL 3 (v := ?_) rfl (by kernel_rfl) (by kernel_rfl) (by kernel_rfl) (fun _ _ _ h => h) (Or.inl ⟨by rfl, ?_⟩) hHeld ?_
  rotate_left 1
  · (intro w hSw; go_simp; try with_reducible rfl)
  try simp only [Act.put, List.setIfInBounds_toArray, List.set_cons_zero, List.set_cons_succ]
  refine takeL 4 (v := ?_) rfl (by kernel_rfl) (by kernel_rfl) (by kernel_rfl) (fun _ _ _ h => h) (Or.inl ⟨by rfl, ?_⟩) hHeld ?_
  rotate_left 1
  · (intro w hSw; go_simp; try with_reducible rfl)
  try simp only [Act.put, List.setIfInBounds_toArray, List.set_cons_zero, List.set_cons_succ]
  refine takeL 5 (v := ?_) rfl (by kernel_rfl) (by kernel_rfl) (by kernel_rfl) (fun _ _ _ h => h) (Or.inl ⟨by rfl, ?_⟩) hHeld ?_
  rotate_left 1
  · (intro w hSw; go_simp; try with_reducible rfl)
  try simp only [Act.put, List.setIfInBounds_toArray, List.set_cons_zero, List.set_cons_succ]
  refine takeL 6 (v := ?_) rfl (by kernel_rfl) (by kernel_rfl) (by kernel_rfl) (fun _ _ _ h => h) (Or.inl ⟨by rfl, ?_⟩) hHeld ?_
  rotate_left 1
  · (intro w hSw; go_simp; try with_reducible rfl)
  try simp only [Act.put, List.setIfInBounds_toArray, List.set_cons_zero, List.set_cons_succ]
  refine takeL 7 (v := ?_) rfl (by kernel_rfl) (by kernel_rfl) (by kernel_rfl) (fun _ _ _ h => h) (Or.inl ⟨by rfl, ?_⟩) hHeld ?_
  rotate_left 1
  · (intro w hSw; go_simp; try with_reducible rfl)
  try simp only [Act.put, List.setIfInBounds_toArray, List.set_cons_zero, List.set_cons_succ]
  refine takeL 8 (v := ?_) rfl (by kernel_rfl) (by kernel_rfl) (by kernel_rfl) (fun _ _ _ h => h) (Or.inl ⟨by rfl, ?_⟩) hHeld ?_
  rotate_left 1
  · (intro w hSw; go_simp; try with_reducible rfl)
  try simp only [Act.put, List.setIfInBounds_toArray, List.set_cons_zero, List.set_cons_succ]
  refine takeL 9 (v := ?_) rfl (by kernel_rfl) (by kernel_rfl) (by kernel_rfl) (fun _ _ _ h => h) (Or.inl ⟨by rfl, ?_⟩) hHeld ?_
  rotate_left 1
  · (intro w hSw; go_simp; try with_reducible rfl)
  try simp only [Act.put, List.setIfInBounds_toArray, List.set_cons_zero, List.set_cons_succ]
  refine takeL 10 (v := ?_) rfl (by kernel_rfl) (by kernel_rfl) (by kernel_rfl) (fun _ _ _ h => h) (Or.inl ⟨by rfl, ?_⟩) hHeld ?_
  rotate_left 1
  · (intro w hSw; go_simp; try with_reducible rfl)
  try simp only [Act.put, List.setIfInBounds_toArray, List.set_cons_zero, List.set_cons_succ]
  refine takeL 11 (v := ?_) rfl (by kernel_rfl) (by kernel_rfl) (by kernel_rfl) (fun _ _ _ h => h) (Or.inl ⟨by rfl, ?_⟩) hHeld ?_
  rotate_left 1
  · (intro w hSw; go_simp; try with_reducible rfl)
  try simp only [Act.put, List.setIfInBounds_toArray, List.set_cons_zero, List.set_cons_succ]
  refine takeL 12 (v := ?_) rfl (by kernel_rfl) (by kernel_rfl) (by kernel_rfl) (fun _ _ _ h => h) (Or.inl ⟨by rfl, ?_⟩) hHeld ?_
  rotate_left 1
  · (intro w hSw; obtain ⟨q1, q2⟩ := hSw; go_simp; try with_reducible rfl)
  try simp only [Act.put, List.setIfInBounds_toArray, List.set_cons_zero, List.set_cons_succ]
  refine takeL 13 (v := ?_) rfl (by kernel_rfl) (by kernel_rfl) (by kernel_rfl) (fun _ _ _ h => h) (Or.inl ⟨by rfl, ?_⟩) hHeld ?_
  rotate_left 1
  · (intro w hSw; go_simp; try with_reducible rfl)
  try simp only [Act.put, List.setIfInBounds_toArray, List.set_cons_zero, List.set_cons_succ]
  refine takeL 14 (v := ?_) rfl (by kernel_rfl) (by kernel_rfl) (by kernel_rfl) (fun _ _ _ h => h) (Or.inl ⟨by rfl, ?_⟩) hHeld ?_
  rotate_left 1
  · (intro w hSw; go_simp; try with_reducible rfl)
  try simp only [Act.put, List.setIfInBounds_toArray, List.set_cons_zero, List.set_cons_succ]
  refine takeL 15 (v := ?_) rfl (by kernel_rfl) (by kernel_rfl) (by kernel_rfl) (fun _ _ _ h => h) (Or.inl ⟨by rfl, ?_⟩) hHeld ?_
  rotate_left 1
  · (intro w hSw; go_simp; try with_reducible rfl)
  try simp only [Act.put, List.setIfInBounds_toArray, List.set_cons_zero, List.set_cons_succ]
  refine takeL 16 (v := ?_) rfl (by kernel_rfl) (by kernel_rfl) (by kernel_rfl) (fun _ _ _ h => h) (Or.inl ⟨by rfl, ?_⟩) hHeld ?_
  rotate_left 1
  · (intro w hSw; go_simp; try with_reducible rfl)
  try simp only [Act.put, List.setIfInBounds_toArray, List.set_cons_zero, List.set_cons_succ]
  refine takeL 17 (v := ?_) rfl (by kernel_rfl) (by kernel_rfl) (by kernel_rfl) (fun _ _ _ h => h) (Or.inl ⟨by rfl, ?_⟩) hHeld ?_
  rotate_left 1
  · (intro w hSw; go_simp; try with_reducible rfl)
  try simp only [Act.put, List.setIfInBounds_toArray, List.set_cons_zero, List.set_cons_succ]
  refine takeL 18 (v := ?_) rfl (by kernel_rfl) (by kernel_rfl) (by kernel_rfl) (fun _ _ _ h => h) (Or.inl ⟨by rfl, ?_⟩) hHeld ?_
  rotate_left 1
  · (intro w hSw; go_simp; try with_reducible rfl)
  try simp only [Act.put, List.setIfInBounds_toArray, List.set_cons_zero, List.set_cons_succ]
  refine takeL 19 (v := ?_) rfl (by kernel_rfl) (by kernel_rfl) (by kernel_rfl) (fun _ _ _ h => h) (Or.inl ⟨by rfl, ?_⟩) hHeld ?_
  rotate_left 1
  · (intro w hSw; go_simp; try with_reducible rfl)
  try simp only [Act.put, List.setIfInBounds_toArray, List.set_cons_zero, List.set_cons_succ]
  refine takeL 20 (v := ?_) rfl (by kernel_rfl) (by kernel_rfl) (by kernel_rfl) (fun _ _ _ h => h) (Or.inl ⟨by rfl, ?_⟩) hHeld ?_
  rotate_left 1
  · (intro w hSw; go_simp; try with_reducible rfl)
  try simp only [Act.put, List.setIfInBounds_toArray, List.set_cons_zero, List.set_cons_succ]
  refine takeL 21 (v := ?_) rfl (by kernel_rfl) (by kernel_rfl) (by kernel_rfl) (fun _ _ _ h => h) (Or.inl ⟨by rfl, ?_⟩) hHeld ?_
  rotate_left 1
  · (intro w hSw; go_simp; try with_reducible rfl)
  try simp only [Act.put, List.setIfInBounds_toArray, List.set_cons_zero, List.set_cons_succ]
  refine wpAnyH_done (by kernel_rfl) ?_ _
  refine NoPanic.normal ?_
  clear hHeld
  go_wp2_with fail
  refine (HR1.out W0 S1.out.x HU1.out).mono ?_
  rintro e w1 ⟨rfl, hs, hg⟩
  have S2 := Bx.mk (S1.out.onX hg hs)
  have HU2 := Bx.mk (HU1.out.beside S1.out.x hg)
  clear hs hg S1 HU1 HR1
  go_wp2_with fail
  refine (HR2.out w1 S2.out.y HU2.out).mono ?_
  rintro e w2 ⟨rfl, hs, hg⟩
  have S3 := Bx.mk (S2.out.onY hg hs)
  clear hs hg S2 HU2 HR2
  go_wp2
  exact ⟨⟨N.a, N.b, N.c, c⟩, ⟨K.a, K.b, K.c, d⟩, HEnd.out.1, HEnd.out.2, ⟨⟨rfl, rfl⟩, rfl, rfl, rfl, rfl, rfl, rfl, rfl, rfl⟩, S3.out⟩
end Go.Proofs.YtnfgamekjbkbkaaDoor
