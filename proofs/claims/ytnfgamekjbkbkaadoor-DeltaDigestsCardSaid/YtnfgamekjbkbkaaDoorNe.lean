/-
  DeltaDigests: what is reckoned; the law's ends.
-/
import Derived.Test.YtnfgamekjbkbkaaDoorD10
import Derived.Test.YtnfgamekjbkbkaaDoorD4
namespace Go.Proofs.YtnfgamekjbkbkaaDoor
open Go Go.RowKit
/-- The code behind a region. -/
def restOf (n : Nat) : Code → Code
  | .seq a b => if (regAt n a).isSome then b else restOf n b
  | c => c
def restAt (c : Option Code) (n : Nat) : Code := restOf n (c.getD .skip)
theorem stepR_stuck9 (p : List UInt8 × Int) (s : Int) (h : p.2 ≠ 0) : stepR p s = p := stepR_bad p.1 p.2 s h
theorem fold_stuck9 (ss : List Int) (p : List UInt8 × Int) (h : p.2 ≠ 0) : ss.foldl stepR p = p := by
  induction ss generalizing p with
  | nil => rfl
  | cons s ss ih => rw [List.foldl_cons, stepR_stuck9 p s h]; exact ih p h
set_option maxRecDepth 100000 in
theorem open200 {a : Act} (h : Fr 200 a) : ∃ x : Nat → Value, a = ⟨List.toArray (x 0 :: x 1 :: x 2 :: x 3 :: x 4 :: x 5 :: x 6 :: x 7 :: x 8 :: x 9 :: x 10 :: x 11 :: x 12 :: x 13 :: x 14 :: x 15 :: x 16 :: x 17 :: x 18 :: x 19 :: x 20 :: x 21 :: x 22 :: x 23 :: x 24 :: x 25 :: x 26 :: x 27 :: x 28 :: x 29 :: x 30 :: x 31 :: x 32 :: x 33 :: x 34 :: x 35 :: x 36 :: x 37 :: x 38 :: x 39 :: x 40 :: x 41 :: x 42 :: x 43 :: x 44 :: x 45 :: x 46 :: x 47 :: x 48 :: x 49 :: x 50 :: x 51 :: x 52 :: x 53 :: x 54 :: x 55 :: x 56 :: x 57 :: x 58 :: x 59 :: x 60 :: x 61 :: x 62 :: x 63 :: x 64 :: x 65 :: x 66 :: x 67 :: x 68 :: x 69 :: x 70 :: x 71 :: x 72 :: x 73 :: x 74 :: x 75 :: x 76 :: x 77 :: x 78 :: x 79 :: x 80 :: x 81 :: x 82 :: x 83 :: x 84 :: x 85 :: x 86 :: x 87 :: x 88 :: x 89 :: x 90 :: x 91 :: x 92 :: x 93 :: x 94 :: x 95 :: x 96 :: x 97 :: x 98 :: x 99 :: x 100 :: x 101 :: x 102 :: x 103 :: x 104 :: x 105 :: x 106 :: x 107 :: x 108 :: x 109 :: x 110 :: x 111 :: x 112 :: x 113 :: x 114 :: x 115 :: x 116 :: x 117 :: x 118 :: x 119 :: x 120 :: x 121 :: x 122 :: x 123 :: x 124 :: x 125 :: x 126 :: x 127 :: x 128 :: x 129 :: x 130 :: x 131 :: x 132 :: x 133 :: x 134 :: x 135 :: x 136 :: x 137 :: x 138 :: x 139 :: x 140 :: x 141 :: x 142 :: x 143 :: x 144 :: x 145 :: x 146 :: x 147 :: x 148 :: x 149 :: x 150 :: x 151 :: x 152 :: x 153 :: x 154 :: x 155 :: x 156 :: x 157 :: x 158 :: x 159 :: x 160 :: x 161 :: x 162 :: x 163 :: x 164 :: x 165 :: x 166 :: x 167 :: x 168 :: x 169 :: x 170 :: x 171 :: x 172 :: x 173 :: x 174 :: x 175 :: x 176 :: x 177 :: x 178 :: x 179 :: x 180 :: x 181 :: x 182 :: x 183 :: x 184 :: x 185 :: x 186 :: x 187 :: x 188 :: x 189 :: x 190 :: x 191 :: x 192 :: x 193 :: x 194 :: x 195 :: x 196 :: x 197 :: x 198 :: x 199 :: []), []⟩ ∧ ∀ i, a.eval (.tmp i) = x i := ⟨fun i => a.tmps.getD i undef, h.form, fun _ => rfl⟩
/-- The frame behind what is read of any bytes. -/
structure PE (v2 v16 v17 : Value) (a : Act) : Prop where
  fr : Fr 200 a
  s2 : a.eval (.tmp 2) = v2
  s16 : a.eval (.tmp 16) = v16
  s17 : a.eval (.tmp 17) = v17
set_option maxRecDepth 100000 in
set_option maxHeartbeats 16000000 in
theorem endS (w : World) (E Y n3 c3 : Nat) (a3 : Option Addr) (h3 : n3 < 16) (HKn : Bx (∀ W, Below E w W → Calls Tryd.prog 33 #[] W fun e w' => e = .returned (.bool true) ∧ Below W.heap.size W w')) (a : Act) (W : World)
    (h : PE (.slice a3 n3 c3) (.pointer (some ⟨Y, 0, none⟩)) (.int .i64 4) a) (K0 : Bx (KR w E [(Y, .cells #[.int .i64 0, .int .i64 0, .int .i64 0, .int .i64 0, .int .u8 0, .int .u8 0, .int .u8 0, .int .u8 0, .int .u8 0, .int .u8 0, .int .u8 0, .int .u8 0] 62)] W)) :
    Code.wp Tryd.prog (restAt Tryd.f4.body 15) (bodyPost Tryd.prog Tryd.f4 fun e w' => e = .returned (.bool true) ∧ Below E w w') a W := by
  have hz := dg_eql V4.zero V4.zero B8.zero B8.zero
  rw [eqD_self] at hz
  have hz : ∀ W : World, (binOp .eql 62 (.agg #[.int .i64 0, .int .i64 0, .int .i64 0, .int .i64 0, .int .u8 0, .int .u8 0, .int .u8 0, .int .u8 0, .int .u8 0, .int .u8 0, .int .u8 0, .int .u8 0]) (.agg #[.int .i64 0, .int .i64 0, .int .i64 0, .int .i64 0, .int .u8 0, .int .u8 0, .int .u8 0, .int .u8 0, .int .u8 0, .int .u8 0, .int .u8 0, .int .u8 0])).run Tryd.prog W = .ok (.bool true) W := hz
  have hb0 : ∀ W : World, (Instr.build 62 #[]).run Tryd.prog W = .ok (.agg #[.int .i64 0, .int .i64 0, .int .i64 0, .int .i64 0, .int .u8 0, .int .u8 0, .int .u8 0, .int .u8 0, .int .u8 0, .int .u8 0, .int .u8 0, .int .u8 0]) W := fun W => by kernel_rfl
  have h3i : (n3 : Int) < 16 := by omega
  obtain ⟨y, rfl, hy⟩ := open200 h.fr
  have e2 := (hy 2).symm.trans h.s2
  have e16 := (hy 16).symm.trans h.s16
  have e17 := (hy 17).symm.trans h.s17
  clear h hy
  rw [e2, e16, e17]
  clear e2 e16 e17
  conv => arg 2; whnf
  go_wp2_with fail
  refine (HKn.out W K0.out.below).mono ?_
  rintro e w1 ⟨rfl, hb⟩
  have K1 := Bx.mk (K0.out.later hb)
  clear hb K0
  go_wp2_with (refine wpList_load_rowg (by rfl) 62 _ rfl Y (by rfl) _ #[.int .i64 0, .int .i64 0, .int .i64 0, .int .i64 0, .int .u8 0, .int .u8 0, .int .u8 0, .int .u8 0, .int .u8 0, .int .u8 0, .int .u8 0, .int .u8 0] (0, 0) _ (K1.out.rows _ (.head _)) Tryd.underlying62 rfl (by kernel_rfl) ?_)
  go_ret
  exact ⟨rfl, K1.out.below⟩
theorem step_cellI9 {ops : Array Oper} {o : Oper} {a : Act} {w : World} {K : Act → World → Prop} {Q : Exit → Act → World → Prop} {F : Prop} (hgd : o.guard = none) (x y : Operand) (ho : o.op = .store 3 x y)
    (b i : Nat) (n : Int) (cs ds : Array Value) (t : TypeId) (hx : a.eval x = .pointer (some ⟨b, i, none⟩)) (hy : a.eval y = .int .i64 n) (hrow : w.heap[b]? = some (.cells cs t (0, 0))) (hi : i < cs.size) (hd : cs.setIfInBounds i (.int .i64 n) = ds)
    (h : ∀ w', w.grownBy w' (some b) → w'.heap[b]? = some (.cells ds t (0, 0)) → K (a.put o.dst undef) w') : if Region.wanted o (yielded ops a.tmps) = true then Oper.wp Tryd.prog o a w K Q else F := by
  have hw : Region.wanted o (yielded ops a.tmps) = true := by simp [Region.wanted, hgd]
  rw [if_pos hw]
  have hrun := run_cellI w b i n cs[i] (by rw [cell_of_row _ _ _ _ _ _ hrow]; exact Array.getElem?_eq_getElem hi) (frozen_of_row _ _ _ _ _ hrow)
  unfold Oper.wp execOp
  simp only [ho, hx, hy, hrun, Sem.run_bind, Sem.run_pure, Result.andThen_ok]
  exact h _ (kb_set1 _ _ _ _) (by rw [← hd]; exact heap_setCell_same _ _ _ _ _ _ hrow)
set_option maxRecDepth 100000 in
set_option maxHeartbeats 16000000 in
theorem endL (w : World) (E Y n3 c3 c o : Nat) (g0 g1 g2 g3 g4 g5 g6 g7 : Int) (p : B8) (hn3 : 16 ≤ n3) (hg : (0 ≤ g0 ∧ g0 ≤ 255) ∧ (0 ≤ g1 ∧ g1 ≤ 255) ∧ (0 ≤ g2 ∧ g2 ≤ 255) ∧ (0 ≤ g3 ∧ g3 ≤ 255) ∧ (0 ≤ g4 ∧ g4 ≤ 255) ∧ (0 ≤ g5 ∧ g5 ≤ 255) ∧ (0 ≤ g6 ∧ g6 ≤ 255) ∧ (0 ≤ g7 ∧ g7 ≤ 255)) (HC : Bx (∀ W, Below E w W → W.cell? ⟨c, o, none⟩ = some (.int .u8 g0) ∧ W.cell? ⟨c, o + 1, none⟩ = some (.int .u8 g1) ∧ W.cell? ⟨c, o + 2, none⟩ = some (.int .u8 g2) ∧ W.cell? ⟨c, o + 3, none⟩ = some (.int .u8 g3) ∧ W.cell? ⟨c, o + 4, none⟩ = some (.int .u8 g4) ∧ W.cell? ⟨c, o + 5, none⟩ = some (.int .u8 g5) ∧ W.cell? ⟨c, o + 6, none⟩ = some (.int .u8 g6) ∧ W.cell? ⟨c, o + 7, none⟩ = some (.int .u8 g7) ∧ W.cell? ⟨c, o + 8, none⟩ = some (.int .u8 (ub p.a)) ∧ W.cell? ⟨c, o + 9, none⟩ = some (.int .u8 (ub p.b)) ∧ W.cell? ⟨c, o + 10, none⟩ = some (.int .u8 (ub p.c)) ∧ W.cell? ⟨c, o + 11, none⟩ = some (.int .u8 (ub p.d)) ∧ W.cell? ⟨c, o + 12, none⟩ = some (.int .u8 (ub p.e)) ∧ W.cell? ⟨c, o + 13, none⟩ = some (.int .u8 (ub p.f)) ∧ W.cell? ⟨c, o + 14, none⟩ = some (.int .u8 (ub p.g)) ∧ W.cell? ⟨c, o + 15, none⟩ = some (.int .u8 (ub p.h))))
    (HKn : Bx (∀ W, Below E w W → Calls Tryd.prog 33 #[] W fun e w' => e = .returned (.bool true) ∧ Below W.heap.size W w')) (yc : Array Value) (f : Int) (hyc : (if okV ⟨256 * g0 + g1, 256 * g2 + g3, 256 * g4 + g5, 256 * g6 + g7⟩ = true then dgC ⟨256 * g0 + g1, 256 * g2 + g3, 256 * g4 + g5, 256 * g6 + g7⟩ p else dgC V4.zero B8.zero) = yc) (hf : (if okV ⟨256 * g0 + g1, 256 * g2 + g3, 256 * g4 + g5, 256 * g6 + g7⟩ = true then 0 else 3 : Int) = f) (a : Act) (W : World)
    (h : PE (.slice (some ⟨c, o, none⟩) n3 c3) (.pointer (some ⟨Y, 0, none⟩)) (.int .i64 f) a) (K0 : Bx (KR w E [(Y, .cells yc 62)] W)) :
    Code.wp Tryd.prog (restAt Tryd.f4.body 15) (bodyPost Tryd.prog Tryd.f4 fun e w' => e = .returned (.bool true) ∧ Below E w w') a W := by
  have h3i : (16 : Int) ≤ (n3 : Int) := by omega
  obtain ⟨⟨l0, h0⟩, ⟨l1, h1⟩, ⟨l2, h2⟩, ⟨l3, h3⟩, ⟨l4, h4⟩, ⟨l5, h5⟩, ⟨l6, h6⟩, ⟨l7, h7⟩⟩ := hg
  have HRr := Bx.mk (rright9 ⟨256 * g0 + g1, 256 * g2 + g3, 256 * g4 + g5, 256 * g6 + g7⟩)
  simp only at HRr
  have HYC := Bx.mk hyc
  have HFF := Bx.mk hf
  clear hyc hf
  obtain ⟨y, rfl, hy⟩ := open200 h.fr
  have e2 := (hy 2).symm.trans h.s2
  have e16 := (hy 16).symm.trans h.s16
  have e17 := (hy 17).symm.trans h.s17
  clear h hy
  rw [e2, e16, e17]
  clear e2 e16 e17
  conv => arg 2; whnf
  obtain ⟨D, hD⟩ : ∃ D, W.heap.size = D := ⟨_, rfl⟩
  have HYD : Bx (Y < D) := ⟨by rw [← hD]; exact K0.out.lt (.head _)⟩
  have HED : Bx (E ≤ D) := ⟨by rw [← hD]; exact K0.out.le⟩
  go_upto_region 19 with (refine wpList_store_v9 rfl 50 _ _ rfl W D hD #[.int .i64 0, .int .i64 0, .int .i64 0, .int .i64 0, .int .u8 0, .int .u8 0, .int .u8 0, .int .u8 0, .int .u8 0, .int .u8 0, .int .u8 0, .int .u8 0] 50 rfl (by rfl) #[.int .i64 0, .int .i64 0, .int .i64 0, .int .i64 0, .int .u8 0, .int .u8 0, .int .u8 0, .int .u8 0, .int .u8 0, .int .u8 0, .int .u8 0, .int .u8 0] (by rfl) rfl (by kernel_rfl) (by simp [Value.oneCell']) ?_; intro x0 hb hr _; have R0 := Bx.mk (K0.out.var9 hD hb hr); clear hb hr K0)
  clear hD
  go_wp2
  refine wp_loop_rounds 5 ?_
  have v0 : IntKind.i64.wrap 0 = 0 := by decide
  have v1 : IntKind.i64.wrap 1 = 1 := by decide
  have v2 : IntKind.i64.wrap g0 = g0 := IntWalk.i64_in _ (by omega)
  have v3 : IntKind.i64.wrap g1 = g1 := IntWalk.i64_in _ (by omega)
  have v4 : IntKind.i64.wrap (256 * g0) = 256 * g0 := IntWalk.i64_in _ (by omega)
  have v5 : IntKind.i64.wrap (256 * g0 + g1) = 256 * g0 + g1 := IntWalk.i64_in _ (by omega)
  have b0 : (0 : Int) < (n3 : Int) := by omega
  have b1 : (1 : Int) < (n3 : Int) := by omega
  have b2 : 0 < n3 := by omega
  have b3 : 1 < n3 := by omega
  rw [rounds_succ]
  go_upto_region 22 with fail
  have Z0 := Bx.mk R0.out.drew
  clear R0
  refine wp_region_noPanic ?_
  refine wp_region_held_drew (S := fun W => W.cell? ⟨c, o, none⟩ = some (.int .u8 g0) ∧ W.cell? ⟨c, o + 1, none⟩ = some (.int .u8 g1)) (by kernel_rfl) (⟨(HC.out _ Z0.out.below).1, (HC.out _ Z0.out.below).2.1⟩) (fun hHeld => ?_)
  generalize x0.drew = z0 at *
  refine takeL 0 (v := ?_) rfl (by kernel_rfl) (by kernel_rfl) (by kernel_rfl) (fun _ _ _ h => h) (Or.inl ⟨by rfl, ?_⟩) hHeld ?_
  rotate_left 1
  · (intro w hSw; go_simp; try with_reducible rfl)
  try simp only [Act.put, List.setIfInBounds_toArray, List.set_cons_zero, List.set_cons_succ]
  refine takeL 1 (v := ?_) rfl (by kernel_rfl) (by kernel_rfl) (by kernel_rfl) (fun _ _ _ h => h) (Or.inl ⟨by rfl, ?_⟩) hHeld ?_
  rotate_left 1
  · (intro w hSw; go_simp; try with_reducible rfl)
  try simp only [Act.put, List.setIfInBounds_toArray, List.set_cons_zero, List.set_cons_succ]
  refine takeL 2 (v := ?_) rfl (by kernel_rfl) (by kernel_rfl) (by kernel_rfl) (fun _ _ _ h => h) (Or.inl ⟨by rfl, ?_⟩) hHeld ?_
  rotate_left 1
  · (intro w hSw; go_simp; try with_reducible rfl)
  try simp only [Act.put, List.setIfInBounds_toArray, List.set_cons_zero, List.set_cons_succ]
  refine takeL 3 (v := ?_) rfl (by kernel_rfl) (by kernel_rfl) (by kernel_rfl) (fun _ _ _ h => h) (Or.inl ⟨by rfl, ?_⟩) hHeld ?_
  rotate_left 1
  · (intro w hSw; go_simp; try with_reducible rfl)
  try simp only [Act.put, List.setIfInBounds_toArray, List.set_cons_zero, List.set_cons_succ]
  refine takeL 4 (v := ?_) rfl (by kernel_rfl) (by kernel_rfl) (by kernel_rfl) (fun _ _ _ h => h) (Or.inl ⟨by rfl, ?_⟩) hHeld ?_
  rotate_left 1
  · (intro w hSw; go_simp; try with_reducible rfl)
  try simp only [Act.put, List.setIfInBounds_toArray, List.set_cons_zero, List.set_cons_succ]
  refine takeL 5 (v := ?_) rfl (by kernel_rfl) (by kernel_rfl) (by kernel_rfl) (fun _ _ _ h => h) (Or.inl ⟨by rfl, ?_⟩) hHeld ?_
  rotate_left 1
  · (intro w hSw; obtain ⟨q1, q2⟩ := hSw; go_simp; try with_reducible rfl)
  try simp only [Act.put, List.setIfInBounds_toArray, List.set_cons_zero, List.set_cons_succ]
  refine takeL 6 (v := ?_) rfl (by kernel_rfl) (by kernel_rfl) (by kernel_rfl) (fun _ _ _ h => h) (Or.inl ⟨by rfl, ?_⟩) hHeld ?_
  rotate_left 1
  · (intro w hSw; go_simp; try with_reducible rfl)
  try simp only [Act.put, List.setIfInBounds_toArray, List.set_cons_zero, List.set_cons_succ]
  refine takeL 7 (v := ?_) rfl (by kernel_rfl) (by kernel_rfl) (by kernel_rfl) (fun _ _ _ h => h) (Or.inl ⟨by rfl, ?_⟩) hHeld ?_
  rotate_left 1
  · (intro w hSw; go_simp; try with_reducible rfl)
  try simp only [Act.put, List.setIfInBounds_toArray, List.set_cons_zero, List.set_cons_succ]
  refine takeL 8 (v := ?_) rfl (by kernel_rfl) (by kernel_rfl) (by kernel_rfl) (fun _ _ _ h => h) (Or.inl ⟨by rfl, ?_⟩) hHeld ?_
  rotate_left 1
  · (intro w hSw; go_simp; try with_reducible rfl)
  try simp only [Act.put, List.setIfInBounds_toArray, List.set_cons_zero, List.set_cons_succ]
  refine takeL 9 (v := ?_) rfl (by kernel_rfl) (by kernel_rfl) (by kernel_rfl) (fun _ _ _ h => h) (Or.inl ⟨by rfl, ?_⟩) hHeld ?_
  rotate_left 1
  · (intro w hSw; go_simp; try with_reducible rfl)
  try simp only [Act.put, List.setIfInBounds_toArray, List.set_cons_zero, List.set_cons_succ]
  refine takeL 10 (v := ?_) rfl (by kernel_rfl) (by kernel_rfl) (by kernel_rfl) (fun _ _ _ h => h) (Or.inl ⟨by rfl, ?_⟩) hHeld ?_
  rotate_left 1
  · (intro w hSw; go_simp; try with_reducible rfl)
  try simp only [Act.put, List.setIfInBounds_toArray, List.set_cons_zero, List.set_cons_succ]
  refine takeL 11 (v := ?_) rfl (by kernel_rfl) (by kernel_rfl) (by kernel_rfl) (fun _ _ _ h => h) (Or.inl ⟨by rfl, ?_⟩) hHeld ?_
  rotate_left 1
  · (intro w hSw; go_simp; try with_reducible rfl)
  try simp only [Act.put, List.setIfInBounds_toArray, List.set_cons_zero, List.set_cons_succ]
  refine takeL 12 (v := ?_) rfl (by kernel_rfl) (by kernel_rfl) (by kernel_rfl) (fun _ _ _ h => h) (Or.inl ⟨by rfl, ?_⟩) hHeld ?_
  rotate_left 1
  · (intro w hSw; go_simp; try with_reducible rfl)
  try simp only [Act.put, List.setIfInBounds_toArray, List.set_cons_zero, List.set_cons_succ]
  refine takeL 13 (v := ?_) rfl (by kernel_rfl) (by kernel_rfl) (by kernel_rfl) (fun _ _ _ h => h) (Or.inl ⟨by rfl, ?_⟩) hHeld ?_
  rotate_left 1
  · (intro w hSw; obtain ⟨q1, q2⟩ := hSw; go_simp; try with_reducible rfl)
  try simp only [Act.put, List.setIfInBounds_toArray, List.set_cons_zero, List.set_cons_succ]
  refine takeL 14 (v := ?_) rfl (by kernel_rfl) (by kernel_rfl) (by kernel_rfl) (fun _ _ _ h => h) (Or.inl ⟨by rfl, ?_⟩) hHeld ?_
  rotate_left 1
  · (intro w hSw; go_simp; try with_reducible rfl)
  try simp only [Act.put, List.setIfInBounds_toArray, List.set_cons_zero, List.set_cons_succ]
  refine takeL 15 (v := ?_) rfl (by kernel_rfl) (by kernel_rfl) (by kernel_rfl) (fun _ _ _ h => h) (Or.inl ⟨by rfl, ?_⟩) hHeld ?_
  rotate_left 1
  · (intro w hSw; go_simp; try with_reducible rfl)
  try simp only [Act.put, List.setIfInBounds_toArray, List.set_cons_zero, List.set_cons_succ]
  refine takeL 16 (v := ?_) rfl (by kernel_rfl) (by kernel_rfl) (by kernel_rfl) (fun _ _ _ h => h) (Or.inl ⟨by rfl, ?_⟩) hHeld ?_
  rotate_left 1
  · (intro w hSw; go_simp; try with_reducible rfl)
  try simp only [Act.put, List.setIfInBounds_toArray, List.set_cons_zero, List.set_cons_succ]
  refine takeL 17 (v := ?_) rfl (by kernel_rfl) (by kernel_rfl) (by kernel_rfl) (fun _ _ _ h => h) (Or.inl ⟨by rfl, ?_⟩) hHeld ?_
  rotate_left 1
  · (intro w hSw; go_simp; try with_reducible rfl)
  try simp only [Act.put, List.setIfInBounds_toArray, List.set_cons_zero, List.set_cons_succ]
  refine stepL 18 (by kernel_rfl) rfl (fun K hK => ?_)
  refine step_cellI9 rfl _ _ rfl D 0 (256 * g0 + g1) #[.int .i64 0, .int .i64 0, .int .i64 0, .int .i64 0, .int .u8 0, .int .u8 0, .int .u8 0, .int .u8 0, .int .u8 0, .int .u8 0, .int .u8 0, .int .u8 0] #[.int .i64 (256 * g0 + g1), .int .i64 0, .int .i64 0, .int .i64 0, .int .u8 0, .int .u8 0, .int .u8 0, .int .u8 0, .int .u8 0, .int .u8 0, .int .u8 0, .int .u8 0] 50 (by rfl) (by rfl) (Z0.out.rows _ (.head _)) (by simp) rfl ?_
  intro x1 hg hr
  have R1 := Bx.mk (Z0.out.set hg hr (by have := HED.out; omega) (by intro y hy; have := HYD.out; simp at hy; subst hy; simp only; omega))
  clear hg hr Z0
  refine hK.out _ _ (⟨(HC.out _ R1.out.below).1, (HC.out _ R1.out.below).2.1⟩) (fun hHeld => ?_)
  clear hK K
  try simp only [Act.put]
  refine wpAnyH_done (by kernel_rfl) ?_ _
  refine NoPanic.normal ?_
  clear hHeld v0 v1 v2 v3 v4 v5 b0 b1 b2 b3
  go_wp2
  have v0 : IntKind.i64.wrap 2 = 2 := by decide
  have v1 : IntKind.i64.wrap 3 = 3 := by decide
  have v2 : IntKind.i64.wrap g2 = g2 := IntWalk.i64_in _ (by omega)
  have v3 : IntKind.i64.wrap g3 = g3 := IntWalk.i64_in _ (by omega)
  have v4 : IntKind.i64.wrap (256 * g2) = 256 * g2 := IntWalk.i64_in _ (by omega)
  have v5 : IntKind.i64.wrap (256 * g2 + g3) = 256 * g2 + g3 := IntWalk.i64_in _ (by omega)
  have b0 : (2 : Int) < (n3 : Int) := by omega
  have b1 : (3 : Int) < (n3 : Int) := by omega
  have b2 : 2 < n3 := by omega
  have b3 : 3 < n3 := by omega
  rw [rounds_succ]
  go_upto_region 22 with fail
  have Z1 := Bx.mk R1.out.drew
  clear R1
  refine wp_region_noPanic ?_
  refine wp_region_held_drew (S := fun W => W.cell? ⟨c, o + 2, none⟩ = some (.int .u8 g2) ∧ W.cell? ⟨c, o + 3, none⟩ = some (.int .u8 g3)) (by kernel_rfl) (⟨(HC.out _ Z1.out.below).2.2.1, (HC.out _ Z1.out.below).2.2.2.1⟩) (fun hHeld => ?_)
  generalize x1.drew = z1 at *
  refine takeL 0 (v := ?_) rfl (by kernel_rfl) (by kernel_rfl) (by kernel_rfl) (fun _ _ _ h => h) (Or.inl ⟨by rfl, ?_⟩) hHeld ?_
  rotate_left 1
  · (intro w hSw; go_simp; try with_reducible rfl)
  try simp only [Act.put, List.setIfInBounds_toArray, List.set_cons_zero, List.set_cons_succ]
  refine takeL 1 (v := ?_) rfl (by kernel_rfl) (by kernel_rfl) (by kernel_rfl) (fun _ _ _ h => h) (Or.inl ⟨by rfl, ?_⟩) hHeld ?_
  rotate_left 1
  · (intro w hSw; go_simp; try with_reducible rfl)
  try simp only [Act.put, List.setIfInBounds_toArray, List.set_cons_zero, List.set_cons_succ]
  refine takeL 2 (v := ?_) rfl (by kernel_rfl) (by kernel_rfl) (by kernel_rfl) (fun _ _ _ h => h) (Or.inl ⟨by rfl, ?_⟩) hHeld ?_
  rotate_left 1
  · (intro w hSw; go_simp; try with_reducible rfl)
  try simp only [Act.put, List.setIfInBounds_toArray, List.set_cons_zero, List.set_cons_succ]
  refine takeL 3 (v := ?_) rfl (by kernel_rfl) (by kernel_rfl) (by kernel_rfl) (fun _ _ _ h => h) (Or.inl ⟨by rfl, ?_⟩) hHeld ?_
  rotate_left 1
  · (intro w hSw; go_simp; try with_reducible rfl)
  try simp only [Act.put, List.setIfInBounds_toArray, List.set_cons_zero, List.set_cons_succ]
  refine takeL 4 (v := ?_) rfl (by kernel_rfl) (by kernel_rfl) (by kernel_rfl) (fun _ _ _ h => h) (Or.inl ⟨by rfl, ?_⟩) hHeld ?_
  rotate_left 1
  · (intro w hSw; go_simp; try with_reducible rfl)
  try simp only [Act.put, List.setIfInBounds_toArray, List.set_cons_zero, List.set_cons_succ]
  refine takeL 5 (v := ?_) rfl (by kernel_rfl) (by kernel_rfl) (by kernel_rfl) (fun _ _ _ h => h) (Or.inl ⟨by rfl, ?_⟩) hHeld ?_
  rotate_left 1
  · (intro w hSw; obtain ⟨q1, q2⟩ := hSw; go_simp; try with_reducible rfl)
  try simp only [Act.put, List.setIfInBounds_toArray, List.set_cons_zero, List.set_cons_succ]
  refine takeL 6 (v := ?_) rfl (by kernel_rfl) (by kernel_rfl) (by kernel_rfl) (fun _ _ _ h => h) (Or.inl ⟨by rfl, ?_⟩) hHeld ?_
  rotate_left 1
  · (intro w hSw; go_simp; try with_reducible rfl)
  try simp only [Act.put, List.setIfInBounds_toArray, List.set_cons_zero, List.set_cons_succ]
  refine takeL 7 (v := ?_) rfl (by kernel_rfl) (by kernel_rfl) (by kernel_rfl) (fun _ _ _ h => h) (Or.inl ⟨by rfl, ?_⟩) hHeld ?_
  rotate_left 1
  · (intro w hSw; go_simp; try with_reducible rfl)
  try simp only [Act.put, List.setIfInBounds_toArray, List.set_cons_zero, List.set_cons_succ]
  refine takeL 8 (v := ?_) rfl (by kernel_rfl) (by kernel_rfl) (by kernel_rfl) (fun _ _ _ h => h) (Or.inl ⟨by rfl, ?_⟩) hHeld ?_
  rotate_left 1
  · (intro w hSw; go_simp; try with_reducible rfl)
  try simp only [Act.put, List.setIfInBounds_toArray, List.set_cons_zero, List.set_cons_succ]
  refine takeL 9 (v := ?_) rfl (by kernel_rfl) (by kernel_rfl) (by kernel_rfl) (fun _ _ _ h => h) (Or.inl ⟨by rfl, ?_⟩) hHeld ?_
  rotate_left 1
  · (intro w hSw; go_simp; try with_reducible rfl)
  try simp only [Act.put, List.setIfInBounds_toArray, List.set_cons_zero, List.set_cons_succ]
  refine takeL 10 (v := ?_) rfl (by kernel_rfl) (by kernel_rfl) (by kernel_rfl) (fun _ _ _ h => h) (Or.inl ⟨by rfl, ?_⟩) hHeld ?_
  rotate_left 1
  · (intro w hSw; go_simp; try with_reducible rfl)
  try simp only [Act.put, List.setIfInBounds_toArray, List.set_cons_zero, List.set_cons_succ]
  refine takeL 11 (v := ?_) rfl (by kernel_rfl) (by kernel_rfl) (by kernel_rfl) (fun _ _ _ h => h) (Or.inl ⟨by rfl, ?_⟩) hHeld ?_
  rotate_left 1
  · (intro w hSw; go_simp; try with_reducible rfl)
  try simp only [Act.put, List.setIfInBounds_toArray, List.set_cons_zero, List.set_cons_succ]
  refine takeL 12 (v := ?_) rfl (by kernel_rfl) (by kernel_rfl) (by kernel_rfl) (fun _ _ _ h => h) (Or.inl ⟨by rfl, ?_⟩) hHeld ?_
  rotate_left 1
  · (intro w hSw; go_simp; try with_reducible rfl)
  try simp only [Act.put, List.setIfInBounds_toArray, List.set_cons_zero, List.set_cons_succ]
  refine takeL 13 (v := ?_) rfl (by kernel_rfl) (by kernel_rfl) (by kernel_rfl) (fun _ _ _ h => h) (Or.inl ⟨by rfl, ?_⟩) hHeld ?_
  rotate_left 1
  · (intro w hSw; obtain ⟨q1, q2⟩ := hSw; go_simp; try with_reducible rfl)
  try simp only [Act.put, List.setIfInBounds_toArray, List.set_cons_zero, List.set_cons_succ]
  refine takeL 14 (v := ?_) rfl (by kernel_rfl) (by kernel_rfl) (by kernel_rfl) (fun _ _ _ h => h) (Or.inl ⟨by rfl, ?_⟩) hHeld ?_
  rotate_left 1
  · (intro w hSw; go_simp; try with_reducible rfl)
  try simp only [Act.put, List.setIfInBounds_toArray, List.set_cons_zero, List.set_cons_succ]
  refine takeL 15 (v := ?_) rfl (by kernel_rfl) (by kernel_rfl) (by kernel_rfl) (fun _ _ _ h => h) (Or.inl ⟨by rfl, ?_⟩) hHeld ?_
  rotate_left 1
  · (intro w hSw; go_simp; try with_reducible rfl)
  try simp only [Act.put, List.setIfInBounds_toArray, List.set_cons_zero, List.set_cons_succ]
  refine takeL 16 (v := ?_) rfl (by kernel_rfl) (by kernel_rfl) (by kernel_rfl) (fun _ _ _ h => h) (Or.inl ⟨by rfl, ?_⟩) hHeld ?_
  rotate_left 1
  · (intro w hSw; go_simp; try with_reducible rfl)
  try simp only [Act.put, List.setIfInBounds_toArray, List.set_cons_zero, List.set_cons_succ]
  refine takeL 17 (v := ?_) rfl (by kernel_rfl) (by kernel_rfl) (by kernel_rfl) (fun _ _ _ h => h) (Or.inl ⟨by rfl, ?_⟩) hHeld ?_
  rotate_left 1
  · (intro w hSw; go_simp; try with_reducible rfl)
  try simp only [Act.put, List.setIfInBounds_toArray, List.set_cons_zero, List.set_cons_succ]
  refine stepL 18 (by kernel_rfl) rfl (fun K hK => ?_)
  refine step_cellI9 rfl _ _ rfl D 1 (256 * g2 + g3) #[.int .i64 (256 * g0 + g1), .int .i64 0, .int .i64 0, .int .i64 0, .int .u8 0, .int .u8 0, .int .u8 0, .int .u8 0, .int .u8 0, .int .u8 0, .int .u8 0, .int .u8 0] #[.int .i64 (256 * g0 + g1), .int .i64 (256 * g2 + g3), .int .i64 0, .int .i64 0, .int .u8 0, .int .u8 0, .int .u8 0, .int .u8 0, .int .u8 0, .int .u8 0, .int .u8 0, .int .u8 0] 50 (by rfl) (by rfl) (Z1.out.rows _ (.head _)) (by simp) rfl ?_
  intro x2 hg hr
  have R2 := Bx.mk (Z1.out.set hg hr (by have := HED.out; omega) (by intro y hy; have := HYD.out; simp at hy; subst hy; simp only; omega))
  clear hg hr Z1
  refine hK.out _ _ (⟨(HC.out _ R2.out.below).2.2.1, (HC.out _ R2.out.below).2.2.2.1⟩) (fun hHeld => ?_)
  clear hK K
  try simp only [Act.put]
  refine wpAnyH_done (by kernel_rfl) ?_ _
  refine NoPanic.normal ?_
  clear hHeld v0 v1 v2 v3 v4 v5 b0 b1 b2 b3
  go_wp2
  have v0 : IntKind.i64.wrap 4 = 4 := by decide
  have v1 : IntKind.i64.wrap 5 = 5 := by decide
  have v2 : IntKind.i64.wrap g4 = g4 := IntWalk.i64_in _ (by omega)
  have v3 : IntKind.i64.wrap g5 = g5 := IntWalk.i64_in _ (by omega)
  have v4 : IntKind.i64.wrap (256 * g4) = 256 * g4 := IntWalk.i64_in _ (by omega)
  have v5 : IntKind.i64.wrap (256 * g4 + g5) = 256 * g4 + g5 := IntWalk.i64_in _ (by omega)
  have b0 : (4 : Int) < (n3 : Int) := by omega
  have b1 : (5 : Int) < (n3 : Int) := by omega
  have b2 : 4 < n3 := by omega
  have b3 : 5 < n3 := by omega
  rw [rounds_succ]
  go_upto_region 22 with fail
  have Z2 := Bx.mk R2.out.drew
  clear R2
  refine wp_region_noPanic ?_
  refine wp_region_held_drew (S := fun W => W.cell? ⟨c, o + 4, none⟩ = some (.int .u8 g4) ∧ W.cell? ⟨c, o + 5, none⟩ = some (.int .u8 g5)) (by kernel_rfl) (⟨(HC.out _ Z2.out.below).2.2.2.2.1, (HC.out _ Z2.out.below).2.2.2.2.2.1⟩) (fun hHeld => ?_)
  generalize x2.drew = z2 at *
  refine takeL 0 (v := ?_) rfl (by kernel_rfl) (by kernel_rfl) (by kernel_rfl) (fun _ _ _ h => h) (Or.inl ⟨by rfl, ?_⟩) hHeld ?_
  rotate_left 1
  · (intro w hSw; go_simp; try with_reducible rfl)
  try simp only [Act.put, List.setIfInBounds_toArray, List.set_cons_zero, List.set_cons_succ]
  refine takeL 1 (v := ?_) rfl (by kernel_rfl) (by kernel_rfl) (by kernel_rfl) (fun _ _ _ h => h) (Or.inl ⟨by rfl, ?_⟩) hHeld ?_
  rotate_left 1
  · (intro w hSw; go_simp; try with_reducible rfl)
  try simp only [Act.put, List.setIfInBounds_toArray, List.set_cons_zero, List.set_cons_succ]
  refine takeL 2 (v := ?_) rfl (by kernel_rfl) (by kernel_rfl) (by kernel_rfl) (fun _ _ _ h => h) (Or.inl ⟨by rfl, ?_⟩) hHeld ?_
  rotate_left 1
  · (intro w hSw; go_simp; try with_reducible rfl)
  try simp only [Act.put, List.setIfInBounds_toArray, List.set_cons_zero, List.set_cons_succ]
  refine takeL 3 (v := ?_) rfl (by kernel_rfl) (by kernel_rfl) (by kernel_rfl) (fun _ _ _ h => h) (Or.inl ⟨by rfl, ?_⟩) hHeld ?_
  rotate_left 1
  · (intro w hSw; go_simp; try with_reducible rfl)
  try simp only [Act.put, List.setIfInBounds_toArray, List.set_cons_zero, List.set_cons_succ]
  refine takeL 4 (v := ?_) rfl (by kernel_rfl) (by kernel_rfl) (by kernel_rfl) (fun _ _ _ h => h) (Or.inl ⟨by rfl, ?_⟩) hHeld ?_
  rotate_left 1
  · (intro w hSw; go_simp; try with_reducible rfl)
  try simp only [Act.put, List.setIfInBounds_toArray, List.set_cons_zero, List.set_cons_succ]
  refine takeL 5 (v := ?_) rfl (by kernel_rfl) (by kernel_rfl) (by kernel_rfl) (fun _ _ _ h => h) (Or.inl ⟨by rfl, ?_⟩) hHeld ?_
  rotate_left 1
  · (intro w hSw; obtain ⟨q1, q2⟩ := hSw; go_simp; try with_reducible rfl)
  try simp only [Act.put, List.setIfInBounds_toArray, List.set_cons_zero, List.set_cons_succ]
  refine takeL 6 (v := ?_) rfl (by kernel_rfl) (by kernel_rfl) (by kernel_rfl) (fun _ _ _ h => h) (Or.inl ⟨by rfl, ?_⟩) hHeld ?_
  rotate_left 1
  · (intro w hSw; go_simp; try with_reducible rfl)
  try simp only [Act.put, List.setIfInBounds_toArray, List.set_cons_zero, List.set_cons_succ]
  refine takeL 7 (v := ?_) rfl (by kernel_rfl) (by kernel_rfl) (by kernel_rfl) (fun _ _ _ h => h) (Or.inl ⟨by rfl, ?_⟩) hHeld ?_
  rotate_left 1
  · (intro w hSw; go_simp; try with_reducible rfl)
  try simp only [Act.put, List.setIfInBounds_toArray, List.set_cons_zero, List.set_cons_succ]
  refine takeL 8 (v := ?_) rfl (by kernel_rfl) (by kernel_rfl) (by kernel_rfl) (fun _ _ _ h => h) (Or.inl ⟨by rfl, ?_⟩) hHeld ?_
  rotate_left 1
  · (intro w hSw; go_simp; try with_reducible rfl)
  try simp only [Act.put, List.setIfInBounds_toArray, List.set_cons_zero, List.set_cons_succ]
  refine takeL 9 (v := ?_) rfl (by kernel_rfl) (by kernel_rfl) (by kernel_rfl) (fun _ _ _ h => h) (Or.inl ⟨by rfl, ?_⟩) hHeld ?_
  rotate_left 1
  · (intro w hSw; go_simp; try with_reducible rfl)
  try simp only [Act.put, List.setIfInBounds_toArray, List.set_cons_zero, List.set_cons_succ]
  refine takeL 10 (v := ?_) rfl (by kernel_rfl) (by kernel_rfl) (by kernel_rfl) (fun _ _ _ h => h) (Or.inl ⟨by rfl, ?_⟩) hHeld ?_
  rotate_left 1
  · (intro w hSw; go_simp; try with_reducible rfl)
  try simp only [Act.put, List.setIfInBounds_toArray, List.set_cons_zero, List.set_cons_succ]
  refine takeL 11 (v := ?_) rfl (by kernel_rfl) (by kernel_rfl) (by kernel_rfl) (fun _ _ _ h => h) (Or.inl ⟨by rfl, ?_⟩) hHeld ?_
  rotate_left 1
  · (intro w hSw; go_simp; try with_reducible rfl)
  try simp only [Act.put, List.setIfInBounds_toArray, List.set_cons_zero, List.set_cons_succ]
  refine takeL 12 (v := ?_) rfl (by kernel_rfl) (by kernel_rfl) (by kernel_rfl) (fun _ _ _ h => h) (Or.inl ⟨by rfl, ?_⟩) hHeld ?_
  rotate_left 1
  · (intro w hSw; go_simp; try with_reducible rfl)
  try simp only [Act.put, List.setIfInBounds_toArray, List.set_cons_zero, List.set_cons_succ]
  refine takeL 13 (v := ?_) rfl (by kernel_rfl) (by kernel_rfl) (by kernel_rfl) (fun _ _ _ h => h) (Or.inl ⟨by rfl, ?_⟩) hHeld ?_
  rotate_left 1
  · (intro w hSw; obtain ⟨q1, q2⟩ := hSw; go_simp; try with_reducible rfl)
  try simp only [Act.put, List.setIfInBounds_toArray, List.set_cons_zero, List.set_cons_succ]
  refine takeL 14 (v := ?_) rfl (by kernel_rfl) (by kernel_rfl) (by kernel_rfl) (fun _ _ _ h => h) (Or.inl ⟨by rfl, ?_⟩) hHeld ?_
  rotate_left 1
  · (intro w hSw; go_simp; try with_reducible rfl)
  try simp only [Act.put, List.setIfInBounds_toArray, List.set_cons_zero, List.set_cons_succ]
  refine takeL 15 (v := ?_) rfl (by kernel_rfl) (by kernel_rfl) (by kernel_rfl) (fun _ _ _ h => h) (Or.inl ⟨by rfl, ?_⟩) hHeld ?_
  rotate_left 1
  · (intro w hSw; go_simp; try with_reducible rfl)
  try simp only [Act.put, List.setIfInBounds_toArray, List.set_cons_zero, List.set_cons_succ]
  refine takeL 16 (v := ?_) rfl (by kernel_rfl) (by kernel_rfl) (by kernel_rfl) (fun _ _ _ h => h) (Or.inl ⟨by rfl, ?_⟩) hHeld ?_
  rotate_left 1
  · (intro w hSw; go_simp; try with_reducible rfl)
  try simp only [Act.put, List.setIfInBounds_toArray, List.set_cons_zero, List.set_cons_succ]
  refine takeL 17 (v := ?_) rfl (by kernel_rfl) (by kernel_rfl) (by kernel_rfl) (fun _ _ _ h => h) (Or.inl ⟨by rfl, ?_⟩) hHeld ?_
  rotate_left 1
  · (intro w hSw; go_simp; try with_reducible rfl)
  try simp only [Act.put, List.setIfInBounds_toArray, List.set_cons_zero, List.set_cons_succ]
  refine stepL 18 (by kernel_rfl) rfl (fun K hK => ?_)
  refine step_cellI9 rfl _ _ rfl D 2 (256 * g4 + g5) #[.int .i64 (256 * g0 + g1), .int .i64 (256 * g2 + g3), .int .i64 0, .int .i64 0, .int .u8 0, .int .u8 0, .int .u8 0, .int .u8 0, .int .u8 0, .int .u8 0, .int .u8 0, .int .u8 0] #[.int .i64 (256 * g0 + g1), .int .i64 (256 * g2 + g3), .int .i64 (256 * g4 + g5), .int .i64 0, .int .u8 0, .int .u8 0, .int .u8 0, .int .u8 0, .int .u8 0, .int .u8 0, .int .u8 0, .int .u8 0] 50 (by rfl) (by rfl) (Z2.out.rows _ (.head _)) (by simp) rfl ?_
  intro x3 hg hr
  have R3 := Bx.mk (Z2.out.set hg hr (by have := HED.out; omega) (by intro y hy; have := HYD.out; simp at hy; subst hy; simp only; omega))
  clear hg hr Z2
  refine hK.out _ _ (⟨(HC.out _ R3.out.below).2.2.2.2.1, (HC.out _ R3.out.below).2.2.2.2.2.1⟩) (fun hHeld => ?_)
  clear hK K
  try simp only [Act.put]
  refine wpAnyH_done (by kernel_rfl) ?_ _
  refine NoPanic.normal ?_
  clear hHeld v0 v1 v2 v3 v4 v5 b0 b1 b2 b3
  go_wp2
  have v0 : IntKind.i64.wrap 6 = 6 := by decide
  have v1 : IntKind.i64.wrap 7 = 7 := by decide
  have v2 : IntKind.i64.wrap g6 = g6 := IntWalk.i64_in _ (by omega)
  have v3 : IntKind.i64.wrap g7 = g7 := IntWalk.i64_in _ (by omega)
  have v4 : IntKind.i64.wrap (256 * g6) = 256 * g6 := IntWalk.i64_in _ (by omega)
  have v5 : IntKind.i64.wrap (256 * g6 + g7) = 256 * g6 + g7 := IntWalk.i64_in _ (by omega)
  have b0 : (6 : Int) < (n3 : Int) := by omega
  have b1 : (7 : Int) < (n3 : Int) := by omega
  have b2 : 6 < n3 := by omega
  have b3 : 7 < n3 := by omega
  rw [rounds_succ]
  go_upto_region 22 with fail
  have Z3 := Bx.mk R3.out.drew
  clear R3
  refine wp_region_noPanic ?_
  refine wp_region_held_drew (S := fun W => W.cell? ⟨c, o + 6, none⟩ = some (.int .u8 g6) ∧ W.cell? ⟨c, o + 7, none⟩ = some (.int .u8 g7)) (by kernel_rfl) (⟨(HC.out _ Z3.out.below).2.2.2.2.2.2.1, (HC.out _ Z3.out.below).2.2.2.2.2.2.2.1⟩) (fun hHeld => ?_)
  generalize x3.drew = z3 at *
  refine takeL 0 (v := ?_) rfl (by kernel_rfl) (by kernel_rfl) (by kernel_rfl) (fun _ _ _ h => h) (Or.inl ⟨by rfl, ?_⟩) hHeld ?_
  rotate_left 1
  · (intro w hSw; go_simp; try with_reducible rfl)
  try simp only [Act.put, List.setIfInBounds_toArray, List.set_cons_zero, List.set_cons_succ]
  refine takeL 1 (v := ?_) rfl (by kernel_rfl) (by kernel_rfl) (by kernel_rfl) (fun _ _ _ h => h) (Or.inl ⟨by rfl, ?_⟩) hHeld ?_
  rotate_left 1
  · (intro w hSw; go_simp; try with_reducible rfl)
  try simp only [Act.put, List.setIfInBounds_toArray, List.set_cons_zero, List.set_cons_succ]
  refine takeL 2 (v := ?_) rfl (by kernel_rfl) (by kernel_rfl) (by kernel_rfl) (fun _ _ _ h => h) (Or.inl ⟨by rfl, ?_⟩) hHeld ?_
  rotate_left 1
  · (intro w hSw; go_simp; try with_reducible rfl)
  try simp only [Act.put, List.setIfInBounds_toArray, List.set_cons_zero, List.set_cons_succ]
  refine takeL 3 (v := ?_) rfl (by kernel_rfl) (by kernel_rfl) (by kernel_rfl) (fun _ _ _ h => h) (Or.inl ⟨by rfl, ?_⟩) hHeld ?_
  rotate_left 1
  · (intro w hSw; go_simp; try with_reducible rfl)
  try simp only [Act.put, List.setIfInBounds_toArray, List.set_cons_zero, List.set_cons_succ]
  refine takeL 4 (v := ?_) rfl (by kernel_rfl) (by kernel_rfl) (by kernel_rfl) (fun _ _ _ h => h) (Or.inl ⟨by rfl, ?_⟩) hHeld ?_
  rotate_left 1
  · (intro w hSw; go_simp; try with_reducible rfl)
  try simp only [Act.put, List.setIfInBounds_toArray, List.set_cons_zero, List.set_cons_succ]
  refine takeL 5 (v := ?_) rfl (by kernel_rfl) (by kernel_rfl) (by kernel_rfl) (fun _ _ _ h => h) (Or.inl ⟨by rfl, ?_⟩) hHeld ?_
  rotate_left 1
  · (intro w hSw; obtain ⟨q1, q2⟩ := hSw; go_simp; try with_reducible rfl)
  try simp only [Act.put, List.setIfInBounds_toArray, List.set_cons_zero, List.set_cons_succ]
  refine takeL 6 (v := ?_) rfl (by kernel_rfl) (by kernel_rfl) (by kernel_rfl) (fun _ _ _ h => h) (Or.inl ⟨by rfl, ?_⟩) hHeld ?_
  rotate_left 1
  · (intro w hSw; go_simp; try with_reducible rfl)
  try simp only [Act.put, List.setIfInBounds_toArray, List.set_cons_zero, List.set_cons_succ]
  refine takeL 7 (v := ?_) rfl (by kernel_rfl) (by kernel_rfl) (by kernel_rfl) (fun _ _ _ h => h) (Or.inl ⟨by rfl, ?_⟩) hHeld ?_
  rotate_left 1
  · (intro w hSw; go_simp; try with_reducible rfl)
  try simp only [Act.put, List.setIfInBounds_toArray, List.set_cons_zero, List.set_cons_succ]
  refine takeL 8 (v := ?_) rfl (by kernel_rfl) (by kernel_rfl) (by kernel_rfl) (fun _ _ _ h => h) (Or.inl ⟨by rfl, ?_⟩) hHeld ?_
  rotate_left 1
  · (intro w hSw; go_simp; try with_reducible rfl)
  try simp only [Act.put, List.setIfInBounds_toArray, List.set_cons_zero, List.set_cons_succ]
  refine takeL 9 (v := ?_) rfl (by kernel_rfl) (by kernel_rfl) (by kernel_rfl) (fun _ _ _ h => h) (Or.inl ⟨by rfl, ?_⟩) hHeld ?_
  rotate_left 1
  · (intro w hSw; go_simp; try with_reducible rfl)
  try simp only [Act.put, List.setIfInBounds_toArray, List.set_cons_zero, List.set_cons_succ]
  refine takeL 10 (v := ?_) rfl (by kernel_rfl) (by kernel_rfl) (by kernel_rfl) (fun _ _ _ h => h) (Or.inl ⟨by rfl, ?_⟩) hHeld ?_
  rotate_left 1
  · (intro w hSw; go_simp; try with_reducible rfl)
  try simp only [Act.put, List.setIfInBounds_toArray, List.set_cons_zero, List.set_cons_succ]
  refine takeL 11 (v := ?_) rfl (by kernel_rfl) (by kernel_rfl) (by kernel_rfl) (fun _ _ _ h => h) (Or.inl ⟨by rfl, ?_⟩) hHeld ?_
  rotate_left 1
  · (intro w hSw; go_simp; try with_reducible rfl)
  try simp only [Act.put, List.setIfInBounds_toArray, List.set_cons_zero, List.set_cons_succ]
  refine takeL 12 (v := ?_) rfl (by kernel_rfl) (by kernel_rfl) (by kernel_rfl) (fun _ _ _ h => h) (Or.inl ⟨by rfl, ?_⟩) hHeld ?_
  rotate_left 1
  · (intro w hSw; go_simp; try with_reducible rfl)
  try simp only [Act.put, List.setIfInBounds_toArray, List.set_cons_zero, List.set_cons_succ]
  refine takeL 13 (v := ?_) rfl (by kernel_rfl) (by kernel_rfl) (by kernel_rfl) (fun _ _ _ h => h) (Or.inl ⟨by rfl, ?_⟩) hHeld ?_
  rotate_left 1
  · (intro w hSw; obtain ⟨q1, q2⟩ := hSw; go_simp; try with_reducible rfl)
  try simp only [Act.put, List.setIfInBounds_toArray, List.set_cons_zero, List.set_cons_succ]
  refine takeL 14 (v := ?_) rfl (by kernel_rfl) (by kernel_rfl) (by kernel_rfl) (fun _ _ _ h => h) (Or.inl ⟨by rfl, ?_⟩) hHeld ?_
  rotate_left 1
  · (intro w hSw; go_simp; try with_reducible rfl)
  try simp only [Act.put, List.setIfInBounds_toArray, List.set_cons_zero, List.set_cons_succ]
  refine takeL 15 (v := ?_) rfl (by kernel_rfl) (by kernel_rfl) (by kernel_rfl) (fun _ _ _ h => h) (Or.inl ⟨by rfl, ?_⟩) hHeld ?_
  rotate_left 1
  · (intro w hSw; go_simp; try with_reducible rfl)
  try simp only [Act.put, List.setIfInBounds_toArray, List.set_cons_zero, List.set_cons_succ]
  refine takeL 16 (v := ?_) rfl (by kernel_rfl) (by kernel_rfl) (by kernel_rfl) (fun _ _ _ h => h) (Or.inl ⟨by rfl, ?_⟩) hHeld ?_
  rotate_left 1
  · (intro w hSw; go_simp; try with_reducible rfl)
  try simp only [Act.put, List.setIfInBounds_toArray, List.set_cons_zero, List.set_cons_succ]
  refine takeL 17 (v := ?_) rfl (by kernel_rfl) (by kernel_rfl) (by kernel_rfl) (fun _ _ _ h => h) (Or.inl ⟨by rfl, ?_⟩) hHeld ?_
  rotate_left 1
  · (intro w hSw; go_simp; try with_reducible rfl)
  try simp only [Act.put, List.setIfInBounds_toArray, List.set_cons_zero, List.set_cons_succ]
  refine stepL 18 (by kernel_rfl) rfl (fun K hK => ?_)
  refine step_cellI9 rfl _ _ rfl D 3 (256 * g6 + g7) #[.int .i64 (256 * g0 + g1), .int .i64 (256 * g2 + g3), .int .i64 (256 * g4 + g5), .int .i64 0, .int .u8 0, .int .u8 0, .int .u8 0, .int .u8 0, .int .u8 0, .int .u8 0, .int .u8 0, .int .u8 0] #[.int .i64 (256 * g0 + g1), .int .i64 (256 * g2 + g3), .int .i64 (256 * g4 + g5), .int .i64 (256 * g6 + g7), .int .u8 0, .int .u8 0, .int .u8 0, .int .u8 0, .int .u8 0, .int .u8 0, .int .u8 0, .int .u8 0] 50 (by rfl) (by rfl) (Z3.out.rows _ (.head _)) (by simp) rfl ?_
  intro x4 hg hr
  have R4 := Bx.mk (Z3.out.set hg hr (by have := HED.out; omega) (by intro y hy; have := HYD.out; simp at hy; subst hy; simp only; omega))
  clear hg hr Z3
  refine hK.out _ _ (⟨(HC.out _ R4.out.below).2.2.2.2.2.2.1, (HC.out _ R4.out.below).2.2.2.2.2.2.2.1⟩) (fun hHeld => ?_)
  clear hK K
  try simp only [Act.put]
  refine wpAnyH_done (by kernel_rfl) ?_ _
  refine NoPanic.normal ?_
  clear hHeld v0 v1 v2 v3 v4 v5 b0 b1 b2 b3
  go_wp2
  rw [rounds_succ]
  go_wp2
  refine wp_loop_rounds 9 ?_
  rw [rounds_succ]
  have m := (HC.out _ R4.out.below).2.2.2.2.2.2.2.2.1
  go_wp2_with (refine wpList_cellU rfl _ _ rfl D 4 (ub p.a) #[.int .i64 (256 * g0 + g1), .int .i64 (256 * g2 + g3), .int .i64 (256 * g4 + g5), .int .i64 (256 * g6 + g7), .int .u8 0, .int .u8 0, .int .u8 0, .int .u8 0, .int .u8 0, .int .u8 0, .int .u8 0, .int .u8 0] #[.int .i64 (256 * g0 + g1), .int .i64 (256 * g2 + g3), .int .i64 (256 * g4 + g5), .int .i64 (256 * g6 + g7), .int .u8 (ub p.a), .int .u8 0, .int .u8 0, .int .u8 0, .int .u8 0, .int .u8 0, .int .u8 0, .int .u8 0] 50 (by rfl) (by rfl) (R4.out.rows _ (.head _)) (by simp) rfl ?_; intro x5 hg hr; have R5 := Bx.mk (R4.out.set hg hr (by have := HED.out; omega) (by intro y hy; have := HYD.out; simp at hy; subst hy; simp only; omega)); clear hg hr R4 m)
  rw [rounds_succ]
  have m := (HC.out _ R5.out.below).2.2.2.2.2.2.2.2.2.1
  go_wp2_with (refine wpList_cellU rfl _ _ rfl D 5 (ub p.b) #[.int .i64 (256 * g0 + g1), .int .i64 (256 * g2 + g3), .int .i64 (256 * g4 + g5), .int .i64 (256 * g6 + g7), .int .u8 (ub p.a), .int .u8 0, .int .u8 0, .int .u8 0, .int .u8 0, .int .u8 0, .int .u8 0, .int .u8 0] #[.int .i64 (256 * g0 + g1), .int .i64 (256 * g2 + g3), .int .i64 (256 * g4 + g5), .int .i64 (256 * g6 + g7), .int .u8 (ub p.a), .int .u8 (ub p.b), .int .u8 0, .int .u8 0, .int .u8 0, .int .u8 0, .int .u8 0, .int .u8 0] 50 (by rfl) (by rfl) (R5.out.rows _ (.head _)) (by simp) rfl ?_; intro x6 hg hr; have R6 := Bx.mk (R5.out.set hg hr (by have := HED.out; omega) (by intro y hy; have := HYD.out; simp at hy; subst hy; simp only; omega)); clear hg hr R5 m)
  rw [rounds_succ]
  have m := (HC.out _ R6.out.below).2.2.2.2.2.2.2.2.2.2.1
  go_wp2_with (refine wpList_cellU rfl _ _ rfl D 6 (ub p.c) #[.int .i64 (256 * g0 + g1), .int .i64 (256 * g2 + g3), .int .i64 (256 * g4 + g5), .int .i64 (256 * g6 + g7), .int .u8 (ub p.a), .int .u8 (ub p.b), .int .u8 0, .int .u8 0, .int .u8 0, .int .u8 0, .int .u8 0, .int .u8 0] #[.int .i64 (256 * g0 + g1), .int .i64 (256 * g2 + g3), .int .i64 (256 * g4 + g5), .int .i64 (256 * g6 + g7), .int .u8 (ub p.a), .int .u8 (ub p.b), .int .u8 (ub p.c), .int .u8 0, .int .u8 0, .int .u8 0, .int .u8 0, .int .u8 0] 50 (by rfl) (by rfl) (R6.out.rows _ (.head _)) (by simp) rfl ?_; intro x7 hg hr; have R7 := Bx.mk (R6.out.set hg hr (by have := HED.out; omega) (by intro y hy; have := HYD.out; simp at hy; subst hy; simp only; omega)); clear hg hr R6 m)
  rw [rounds_succ]
  have m := (HC.out _ R7.out.below).2.2.2.2.2.2.2.2.2.2.2.1
  go_wp2_with (refine wpList_cellU rfl _ _ rfl D 7 (ub p.d) #[.int .i64 (256 * g0 + g1), .int .i64 (256 * g2 + g3), .int .i64 (256 * g4 + g5), .int .i64 (256 * g6 + g7), .int .u8 (ub p.a), .int .u8 (ub p.b), .int .u8 (ub p.c), .int .u8 0, .int .u8 0, .int .u8 0, .int .u8 0, .int .u8 0] #[.int .i64 (256 * g0 + g1), .int .i64 (256 * g2 + g3), .int .i64 (256 * g4 + g5), .int .i64 (256 * g6 + g7), .int .u8 (ub p.a), .int .u8 (ub p.b), .int .u8 (ub p.c), .int .u8 (ub p.d), .int .u8 0, .int .u8 0, .int .u8 0, .int .u8 0] 50 (by rfl) (by rfl) (R7.out.rows _ (.head _)) (by simp) rfl ?_; intro x8 hg hr; have R8 := Bx.mk (R7.out.set hg hr (by have := HED.out; omega) (by intro y hy; have := HYD.out; simp at hy; subst hy; simp only; omega)); clear hg hr R7 m)
  rw [rounds_succ]
  have m := (HC.out _ R8.out.below).2.2.2.2.2.2.2.2.2.2.2.2.1
  go_wp2_with (refine wpList_cellU rfl _ _ rfl D 8 (ub p.e) #[.int .i64 (256 * g0 + g1), .int .i64 (256 * g2 + g3), .int .i64 (256 * g4 + g5), .int .i64 (256 * g6 + g7), .int .u8 (ub p.a), .int .u8 (ub p.b), .int .u8 (ub p.c), .int .u8 (ub p.d), .int .u8 0, .int .u8 0, .int .u8 0, .int .u8 0] #[.int .i64 (256 * g0 + g1), .int .i64 (256 * g2 + g3), .int .i64 (256 * g4 + g5), .int .i64 (256 * g6 + g7), .int .u8 (ub p.a), .int .u8 (ub p.b), .int .u8 (ub p.c), .int .u8 (ub p.d), .int .u8 (ub p.e), .int .u8 0, .int .u8 0, .int .u8 0] 50 (by rfl) (by rfl) (R8.out.rows _ (.head _)) (by simp) rfl ?_; intro x9 hg hr; have R9 := Bx.mk (R8.out.set hg hr (by have := HED.out; omega) (by intro y hy; have := HYD.out; simp at hy; subst hy; simp only; omega)); clear hg hr R8 m)
  rw [rounds_succ]
  have m := (HC.out _ R9.out.below).2.2.2.2.2.2.2.2.2.2.2.2.2.1
  go_wp2_with (refine wpList_cellU rfl _ _ rfl D 9 (ub p.f) #[.int .i64 (256 * g0 + g1), .int .i64 (256 * g2 + g3), .int .i64 (256 * g4 + g5), .int .i64 (256 * g6 + g7), .int .u8 (ub p.a), .int .u8 (ub p.b), .int .u8 (ub p.c), .int .u8 (ub p.d), .int .u8 (ub p.e), .int .u8 0, .int .u8 0, .int .u8 0] #[.int .i64 (256 * g0 + g1), .int .i64 (256 * g2 + g3), .int .i64 (256 * g4 + g5), .int .i64 (256 * g6 + g7), .int .u8 (ub p.a), .int .u8 (ub p.b), .int .u8 (ub p.c), .int .u8 (ub p.d), .int .u8 (ub p.e), .int .u8 (ub p.f), .int .u8 0, .int .u8 0] 50 (by rfl) (by rfl) (R9.out.rows _ (.head _)) (by simp) rfl ?_; intro x10 hg hr; have R10 := Bx.mk (R9.out.set hg hr (by have := HED.out; omega) (by intro y hy; have := HYD.out; simp at hy; subst hy; simp only; omega)); clear hg hr R9 m)
  rw [rounds_succ]
  have m := (HC.out _ R10.out.below).2.2.2.2.2.2.2.2.2.2.2.2.2.2.1
  go_wp2_with (refine wpList_cellU rfl _ _ rfl D 10 (ub p.g) #[.int .i64 (256 * g0 + g1), .int .i64 (256 * g2 + g3), .int .i64 (256 * g4 + g5), .int .i64 (256 * g6 + g7), .int .u8 (ub p.a), .int .u8 (ub p.b), .int .u8 (ub p.c), .int .u8 (ub p.d), .int .u8 (ub p.e), .int .u8 (ub p.f), .int .u8 0, .int .u8 0] #[.int .i64 (256 * g0 + g1), .int .i64 (256 * g2 + g3), .int .i64 (256 * g4 + g5), .int .i64 (256 * g6 + g7), .int .u8 (ub p.a), .int .u8 (ub p.b), .int .u8 (ub p.c), .int .u8 (ub p.d), .int .u8 (ub p.e), .int .u8 (ub p.f), .int .u8 (ub p.g), .int .u8 0] 50 (by rfl) (by rfl) (R10.out.rows _ (.head _)) (by simp) rfl ?_; intro x11 hg hr; have R11 := Bx.mk (R10.out.set hg hr (by have := HED.out; omega) (by intro y hy; have := HYD.out; simp at hy; subst hy; simp only; omega)); clear hg hr R10 m)
  rw [rounds_succ]
  have m := (HC.out _ R11.out.below).2.2.2.2.2.2.2.2.2.2.2.2.2.2.2
  go_wp2_with (refine wpList_cellU rfl _ _ rfl D 11 (ub p.h) #[.int .i64 (256 * g0 + g1), .int .i64 (256 * g2 + g3), .int .i64 (256 * g4 + g5), .int .i64 (256 * g6 + g7), .int .u8 (ub p.a), .int .u8 (ub p.b), .int .u8 (ub p.c), .int .u8 (ub p.d), .int .u8 (ub p.e), .int .u8 (ub p.f), .int .u8 (ub p.g), .int .u8 0] #[.int .i64 (256 * g0 + g1), .int .i64 (256 * g2 + g3), .int .i64 (256 * g4 + g5), .int .i64 (256 * g6 + g7), .int .u8 (ub p.a), .int .u8 (ub p.b), .int .u8 (ub p.c), .int .u8 (ub p.d), .int .u8 (ub p.e), .int .u8 (ub p.f), .int .u8 (ub p.g), .int .u8 (ub p.h)] 50 (by rfl) (by rfl) (R11.out.rows _ (.head _)) (by simp) rfl ?_; intro x12 hg hr; have R12 := Bx.mk (R11.out.set hg hr (by have := HED.out; omega) (by intro y hy; have := HYD.out; simp at hy; subst hy; simp only; omega)); clear hg hr R11 m)
  rw [rounds_succ]
  go_wp2_with (refine wpList_load_mid rfl 22 _ rfl D 0 (by rfl) [.int .i64 (256 * g0 + g1), .int .i64 (256 * g2 + g3), .int .i64 (256 * g4 + g5), .int .i64 (256 * g6 + g7)] _ (rng12 (R12.out.rows _ (.head _))) Tryd.underlying22 rfl (by kernel_rfl) ?_)
  refine (HRr.out x12).mono ?_
  rintro e x13 ⟨rfl, hb⟩
  have R13 := Bx.mk (R12.out.later hb)
  clear hb R12 HC HRr
  cases hk : okV ⟨256 * g0 + g1, 256 * g2 + g3, 256 * g4 + g5, 256 * g6 + g7⟩ with
  | false =>
    have hv : yc = dgC V4.zero B8.zero := by rw [← HYC.out, hk, if_neg (by decide)]
    have hff : f = 3 := by rw [← HFF.out, hk, if_neg (by decide)]
    subst hv hff
    have hz := dg_eql V4.zero V4.zero B8.zero B8.zero
    rw [eqD_self] at hz
    have hz : ∀ W : World, (binOp .eql 62 (.agg #[.int .i64 0, .int .i64 0, .int .i64 0, .int .i64 0, .int .u8 0, .int .u8 0, .int .u8 0, .int .u8 0, .int .u8 0, .int .u8 0, .int .u8 0, .int .u8 0]) (.agg #[.int .i64 0, .int .i64 0, .int .i64 0, .int .i64 0, .int .u8 0, .int .u8 0, .int .u8 0, .int .u8 0, .int .u8 0, .int .u8 0, .int .u8 0, .int .u8 0])).run Tryd.prog W = .ok (.bool true) W := hz
    have hb0 : ∀ W : World, (Instr.build 62 #[]).run Tryd.prog W = .ok (.agg #[.int .i64 0, .int .i64 0, .int .i64 0, .int .i64 0, .int .u8 0, .int .u8 0, .int .u8 0, .int .u8 0, .int .u8 0, .int .u8 0, .int .u8 0, .int .u8 0]) W := fun W => by kernel_rfl
    go_wp2_with fail
    refine (HKn.out x13 R13.out.below).mono ?_
    rintro e x14 ⟨rfl, hb⟩
    have R14 := Bx.mk (R13.out.later hb)
    clear hb R13
    go_wp2_with (refine wpList_load_rowg (by rfl) 62 _ rfl Y (by rfl) _ #[.int .i64 0, .int .i64 0, .int .i64 0, .int .i64 0, .int .u8 0, .int .u8 0, .int .u8 0, .int .u8 0, .int .u8 0, .int .u8 0, .int .u8 0, .int .u8 0] (0, 0) _ (R14.out.rows _ (.tail _ (.head _))) Tryd.underlying62 rfl (by kernel_rfl) ?_)
    go_ret
    exact ⟨rfl, R14.out.below⟩
  | true =>
    have hv : yc = dgC ⟨256 * g0 + g1, 256 * g2 + g3, 256 * g4 + g5, 256 * g6 + g7⟩ p := by rw [← HYC.out, hk, if_pos rfl]
    have hff : f = 0 := by rw [← HFF.out, hk, if_pos rfl]
    subst hv hff
    have hz := dg_eqr ⟨256 * g0 + g1, 256 * g2 + g3, 256 * g4 + g5, 256 * g6 + g7⟩ ⟨256 * g0 + g1, 256 * g2 + g3, 256 * g4 + g5, 256 * g6 + g7⟩ p p
    rw [eqD_self] at hz
    simp only at hz
    have HOf := Bx.mk (fun W => of9 ⟨256 * g0 + g1, 256 * g2 + g3, 256 * g4 + g5, 256 * g6 + g7⟩ p W)
    unfold dgC at HOf R13
    simp only at HOf R13
    go_upto_region 29 with fail
    have Z0 := Bx.mk R13.out.drew
    clear R13
    refine wp_region_noPanic ?_
    refine wp_region_held_drew (S := fun W => W.rangeAt Y 0 [.int .i64 (256 * g0 + g1), .int .i64 (256 * g2 + g3), .int .i64 (256 * g4 + g5), .int .i64 (256 * g6 + g7), .int .u8 (ub p.a), .int .u8 (ub p.b), .int .u8 (ub p.c), .int .u8 (ub p.d), .int .u8 (ub p.e), .int .u8 (ub p.f), .int .u8 (ub p.g), .int .u8 (ub p.h)] ∧ W.rangeAt D 0 [.int .i64 (256 * g0 + g1), .int .i64 (256 * g2 + g3), .int .i64 (256 * g4 + g5), .int .i64 (256 * g6 + g7), .int .u8 (ub p.a), .int .u8 (ub p.b), .int .u8 (ub p.c), .int .u8 (ub p.d), .int .u8 (ub p.e), .int .u8 (ub p.f), .int .u8 (ub p.g), .int .u8 (ub p.h)]) (by kernel_rfl) (⟨row_rng8 (l := [.int .i64 (256 * g0 + g1), .int .i64 (256 * g2 + g3), .int .i64 (256 * g4 + g5), .int .i64 (256 * g6 + g7), .int .u8 (ub p.a), .int .u8 (ub p.b), .int .u8 (ub p.c), .int .u8 (ub p.d), .int .u8 (ub p.e), .int .u8 (ub p.f), .int .u8 (ub p.g), .int .u8 (ub p.h)]) (Z0.out.rows _ (.tail _ (.head _))), row_rng8 (l := [.int .i64 (256 * g0 + g1), .int .i64 (256 * g2 + g3), .int .i64 (256 * g4 + g5), .int .i64 (256 * g6 + g7), .int .u8 (ub p.a), .int .u8 (ub p.b), .int .u8 (ub p.c), .int .u8 (ub p.d), .int .u8 (ub p.e), .int .u8 (ub p.f), .int .u8 (ub p.g), .int .u8 (ub p.h)]) (Z0.out.rows _ (.head _))⟩) (fun hHeld => ?_)
    generalize x13.drew = W0 at *
    refine stepL 0 (by kernel_rfl) rfl (fun K hK => ?_)
    go_simp
    refine (HKn.out W0 Z0.out.below).mono ?_
    rintro e W1 ⟨rfl, hb⟩
    show K _ _
    have R1 := Bx.mk (Z0.out.later hb)
    clear hb Z0
    refine hK.out _ _ (⟨row_rng8 (l := [.int .i64 (256 * g0 + g1), .int .i64 (256 * g2 + g3), .int .i64 (256 * g4 + g5), .int .i64 (256 * g6 + g7), .int .u8 (ub p.a), .int .u8 (ub p.b), .int .u8 (ub p.c), .int .u8 (ub p.d), .int .u8 (ub p.e), .int .u8 (ub p.f), .int .u8 (ub p.g), .int .u8 (ub p.h)]) (R1.out.rows _ (.tail _ (.head _))), row_rng8 (l := [.int .i64 (256 * g0 + g1), .int .i64 (256 * g2 + g3), .int .i64 (256 * g4 + g5), .int .i64 (256 * g6 + g7), .int .u8 (ub p.a), .int .u8 (ub p.b), .int .u8 (ub p.c), .int .u8 (ub p.d), .int .u8 (ub p.e), .int .u8 (ub p.f), .int .u8 (ub p.g), .int .u8 (ub p.h)]) (R1.out.rows _ (.head _))⟩) (fun hHeld => ?_)
    clear hK K
    try simp only [Act.put, List.setIfInBounds_toArray, List.set_cons_zero, List.set_cons_succ]
    refine takeL 1 (v := ?_) rfl (by kernel_rfl) (by kernel_rfl) (by kernel_rfl) (fun _ _ _ h => h) (Or.inl ⟨by rfl, ?_⟩) hHeld ?_
    rotate_left 1
    · (intro w hSw; go_simp; try with_reducible rfl)
    try simp only [Act.put, List.setIfInBounds_toArray, List.set_cons_zero, List.set_cons_succ]
    refine takeL 2 (v := ?_) rfl (by kernel_rfl) (by kernel_rfl) (by kernel_rfl) (fun _ _ _ h => h) (Or.inl ⟨by rfl, ?_⟩) hHeld ?_
    rotate_left 1
    · (intro w hSw; go_simp; try with_reducible rfl)
    try simp only [Act.put, List.setIfInBounds_toArray, List.set_cons_zero, List.set_cons_succ]
    refine takeL 3 (v := ?_) rfl (by kernel_rfl) (by kernel_rfl) (by kernel_rfl) (fun _ _ _ h => h) (Or.inl ⟨by rfl, ?_⟩) hHeld ?_
    rotate_left 1
    · (intro w hSw; go_simp; try with_reducible rfl)
    try simp only [Act.put, List.setIfInBounds_toArray, List.set_cons_zero, List.set_cons_succ]
    refine takeL 4 (v := ?_) rfl (by kernel_rfl) (by kernel_rfl) (by kernel_rfl) (fun _ _ _ h => h) (Or.inl ⟨by rfl, ?_⟩) hHeld ?_
    rotate_left 1
    · (intro w hSw; go_simp; try with_reducible rfl)
    try simp only [Act.put, List.setIfInBounds_toArray, List.set_cons_zero, List.set_cons_succ]
    refine takeL 5 (v := ?_) rfl (by kernel_rfl) (by kernel_rfl) (by kernel_rfl) (fun _ _ _ h => h) (Or.inl ⟨by rfl, ?_⟩) hHeld ?_
    rotate_left 1
    · (intro w hSw; go_simp; try with_reducible rfl)
    try simp only [Act.put, List.setIfInBounds_toArray, List.set_cons_zero, List.set_cons_succ]
    refine takeL 6 rfl (by kernel_rfl) (by kernel_rfl) (by kernel_rfl) (fun _ _ _ h => h) (yieldsIf_load_mid (by rfl) _ _ rfl _ _ rfl _ _ (fun w hSw => hSw.1) Tryd.underlying62 rfl (by kernel_rfl)) hHeld ?_
    try simp only [Act.put, List.setIfInBounds_toArray, List.set_cons_zero, List.set_cons_succ]
    refine takeL 8 rfl (by kernel_rfl) (by kernel_rfl) (by kernel_rfl) (fun _ _ _ h => h) (yieldsIf_load_mid (by rfl) _ _ rfl _ _ rfl _ _ (fun w hSw => hSw.2) Tryd.underlying50 rfl (by kernel_rfl)) hHeld ?_
    try simp only [Act.put, List.setIfInBounds_toArray, List.set_cons_zero, List.set_cons_succ]
    refine stepL 7 (by kernel_rfl) rfl (fun K hK => ?_)
    go_simp
    refine (HOf.out W1).mono ?_
    rintro e W2 ⟨rfl, hb⟩
    show K _ _
    have R2 := Bx.mk (R1.out.later hb)
    clear hb R1
    refine hK.out _ _ (⟨row_rng8 (l := [.int .i64 (256 * g0 + g1), .int .i64 (256 * g2 + g3), .int .i64 (256 * g4 + g5), .int .i64 (256 * g6 + g7), .int .u8 (ub p.a), .int .u8 (ub p.b), .int .u8 (ub p.c), .int .u8 (ub p.d), .int .u8 (ub p.e), .int .u8 (ub p.f), .int .u8 (ub p.g), .int .u8 (ub p.h)]) (R2.out.rows _ (.tail _ (.head _))), row_rng8 (l := [.int .i64 (256 * g0 + g1), .int .i64 (256 * g2 + g3), .int .i64 (256 * g4 + g5), .int .i64 (256 * g6 + g7), .int .u8 (ub p.a), .int .u8 (ub p.b), .int .u8 (ub p.c), .int .u8 (ub p.d), .int .u8 (ub p.e), .int .u8 (ub p.f), .int .u8 (ub p.g), .int .u8 (ub p.h)]) (R2.out.rows _ (.head _))⟩) (fun hHeld => ?_)
    clear hK K
    try simp only [Act.put, List.setIfInBounds_toArray, List.set_cons_zero, List.set_cons_succ]
    refine takeL 9 (v := ?_) rfl (by kernel_rfl) (by kernel_rfl) (by kernel_rfl) (fun _ _ _ h => h) (Or.inl ⟨by rfl, ?_⟩) hHeld ?_
    rotate_left 1
    · (intro w hSw; go_simp; try with_reducible rfl)
    try simp only [Act.put, List.setIfInBounds_toArray, List.set_cons_zero, List.set_cons_succ]
    refine takeL 10 (v := ?_) rfl (by kernel_rfl) (by kernel_rfl) (by kernel_rfl) (fun _ _ _ h => h) (Or.inl ⟨by rfl, ?_⟩) hHeld ?_
    rotate_left 1
    · (intro w hSw; go_simp; try with_reducible rfl)
    try simp only [Act.put, List.setIfInBounds_toArray, List.set_cons_zero, List.set_cons_succ]
    refine takeL 11 (v := ?_) rfl (by kernel_rfl) (by kernel_rfl) (by kernel_rfl) (fun _ _ _ h => h) (Or.inl ⟨by rfl, ?_⟩) hHeld ?_
    rotate_left 1
    · (intro w hSw; go_simp; try with_reducible rfl)
    try simp only [Act.put, List.setIfInBounds_toArray, List.set_cons_zero, List.set_cons_succ]
    refine wpAnyH_done (by kernel_rfl) ?_ _
    refine NoPanic.normal ?_
    clear hHeld
    go_wp2_with fail
    go_ret
    exact ⟨rfl, R2.out.below⟩
end Go.Proofs.YtnfgamekjbkbkaaDoor
