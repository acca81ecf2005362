/-
  RevokeMerges: the frame; the loops that make three sets.
-/
import Derived.Test.YtmfhdhggpepbbaaDoorFj
namespace Go.Proofs.YtmfhdhggpepbbaaDoor
open Go Go.RowKit
set_option maxRecDepth 100000 in
theorem open194 {a : Act} (h : Fr 194 a) : ∃ x : Nat → Value, a = ⟨List.toArray (x 0 :: x 1 :: x 2 :: x 3 :: x 4 :: x 5 :: x 6 :: x 7 :: x 8 :: x 9 :: x 10 :: x 11 :: x 12 :: x 13 :: x 14 :: x 15 :: x 16 :: x 17 :: x 18 :: x 19 :: x 20 :: x 21 :: x 22 :: x 23 :: x 24 :: x 25 :: x 26 :: x 27 :: x 28 :: x 29 :: x 30 :: x 31 :: x 32 :: x 33 :: x 34 :: x 35 :: x 36 :: x 37 :: x 38 :: x 39 :: x 40 :: x 41 :: x 42 :: x 43 :: x 44 :: x 45 :: x 46 :: x 47 :: x 48 :: x 49 :: x 50 :: x 51 :: x 52 :: x 53 :: x 54 :: x 55 :: x 56 :: x 57 :: x 58 :: x 59 :: x 60 :: x 61 :: x 62 :: x 63 :: x 64 :: x 65 :: x 66 :: x 67 :: x 68 :: x 69 :: x 70 :: x 71 :: x 72 :: x 73 :: x 74 :: x 75 :: x 76 :: x 77 :: x 78 :: x 79 :: x 80 :: x 81 :: x 82 :: x 83 :: x 84 :: x 85 :: x 86 :: x 87 :: x 88 :: x 89 :: x 90 :: x 91 :: x 92 :: x 93 :: x 94 :: x 95 :: x 96 :: x 97 :: x 98 :: x 99 :: x 100 :: x 101 :: x 102 :: x 103 :: x 104 :: x 105 :: x 106 :: x 107 :: x 108 :: x 109 :: x 110 :: x 111 :: x 112 :: x 113 :: x 114 :: x 115 :: x 116 :: x 117 :: x 118 :: x 119 :: x 120 :: x 121 :: x 122 :: x 123 :: x 124 :: x 125 :: x 126 :: x 127 :: x 128 :: x 129 :: x 130 :: x 131 :: x 132 :: x 133 :: x 134 :: x 135 :: x 136 :: x 137 :: x 138 :: x 139 :: x 140 :: x 141 :: x 142 :: x 143 :: x 144 :: x 145 :: x 146 :: x 147 :: x 148 :: x 149 :: x 150 :: x 151 :: x 152 :: x 153 :: x 154 :: x 155 :: x 156 :: x 157 :: x 158 :: x 159 :: x 160 :: x 161 :: x 162 :: x 163 :: x 164 :: x 165 :: x 166 :: x 167 :: x 168 :: x 169 :: x 170 :: x 171 :: x 172 :: x 173 :: x 174 :: x 175 :: x 176 :: x 177 :: x 178 :: x 179 :: x 180 :: x 181 :: x 182 :: x 183 :: x 184 :: x 185 :: x 186 :: x 187 :: x 188 :: x 189 :: x 190 :: x 191 :: x 192 :: x 193 :: []), []⟩ ∧ ∀ i, a.eval (.tmp i) = x i := ⟨fun i => a.tmps.getD i undef, h.form, fun _ => rfl⟩
/-- What a round leaves alone. -/
structure MF (v4 v9 v10 v11 : Value) (a : Act) : Prop where
  fr : Fr 194 a
  s4 : a.eval (.tmp 4) = v4
  s9 : a.eval (.tmp 9) = v9
  s10 : a.eval (.tmp 10) = v10
  s11 : a.eval (.tmp 11) = v11
/-- Between two rounds of the inner loop. -/
structure MI (w : World) (E : Nat) (u : VV) (L : L4) (k i : Nat) (a : Act) (W : World) : Prop where
  fr : MF (.pointer (some ⟨E, 0, none⟩)) (.pointer (some ⟨E + 4, 0, none⟩)) (.pointer (some ⟨E + 5, 0, none⟩)) (.int .i64 (k : Int)) a
  s12 : a.eval (.tmp 12) = .int .i64 (i : Int)
  st : ∃ P M, MM w E u (k + 1) P M W ∧ HalfOf L i (M k) ∧ Good (M k) ∧ ∀ j, j < k → ∃ n : N4, n.Le L.len ∧ M j = L.pre n
  chk : ∀ t, t < i → allS (lN L t) = true ∧ dupB (lN L t) = false
/-- Between two rounds of the outer loop. -/
structure MO (w : World) (E : Nat) (u : VV) (L : L4) (k : Nat) (a : Act) (W : World) : Prop where
  fr : MF (.pointer (some ⟨E, 0, none⟩)) (.pointer (some ⟨E + 4, 0, none⟩)) (.pointer (some ⟨E + 5, 0, none⟩)) (.int .i64 (k : Int)) a
  st : ∃ P M, MM w E u k P M W ∧ ∀ j, j < k → ∃ n : N4, n.Le L.len ∧ M j = L.pre n
  chk : 0 < k → ∀ t, t < 4 → allS (lN L t) = true ∧ dupB (lN L t) = false
set_option maxRecDepth 100000 in
set_option maxHeartbeats 4000000 in
theorem roundMI (w : World) (E : Nat) (u : VV) (m : L4) (hE : w.heap.size = E) (hx : RowsI w u m) (hm : Most m 9223372036854775807)
    (Q : Exit → Act → World → Prop) (hret : ∀ a' w', Fr 194 a' → a'.eval (.tmp 8) = .bool true → Below E w w' → Q .ret a' w') (k i : Nat) (a : Act) (wr : World) (hk : k < 3) (hi : i < 4) (h : MI w E u (m.take 40) k i a wr) :
    Code.wp Tryd.prog (loopAt (Tryd.f5.body) 1) (Exit.then (fun a' w' => MI w E u (m.take 40) k (i + 1) a' w') Q) a wr := by
  obtain ⟨P, M, hMM, hH, hG, hJ⟩ := h.st
  have HRet := Bx.mk hret
  have HIn := Bx.mk (fun W (hb : Below E w W) => (hx.later (by rw [hE]; exact hb)).nth i hi)
  have hml := hm.nth i hi
  obtain ⟨ai, ci, huN, -⟩ := (hx.nth i hi)
  have c0 : wr.cell? ⟨E, i, none⟩ = some (.slice ai (lN m i).length ci) := by
    rw [cell_of_row _ _ _ _ _ _ (hMM.kr.rows _ (.head _)), ← huN]
    exact uN_at u i hi
  rw [huN] at HIn
  have HLt : Bx (lN (m.take 40) i = (lN m i).take 40) := ⟨lN_take m 40 i hi⟩
  have HH := Bx.mk (And.intro hH (And.intro hG hJ))
  have HMM := Bx.mk hMM
  have HChk := Bx.mk h.chk
  have HNx : Bx (∀ d, d ≤ (lN (m.take 40) i).length → (revL (M k) (i : Int) ((lN (m.take 40) i).take d)).1 = 0 → HalfOf (m.take 40) (i + 1) (revL (M k) (i : Int) ((lN (m.take 40) i).take d)).2) := ⟨fun d hd hr => hH.next hi hd hr⟩
  have HGx : Bx (∀ t, Good (revL (M k) (i : Int) t).2) := ⟨fun t => revL_good hG _ _⟩
  rw [HLt.out] at HNx
  generalize hl0 : lN m i = t0 at *
  obtain ⟨n0, hn0⟩ : ∃ n, t0.length = n := ⟨_, rfl⟩
  rw [hn0] at c0 HIn
  have HN0 : Bx (t0.length ≤ 9223372036854775807) := ⟨hml⟩
  have hk0 : (0 : Int) ≤ (k : Int) := by omega
  have hk1 : (k : Int) < 3 := by omega
  have hi0 : (0 : Int) ≤ (i : Int) := by omega
  have hi1 : (i : Int) < 4 := by omega
  have hki : k * 4 + i < 12 := by omega
  obtain ⟨x, rfl, hx⟩ := open194 h.fr.fr
  have e4 := (hx 4).symm.trans h.fr.s4
  have e9 := (hx 9).symm.trans h.fr.s9
  have e10 := (hx 10).symm.trans h.fr.s10
  have e11 := (hx 11).symm.trans h.fr.s11
  have e12 := (hx 12).symm.trans h.s12
  clear h hx hret hm hml huN hl0 hH hG hJ hMM hE hn0
  rw [e4, e9, e10, e11, e12]
  clear e4 e9 e10 e11 e12
  conv => arg 2; whnf
  go_wp2_with fail
  refine (few8 t0 _ 40 wr (HIn.out wr HMM.out.kr.below) HN0.out (by omega)).mono ?_
  rintro e w1 ⟨q, rfl, hq, hb⟩
  obtain ⟨aq, cq, rfl, hcq, -⟩ := id hq
  have M1 := Bx.mk (HMM.out.later hb)
  have HQ := Bx.mk hq
  have HTl : Bx ((t0.take 40).length ≤ 40) := ⟨by rw [List.length_take]; omega⟩
  clear hb hq HMM HIn c0 HN0
  generalize t0.take 40 = t at *
  obtain ⟨nt, hnt⟩ : ∃ n, t.length = n := ⟨_, rfl⟩
  rw [hnt] at hcq HQ HTl ⊢
  have HNt := Bx.mk hnt
  have hnt4 : (nt : Int) ≤ 40 := by have := HTl.out; omega
  have hnt0 : (0 : Int) ≤ (nt : Int) := by omega
  clear hnt
  go_upto_region 12 with fail
  obtain ⟨f, hf⟩ := M1.out.cut
  have R0 := Bx.mk (And.intro (M1.out.later (Below.refl _ _).drew) (And.intro (show w1.drew.heap[E + 4]? = some (.cells (cutC f) 62 (0, 0)) from hf) (HQ.out.later (Below.refl _ _).drew)))
  clear hf M1 HQ
  obtain ⟨x, hxf⟩ : ∃ x, f (k * 4 + i) = x := ⟨_, rfl⟩
  have HXf := Bx.mk hxf
  have hrm : 0 ≤ (IntKind.u64.wrap x).tmod ((nt : Int) + 1) ∧ (IntKind.u64.wrap x).tmod ((nt : Int) + 1) ≤ (nt : Int) := by
    have h1 : 0 ≤ IntKind.u64.wrap x := by rw [IntKind.wrap_u64]; omega
    rw [Int.tmod_eq_emod_of_nonneg h1]
    have h2 := Int.emod_nonneg (IntKind.u64.wrap x) (show ((nt : Int) + 1) ≠ 0 by omega)
    have h3 := Int.emod_lt_of_pos (IntKind.u64.wrap x) (show 0 < ((nt : Int) + 1) by omega)
    omega
  obtain ⟨cc, hcc⟩ : ∃ c : Nat, (IntKind.u64.wrap x).tmod ((nt : Int) + 1) = (c : Int) := ⟨((IntKind.u64.wrap x).tmod ((nt : Int) + 1)).toNat, by omega⟩
  have hcn : cc ≤ nt := by omega
  have hcw : IntKind.i64.wrap (cc : Int) = (cc : Int) := by rw [IntKind.wrap_i64]; omega
  have hnw : IntKind.i64.wrap ((nt : Int) + 1) = (nt : Int) + 1 := by rw [IntKind.wrap_i64]; omega
  have hnu : IntKind.u64.wrap ((nt : Int) + 1) = (nt : Int) + 1 := by rw [IntKind.wrap_u64]; omega
  have hnz : ¬ ((nt : Int) + 1 = 0) := by omega
  clear hrm hxf
  refine wp_region_noPanic ?_
  refine wp_region_held_drew (S := fun _ => True) (by kernel_rfl) (trivial) (fun hHeld => ?_)
  generalize w1.drew = W0 at *
  refine takeL 0 (v := ?_) rfl (by kernel_rfl) (by kernel_rfl) (by kernel_rfl) (fun _ _ _ h => h) (Or.inl ⟨by rfl, ?_⟩) hHeld ?_
  rotate_left 1
  · (intro w hSw; go_simp; try with_reducible rfl)
  try simp only [Act.put, List.setIfInBounds_toArray, List.set_cons_zero, List.set_cons_succ]
  refine takeL 1 (v := ?_) rfl (by kernel_rfl) (by kernel_rfl) (by kernel_rfl) (fun _ _ _ h => h) (Or.inl ⟨by rfl, ?_⟩) hHeld ?_
  rotate_left 1
  · (intro w hSw; go_simp; try with_reducible rfl)
  try simp only [Act.put, List.setIfInBounds_toArray, List.set_cons_zero, List.set_cons_succ]
  refine takeL 2 (v := ?_) rfl (by kernel_rfl) (by kernel_rfl) (by kernel_rfl) (fun _ _ _ h => h) (Or.inl ⟨by rfl, ?_⟩) hHeld ?_
  rotate_left 1
  · (intro w hSw; go_simp; try with_reducible rfl)
  try simp only [Act.put, List.setIfInBounds_toArray, List.set_cons_zero, List.set_cons_succ]
  refine takeL 3 (v := ?_) rfl (by kernel_rfl) (by kernel_rfl) (by kernel_rfl) (fun _ _ _ h => h) (Or.inl ⟨by rfl, ?_⟩) hHeld ?_
  rotate_left 1
  · (intro w hSw; go_simp; try with_reducible rfl)
  try simp only [Act.put, List.setIfInBounds_toArray, List.set_cons_zero, List.set_cons_succ]
  refine takeL 4 (v := ?_) rfl (by kernel_rfl) (by kernel_rfl) (by kernel_rfl) (fun _ _ _ h => h) (Or.inl ⟨by rfl, ?_⟩) hHeld ?_
  rotate_left 1
  · (intro w hSw; go_simp; try with_reducible rfl)
  try simp only [Act.put, List.setIfInBounds_toArray, List.set_cons_zero, List.set_cons_succ]
  refine takeL 5 (v := ?_) rfl (by kernel_rfl) (by kernel_rfl) (by kernel_rfl) (fun _ _ _ h => h) (Or.inl ⟨by rfl, ?_⟩) hHeld ?_
  rotate_left 1
  · (intro w hSw; go_simp; try with_reducible rfl)
  try simp only [Act.put, List.setIfInBounds_toArray, List.set_cons_zero, List.set_cons_succ]
  refine takeL 8 (v := ?_) rfl (by kernel_rfl) (by kernel_rfl) (by kernel_rfl) (fun _ _ _ h => h) (Or.inl ⟨by rfl, ?_⟩) hHeld ?_
  rotate_left 1
  · (intro w hSw; go_simp; try with_reducible rfl)
  try simp only [Act.put, List.setIfInBounds_toArray, List.set_cons_zero, List.set_cons_succ]
  refine takeL 9 (v := ?_) rfl (by kernel_rfl) (by kernel_rfl) (by kernel_rfl) (fun _ _ _ h => h) (Or.inl ⟨by rfl, ?_⟩) hHeld ?_
  rotate_left 1
  · (intro w hSw; go_simp; try with_reducible rfl)
  try simp only [Act.put, List.setIfInBounds_toArray, List.set_cons_zero, List.set_cons_succ]
  refine takeL 10 (v := ?_) rfl (by kernel_rfl) (by kernel_rfl) (by kernel_rfl) (fun _ _ _ h => h) (Or.inl ⟨by rfl, ?_⟩) hHeld ?_
  rotate_left 1
  · (intro w hSw; go_simp; try with_reducible rfl)
  try simp only [Act.put, List.setIfInBounds_toArray, List.set_cons_zero, List.set_cons_succ]
  refine takeL 11 (v := ?_) rfl (by kernel_rfl) (by kernel_rfl) (by kernel_rfl) (fun _ _ _ h => h) (Or.inl ⟨by rfl, ?_⟩) hHeld ?_
  rotate_left 1
  · (intro w hSw; go_simp; try with_reducible rfl)
  try simp only [Act.put, List.setIfInBounds_toArray, List.set_cons_zero, List.set_cons_succ]
  refine takeL 14 (v := ?_) rfl (by kernel_rfl) (by kernel_rfl) (by kernel_rfl) (fun _ _ _ h => h) (Or.inl ⟨by rfl, ?_⟩) hHeld ?_
  rotate_left 1
  · (intro w hSw; go_simp; try with_reducible rfl)
  try simp only [Act.put, List.setIfInBounds_toArray, List.set_cons_zero, List.set_cons_succ]
  refine stepL 6 (by kernel_rfl) rfl (fun K hK => ?_)
  have cu : W0.cell? ⟨E + 4, k * 4 + i, none⟩ = some (.int .i64 x) := by rw [cell_of_row _ _ _ _ _ _ R0.out.2.1, cutC_at f _ hki, HXf.out]
  go_simp
  refine hK.out _ _ trivial (fun hHeld => ?_)
  clear hK K cu
  try simp only [Act.put, List.setIfInBounds_toArray, List.set_cons_zero, List.set_cons_succ]
  refine takeL 7 (v := ?_) rfl (by kernel_rfl) (by kernel_rfl) (by kernel_rfl) (fun _ _ _ h => h) (Or.inl ⟨by rfl, ?_⟩) hHeld ?_
  rotate_left 1
  · (intro w hSw; go_simp; try with_reducible rfl)
  try simp only [Act.put, List.setIfInBounds_toArray, List.set_cons_zero, List.set_cons_succ]
  refine takeL 12 (v := ?_) rfl (by kernel_rfl) (by kernel_rfl) (by kernel_rfl) (fun _ _ _ h => h) (Or.inl ⟨by rfl, ?_⟩) hHeld ?_
  rotate_left 1
  · (intro w hSw; go_simp; try with_reducible rfl)
  try simp only [Act.put, List.setIfInBounds_toArray, List.set_cons_zero, List.set_cons_succ]
  refine takeL 13 (v := ?_) rfl (by kernel_rfl) (by kernel_rfl) (by kernel_rfl) (fun _ _ _ h => h) (Or.inl ⟨by rfl, ?_⟩) hHeld ?_
  rotate_left 1
  · (intro w hSw; go_simp; try with_reducible rfl)
  try simp only [Act.put, List.setIfInBounds_toArray, List.set_cons_zero, List.set_cons_succ]
  refine takeL 15 (v := ?_) rfl (by kernel_rfl) (by kernel_rfl) (by kernel_rfl) (fun _ _ _ h => h) (Or.inl ⟨by rfl, ?_⟩) hHeld ?_
  rotate_left 1
  · (intro w hSw; go_simp; try with_reducible rfl)
  try simp only [Act.put, List.setIfInBounds_toArray, List.set_cons_zero, List.set_cons_succ]
  refine stepL 16 (by kernel_rfl) rfl (fun K hK => ?_)
  refine step_cellI rfl _ _ rfl (E + 4) (k * 4 + i) (cc : Int) (cutC f) (cutC (fun t => if t = k * 4 + i then (cc : Int) else f t)) 62 (by rfl) (by rfl) R0.out.2.1 (by unfold cutC; simpa using hki) (cutC_set f _ _) ?_
  intro W1 hg hc
  show K _ _
  have R1 := Bx.mk (And.intro (R0.out.1.cuts hg hc) (And.intro hc (R0.out.2.2.grown hg R0.out.2.1 cut_int)))
  clear hg hc R0
  refine hK.out _ _ trivial (fun hHeld => ?_)
  clear hK K
  try simp only [Act.put]
  refine wpAnyH_done (by kernel_rfl) ?_ _
  refine NoPanic.normal ?_
  clear hHeld
  have hcut := fun W => cut_h aq nt cq cc (Nat.le_trans hcn hcq) W
  have HCut : Bx (∀ W, IsL W (.slice aq nt cq) t → IsL W (.slice aq cc cq) (t.take cc)) := ⟨fun W h => h.cut cc hcn cq (by omega) (fun e => by
    obtain ⟨_, _, hv, _, hn, _⟩ := h
    injection hv with v1 v2 v3
    subst v1 v3
    exact hn e)⟩
  have HSt : Bx (∀ W M, MM w E u (k + 1) P M W → W.heap[E + 4]? = some (.cells (cutC (fun t => if t = k * 4 + i then (cc : Int) else f t)) 62 (0, 0)) → W.cell? ⟨E + 5, k, none⟩ = some (.pointer (some ⟨P k, 0, none⟩)) ∧ W.cell? ⟨E + 4, k * 4 + i, none⟩ = some (.int .i64 (cc : Int))) := ⟨fun W M h h2 => ⟨by rw [cell_of_row _ _ _ _ _ _ h.set, ptrC_at _ _ _ (by omega) hk], by rw [cell_of_row _ _ _ _ _ _ h2, cutC_at _ _ hki]; simp⟩⟩
  have HTn : Bx ((t.take cc).length ≤ 1000) := ⟨by rw [List.length_take]; have := HTl.out; have := HNt.out; omega⟩
  have HNy := Bx.mk (HNx.out cc (by rw [HNt.out]; exact hcn))
  have HGy := Bx.mk (HGx.out (t.take cc))
  have HRv := Bx.mk (fun W (hs : SetAt W (P k) (M k)) (hv : IsL W (.slice aq nt cq) t) => revoke_any (i : Int) (.slice aq cc cq) (t.take cc) (P k) (M k) W hs HH.out.2.1 (HCut.out W hv) HTn.out)
  generalize revL (M k) (i : Int) (t.take cc) = rv at *
  obtain ⟨r1, r2⟩ := rv
  simp only at HNy HGy HRv
  clear hcn hcq hcc hcw hnw hnu hnz HNx HGx HCut HTn HXf
  go_upto_region 13 with fail
  have R0 := Bx.mk (And.intro (R1.out.1.later (Below.refl _ _).drew) (And.intro (show W1.drew.heap[E + 4]? = _ from R1.out.2.1) (R1.out.2.2.later (Below.refl _ _).drew)))
  clear R1
  refine wp_region_noPanic ?_
  refine wp_region_held_drew (S := fun W => W.cell? ⟨E + 5, k, none⟩ = some (.pointer (some ⟨P k, 0, none⟩)) ∧ W.cell? ⟨E + 4, k * 4 + i, none⟩ = some (.int .i64 (cc : Int))) (by kernel_rfl) (HSt.out _ _ R0.out.1 R0.out.2.1) (fun hHeld => ?_)
  generalize W1.drew = W2 at *
  refine takeL 0 (v := ?_) rfl (by kernel_rfl) (by kernel_rfl) (by kernel_rfl) (fun _ _ _ h => h) (Or.inl ⟨by rfl, ?_⟩) hHeld ?_
  rotate_left 1
  · (intro w hSw; go_simp; try with_reducible rfl)
  try simp only [Act.put, List.setIfInBounds_toArray, List.set_cons_zero, List.set_cons_succ]
  refine takeL 1 (v := ?_) rfl (by kernel_rfl) (by kernel_rfl) (by kernel_rfl) (fun _ _ _ h => h) (Or.inl ⟨by rfl, ?_⟩) hHeld ?_
  rotate_left 1
  · (intro w hSw; go_simp; try with_reducible rfl)
  try simp only [Act.put, List.setIfInBounds_toArray, List.set_cons_zero, List.set_cons_succ]
  refine takeL 2 (v := ?_) rfl (by kernel_rfl) (by kernel_rfl) (by kernel_rfl) (fun _ _ _ h => h) (Or.inl ⟨by rfl, ?_⟩) hHeld ?_
  rotate_left 1
  · (intro w hSw; have c1 := hSw.1; go_simp; try with_reducible rfl)
  try simp only [Act.put, List.setIfInBounds_toArray, List.set_cons_zero, List.set_cons_succ]
  refine takeL 3 (v := ?_) rfl (by kernel_rfl) (by kernel_rfl) (by kernel_rfl) (fun _ _ _ h => h) (Or.inl ⟨by rfl, ?_⟩) hHeld ?_
  rotate_left 1
  · (intro w hSw; go_simp; try with_reducible rfl)
  try simp only [Act.put, List.setIfInBounds_toArray, List.set_cons_zero, List.set_cons_succ]
  refine takeL 4 (v := ?_) rfl (by kernel_rfl) (by kernel_rfl) (by kernel_rfl) (fun _ _ _ h => h) (Or.inl ⟨by rfl, ?_⟩) hHeld ?_
  rotate_left 1
  · (intro w hSw; go_simp; try with_reducible rfl)
  try simp only [Act.put, List.setIfInBounds_toArray, List.set_cons_zero, List.set_cons_succ]
  refine takeL 5 (v := ?_) rfl (by kernel_rfl) (by kernel_rfl) (by kernel_rfl) (fun _ _ _ h => h) (Or.inl ⟨by rfl, ?_⟩) hHeld ?_
  rotate_left 1
  · (intro w hSw; go_simp; try with_reducible rfl)
  try simp only [Act.put, List.setIfInBounds_toArray, List.set_cons_zero, List.set_cons_succ]
  refine takeL 6 (v := ?_) rfl (by kernel_rfl) (by kernel_rfl) (by kernel_rfl) (fun _ _ _ h => h) (Or.inl ⟨by rfl, ?_⟩) hHeld ?_
  rotate_left 1
  · (intro w hSw; go_simp; try with_reducible rfl)
  try simp only [Act.put, List.setIfInBounds_toArray, List.set_cons_zero, List.set_cons_succ]
  refine takeL 7 (v := ?_) rfl (by kernel_rfl) (by kernel_rfl) (by kernel_rfl) (fun _ _ _ h => h) (Or.inl ⟨by rfl, ?_⟩) hHeld ?_
  rotate_left 1
  · (intro w hSw; go_simp; try with_reducible rfl)
  try simp only [Act.put, List.setIfInBounds_toArray, List.set_cons_zero, List.set_cons_succ]
  refine takeL 8 (v := ?_) rfl (by kernel_rfl) (by kernel_rfl) (by kernel_rfl) (fun _ _ _ h => h) (Or.inl ⟨by rfl, ?_⟩) hHeld ?_
  rotate_left 1
  · (intro w hSw; go_simp; try with_reducible rfl)
  try simp only [Act.put, List.setIfInBounds_toArray, List.set_cons_zero, List.set_cons_succ]
  refine takeL 9 (v := ?_) rfl (by kernel_rfl) (by kernel_rfl) (by kernel_rfl) (fun _ _ _ h => h) (Or.inl ⟨by rfl, ?_⟩) hHeld ?_
  rotate_left 1
  · (intro w hSw; have c1 := hSw.2; go_simp; try with_reducible rfl)
  try simp only [Act.put, List.setIfInBounds_toArray, List.set_cons_zero, List.set_cons_succ]
  refine takeL 10 (v := ?_) rfl (by kernel_rfl) (by kernel_rfl) (by kernel_rfl) (fun _ _ _ h => h) (Or.inl ⟨by rfl, ?_⟩) hHeld ?_
  rotate_left 1
  · (intro w hSw; have h3 := hcut w; go_simp; try with_reducible rfl)
  try simp only [Act.put, List.setIfInBounds_toArray, List.set_cons_zero, List.set_cons_succ]
  refine stepL 11 (by kernel_rfl) rfl (fun K hK => ?_)
  go_simp
  refine (HRv.out W2 (R0.out.1.at_ k (by omega)) R0.out.2.2).mono ?_
  rintro e W3 ⟨rfl, hs, hg⟩
  show K _ _
  have R1 := Bx.mk (And.intro (R0.out.1.told (by omega) hg hs) (And.intro ((hg.block _ (Array.getElem?_eq_some_iff.1 R0.out.2.1).1 (fun e => by injection e with e; have := R0.out.1.lo k (by omega); omega)).trans R0.out.2.1) (R0.out.2.2.beside (R0.out.1.at_ k (by omega)) hg)))
  clear hs hg R0 HRv
  refine hK.out _ _ (HSt.out _ _ R1.out.1 R1.out.2.1) (fun hHeld => ?_)
  clear hK K
  try simp only [Act.put, List.setIfInBounds_toArray, List.set_cons_zero, List.set_cons_succ]
  refine takeL 12 (v := ?_) rfl (by kernel_rfl) (by kernel_rfl) (by kernel_rfl) (fun _ _ _ h => h) (Or.inl ⟨by rfl, ?_⟩) hHeld ?_
  rotate_left 1
  · (intro w hSw; go_simp; try with_reducible rfl)
  try simp only [Act.put, List.setIfInBounds_toArray, List.set_cons_zero, List.set_cons_succ]
  refine wpAnyH_done (by kernel_rfl) ?_ _
  refine NoPanic.normal ?_
  clear hHeld
  clear hcut HSt
  by_cases hr1 : r1 = 0
  case neg =>
    go_wp2_with fail
    refine (known8_any W3).mono ?_
    rintro e q1 ⟨rfl, hb⟩
    have B1 := Bx.mk (R1.out.1.kr.later hb).below
    clear hb R1
    go_wp2
    exact HRet.out _ _ ⟨rfl, rfl⟩ rfl B1.out
  subst hr1
  have HRi := Bx.mk (fun W (hv : IsL W (.slice aq nt cq) t) => rright8 t _ W hv (by have := HTl.out; have := HNt.out; omega))
  have HTw := Bx.mk (fun W (hv : IsL W (.slice aq nt cq) t) => rtwice8 t _ W hv (by have := HTl.out; have := HNt.out; omega))
  cases hz : allS t with
  | false =>
    rw [hz] at HRi
    go_wp2_with fail
    refine (HRi.out W3 R1.out.2.2).mono ?_
    rintro e W4 ⟨rfl, rfl⟩
    go_wp2_with fail
    refine (known8_any W4).mono ?_
    rintro e q1 ⟨rfl, hb⟩
    have B1 := Bx.mk (R1.out.1.kr.later hb).below
    clear hb R1
    go_wp2
    exact HRet.out _ _ ⟨rfl, rfl⟩ rfl B1.out
  | true =>
    rw [hz] at HRi
    go_wp2_with fail
    refine (HRi.out W3 R1.out.2.2).mono ?_
    rintro e W4 ⟨rfl, rfl⟩
    cases hd : dupB t with
    | true =>
      rw [hd] at HTw
      go_wp2_with fail
      refine (HTw.out W4 R1.out.2.2).mono ?_
      rintro e W5 ⟨rfl, hb⟩
      have R2 := Bx.mk (And.intro (R1.out.1.later hb) trivial)
      clear hb R1
      go_wp2_with fail
      refine (known8_any W5).mono ?_
      rintro e q1 ⟨rfl, hb⟩
      have B1 := Bx.mk (R2.out.1.kr.later hb).below
      clear hb R2
      go_wp2
      exact HRet.out _ _ ⟨rfl, rfl⟩ rfl B1.out
    | false =>
      rw [hd] at HTw
      go_wp2_with fail
      refine (HTw.out W4 R1.out.2.2).mono ?_
      rintro e W5 ⟨rfl, hb⟩
      have R2 := Bx.mk (R1.out.1.later hb)
      have HZ := Bx.mk (And.intro hz hd)
      clear hb R1 HTw HRi hz hd
      go_wp2
      refine ⟨⟨⟨rfl, rfl⟩, rfl, rfl, rfl, rfl⟩, by first | rfl | go_num, ⟨P, _, R2.out, ?_, ?_, fun j hj => ?_⟩, fun t' ht' => ?_⟩
      · simp only [if_pos]
        exact HNy.out (by first | rfl | trivial)
      · simp only [if_pos]
        exact HGy.out
      · simp only [if_neg (show ¬ j = k by omega)]
        exact HH.out.2.2 j hj
      · by_cases e : t' = i
        · subst e
          rw [HLt.out]
          exact HZ.out
        · exact HChk.out t' (by omega)
set_option maxRecDepth 100000 in
set_option maxHeartbeats 1000000 in
theorem lastMI (w : World) (E : Nat) (u : VV) (L : L4) (Q : Exit → Act → World → Prop) (N : Act → World → Prop) (k : Nat) (a : Act) (wr : World) (h : MI w E u L k 4 a wr)
    (hq : ∀ a' w', MI w E u L k 4 a' w' → Q (.exit 2) a' w') : Code.wp Tryd.prog (loopAt (Tryd.f5.body) 1) (Exit.then N Q) a wr := by
  have HQ := Bx.mk hq
  have HS := Bx.mk (And.intro h.st h.chk)
  obtain ⟨x, rfl, hx⟩ := open194 h.fr.fr
  have e4 := (hx 4).symm.trans h.fr.s4
  have e9 := (hx 9).symm.trans h.fr.s9
  have e10 := (hx 10).symm.trans h.fr.s10
  have e11 := (hx 11).symm.trans h.fr.s11
  have e12 := (hx 12).symm.trans h.s12
  clear h hx hq
  rw [e4, e9, e10, e11, e12]
  clear e4 e9 e10 e11 e12
  conv => arg 2; whnf
  go_wp2
  exact HQ.out _ _ ⟨⟨⟨rfl, rfl⟩, rfl, rfl, rfl, rfl⟩, rfl, HS.out.1, HS.out.2⟩
theorem loopMI (w : World) (E : Nat) (u : VV) (m : L4) (hE : w.heap.size = E) (hx : RowsI w u m) (hm : Most m 9223372036854775807)
    (Q : Exit → Act → World → Prop) (hret : ∀ a' w', Fr 194 a' → a'.eval (.tmp 8) = .bool true → Below E w w' → Q .ret a' w') (k : Nat) (a : Act) (wr : World) (hk : k < 3) (h : MI w E u (m.take 40) k 0 a wr)
    (hq : ∀ a' w', MI w E u (m.take 40) k 4 a' w' → Q (.exit 2) a' w') : Code.wp Tryd.prog (.loop (loopAt (Tryd.f5.body) 1)) Q a wr :=
  wp_count 4 (fun i a w' => MI w E u (m.take 40) k i a w') 0 (Nat.zero_le _) h (fun i a w' hi hI => roundMI w E u m hE hx hm Q hret k i a w' hk hi hI) (fun a w' hI => lastMI w E u (m.take 40) Q _ k a w' hI hq)
end Go.Proofs.YtmfhdhggpepbbaaDoor
