/-
  RevokeSince: the frame; the first loop: what a set was told.
-/
import Derived.Test.YtmfhdhggpepbbaaDoorFh
import Derived.Test.YtmfhdhggpepbbaaDoorJa
namespace Go.Proofs.YtmfhdhggpepbbaaDoor
open Go Go.RowKit
set_option maxRecDepth 100000 in
theorem open186 {a : Act} (h : Fr 186 a) : ∃ x : Nat → Value, a = ⟨List.toArray (x 0 :: x 1 :: x 2 :: x 3 :: x 4 :: x 5 :: x 6 :: x 7 :: x 8 :: x 9 :: x 10 :: x 11 :: x 12 :: x 13 :: x 14 :: x 15 :: x 16 :: x 17 :: x 18 :: x 19 :: x 20 :: x 21 :: x 22 :: x 23 :: x 24 :: x 25 :: x 26 :: x 27 :: x 28 :: x 29 :: x 30 :: x 31 :: x 32 :: x 33 :: x 34 :: x 35 :: x 36 :: x 37 :: x 38 :: x 39 :: x 40 :: x 41 :: x 42 :: x 43 :: x 44 :: x 45 :: x 46 :: x 47 :: x 48 :: x 49 :: x 50 :: x 51 :: x 52 :: x 53 :: x 54 :: x 55 :: x 56 :: x 57 :: x 58 :: x 59 :: x 60 :: x 61 :: x 62 :: x 63 :: x 64 :: x 65 :: x 66 :: x 67 :: x 68 :: x 69 :: x 70 :: x 71 :: x 72 :: x 73 :: x 74 :: x 75 :: x 76 :: x 77 :: x 78 :: x 79 :: x 80 :: x 81 :: x 82 :: x 83 :: x 84 :: x 85 :: x 86 :: x 87 :: x 88 :: x 89 :: x 90 :: x 91 :: x 92 :: x 93 :: x 94 :: x 95 :: x 96 :: x 97 :: x 98 :: x 99 :: x 100 :: x 101 :: x 102 :: x 103 :: x 104 :: x 105 :: x 106 :: x 107 :: x 108 :: x 109 :: x 110 :: x 111 :: x 112 :: x 113 :: x 114 :: x 115 :: x 116 :: x 117 :: x 118 :: x 119 :: x 120 :: x 121 :: x 122 :: x 123 :: x 124 :: x 125 :: x 126 :: x 127 :: x 128 :: x 129 :: x 130 :: x 131 :: x 132 :: x 133 :: x 134 :: x 135 :: x 136 :: x 137 :: x 138 :: x 139 :: x 140 :: x 141 :: x 142 :: x 143 :: x 144 :: x 145 :: x 146 :: x 147 :: x 148 :: x 149 :: x 150 :: x 151 :: x 152 :: x 153 :: x 154 :: x 155 :: x 156 :: x 157 :: x 158 :: x 159 :: x 160 :: x 161 :: x 162 :: x 163 :: x 164 :: x 165 :: x 166 :: x 167 :: x 168 :: x 169 :: x 170 :: x 171 :: x 172 :: x 173 :: x 174 :: x 175 :: x 176 :: x 177 :: x 178 :: x 179 :: x 180 :: x 181 :: x 182 :: x 183 :: x 184 :: x 185 :: []), []⟩ ∧ ∀ i, a.eval (.tmp i) = x i := ⟨fun i => a.tmps.getD i undef, h.form, fun _ => rfl⟩
/-- What a round leaves alone. -/
structure SO (v0 v3 v5 v6 v7 : Value) (a : Act) : Prop where
  fr : Fr 186 a
  s0 : a.eval (.tmp 0) = v0
  s3 : a.eval (.tmp 3) = v3
  s5 : a.eval (.tmp 5) = v5
  s6 : a.eval (.tmp 6) = v6
  s7 : a.eval (.tmp 7) = v7
/-- Which seed. -/
def sdN (n : Int) : Int := (IntKind.u64.wrap n).tmod 4
theorem sdN_in (n : Int) : 0 ≤ sdN n ∧ sdN n < 4 := by
  unfold sdN
  have h1 : 0 ≤ IntKind.u64.wrap n := by rw [IntKind.wrap_u64]; omega
  rw [Int.tmod_eq_emod_of_nonneg h1]
  omega
def stepS (l : L4) (a : Ac8) : L4 := (revL l (sdN a.n) (a.l.take 20)).2
/-- The logs behind the first k calls. -/
def setS (acs : List Ac8) : Nat → L4
  | 0 => L4.nil
  | k + 1 => stepS (setS acs k) (acs.getD k Ac8.zero)
theorem setS_good (acs : List Ac8) : ∀ k, Good (setS acs k) ∧ NoDup (setS acs k)
  | 0 => ⟨Good.nil, NoDup.nil⟩
  | k + 1 => ⟨revL_good (setS_good acs k).1 _ _, revL_nodup (setS_good acs k).2 _ _⟩
/-- What holds between two rounds: the versions' box, the set, the empty one. -/
structure SS (w : World) (E : Nat) (y : V4) (acs : List Ac8) (v0 : Value) (k : Nat) (a : Act) (W : World) : Prop where
  fr : SO v0 (.pointer (some ⟨E, 0, none⟩)) (.pointer (some ⟨E + 1, 0, none⟩)) (.pointer (some ⟨E + 2, 0, none⟩)) (.int .i64 (k : Int)) a
  kr : KR w E [(E, .cells #[.int .i64 y.a, .int .i64 y.b, .int .i64 y.c, .int .i64 y.d] 31)] W
  s : SetAt W (E + 1) (setS acs k)
  h : SetAt W (E + 2) L4.nil
set_option maxRecDepth 100000 in
set_option maxHeartbeats 4000000 in
theorem roundS (w : World) (E : Nat) (y : V4) (acs : List Ac8) (al : Option Addr) (nl cl : Nat) (hA : Acts8 w (.slice al nl cl) acs) (hnl : acs.length = nl) (hE : w.heap.size = E) (hn9 : nl ≤ 9223372036854775807)
    (Q : Exit → Act → World → Prop) (k : Nat) (a : Act) (wr : World) (hk : k < nl) (hk8 : k < 12) (h : SS w E y acs (.slice al nl cl) k a wr) :
    Code.wp Tryd.prog (loopAt (Tryd.f4.body) 0) (Exit.then (fun a' w' => SS w E y acs (.slice al nl cl) (k + 1) a' w') Q) a wr := by
  have H0 := Bx.mk (And.intro h.kr (And.intro h.s h.h))
  have HG := Bx.mk (setS_good acs k).1
  obtain ⟨_, _, hv, _, _, hr⟩ := hA
  injection hv with p1 p2 p3
  subst p1
  clear p2 p3
  obtain ⟨b, o, rfl, hi⟩ := hr (by omega)
  obtain ⟨vl, u, hrg, hin, -, hfit⟩ := hi k (by omega)
  have HSt : Bx (setS acs (k + 1) = stepS (setS acs k) (acs.getD k Ac8.zero)) := ⟨rfl⟩
  unfold stepS at HSt
  generalize acs.getD k Ac8.zero = ac at *
  generalize setS acs k = l at *
  obtain ⟨kd, n, ls, v, m⟩ := ac
  have hll := hfit.l
  simp only at hrg hin hll HSt
  clear hi hr hfit
  obtain ⟨ar, cr, rfl, -⟩ := id hin
  have hbl : b < E := by have h0 : b < w.heap.size := World.block_lt_of_cell? _ _ (hrg 0 _ rfl); omega
  have HRg : Bx (∀ W, Below E w W → W.rangeAt b (o + k * 11) [.int .i64 kd, .int .i64 n, .slice ar ls.length cr, .int .i64 v.a, .int .i64 v.b, .int .i64 v.c, .int .i64 v.d, u.a, u.b, u.c, u.d]) := ⟨fun W h => range_later hrg h hbl⟩
  have HIn : Bx (∀ W, Below E w W → Ints W (.slice ar ls.length cr) ls) := ⟨fun W h => hin.later (by rw [hE]; exact h)⟩
  have HLm := Bx.mk hll
  obtain ⟨nr, hnr⟩ : ∃ n, ls.length = n := ⟨_, rfl⟩
  rw [hnr] at HRg HIn
  have hsd := sdN_in n
  obtain ⟨sd, hsn⟩ : ∃ s, sdN n = s := ⟨_, rfl⟩
  rw [hsn] at hsd HSt
  unfold sdN at hsn
  have hwr : IntKind.i64.wrap sd = sd := by rw [IntKind.wrap_i64]; omega
  have hk1 : (k : Int) < (nl : Int) := by omega
  have hk0 : (0 : Int) ≤ (k : Int) := by omega
  have hk2 : (k : Int) < 12 := by omega
  have hn1 : (nl : Int) ≤ 9223372036854775807 := by omega
  obtain ⟨x, rfl, hx⟩ := open186 h.fr.fr
  have e0 := (hx 0).symm.trans h.fr.s0
  have e3 := (hx 3).symm.trans h.fr.s3
  have e5 := (hx 5).symm.trans h.fr.s5
  have e6 := (hx 6).symm.trans h.fr.s6
  have e7 := (hx 7).symm.trans h.fr.s7
  clear h hx hrg hin hll hnr hnl hbl hE hsd
  rw [e0, e3, e5, e6, e7]
  clear e0 e3 e5 e6 e7
  conv => arg 2; whnf
  go_upto_region 7 with fail
  have R0 := Bx.mk (And.intro H0.out.1.drew (And.intro (H0.out.2.1.later (Below.refl _ _).drew) (H0.out.2.2.later (Below.refl _ _).drew)))
  clear H0
  refine wp_region_noPanic ?_
  refine wp_region_held_drew (S := fun W => W.rangeAt b (o + k * 11) [.int .i64 kd, .int .i64 n, .slice ar nr cr, .int .i64 v.a, .int .i64 v.b, .int .i64 v.c, .int .i64 v.d, u.a, u.b, u.c, u.d]) (by kernel_rfl) (HRg.out _ R0.out.1.below) (fun hHeld => ?_)
  generalize wr.drew = W0 at *
  refine takeL 0 (v := ?_) rfl (by kernel_rfl) (by kernel_rfl) (by kernel_rfl) (fun _ _ _ h => h) (Or.inl ⟨by rfl, ?_⟩) hHeld ?_
  rotate_left 1
  · (intro w hSw; go_simp; try with_reducible rfl)
  try simp only [Act.put, List.setIfInBounds_toArray, List.set_cons_zero, List.set_cons_succ]
  refine takeL 1 (v := ?_) rfl (by kernel_rfl) (by kernel_rfl) (by kernel_rfl) (fun _ _ _ h => h) (Or.inl ⟨by rfl, ?_⟩) hHeld ?_
  rotate_left 1
  · (intro w hSw; go_simp; try with_reducible rfl)
  try simp only [Act.put, List.setIfInBounds_toArray, List.set_cons_zero, List.set_cons_succ]
  refine takeL 2 (v := ?_) rfl (by kernel_rfl) (by kernel_rfl) (by kernel_rfl) (fun _ _ _ h => h) (Or.inl ⟨by rfl, ?_⟩) hHeld ?_
  rotate_left 1
  · (intro w hSw; go_simp; try with_reducible rfl)
  try simp only [Act.put, List.setIfInBounds_toArray, List.set_cons_zero, List.set_cons_succ]
  refine takeL 3 (v := ?_) rfl (by kernel_rfl) (by kernel_rfl) (by kernel_rfl) (fun _ _ _ h => h) (Or.inl ⟨by rfl, ?_⟩) hHeld ?_
  rotate_left 1
  · (intro w hSw; go_simp; try with_reducible rfl)
  try simp only [Act.put, List.setIfInBounds_toArray, List.set_cons_zero, List.set_cons_succ]
  refine takeL 4 (v := ?_) rfl (by kernel_rfl) (by kernel_rfl) (by kernel_rfl) (fun _ _ _ h => h) (Or.inl ⟨by rfl, ?_⟩) hHeld ?_
  rotate_left 1
  · (intro w hSw; go_simp; try with_reducible rfl)
  try simp only [Act.put, List.setIfInBounds_toArray, List.set_cons_zero, List.set_cons_succ]
  refine takeL 5 (v := ?_) rfl (by kernel_rfl) (by kernel_rfl) (by kernel_rfl) (fun _ _ _ h => h) (Or.inl ⟨by rfl, ?_⟩) hHeld ?_
  rotate_left 1
  · (intro w hSw; have c1 : w.cell? ⟨b, o + k * 11 + 1, none⟩ = some _ := hSw 1 _ rfl; go_simp; try with_reducible rfl)
  try simp only [Act.put, List.setIfInBounds_toArray, List.set_cons_zero, List.set_cons_succ]
  refine takeL 6 (v := ?_) rfl (by kernel_rfl) (by kernel_rfl) (by kernel_rfl) (fun _ _ _ h => h) (Or.inl ⟨by rfl, ?_⟩) hHeld ?_
  rotate_left 1
  · (intro w hSw; go_simp; try with_reducible rfl)
  try simp only [Act.put, List.setIfInBounds_toArray, List.set_cons_zero, List.set_cons_succ]
  refine takeL 7 (v := ?_) rfl (by kernel_rfl) (by kernel_rfl) (by kernel_rfl) (fun _ _ _ h => h) (Or.inl ⟨by rfl, ?_⟩) hHeld ?_
  rotate_left 1
  · (intro w hSw; go_simp; try with_reducible rfl)
  try simp only [Act.put, List.setIfInBounds_toArray, List.set_cons_zero, List.set_cons_succ]
  refine takeL 8 (v := ?_) rfl (by kernel_rfl) (by kernel_rfl) (by kernel_rfl) (fun _ _ _ h => h) (Or.inl ⟨by rfl, ?_⟩) hHeld ?_
  rotate_left 1
  · (intro w hSw; go_simp; try with_reducible rfl)
  try simp only [Act.put, List.setIfInBounds_toArray, List.set_cons_zero, List.set_cons_succ]
  refine takeL 9 (v := ?_) rfl (by kernel_rfl) (by kernel_rfl) (by kernel_rfl) (fun _ _ _ h => h) (Or.inl ⟨by rfl, ?_⟩) hHeld ?_
  rotate_left 1
  · (intro w hSw; go_simp; try with_reducible rfl)
  try simp only [Act.put, List.setIfInBounds_toArray, List.set_cons_zero, List.set_cons_succ]
  refine takeL 10 (v := ?_) rfl (by kernel_rfl) (by kernel_rfl) (by kernel_rfl) (fun _ _ _ h => h) (Or.inl ⟨by rfl, ?_⟩) hHeld ?_
  rotate_left 1
  · (intro w hSw; go_simp; try with_reducible rfl)
  try simp only [Act.put, List.setIfInBounds_toArray, List.set_cons_zero, List.set_cons_succ]
  refine takeL 11 (v := ?_) rfl (by kernel_rfl) (by kernel_rfl) (by kernel_rfl) (fun _ _ _ h => h) (Or.inl ⟨by rfl, ?_⟩) hHeld ?_
  rotate_left 1
  · (intro w hSw; go_simp; try with_reducible rfl)
  try simp only [Act.put, List.setIfInBounds_toArray, List.set_cons_zero, List.set_cons_succ]
  refine takeL 12 (v := ?_) rfl (by kernel_rfl) (by kernel_rfl) (by kernel_rfl) (fun _ _ _ h => h) (Or.inl ⟨by rfl, ?_⟩) hHeld ?_
  rotate_left 1
  · (intro w hSw; go_simp; try with_reducible rfl)
  try simp only [Act.put, List.setIfInBounds_toArray, List.set_cons_zero, List.set_cons_succ]
  refine takeL 13 (v := ?_) rfl (by kernel_rfl) (by kernel_rfl) (by kernel_rfl) (fun _ _ _ h => h) (Or.inl ⟨by rfl, ?_⟩) hHeld ?_
  rotate_left 1
  · (intro w hSw; have c1 : w.cell? ⟨b, o + k * 11 + 2, none⟩ = some _ := hSw 2 _ rfl; go_simp; try with_reducible rfl)
  try simp only [Act.put, List.setIfInBounds_toArray, List.set_cons_zero, List.set_cons_succ]
  refine stepL 14 (by kernel_rfl) rfl (fun K hK => ?_)
  go_simp
  refine (few8 ls _ 20 W0 (HIn.out _ R0.out.1.below) HLm.out (by omega)).mono ?_
  rintro e W1 ⟨q, rfl, hq, hb⟩
  show K _ _
  have R1 := Bx.mk (And.intro (R0.out.1.later hb) (And.intro (R0.out.2.1.later hb) (R0.out.2.2.later hb)))
  have HQ := Bx.mk hq
  obtain ⟨aq, cq, hqv⟩ := hq.form
  subst hqv
  clear hb R0 hq
  have HQn : Bx ((ls.take 20).length ≤ 1000) := ⟨by rw [List.length_take]; omega⟩
  generalize ls.take 20 = ms at *
  refine hK.out _ _ (HRg.out _ R1.out.1.below) (fun hHeld => ?_)
  clear hK K
  try simp only [Act.put, List.setIfInBounds_toArray, List.set_cons_zero, List.set_cons_succ]
  refine stepL 15 (by kernel_rfl) rfl (fun K hK => ?_)
  go_simp
  refine (revoke_any sd _ ms (E + 1) l W1 R1.out.2.1 HG.out HQ.out HQn.out).mono ?_
  rintro e W2 ⟨rfl, hs2, hg2⟩
  rw [← HSt.out] at hs2
  show K _ _
  have G4 := Bx.mk (And.intro (R1.out.1.grown hg2 (by omega) (fun x hx => by rcases List.mem_cons.1 hx with rfl | hx; exact Nat.ne_of_lt (Nat.lt_succ_self E); cases hx)) (And.intro hs2 (R1.out.2.2.beside R1.out.2.1 hg2 (by omega))))
  clear hs2 hg2 R1 HQ
  refine hK.out _ _ (HRg.out _ G4.out.1.below) (fun hHeld => ?_)
  clear hK K
  try simp only [Act.put, List.setIfInBounds_toArray, List.set_cons_zero, List.set_cons_succ]
  refine wpAnyH_done (by kernel_rfl) ?_ _
  refine NoPanic.normal ?_
  clear hHeld
  go_wp2
  exact ⟨⟨⟨rfl, rfl⟩, rfl, rfl, rfl, rfl, rfl⟩, G4.out.1, G4.out.2.1, G4.out.2.2⟩
set_option maxRecDepth 100000 in
set_option maxHeartbeats 1000000 in
theorem lastS (w : World) (E : Nat) (y : V4) (acs : List Ac8) (va : Value) (al : Option Addr) (nl cl : Nat) (hva : va = .slice al nl cl) (hn9 : nl ≤ 9223372036854775807)
    (Q : Exit → Act → World → Prop) (N : Act → World → Prop) (k : Nat) (a : Act) (wr : World) (hk : ¬ (k < nl ∧ k < 12)) (hk8 : k ≤ 12) (h : SS w E y acs va k a wr)
    (hq : ∀ a' w', SS w E y acs va k a' w' → Q (.exit 0) a' w') : Code.wp Tryd.prog (loopAt (Tryd.f4.body) 0) (Exit.then N Q) a wr := by
  subst hva
  have HQ := Bx.mk hq
  have HS := Bx.mk (And.intro h.kr (And.intro h.s h.h))
  have hn1 : (nl : Int) ≤ 9223372036854775807 := by omega
  have hk1 : (k : Int) ≤ 12 := by omega
  obtain ⟨x, rfl, hx⟩ := open186 h.fr.fr
  have e0 := (hx 0).symm.trans h.fr.s0
  have e3 := (hx 3).symm.trans h.fr.s3
  have e5 := (hx 5).symm.trans h.fr.s5
  have e6 := (hx 6).symm.trans h.fr.s6
  have e7 := (hx 7).symm.trans h.fr.s7
  clear h hx hq
  rw [e0, e3, e5, e6, e7]
  clear e0 e3 e5 e6 e7
  by_cases hlt : k < nl
  · have t1 : (k : Int) < (nl : Int) := by omega
    have t2 : ¬ (k : Int) < 12 := by omega
    conv => arg 2; whnf
    go_wp2
    exact HQ.out _ _ ⟨⟨⟨rfl, rfl⟩, rfl, rfl, rfl, rfl, rfl⟩, HS.out.1, HS.out.2.1, HS.out.2.2⟩
  · have t1 : ¬ (k : Int) < (nl : Int) := by omega
    conv => arg 2; whnf
    go_wp2
    exact HQ.out _ _ ⟨⟨⟨rfl, rfl⟩, rfl, rfl, rfl, rfl, rfl⟩, HS.out.1, HS.out.2.1, HS.out.2.2⟩
theorem loopS (w : World) (E : Nat) (y : V4) (acs : List Ac8) (al : Option Addr) (nl cl : Nat) (hA : Acts8 w (.slice al nl cl) acs) (hnl : acs.length = nl) (hE : w.heap.size = E) (hn9 : nl ≤ 9223372036854775807)
    (Q : Exit → Act → World → Prop) (a : Act) (wr : World) (h : SS w E y acs (.slice al nl cl) 0 a wr) (hq : ∀ a' w', SS w E y acs (.slice al nl cl) (min nl 12) a' w' → Q (.exit 0) a' w') :
    Code.wp Tryd.prog (.loop (loopAt (Tryd.f4.body) 0)) Q a wr :=
  wp_count (min nl 12) (fun k a w' => SS w E y acs (.slice al nl cl) k a w') 0 (Nat.zero_le _) h (fun k a w' hk hI => roundS w E y acs al nl cl hA hnl hE hn9 Q k a w' (by omega) (by omega) hI)
    (fun a w' hI => lastS w E y acs _ al nl cl rfl hn9 Q _ (min nl 12) a w' (by omega) (by omega) hI hq)
end Go.Proofs.YtmfhdhggpepbbaaDoor
