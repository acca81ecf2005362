/-
  QuotaPlays: what it carries; a round of its first loop.
-/
import Derived.Test.YtplkoijgokkmfaaB5
import Derived.Deep.RegionHeld3
import Derived.Deep.QuietTactic
import Derived.BigQuiet
import Derived.Test.YtplkoijgokkmfaaB1
namespace Go.Proofs.Ytplkoijgokkmfaa
open Go Go.RowKit
set_option maxRecDepth 100000 in
theorem open184 {a : Act} (h : Fr 184 a) : ∃ x : Nat → Value, a = ⟨List.toArray (x 0 :: x 1 :: x 2 :: x 3 :: x 4 :: x 5 :: x 6 :: x 7 :: x 8 :: x 9 :: x 10 :: x 11 :: x 12 :: x 13 :: x 14 :: x 15 :: x 16 :: x 17 :: x 18 :: x 19 :: x 20 :: x 21 :: x 22 :: x 23 :: x 24 :: x 25 :: x 26 :: x 27 :: x 28 :: x 29 :: x 30 :: x 31 :: x 32 :: x 33 :: x 34 :: x 35 :: x 36 :: x 37 :: x 38 :: x 39 :: x 40 :: x 41 :: x 42 :: x 43 :: x 44 :: x 45 :: x 46 :: x 47 :: x 48 :: x 49 :: x 50 :: x 51 :: x 52 :: x 53 :: x 54 :: x 55 :: x 56 :: x 57 :: x 58 :: x 59 :: x 60 :: x 61 :: x 62 :: x 63 :: x 64 :: x 65 :: x 66 :: x 67 :: x 68 :: x 69 :: x 70 :: x 71 :: x 72 :: x 73 :: x 74 :: x 75 :: x 76 :: x 77 :: x 78 :: x 79 :: x 80 :: x 81 :: x 82 :: x 83 :: x 84 :: x 85 :: x 86 :: x 87 :: x 88 :: x 89 :: x 90 :: x 91 :: x 92 :: x 93 :: x 94 :: x 95 :: x 96 :: x 97 :: x 98 :: x 99 :: x 100 :: x 101 :: x 102 :: x 103 :: x 104 :: x 105 :: x 106 :: x 107 :: x 108 :: x 109 :: x 110 :: x 111 :: x 112 :: x 113 :: x 114 :: x 115 :: x 116 :: x 117 :: x 118 :: x 119 :: x 120 :: x 121 :: x 122 :: x 123 :: x 124 :: x 125 :: x 126 :: x 127 :: x 128 :: x 129 :: x 130 :: x 131 :: x 132 :: x 133 :: x 134 :: x 135 :: x 136 :: x 137 :: x 138 :: x 139 :: x 140 :: x 141 :: x 142 :: x 143 :: x 144 :: x 145 :: x 146 :: x 147 :: x 148 :: x 149 :: x 150 :: x 151 :: x 152 :: x 153 :: x 154 :: x 155 :: x 156 :: x 157 :: x 158 :: x 159 :: x 160 :: x 161 :: x 162 :: x 163 :: x 164 :: x 165 :: x 166 :: x 167 :: x 168 :: x 169 :: x 170 :: x 171 :: x 172 :: x 173 :: x 174 :: x 175 :: x 176 :: x 177 :: x 178 :: x 179 :: x 180 :: x 181 :: x 182 :: x 183 :: []), []⟩ ∧ ∀ i, a.eval (.tmp i) = x i := ⟨fun i => a.tmps.getD i undef, h.form, fun _ => rfl⟩
/-- Quotas, and a row of what was taken. -/
structure BP (w : World) (q M : Nat) (n : Int) (l : List En) (m : List Tk) (vm : Value) (W : World) : Prop where
  below : Below w.heap.size w W
  qb : QB W q M n l
  ge : w.heap.size ≤ M
  own : OwnT W w.heap.size vm m
theorem BP.later {w : World} {q M : Nat} {n : Int} {l : List En} {m : List Tk} {vm : Value} {W W1 : World} (h : BP w q M n l m vm W) (hb : Below W.heap.size W W1) : BP w q M n l m vm W1 := ⟨h.below.trans (hb.mono h.below.size), h.qb.later hb, h.ge, h.own.later hb⟩
theorem BP.take {w : World} {q M : Nat} {n : Int} {l l1 : List En} {m : List Tk} {vm : Value} {W W1 : World} (h : BP w q M n l m vm W) (hq : QB W1 q M n l1) (hg : W.grownBy W1 (some M)) : BP w q M n l1 m vm W1 := ⟨h.below.trans (grown_belowQ hg h.ge h.below.size), hq, h.ge, h.own.aside h.qb.hm hg⟩
theorem BP.app {w : World} {q M : Nat} {n : Int} {l : List En} {m m1 : List Tk} {vm vm1 : Value} {W W1 : World} (h : BP w q M n l m vm W) (ho : OwnT W1 w.heap.size vm1 m1) (hg : W.grownBy W1 vm.ownBlock) : BP w q M n l m1 vm1 W1 := ⟨h.below.trans (ownT_below h.own hg h.below.size), h.qb.row h.own hg, h.ge, ho⟩
/-- The call of the round, in its own block. -/
def RowX (X : Nat) (a b c : Int) (W : World) : Prop := W.heap[X]? = some (.cells #[.int .i64 a, .int .i64 b, .int .i64 c] 31 (0, 0))
theorem RowX.later {X : Nat} {a b c : Int} {W W1 : World} (h : RowX X a b c W) (hb : Below W.heap.size W W1) : RowX X a b c W1 := (hb.block X (Array.getElem?_eq_some_iff.1 h).1).trans h
theorem RowX.map {X M : Nat} {a b c : Int} {W W1 : World} {l : List En} (h : RowX X a b c W) (hm : MapQ W M l) (hg : W.grownBy W1 (some M)) : RowX X a b c W1 := (hg.block X (Array.getElem?_eq_some_iff.1 h).1 (fun e => by
  injection e with e
  subst e
  obtain ⟨es, clock, hb, -, -⟩ := hm.st
  rw [h] at hb
  cases hb)).trans h
theorem RowX.cells {X : Nat} {a b c : Int} {W : World} (h : RowX X a b c W) : W.cell? ⟨X, 0, none⟩ = some (.int .i64 a) ∧ W.cell? ⟨X, 1, none⟩ = some (.int .i64 b) ∧ W.cell? ⟨X, 2, none⟩ = some (.int .i64 c) :=
  ⟨by rw [cell_of_row _ _ _ _ _ _ h]; rfl, by rw [cell_of_row _ _ _ _ _ _ h]; rfl, by rw [cell_of_row _ _ _ _ _ _ h]; rfl⟩
/-- What stays in the frame. -/
structure FY (n : Int) (v1 v2 v3 v9 : Value) (a : Act) : Prop where
  fr : Fr 184 a
  s0 : a.eval (.tmp 0) = .int .i64 n
  s1 : a.eval (.tmp 1) = v1
  s2 : a.eval (.tmp 2) = v2
  s3 : a.eval (.tmp 3) = v3
  s9 : a.eval (.tmp 9) = v9
/-- Between two rounds of the first loop. -/
structure IY (w : World) (q M : Nat) (n : Int) (v1 v2 v3 : Value) (k : Nat) (a : Act) (W : World) : Prop where
  fy : FY n v1 v2 v3 (.pointer (some ⟨q, 0, none⟩)) a
  s12 : a.eval (.tmp 12) = .int .i64 (k : Int)
  st : ∃ vm l m, a.eval (.tmp 11) = vm ∧ BP w q M n l m vm W ∧ RelQ n l m ∧ m.length ≤ k
theorem cutQ_count {l : List En} (nd : l.Pairwise (fun x y => x.s ≠ y.s)) (s : Int) : (l.length : Int) - ((cutQ l s).length : Int) = if hasQ l s = true then 1 else 0 := by
  have key : l.length = (cutQ l s).length + (if hasQ l s = true then 1 else 0) := by
    cases h : hasQ l s with
    | false =>
      have hc : cutQ l s = l := List.filter_eq_self.2 fun z hz => by simpa using (hasQ_false l s).1 h z hz
      rw [hc]; simp
    | true =>
      obtain ⟨x, hx, hxs⟩ := (hasQ_iff l s).1 h
      obtain ⟨j, hj, hjx⟩ := List.mem_iff_getElem.1 hx
      have he := pairwise_eraseQ nd (List.getElem?_eq_some_iff.2 ⟨hj, hjx⟩)
      rw [hxs] at he
      rw [← he, List.length_eraseIdx, if_pos hj]
      simp
      omega
  split <;> rename_i h <;> simp only [h] at key <;> simp at key <;> omega
set_option maxRecDepth 100000 in
set_option maxHeartbeats 4000000 in
theorem roundY_drop_true (w : World) (acs : List AcQ) (q M : Nat) (n : Int) (v1 v2 v3 : Value) (hv : ActsQ w v1 acs) (hn : acs.length ≤ 9223372036854775807) (n1 : 1 ≤ n) (n2 : n ≤ 255)
    (Q : Exit → Act → World → Prop) (k : Nat) (a : Act) (wr : World) (hk : k < acs.length) (hk6 : k < 60) (hf : FY n v1 v2 v3 (.pointer (some ⟨q, 0, none⟩)) a) (s12 : a.eval (.tmp 12) = .int .i64 (k : Int)) (vm : Value) (l : List En) (m : List Tk) (s11 : a.eval (.tmp 11) = vm) (hB : BP w q M n l m vm wr) (hR : RelQ n l m) (hm : m.length ≤ k)
    (hs : bits .and .i64 (acs.getD k AcQ.zero).k 1 = 1) (hb : hasQ l (acs.getD k AcQ.zero).s = true) :
    Code.wp Try.prog (loopAt (Try.f3.body) 0) (Exit.then (fun a' w' => IY w q M n v1 v2 v3 (k + 1) a' w') Q) a wr := by
  have HN := Bx.mk (And.intro n1 n2)
  have hl16 := hR.len
  obtain ⟨b, o, cap, rfl⟩ := hv.some (by omega)
  obtain ⟨c0, c1, c2, cf⟩ := hv.cells k hk
  obtain ⟨na, hna⟩ : ∃ na, acs.length = na := ⟨_, rfl⟩
  rw [hna] at hk hn hf ⊢
  generalize acs.getD k AcQ.zero = ac at *
  obtain ⟨ak, sd, tk⟩ := ac
  have d0 := (hB.below.cell (p := ⟨b, o + k * 3, none⟩) (World.block_lt_of_cell? _ _ c0)).trans c0
  have d1 := (hB.below.cell (p := ⟨b, o + k * 3 + 1, none⟩) (World.block_lt_of_cell? _ _ c1)).trans c1
  have d2 := (hB.below.cell (p := ⟨b, o + k * 3 + 2, none⟩) (World.block_lt_of_cell? _ _ c2)).trans c2
  have hm60 : m.length ≤ 1000 := by omega
  have HKn := Bx.mk fun (v : Value) (W : World) (h : TksR W v m) => rknown_any m v sd W h hm60
  have HDr := Bx.mk fun (W : World) (G : Nat) (h : QB W q M n l) (e0 : W.cell? ⟨G, 0, none⟩ = some (.int .i64 sd)) (e1 : W.cell? ⟨G, 1, none⟩ = some (.int .i64 sd)) => qdrop_two q M G n l sd W h cf.2.1 (by omega) e0 e1
  have HRd := Bx.mk fun (v : Value) (W : World) (h : TksR W v m) => rdrop_any m v sd W h hm60
  have HCo := Bx.mk fun (v : Value) (W : World) (h : TksR W v m) => count_any m v W h hm60
  have HTk := Bx.mk fun (W : World) (h : QB W q M n l) => qtake_any q M n l sd tk W h cf.2.1 cf.2.2 hR.ok n1 n2
  have hcnt : countN m m.length = l.length := hR.count hB.qb.hm.nd
  have HTr : Bx (∀ (v : Value) (W : World), TksR W v m → Calls Try.prog 14 #[v, .int .i64 sd, .int .i64 tk, .int .i64 n, .int .i64 ((countN m m.length : Nat) : Int)] W fun e w' => e = .returned (.int .i64 (takeE l n sd tk)) ∧ W = w') := Bx.mk fun v W h => by
    have := rtry_any m v sd tk n ((countN m m.length : Nat) : Int) W h hm60 cf.2.2
    rw [hcnt, hR.try_] at this
    rw [hcnt]
    exact this
  have HCt := Bx.mk (cutQ_count hB.qb.hm.nd sd)
  have HIs := Bx.mk (hR.has sd)
  have HD32 := Bx.mk fun (h : ¬ tk < 0) => div32 tk cf.2.2 h
  have R0 := Bx.mk (And.intro hB hR)
  have HM := Bx.mk hm
  have HK6 := Bx.mk hk6
  have k1 : (k : Int) < 60 := by omega
  have k2 : (k : Int) < (na : Int) := by omega
  have k0 : (0 : Int) ≤ (k : Int) := by omega
  have m1 : (na : Int) ≤ 9223372036854775807 := by omega
  have hwk : IntKind.i64.wrap ((k : Int) + 1) = (k : Int) + 1 := by simp [IntKind.wrap_i64]; omega
  obtain ⟨ma, mn, mc, hvm⟩ := ownT_shape hB.own
  subst hvm
  obtain ⟨y, rfl, hy⟩ := open184 hf.fr
  have e0 := (hy 0).symm.trans hf.s0
  have e1 := (hy 1).symm.trans hf.s1
  have e2 := (hy 2).symm.trans hf.s2
  have e3 := (hy 3).symm.trans hf.s3
  have e9 := (hy 9).symm.trans hf.s9
  have e11 := (hy 11).symm.trans s11
  have e12 := (hy 12).symm.trans s12
  clear hf hy s11 s12 hk hk6 hn hna hB hR hm hv cf c0 c1 c2 n1 n2 hl16 hm60 hcnt
  rw [e0, e1, e2, e3, e9, e11, e12]
  clear e0 e1 e2 e3 e9 e11 e12
  conv => arg 2; whnf
  have R1 : Bx (BP w q M n l m (.slice ma mn mc) (wr.alloc (.cells #[.int .i64 ak, .int .i64 sd, .int .i64 tk] 31)) ∧ RowX wr.heap.size ak sd tk (wr.alloc (.cells #[.int .i64 ak, .int .i64 sd, .int .i64 tk] 31))) := Bx.mk ⟨R0.out.1.later (below_a _), hnew _ _ _ rfl⟩
  have HR := Bx.mk R0.out.2
  clear R0
  go_upto_region 11 with fail
  generalize wr.heap.size = X at *
  generalize wr.alloc (.cells #[.int .i64 ak, .int .i64 sd, .int .i64 tk] 31) = w1 at *
  clear d0 d1 d2
  obtain ⟨x0, x1, x2⟩ := R1.out.2.cells
  skip -- M1
  rw [hb] at HIs HCt
  have hIs := HIs.out.symm
  have hCt : (l.length : Int) - ((cutQ l sd).length : Int) = 1 := HCt.out.trans (by simp)
  go_wp2_with fail
  refine (HKn.out _ _ R1.out.1.own.reads).mono ?_
  rintro e Wx ⟨rfl, rfl⟩
  rw [hIs]
  have R2 : Bx (BP w q M n l m (.slice ma mn mc) (w1.alloc (.cells #[.int .i64 sd, .int .i64 sd] 3)) ∧ RowX X ak sd tk (w1.alloc (.cells #[.int .i64 sd, .int .i64 sd] 3)) ∧ (w1.alloc (.cells #[.int .i64 sd, .int .i64 sd] 3)).cell? ⟨w1.heap.size, 0, none⟩ = some (.int .i64 sd) ∧ (w1.alloc (.cells #[.int .i64 sd, .int .i64 sd] 3)).cell? ⟨w1.heap.size, 1, none⟩ = some (.int .i64 sd)) := Bx.mk ⟨R1.out.1.later (below_a _), R1.out.2.later (below_a _), by rw [cell_of_row _ _ _ _ _ _ (hnew _ _ _ rfl)]; rfl, by rw [cell_of_row _ _ _ _ _ _ (hnew _ _ _ rfl)]; rfl⟩
  clear R1
  go_wp2_with fail
  skip -- M2
  refine (HDr.out _ _ R2.out.1.qb R2.out.2.2.1 R2.out.2.2.2).mono ?_
  rintro e w3 ⟨rfl, hq, hg⟩
  have R3 : Bx (BP w q M n (cutQ l sd) m (.slice ma mn mc) w3 ∧ RowX X ak sd tk w3) := Bx.mk ⟨R2.out.1.take hq hg, R2.out.2.1.map R2.out.1.qb.hm hg⟩
  rw [hCt]
  clear hq hg R2 x0 x1 x2
  obtain ⟨x0, x1, x2⟩ := R3.out.2.cells
  go_wp2_with fail
  refine (HRd.out _ _ R3.out.1.own.reads).mono ?_
  rintro e w4 ⟨v', rfl, ho, hb4⟩
  have R4 : Bx (BP w q M n (cutQ l sd) (cutT m sd) v' w4) := Bx.mk ⟨R3.out.1.below.trans (hb4.mono R3.out.1.below.size), R3.out.1.qb.later hb4, R3.out.1.ge, ho.weak R3.out.1.below.size⟩
  have HR4 := Bx.mk (HR.out.cut sd)
  have HL4 : Bx ((cutT m sd).length ≤ k + 1) := Bx.mk (by have := cutT_le m sd; have := HM.out; omega)
  obtain ⟨va, vn, vc, hv4⟩ := ownT_shape ho
  subst hv4
  clear ho hb4 R3
  go_wp2
  exact ⟨⟨⟨rfl, rfl⟩, rfl, rfl, rfl, rfl, rfl⟩, by first | rfl | go_num, .slice va vn vc, cutQ l sd, cutT m sd, rfl, R4.out, HR4.out, HL4.out⟩
set_option maxRecDepth 100000 in
set_option maxHeartbeats 4000000 in
theorem roundY_drop_false (w : World) (acs : List AcQ) (q M : Nat) (n : Int) (v1 v2 v3 : Value) (hv : ActsQ w v1 acs) (hn : acs.length ≤ 9223372036854775807) (n1 : 1 ≤ n) (n2 : n ≤ 255)
    (Q : Exit → Act → World → Prop) (k : Nat) (a : Act) (wr : World) (hk : k < acs.length) (hk6 : k < 60) (hf : FY n v1 v2 v3 (.pointer (some ⟨q, 0, none⟩)) a) (s12 : a.eval (.tmp 12) = .int .i64 (k : Int)) (vm : Value) (l : List En) (m : List Tk) (s11 : a.eval (.tmp 11) = vm) (hB : BP w q M n l m vm wr) (hR : RelQ n l m) (hm : m.length ≤ k)
    (hs : bits .and .i64 (acs.getD k AcQ.zero).k 1 = 1) (hb : hasQ l (acs.getD k AcQ.zero).s = false) :
    Code.wp Try.prog (loopAt (Try.f3.body) 0) (Exit.then (fun a' w' => IY w q M n v1 v2 v3 (k + 1) a' w') Q) a wr := by
  have HN := Bx.mk (And.intro n1 n2)
  have hl16 := hR.len
  obtain ⟨b, o, cap, rfl⟩ := hv.some (by omega)
  obtain ⟨c0, c1, c2, cf⟩ := hv.cells k hk
  obtain ⟨na, hna⟩ : ∃ na, acs.length = na := ⟨_, rfl⟩
  rw [hna] at hk hn hf ⊢
  generalize acs.getD k AcQ.zero = ac at *
  obtain ⟨ak, sd, tk⟩ := ac
  have d0 := (hB.below.cell (p := ⟨b, o + k * 3, none⟩) (World.block_lt_of_cell? _ _ c0)).trans c0
  have d1 := (hB.below.cell (p := ⟨b, o + k * 3 + 1, none⟩) (World.block_lt_of_cell? _ _ c1)).trans c1
  have d2 := (hB.below.cell (p := ⟨b, o + k * 3 + 2, none⟩) (World.block_lt_of_cell? _ _ c2)).trans c2
  have hm60 : m.length ≤ 1000 := by omega
  have HKn := Bx.mk fun (v : Value) (W : World) (h : TksR W v m) => rknown_any m v sd W h hm60
  have HDr := Bx.mk fun (W : World) (G : Nat) (h : QB W q M n l) (e0 : W.cell? ⟨G, 0, none⟩ = some (.int .i64 sd)) (e1 : W.cell? ⟨G, 1, none⟩ = some (.int .i64 sd)) => qdrop_two q M G n l sd W h cf.2.1 (by omega) e0 e1
  have HRd := Bx.mk fun (v : Value) (W : World) (h : TksR W v m) => rdrop_any m v sd W h hm60
  have HCo := Bx.mk fun (v : Value) (W : World) (h : TksR W v m) => count_any m v W h hm60
  have HTk := Bx.mk fun (W : World) (h : QB W q M n l) => qtake_any q M n l sd tk W h cf.2.1 cf.2.2 hR.ok n1 n2
  have hcnt : countN m m.length = l.length := hR.count hB.qb.hm.nd
  have HTr : Bx (∀ (v : Value) (W : World), TksR W v m → Calls Try.prog 14 #[v, .int .i64 sd, .int .i64 tk, .int .i64 n, .int .i64 ((countN m m.length : Nat) : Int)] W fun e w' => e = .returned (.int .i64 (takeE l n sd tk)) ∧ W = w') := Bx.mk fun v W h => by
    have := rtry_any m v sd tk n ((countN m m.length : Nat) : Int) W h hm60 cf.2.2
    rw [hcnt, hR.try_] at this
    rw [hcnt]
    exact this
  have HCt := Bx.mk (cutQ_count hB.qb.hm.nd sd)
  have HIs := Bx.mk (hR.has sd)
  have HD32 := Bx.mk fun (h : ¬ tk < 0) => div32 tk cf.2.2 h
  have R0 := Bx.mk (And.intro hB hR)
  have HM := Bx.mk hm
  have HK6 := Bx.mk hk6
  have k1 : (k : Int) < 60 := by omega
  have k2 : (k : Int) < (na : Int) := by omega
  have k0 : (0 : Int) ≤ (k : Int) := by omega
  have m1 : (na : Int) ≤ 9223372036854775807 := by omega
  have hwk : IntKind.i64.wrap ((k : Int) + 1) = (k : Int) + 1 := by simp [IntKind.wrap_i64]; omega
  obtain ⟨ma, mn, mc, hvm⟩ := ownT_shape hB.own
  subst hvm
  obtain ⟨y, rfl, hy⟩ := open184 hf.fr
  have e0 := (hy 0).symm.trans hf.s0
  have e1 := (hy 1).symm.trans hf.s1
  have e2 := (hy 2).symm.trans hf.s2
  have e3 := (hy 3).symm.trans hf.s3
  have e9 := (hy 9).symm.trans hf.s9
  have e11 := (hy 11).symm.trans s11
  have e12 := (hy 12).symm.trans s12
  clear hf hy s11 s12 hk hk6 hn hna hB hR hm hv cf c0 c1 c2 n1 n2 hl16 hm60 hcnt
  rw [e0, e1, e2, e3, e9, e11, e12]
  clear e0 e1 e2 e3 e9 e11 e12
  conv => arg 2; whnf
  have R1 : Bx (BP w q M n l m (.slice ma mn mc) (wr.alloc (.cells #[.int .i64 ak, .int .i64 sd, .int .i64 tk] 31)) ∧ RowX wr.heap.size ak sd tk (wr.alloc (.cells #[.int .i64 ak, .int .i64 sd, .int .i64 tk] 31))) := Bx.mk ⟨R0.out.1.later (below_a _), hnew _ _ _ rfl⟩
  have HR := Bx.mk R0.out.2
  clear R0
  go_upto_region 11 with fail
  generalize wr.heap.size = X at *
  generalize wr.alloc (.cells #[.int .i64 ak, .int .i64 sd, .int .i64 tk] 31) = w1 at *
  clear d0 d1 d2
  obtain ⟨x0, x1, x2⟩ := R1.out.2.cells
  skip -- M1
  rw [hb] at HIs HCt
  have hIs := HIs.out.symm
  have hCt : (l.length : Int) - ((cutQ l sd).length : Int) = 0 := HCt.out.trans (by simp)
  go_wp2_with fail
  refine (HKn.out _ _ R1.out.1.own.reads).mono ?_
  rintro e Wx ⟨rfl, rfl⟩
  rw [hIs]
  have R2 : Bx (BP w q M n l m (.slice ma mn mc) (w1.alloc (.cells #[.int .i64 sd, .int .i64 sd] 3)) ∧ RowX X ak sd tk (w1.alloc (.cells #[.int .i64 sd, .int .i64 sd] 3)) ∧ (w1.alloc (.cells #[.int .i64 sd, .int .i64 sd] 3)).cell? ⟨w1.heap.size, 0, none⟩ = some (.int .i64 sd) ∧ (w1.alloc (.cells #[.int .i64 sd, .int .i64 sd] 3)).cell? ⟨w1.heap.size, 1, none⟩ = some (.int .i64 sd)) := Bx.mk ⟨R1.out.1.later (below_a _), R1.out.2.later (below_a _), by rw [cell_of_row _ _ _ _ _ _ (hnew _ _ _ rfl)]; rfl, by rw [cell_of_row _ _ _ _ _ _ (hnew _ _ _ rfl)]; rfl⟩
  clear R1
  go_wp2_with fail
  skip -- M2
  refine (HDr.out _ _ R2.out.1.qb R2.out.2.2.1 R2.out.2.2.2).mono ?_
  rintro e w3 ⟨rfl, hq, hg⟩
  have R3 : Bx (BP w q M n (cutQ l sd) m (.slice ma mn mc) w3 ∧ RowX X ak sd tk w3) := Bx.mk ⟨R2.out.1.take hq hg, R2.out.2.1.map R2.out.1.qb.hm hg⟩
  rw [hCt]
  clear hq hg R2 x0 x1 x2
  obtain ⟨x0, x1, x2⟩ := R3.out.2.cells
  go_wp2_with fail
  refine (HRd.out _ _ R3.out.1.own.reads).mono ?_
  rintro e w4 ⟨v', rfl, ho, hb4⟩
  have R4 : Bx (BP w q M n (cutQ l sd) (cutT m sd) v' w4) := Bx.mk ⟨R3.out.1.below.trans (hb4.mono R3.out.1.below.size), R3.out.1.qb.later hb4, R3.out.1.ge, ho.weak R3.out.1.below.size⟩
  have HR4 := Bx.mk (HR.out.cut sd)
  have HL4 : Bx ((cutT m sd).length ≤ k + 1) := Bx.mk (by have := cutT_le m sd; have := HM.out; omega)
  obtain ⟨va, vn, vc, hv4⟩ := ownT_shape ho
  subst hv4
  clear ho hb4 R3
  go_wp2
  exact ⟨⟨⟨rfl, rfl⟩, rfl, rfl, rfl, rfl, rfl⟩, by first | rfl | go_num, .slice va vn vc, cutQ l sd, cutT m sd, rfl, R4.out, HR4.out, HL4.out⟩
set_option maxRecDepth 100000 in
set_option maxHeartbeats 4000000 in
theorem roundY_take_no (w : World) (acs : List AcQ) (q M : Nat) (n : Int) (v1 v2 v3 : Value) (hv : ActsQ w v1 acs) (hn : acs.length ≤ 9223372036854775807) (n1 : 1 ≤ n) (n2 : n ≤ 255)
    (Q : Exit → Act → World → Prop) (k : Nat) (a : Act) (wr : World) (hk : k < acs.length) (hk6 : k < 60) (hf : FY n v1 v2 v3 (.pointer (some ⟨q, 0, none⟩)) a) (s12 : a.eval (.tmp 12) = .int .i64 (k : Int)) (vm : Value) (l : List En) (m : List Tk) (s11 : a.eval (.tmp 11) = vm) (hB : BP w q M n l m vm wr) (hR : RelQ n l m) (hm : m.length ≤ k)
    (hs : ¬ bits .and .i64 (acs.getD k AcQ.zero).k 1 = 1) (h0 : ¬ takeE l n (acs.getD k AcQ.zero).s (acs.getD k AcQ.zero).t = 0) :
    Code.wp Try.prog (loopAt (Try.f3.body) 0) (Exit.then (fun a' w' => IY w q M n v1 v2 v3 (k + 1) a' w') Q) a wr := by
  have HN := Bx.mk (And.intro n1 n2)
  have hl16 := hR.len
  obtain ⟨b, o, cap, rfl⟩ := hv.some (by omega)
  obtain ⟨c0, c1, c2, cf⟩ := hv.cells k hk
  obtain ⟨na, hna⟩ : ∃ na, acs.length = na := ⟨_, rfl⟩
  rw [hna] at hk hn hf ⊢
  generalize acs.getD k AcQ.zero = ac at *
  obtain ⟨ak, sd, tk⟩ := ac
  have d0 := (hB.below.cell (p := ⟨b, o + k * 3, none⟩) (World.block_lt_of_cell? _ _ c0)).trans c0
  have d1 := (hB.below.cell (p := ⟨b, o + k * 3 + 1, none⟩) (World.block_lt_of_cell? _ _ c1)).trans c1
  have d2 := (hB.below.cell (p := ⟨b, o + k * 3 + 2, none⟩) (World.block_lt_of_cell? _ _ c2)).trans c2
  have hm60 : m.length ≤ 1000 := by omega
  have HKn := Bx.mk fun (v : Value) (W : World) (h : TksR W v m) => rknown_any m v sd W h hm60
  have HDr := Bx.mk fun (W : World) (G : Nat) (h : QB W q M n l) (e0 : W.cell? ⟨G, 0, none⟩ = some (.int .i64 sd)) (e1 : W.cell? ⟨G, 1, none⟩ = some (.int .i64 sd)) => qdrop_two q M G n l sd W h cf.2.1 (by omega) e0 e1
  have HRd := Bx.mk fun (v : Value) (W : World) (h : TksR W v m) => rdrop_any m v sd W h hm60
  have HCo := Bx.mk fun (v : Value) (W : World) (h : TksR W v m) => count_any m v W h hm60
  have HTk := Bx.mk fun (W : World) (h : QB W q M n l) => qtake_any q M n l sd tk W h cf.2.1 cf.2.2 hR.ok n1 n2
  have hcnt : countN m m.length = l.length := hR.count hB.qb.hm.nd
  have HTr : Bx (∀ (v : Value) (W : World), TksR W v m → Calls Try.prog 14 #[v, .int .i64 sd, .int .i64 tk, .int .i64 n, .int .i64 ((countN m m.length : Nat) : Int)] W fun e w' => e = .returned (.int .i64 (takeE l n sd tk)) ∧ W = w') := Bx.mk fun v W h => by
    have := rtry_any m v sd tk n ((countN m m.length : Nat) : Int) W h hm60 cf.2.2
    rw [hcnt, hR.try_] at this
    rw [hcnt]
    exact this
  have HCt := Bx.mk (cutQ_count hB.qb.hm.nd sd)
  have HIs := Bx.mk (hR.has sd)
  have HD32 := Bx.mk fun (h : ¬ tk < 0) => div32 tk cf.2.2 h
  have R0 := Bx.mk (And.intro hB hR)
  have HM := Bx.mk hm
  have HK6 := Bx.mk hk6
  have k1 : (k : Int) < 60 := by omega
  have k2 : (k : Int) < (na : Int) := by omega
  have k0 : (0 : Int) ≤ (k : Int) := by omega
  have m1 : (na : Int) ≤ 9223372036854775807 := by omega
  have hwk : IntKind.i64.wrap ((k : Int) + 1) = (k : Int) + 1 := by simp [IntKind.wrap_i64]; omega
  obtain ⟨ma, mn, mc, hvm⟩ := ownT_shape hB.own
  subst hvm
  obtain ⟨y, rfl, hy⟩ := open184 hf.fr
  have e0 := (hy 0).symm.trans hf.s0
  have e1 := (hy 1).symm.trans hf.s1
  have e2 := (hy 2).symm.trans hf.s2
  have e3 := (hy 3).symm.trans hf.s3
  have e9 := (hy 9).symm.trans hf.s9
  have e11 := (hy 11).symm.trans s11
  have e12 := (hy 12).symm.trans s12
  clear hf hy s11 s12 hk hk6 hn hna hB hR hm hv cf c0 c1 c2 n1 n2 hl16 hm60 hcnt
  rw [e0, e1, e2, e3, e9, e11, e12]
  clear e0 e1 e2 e3 e9 e11 e12
  conv => arg 2; whnf
  have R1 : Bx (BP w q M n l m (.slice ma mn mc) (wr.alloc (.cells #[.int .i64 ak, .int .i64 sd, .int .i64 tk] 31)) ∧ RowX wr.heap.size ak sd tk (wr.alloc (.cells #[.int .i64 ak, .int .i64 sd, .int .i64 tk] 31))) := Bx.mk ⟨R0.out.1.later (below_a _), hnew _ _ _ rfl⟩
  have HR := Bx.mk R0.out.2
  clear R0
  go_upto_region 11 with fail
  generalize wr.heap.size = X at *
  generalize wr.alloc (.cells #[.int .i64 ak, .int .i64 sd, .int .i64 tk] 31) = w1 at *
  clear d0 d1 d2
  obtain ⟨x0, x1, x2⟩ := R1.out.2.cells
  have hsb : (bits .and .i64 ak 1 == 1) = false := by simpa using hs
  go_upto_region 17 with fail
  have R2 : Bx (BP w q M n l m (.slice ma mn mc) w1.drew ∧ RowX X ak sd tk w1.drew) := Bx.mk ⟨R1.out.1.later (Below.refl _ _).drew, R1.out.2.later (Below.refl _ _).drew⟩
  clear R1 x0 x1 x2
  refine wp_region_noPanic ?_
  refine wp_region_held_drew (S := fun W => W.cell? ⟨X, 1, none⟩ = some (.int .i64 sd) ∧ W.cell? ⟨X, 2, none⟩ = some (.int .i64 tk)) (by kernel_rfl) (R2.out.2.cells.2) (fun hHeld => ?_)
  generalize w1.drew = W0 at *
  refine takeL 0 (v := ?_) rfl (by kernel_rfl) (by kernel_rfl) (by kernel_rfl) (fun _ _ _ h => h) (Or.inl ⟨by rfl, ?_⟩) hHeld ?_
  rotate_left 1
  · (intro w hSw; go_simp; try with_reducible rfl)
  try simp only [Act.put, List.setIfInBounds_toArray, List.set_cons_zero, List.set_cons_succ]
  refine takeL 1 (v := ?_) rfl (by kernel_rfl) (by kernel_rfl) (by kernel_rfl) (fun _ _ _ h => h) (Or.inl ⟨by rfl, ?_⟩) hHeld ?_
  rotate_left 1
  · (intro w hSw; go_simp; try with_reducible rfl)
  try simp only [Act.put, List.setIfInBounds_toArray, List.set_cons_zero, List.set_cons_succ]
  refine takeL 2 (v := ?_) rfl (by kernel_rfl) (by kernel_rfl) (by kernel_rfl) (fun _ _ _ h => h) (Or.inl ⟨by rfl, ?_⟩) hHeld ?_
  rotate_left 1
  · (intro w hSw; have q1 := hSw.1; clear hSw; go_simp; try with_reducible rfl)
  try simp only [Act.put, List.setIfInBounds_toArray, List.set_cons_zero, List.set_cons_succ]
  refine takeL 3 (v := ?_) rfl (by kernel_rfl) (by kernel_rfl) (by kernel_rfl) (fun _ _ _ h => h) (Or.inl ⟨by rfl, ?_⟩) hHeld ?_
  rotate_left 1
  · (intro w hSw; go_simp; try with_reducible rfl)
  try simp only [Act.put, List.setIfInBounds_toArray, List.set_cons_zero, List.set_cons_succ]
  refine takeL 4 (v := ?_) rfl (by kernel_rfl) (by kernel_rfl) (by kernel_rfl) (fun _ _ _ h => h) (Or.inl ⟨by rfl, ?_⟩) hHeld ?_
  rotate_left 1
  · (intro w hSw; have q2 := hSw.2; clear hSw; go_simp; try with_reducible rfl)
  try simp only [Act.put, List.setIfInBounds_toArray, List.set_cons_zero, List.set_cons_succ]
  refine takeL 5 (v := ?_) rfl (by kernel_rfl) (by kernel_rfl) (by kernel_rfl) (fun _ _ _ h => h) (Or.inl ⟨by rfl, ?_⟩) hHeld ?_
  rotate_left 1
  · (intro w hSw; go_simp; try with_reducible rfl)
  try simp only [Act.put, List.setIfInBounds_toArray, List.set_cons_zero, List.set_cons_succ]
  refine takeL 6 (v := ?_) rfl (by kernel_rfl) (by kernel_rfl) (by kernel_rfl) (fun _ _ _ h => h) (Or.inl ⟨by rfl, ?_⟩) hHeld ?_
  rotate_left 1
  · (intro w hSw; go_simp; try with_reducible rfl)
  try simp only [Act.put, List.setIfInBounds_toArray, List.set_cons_zero, List.set_cons_succ]
  refine stepL 7 (by kernel_rfl) rfl (fun K hK => ?_)
  go_simp
  refine (HCo.out _ _ R2.out.1.own.reads).mono ?_
  rintro e W3 ⟨rfl, hb⟩
  show K _ _
  have R3 : Bx (BP w q M n l m (.slice ma mn mc) W3 ∧ RowX X ak sd tk W3) := Bx.mk ⟨R2.out.1.later hb, R2.out.2.later hb⟩
  clear hb R2
  refine hK.out _ _ R3.out.2.cells.2 (fun hHeld => ?_)
  clear hK K
  try simp only [Act.put, List.setIfInBounds_toArray, List.set_cons_zero, List.set_cons_succ]
  refine stepL 8 (by kernel_rfl) rfl (fun K hK => ?_)
  go_simp
  refine (HTr.out _ _ R3.out.1.own.reads).mono ?_
  rintro e Wx ⟨rfl, rfl⟩
  show K _ _
  refine hK.out _ _ R3.out.2.cells.2 (fun hHeld => ?_)
  clear hK K
  try simp only [Act.put, List.setIfInBounds_toArray, List.set_cons_zero, List.set_cons_succ]
  refine takeL 9 (v := ?_) rfl (by kernel_rfl) (by kernel_rfl) (by kernel_rfl) (fun _ _ _ h => h) (Or.inl ⟨by rfl, ?_⟩) hHeld ?_
  rotate_left 1
  · (intro w hSw; go_simp; try with_reducible rfl)
  try simp only [Act.put, List.setIfInBounds_toArray, List.set_cons_zero, List.set_cons_succ]
  refine wpAnyH_done (by kernel_rfl) ?_ _
  refine NoPanic.normal ?_
  clear hHeld
  obtain ⟨x0, x1, x2⟩ := R3.out.2.cells
  go_wp2_with fail
  skip -- M3
  refine (HTk.out _ R3.out.1.qb).mono ?_
  rintro e w4 ⟨rfl, hq, hg⟩
  have R4 : Bx (BP w q M n (takeN l n sd tk) m (.slice ma mn mc) w4 ∧ RowX X ak sd tk w4) := Bx.mk ⟨R3.out.1.take hq hg, R3.out.2.map R3.out.1.qb.hm hg⟩
  clear hq hg R3 x0 x1 x2
  have hl1 : takeN l n sd tk = l := if_neg h0
  rw [hl1] at R4
  have HL4 : Bx (m.length ≤ k + 1) := Bx.mk (by have := HM.out; omega)
  clear hl1
  generalize takeE l n sd tk = eT at *
  go_wp2
  exact ⟨⟨⟨rfl, rfl⟩, rfl, rfl, rfl, rfl, rfl⟩, by first | rfl | go_num, .slice ma mn mc, l, m, rfl, R4.out.1, HR.out, HL4.out⟩
set_option maxRecDepth 100000 in
set_option maxHeartbeats 4000000 in
theorem roundY_take_yes (w : World) (acs : List AcQ) (q M : Nat) (n : Int) (v1 v2 v3 : Value) (hv : ActsQ w v1 acs) (hn : acs.length ≤ 9223372036854775807) (n1 : 1 ≤ n) (n2 : n ≤ 255)
    (Q : Exit → Act → World → Prop) (k : Nat) (a : Act) (wr : World) (hk : k < acs.length) (hk6 : k < 60) (hf : FY n v1 v2 v3 (.pointer (some ⟨q, 0, none⟩)) a) (s12 : a.eval (.tmp 12) = .int .i64 (k : Int)) (vm : Value) (l : List En) (m : List Tk) (s11 : a.eval (.tmp 11) = vm) (hB : BP w q M n l m vm wr) (hR : RelQ n l m) (hm : m.length ≤ k)
    (hs : ¬ bits .and .i64 (acs.getD k AcQ.zero).k 1 = 1) (h0 : takeE l n (acs.getD k AcQ.zero).s (acs.getD k AcQ.zero).t = 0) :
    Code.wp Try.prog (loopAt (Try.f3.body) 0) (Exit.then (fun a' w' => IY w q M n v1 v2 v3 (k + 1) a' w') Q) a wr := by
  have HN := Bx.mk (And.intro n1 n2)
  have hl16 := hR.len
  obtain ⟨b, o, cap, rfl⟩ := hv.some (by omega)
  obtain ⟨c0, c1, c2, cf⟩ := hv.cells k hk
  obtain ⟨na, hna⟩ : ∃ na, acs.length = na := ⟨_, rfl⟩
  rw [hna] at hk hn hf ⊢
  generalize acs.getD k AcQ.zero = ac at *
  obtain ⟨ak, sd, tk⟩ := ac
  have d0 := (hB.below.cell (p := ⟨b, o + k * 3, none⟩) (World.block_lt_of_cell? _ _ c0)).trans c0
  have d1 := (hB.below.cell (p := ⟨b, o + k * 3 + 1, none⟩) (World.block_lt_of_cell? _ _ c1)).trans c1
  have d2 := (hB.below.cell (p := ⟨b, o + k * 3 + 2, none⟩) (World.block_lt_of_cell? _ _ c2)).trans c2
  have hm60 : m.length ≤ 1000 := by omega
  have HKn := Bx.mk fun (v : Value) (W : World) (h : TksR W v m) => rknown_any m v sd W h hm60
  have HDr := Bx.mk fun (W : World) (G : Nat) (h : QB W q M n l) (e0 : W.cell? ⟨G, 0, none⟩ = some (.int .i64 sd)) (e1 : W.cell? ⟨G, 1, none⟩ = some (.int .i64 sd)) => qdrop_two q M G n l sd W h cf.2.1 (by omega) e0 e1
  have HRd := Bx.mk fun (v : Value) (W : World) (h : TksR W v m) => rdrop_any m v sd W h hm60
  have HCo := Bx.mk fun (v : Value) (W : World) (h : TksR W v m) => count_any m v W h hm60
  have HTk := Bx.mk fun (W : World) (h : QB W q M n l) => qtake_any q M n l sd tk W h cf.2.1 cf.2.2 hR.ok n1 n2
  have hcnt : countN m m.length = l.length := hR.count hB.qb.hm.nd
  have HTr : Bx (∀ (v : Value) (W : World), TksR W v m → Calls Try.prog 14 #[v, .int .i64 sd, .int .i64 tk, .int .i64 n, .int .i64 ((countN m m.length : Nat) : Int)] W fun e w' => e = .returned (.int .i64 (takeE l n sd tk)) ∧ W = w') := Bx.mk fun v W h => by
    have := rtry_any m v sd tk n ((countN m m.length : Nat) : Int) W h hm60 cf.2.2
    rw [hcnt, hR.try_] at this
    rw [hcnt]
    exact this
  have HCt := Bx.mk (cutQ_count hB.qb.hm.nd sd)
  have HIs := Bx.mk (hR.has sd)
  have HD32 := Bx.mk fun (h : ¬ tk < 0) => div32 tk cf.2.2 h
  have R0 := Bx.mk (And.intro hB hR)
  have HM := Bx.mk hm
  have HK6 := Bx.mk hk6
  have k1 : (k : Int) < 60 := by omega
  have k2 : (k : Int) < (na : Int) := by omega
  have k0 : (0 : Int) ≤ (k : Int) := by omega
  have m1 : (na : Int) ≤ 9223372036854775807 := by omega
  have hwk : IntKind.i64.wrap ((k : Int) + 1) = (k : Int) + 1 := by simp [IntKind.wrap_i64]; omega
  obtain ⟨ma, mn, mc, hvm⟩ := ownT_shape hB.own
  subst hvm
  obtain ⟨y, rfl, hy⟩ := open184 hf.fr
  have e0 := (hy 0).symm.trans hf.s0
  have e1 := (hy 1).symm.trans hf.s1
  have e2 := (hy 2).symm.trans hf.s2
  have e3 := (hy 3).symm.trans hf.s3
  have e9 := (hy 9).symm.trans hf.s9
  have e11 := (hy 11).symm.trans s11
  have e12 := (hy 12).symm.trans s12
  clear hf hy s11 s12 hk hk6 hn hna hB hR hm hv cf c0 c1 c2 n1 n2 hl16 hm60 hcnt
  rw [e0, e1, e2, e3, e9, e11, e12]
  clear e0 e1 e2 e3 e9 e11 e12
  conv => arg 2; whnf
  have R1 : Bx (BP w q M n l m (.slice ma mn mc) (wr.alloc (.cells #[.int .i64 ak, .int .i64 sd, .int .i64 tk] 31)) ∧ RowX wr.heap.size ak sd tk (wr.alloc (.cells #[.int .i64 ak, .int .i64 sd, .int .i64 tk] 31))) := Bx.mk ⟨R0.out.1.later (below_a _), hnew _ _ _ rfl⟩
  have HR := Bx.mk R0.out.2
  clear R0
  go_upto_region 11 with fail
  generalize wr.heap.size = X at *
  generalize wr.alloc (.cells #[.int .i64 ak, .int .i64 sd, .int .i64 tk] 31) = w1 at *
  clear d0 d1 d2
  obtain ⟨x0, x1, x2⟩ := R1.out.2.cells
  have hsb : (bits .and .i64 ak 1 == 1) = false := by simpa using hs
  go_upto_region 17 with fail
  have R2 : Bx (BP w q M n l m (.slice ma mn mc) w1.drew ∧ RowX X ak sd tk w1.drew) := Bx.mk ⟨R1.out.1.later (Below.refl _ _).drew, R1.out.2.later (Below.refl _ _).drew⟩
  clear R1 x0 x1 x2
  refine wp_region_noPanic ?_
  refine wp_region_held_drew (S := fun W => W.cell? ⟨X, 1, none⟩ = some (.int .i64 sd) ∧ W.cell? ⟨X, 2, none⟩ = some (.int .i64 tk)) (by kernel_rfl) (R2.out.2.cells.2) (fun hHeld => ?_)
  generalize w1.drew = W0 at *
  refine takeL 0 (v := ?_) rfl (by kernel_rfl) (by kernel_rfl) (by kernel_rfl) (fun _ _ _ h => h) (Or.inl ⟨by rfl, ?_⟩) hHeld ?_
  rotate_left 1
  · (intro w hSw; go_simp; try with_reducible rfl)
  try simp only [Act.put, List.setIfInBounds_toArray, List.set_cons_zero, List.set_cons_succ]
  refine takeL 1 (v := ?_) rfl (by kernel_rfl) (by kernel_rfl) (by kernel_rfl) (fun _ _ _ h => h) (Or.inl ⟨by rfl, ?_⟩) hHeld ?_
  rotate_left 1
  · (intro w hSw; go_simp; try with_reducible rfl)
  try simp only [Act.put, List.setIfInBounds_toArray, List.set_cons_zero, List.set_cons_succ]
  refine takeL 2 (v := ?_) rfl (by kernel_rfl) (by kernel_rfl) (by kernel_rfl) (fun _ _ _ h => h) (Or.inl ⟨by rfl, ?_⟩) hHeld ?_
  rotate_left 1
  · (intro w hSw; have q1 := hSw.1; clear hSw; go_simp; try with_reducible rfl)
  try simp only [Act.put, List.setIfInBounds_toArray, List.set_cons_zero, List.set_cons_succ]
  refine takeL 3 (v := ?_) rfl (by kernel_rfl) (by kernel_rfl) (by kernel_rfl) (fun _ _ _ h => h) (Or.inl ⟨by rfl, ?_⟩) hHeld ?_
  rotate_left 1
  · (intro w hSw; go_simp; try with_reducible rfl)
  try simp only [Act.put, List.setIfInBounds_toArray, List.set_cons_zero, List.set_cons_succ]
  refine takeL 4 (v := ?_) rfl (by kernel_rfl) (by kernel_rfl) (by kernel_rfl) (fun _ _ _ h => h) (Or.inl ⟨by rfl, ?_⟩) hHeld ?_
  rotate_left 1
  · (intro w hSw; have q2 := hSw.2; clear hSw; go_simp; try with_reducible rfl)
  try simp only [Act.put, List.setIfInBounds_toArray, List.set_cons_zero, List.set_cons_succ]
  refine takeL 5 (v := ?_) rfl (by kernel_rfl) (by kernel_rfl) (by kernel_rfl) (fun _ _ _ h => h) (Or.inl ⟨by rfl, ?_⟩) hHeld ?_
  rotate_left 1
  · (intro w hSw; go_simp; try with_reducible rfl)
  try simp only [Act.put, List.setIfInBounds_toArray, List.set_cons_zero, List.set_cons_succ]
  refine takeL 6 (v := ?_) rfl (by kernel_rfl) (by kernel_rfl) (by kernel_rfl) (fun _ _ _ h => h) (Or.inl ⟨by rfl, ?_⟩) hHeld ?_
  rotate_left 1
  · (intro w hSw; go_simp; try with_reducible rfl)
  try simp only [Act.put, List.setIfInBounds_toArray, List.set_cons_zero, List.set_cons_succ]
  refine stepL 7 (by kernel_rfl) rfl (fun K hK => ?_)
  go_simp
  refine (HCo.out _ _ R2.out.1.own.reads).mono ?_
  rintro e W3 ⟨rfl, hb⟩
  show K _ _
  have R3 : Bx (BP w q M n l m (.slice ma mn mc) W3 ∧ RowX X ak sd tk W3) := Bx.mk ⟨R2.out.1.later hb, R2.out.2.later hb⟩
  clear hb R2
  refine hK.out _ _ R3.out.2.cells.2 (fun hHeld => ?_)
  clear hK K
  try simp only [Act.put, List.setIfInBounds_toArray, List.set_cons_zero, List.set_cons_succ]
  refine stepL 8 (by kernel_rfl) rfl (fun K hK => ?_)
  go_simp
  refine (HTr.out _ _ R3.out.1.own.reads).mono ?_
  rintro e Wx ⟨rfl, rfl⟩
  show K _ _
  refine hK.out _ _ R3.out.2.cells.2 (fun hHeld => ?_)
  clear hK K
  try simp only [Act.put, List.setIfInBounds_toArray, List.set_cons_zero, List.set_cons_succ]
  refine takeL 9 (v := ?_) rfl (by kernel_rfl) (by kernel_rfl) (by kernel_rfl) (fun _ _ _ h => h) (Or.inl ⟨by rfl, ?_⟩) hHeld ?_
  rotate_left 1
  · (intro w hSw; go_simp; try with_reducible rfl)
  try simp only [Act.put, List.setIfInBounds_toArray, List.set_cons_zero, List.set_cons_succ]
  refine wpAnyH_done (by kernel_rfl) ?_ _
  refine NoPanic.normal ?_
  clear hHeld
  obtain ⟨x0, x1, x2⟩ := R3.out.2.cells
  go_wp2_with fail
  skip -- M3
  refine (HTk.out _ R3.out.1.qb).mono ?_
  rintro e w4 ⟨rfl, hq, hg⟩
  have R4 : Bx (BP w q M n (takeN l n sd tk) m (.slice ma mn mc) w4 ∧ RowX X ak sd tk w4) := Bx.mk ⟨R3.out.1.take hq hg, R3.out.2.map R3.out.1.qb.hm hg⟩
  clear hq hg R3 x0 x1 x2
  have hz := (takeE_zero h0).1
  have ht0 : ¬ tk < 0 := by have := (refK_zero hz).2.2.1; omega
  have hd32 := HD32.out (by omega)
  have HR4 := Bx.mk (HR.out.take HN.out.1 sd tk h0)
  have HL4 : Bx ((m ++ [⟨sd, perT tk⟩] : List Tk).length ≤ k + 1) := Bx.mk (by rw [List.length_append, List.length_singleton]; have := HM.out; omega)
  rw [h0]
  generalize takeN l n sd tk = l1 at *
  clear hz h0 ht0 HTk HTr
  generalize perT tk = pt at *
  obtain ⟨x0, x1, x2⟩ := R4.out.2.cells
  have R5 : Bx (BP w q M n l1 m (.slice ma mn mc) (w4.alloc (.cells #[.int .i64 sd, .int .i64 pt] 40)) ∧ (w4.alloc (.cells #[.int .i64 sd, .int .i64 pt] 40)).rangeAt w4.heap.size 0 (tkc ⟨sd, pt⟩)) := Bx.mk ⟨R4.out.1.later (below_a _), tkc_new w4 ⟨sd, pt⟩ _⟩
  skip -- M4
  go_wp2_with (refine wpList_apT11 rfl _ _ rfl w.heap.size (.slice ma mn mc) m (by rfl) R5.out.1.own w4.heap.size 0 ⟨sd, pt⟩ 1 (by rfl) R5.out.2 (by have := HM.out; have := HK6.out; omega) R5.out.1.below.size ?_; intro vm1 w6 ho hg; obtain ⟨na1, nn1, nc1, hvm1⟩ := ownT_shape ho; subst hvm1; have R6 := Bx.mk (R5.out.1.app ho hg); clear ho hg R5)
  exact ⟨⟨⟨rfl, rfl⟩, rfl, rfl, rfl, rfl, rfl⟩, by first | rfl | go_num, .slice na1 nn1 nc1, l1, m ++ [⟨sd, pt⟩], rfl, R6.out, HR4.out, HL4.out⟩
end Go.Proofs.Ytplkoijgokkmfaa
namespace Go.Proofs.Ytplkoijgokkmfaa
open Go Go.RowKit
theorem roundY (w : World) (acs : List AcQ) (q M : Nat) (n : Int) (v1 v2 v3 : Value) (hv : ActsQ w v1 acs) (hn : acs.length ≤ 9223372036854775807) (n1 : 1 ≤ n) (n2 : n ≤ 255)
    (Q : Exit → Act → World → Prop) (k : Nat) (a : Act) (wr : World) (hk : k < acs.length) (hk6 : k < 60) (h : IY w q M n v1 v2 v3 k a wr) :
    Code.wp Try.prog (loopAt (Try.f3.body) 0) (Exit.then (fun a' w' => IY w q M n v1 v2 v3 (k + 1) a' w') Q) a wr := by
  obtain ⟨hf, s12, vm, l, m, s11, hB, hR, hm⟩ := h
  by_cases hs : bits .and .i64 (acs.getD k AcQ.zero).k 1 = 1
  · cases hb : hasQ l (acs.getD k AcQ.zero).s with
    | true => exact roundY_drop_true w acs q M n v1 v2 v3 hv hn n1 n2 Q k a wr hk hk6 hf s12 vm l m s11 hB hR hm hs hb
    | false => exact roundY_drop_false w acs q M n v1 v2 v3 hv hn n1 n2 Q k a wr hk hk6 hf s12 vm l m s11 hB hR hm hs hb
  · by_cases h0 : takeE l n (acs.getD k AcQ.zero).s (acs.getD k AcQ.zero).t = 0
    · exact roundY_take_yes w acs q M n v1 v2 v3 hv hn n1 n2 Q k a wr hk hk6 hf s12 vm l m s11 hB hR hm hs h0
    · exact roundY_take_no w acs q M n v1 v2 v3 hv hn n1 n2 Q k a wr hk hk6 hf s12 vm l m s11 hB hR hm hs h0
set_option maxRecDepth 100000 in
set_option maxHeartbeats 4000000 in
theorem lastY (w : World) (acs : List AcQ) (q M : Nat) (n : Int) (v1 v2 v3 : Value) (hv : ActsQ w v1 acs) (hn : acs.length ≤ 9223372036854775807) (k : Nat) (hk : k ≤ acs.length) (hk6 : k ≤ 60) (hend : acs.length ≤ k ∨ k = 60)
    (Q : Exit → Act → World → Prop) (N : Act → World → Prop) (hq : ∀ a' w' vm l m, FY n v1 v2 v3 (.pointer (some ⟨q, 0, none⟩)) a' → a'.eval (.tmp 11) = vm → BP w q M n l m vm w' → RelQ n l m → m.length ≤ 60 → Q (.exit 0) a' w') (a : Act) (wr : World) (h : IY w q M n v1 v2 v3 k a wr) :
    Code.wp Try.prog (loopAt (Try.f3.body) 0) (Exit.then N Q) a wr := by
  obtain ⟨hf, s12, vm, l, m, s11, hB, hR, hm⟩ := h
  have HB := Bx.mk (And.intro hB (And.intro hR (show m.length ≤ 60 by omega)))
  have HQ := Bx.mk hq
  obtain ⟨a0, cap, rfl⟩ := hv.form
  obtain ⟨na, hna⟩ : ∃ m, acs.length = m := ⟨_, rfl⟩
  rw [hna] at hk hn hf hend HQ
  have k0 : (0 : Int) ≤ (k : Int) := by omega
  have m1 : (na : Int) ≤ 9223372036854775807 := by omega
  obtain ⟨y, rfl, hy⟩ := open184 hf.fr
  have e0 := (hy 0).symm.trans hf.s0
  have e1 := (hy 1).symm.trans hf.s1
  have e2 := (hy 2).symm.trans hf.s2
  have e3 := (hy 3).symm.trans hf.s3
  have e9 := (hy 9).symm.trans hf.s9
  have e11 := (hy 11).symm.trans s11
  have e12 := (hy 12).symm.trans s12
  clear hf hy s12 s11 hB hR hm hq hv hna
  rw [e0, e1, e2, e3, e9, e11, e12]
  clear e0 e1 e2 e3 e9 e11 e12
  conv => arg 2; whnf
  by_cases hlt : k < na
  · have h1 : (k : Int) < (na : Int) := by omega
    have h2 : ¬ (k : Int) < 60 := by omega
    clear hend hlt hk hk6 hn
    go_wp2
    exact HQ.out _ _ vm l m ⟨⟨rfl, rfl⟩, rfl, rfl, rfl, rfl, rfl⟩ rfl HB.out.1 HB.out.2.1 HB.out.2.2
  · have h1 : ¬ (k : Int) < (na : Int) := by omega
    clear hend hlt hk hk6 hn
    go_wp2
    exact HQ.out _ _ vm l m ⟨⟨rfl, rfl⟩, rfl, rfl, rfl, rfl, rfl⟩ rfl HB.out.1 HB.out.2.1 HB.out.2.2
theorem loopY (w : World) (acs : List AcQ) (q M : Nat) (n : Int) (v1 v2 v3 : Value) (hv : ActsQ w v1 acs) (hn : acs.length ≤ 9223372036854775807) (n1 : 1 ≤ n) (n2 : n ≤ 255)
    (Q : Exit → Act → World → Prop) (a : Act) (wr : World) (h : IY w q M n v1 v2 v3 0 a wr) (hq : ∀ a' w' vm l m, FY n v1 v2 v3 (.pointer (some ⟨q, 0, none⟩)) a' → a'.eval (.tmp 11) = vm → BP w q M n l m vm w' → RelQ n l m → m.length ≤ 60 → Q (.exit 0) a' w') :
    Code.wp Try.prog (.loop (loopAt (Try.f3.body) 0)) Q a wr :=
  wp_count (min acs.length 60) (fun k a w' => IY w q M n v1 v2 v3 k a w') 0 (Nat.zero_le _) h (fun k a w' hk hI => roundY w acs q M n v1 v2 v3 hv hn n1 n2 Q k a w' (by omega) (by omega) hI) (fun a w' hI => lastY w acs q M n v1 v2 v3 hv hn _ (by omega) (by omega) (by omega) Q _ hq a w' hI)
/-- Between two rounds of the last loop. -/
structure IZ (wf : World) (v11 v19 : Value) (k : Nat) (a : Act) (W : World) : Prop where
  fr : Fr 184 a
  s11 : a.eval (.tmp 11) = v11
  s19 : a.eval (.tmp 19) = v19
  s20 : a.eval (.tmp 20) = .int .i64 (k : Int)
  bel : Below wf.heap.size wf W
set_option maxRecDepth 100000 in
set_option maxHeartbeats 4000000 in
theorem roundZ (wf : World) (v11 v19 : Value) (m : List Tk) (us : List Int) (hm : TksR wf v11 m) (hm2 : m.length ≤ 1000) (hu : Ints wf v19 us) (hu2 : us.length ≤ 1000) (hin : ∀ x ∈ us, isT m x = true) (hrise : us.Pairwise (fun a b => a < b))
    (Q : Exit → Act → World → Prop) (k : Nat) (a : Act) (wr : World) (hk : k < us.length) (h : IZ wf v11 v19 k a wr) :
    Code.wp Try.prog (loopAt (Try.f3.body) 1) (Exit.then (fun a' w' => IZ wf v11 v19 (k + 1) a' w') Q) a wr := by
  obtain ⟨hfr, s11, s19, s20, hbel⟩ := h
  have HBel := Bx.mk hbel
  have hi1 : isT m (us.getD k 0) = true := hin _ (by
    rw [List.getD_eq_getElem?_getD, List.getElem?_eq_getElem hk]
    exact List.getElem_mem hk)
  have HKn : Bx (∀ W, Below wf.heap.size wf W → Calls Try.prog 11 #[v11, .int .i64 (us.getD k 0)] W fun e w' => e = .returned (.tuple #[.bool true, .int .i64 (lastT m (us.getD k 0))]) ∧ W = w') := Bx.mk fun W hb => by
    have := rknown_any m v11 (us.getD k 0) W (hm.later hb) hm2
    rw [hi1] at this
    exact this
  obtain ⟨a9, c9, rfl, -, -, hu'⟩ := hu
  obtain ⟨g, o, rfl, cu0⟩ := hu' (by omega)
  have cu := (hbel.cell (p := ⟨g, o + k, none⟩) (World.block_lt_of_cell? _ _ (cu0 k hk))).trans (cu0 k hk)
  have t1 : (k : Int) < (us.length : Int) := by omega
  have t2 : (us.length : Int) ≤ 1000 := by omega
  have t0 : (0 : Int) ≤ (k : Int) := by omega
  obtain ⟨a11, c11, hv11, -⟩ := hm
  obtain ⟨y, rfl, hy⟩ := open184 hfr
  have e11 := (hy 11).symm.trans s11
  have e19 := (hy 19).symm.trans s19
  have e20 := (hy 20).symm.trans s20
  by_cases hk0 : k = 0
  · subst hk0
    have cu' : wr.cell? ⟨g, o, none⟩ = some (.int .i64 (us.getD 0 0)) := cu
    have e20' : y 20 = .int .i64 0 := e20
    have q1 : (0 : Int) < (us.length : Int) := t1
    clear cu e20 t1 t0
    generalize us.length = un at *
    generalize us.getD 0 0 = x0 at *
    generalize lastT m x0 = lx at *
    subst hv11
    generalize m.length = mn at *
    clear hfr hy s11 s19 s20 hu' cu0 hbel hk hin hrise hi1 hu2 hm2
    rw [e11, e19, e20']
    clear e11 e19 e20'
    have cu := cu'
    clear cu'
    conv => arg 2; whnf
    go_wp2_with fail
    refine (HKn.out _ HBel.out).mono ?_
    rintro e Wx ⟨rfl, rfl⟩
    go_wp2
    go_quiet (fail)
    have HB4 := Bx.mk (below_drewN HBel.out nq)
    clear cu
    generalize wr.drewN nq = w4 at *
    go_wp2
    exact ⟨⟨rfl, rfl⟩, rfl, rfl, by first | rfl | go_num, HB4.out⟩
  · obtain ⟨j, hjk⟩ : ∃ j, j + 1 = k := ⟨k - 1, by omega⟩
    have cj := (hbel.cell (p := ⟨g, o + j, none⟩) (World.block_lt_of_cell? _ _ (cu0 j (by omega)))).trans (cu0 j (by omega))
    have hlt : us.getD j 0 < us.getD k 0 := by
      rw [List.getD_eq_getElem?_getD, List.getD_eq_getElem?_getD, List.getElem?_eq_getElem hk, List.getElem?_eq_getElem (by omega : j < us.length)]
      exact List.pairwise_iff_getElem.1 hrise j k (by omega) hk (by omega)
    have hw : IntKind.i64.wrap ((k : Int) - 1) = (j : Int) := by simp [IntKind.wrap_i64]; omega
    have hwk : IntKind.i64.wrap ((k : Int) + 1) = (k : Int) + 1 := by simp [IntKind.wrap_i64]; omega
    have p0 : (0 : Int) < (k : Int) := by omega
    have hd1 : decide ((0 : Int) < (k : Int)) = true := decide_eq_true p0
    have hd2 : decide (0 < k) = true := decide_eq_true (by omega)
    have p1 : (0 : Int) ≤ (j : Int) := by omega
    have p2 : (j : Int) < (us.length : Int) := by omega
    generalize us.length = un at *
    generalize us.getD k 0 = x0 at *
    generalize us.getD j 0 = xj at *
    generalize lastT m x0 = lx at *
    have hge : ¬ x0 ≤ xj := by omega
    subst hv11
    generalize m.length = mn at *
    clear hfr hy s11 s19 s20 hu' cu0 hbel hk hin hrise hi1 hu2 hm2 hjk hk0 hlt
    rw [e11, e19, e20]
    clear e11 e19 e20
    conv => arg 2; whnf
    go_wp2_with fail
    refine (HKn.out _ HBel.out).mono ?_
    rintro e Wx ⟨rfl, rfl⟩
    go_wp2
    go_quiet (fail)
    have HB4 := Bx.mk (below_drewN HBel.out nq)
    clear cu cj
    generalize wr.drewN nq = w4 at *
    go_wp2
    exact ⟨⟨rfl, rfl⟩, rfl, rfl, by first | rfl | go_num, HB4.out⟩
set_option maxRecDepth 100000 in
set_option maxHeartbeats 4000000 in
theorem lastZ (wf : World) (v11 v19 : Value) (m : List Tk) (us : List Int) (hm : TksR wf v11 m) (hm2 : m.length ≤ 1000) (hu : Ints wf v19 us) (hu2 : us.length ≤ 1000)
    (Q : Exit → Act → World → Prop) (N : Act → World → Prop) (hq : ∀ a' w', Fr 184 a' → Below wf.heap.size wf w' → Q (.exit 2) a' w') (a : Act) (wr : World) (h : IZ wf v11 v19 us.length a wr) :
    Code.wp Try.prog (loopAt (Try.f3.body) 1) (Exit.then N Q) a wr := by
  obtain ⟨hfr, s11, s19, s20, hbel⟩ := h
  have HBel := Bx.mk hbel
  have HQ := Bx.mk hq
  obtain ⟨a9, c9, h9, -⟩ := hu
  subst h9
  have t5 : (us.length : Int) ≤ 1000 := by omega
  generalize us.length = un at *
  obtain ⟨y, rfl, hy⟩ := open184 hfr
  have e11 := (hy 11).symm.trans s11
  have e19 := (hy 19).symm.trans s19
  have e20 := (hy 20).symm.trans s20
  clear hfr hy s11 s19 s20 hm hm2 hbel hu2 hq
  rw [e11, e19, e20]
  clear e11 e19 e20
  conv => arg 2; whnf
  go_wp2
  exact HQ.out _ _ ⟨rfl, rfl⟩ HBel.out
theorem loopZ (wf : World) (v11 v19 : Value) (m : List Tk) (us : List Int) (hm : TksR wf v11 m) (hm2 : m.length ≤ 1000) (hu : Ints wf v19 us) (hu2 : us.length ≤ 1000) (hin : ∀ x ∈ us, isT m x = true) (hrise : us.Pairwise (fun a b => a < b)) (Q : Exit → Act → World → Prop) (a : Act) (wr : World) (h : IZ wf v11 v19 0 a wr) (hq : ∀ a' w', Fr 184 a' → Below wf.heap.size wf w' → Q (.exit 2) a' w') :
    Code.wp Try.prog (.loop (loopAt (Try.f3.body) 1)) Q a wr :=
  wp_count us.length (fun k a w' => IZ wf v11 v19 k a w') 0 (Nat.zero_le _) h (fun k a w' hk hI => roundZ wf v11 v19 m us hm hm2 hu hu2 hin hrise Q k a w' hk hI) (fun a w' hI => lastZ wf v11 v19 m us hm hm2 hu hu2 Q _ hq a w' hI)
end Go.Proofs.Ytplkoijgokkmfaa
namespace Go.Proofs.Ytplkoijgokkmfaa
open Go Go.RowKit
set_option maxRecDepth 100000 in
set_option maxHeartbeats 4000000 in
theorem plays_low (n s t : Int) (v : Value) (w : World) (hv : ∃ a l c, v = .slice a l c) (h : n < 1) :
    Calls Try.prog 3 #[.int .i64 n, v, .int .i64 s, .int .i64 t] w fun e w' => e = .returned (.bool true) ∧ Below w.heap.size w w' := by
  have HN := Bx.mk (qnew_bad n w (.inl h))
  have HK := Bx.mk (known11_any w)
  obtain ⟨pa, pn, pc, rfl⟩ := hv
  go_enter Try.func3, Try.ntmps3
  go_wp2_with fail
  refine HN.out.mono ?_
  rintro e w1 ⟨rfl, rfl⟩
  go_wp2_with fail
  refine HK.out.mono ?_
  rintro e w1 ⟨rfl, hb⟩
  have HB := Bx.mk hb
  clear hb
  go_wp2
  go_ret
  exact ⟨rfl, HB.out⟩
set_option maxRecDepth 100000 in
set_option maxHeartbeats 4000000 in
theorem plays_high (n s t : Int) (v : Value) (w : World) (hv : ∃ a l c, v = .slice a l c) (h : 255 < n) :
    Calls Try.prog 3 #[.int .i64 n, v, .int .i64 s, .int .i64 t] w fun e w' => e = .returned (.bool true) ∧ Below w.heap.size w w' := by
  have HN := Bx.mk (qnew_bad n w (.inr h))
  have HK := Bx.mk (known11_any w)
  obtain ⟨pa, pn, pc, rfl⟩ := hv
  have hl : ¬ n < 1 := by omega
  go_enter Try.func3, Try.ntmps3
  go_wp2_with fail
  refine HN.out.mono ?_
  rintro e w1 ⟨rfl, rfl⟩
  go_wp2_with fail
  refine HK.out.mono ?_
  rintro e w1 ⟨rfl, hb⟩
  have HB := Bx.mk hb
  clear hb
  go_wp2
  go_ret
  exact ⟨rfl, HB.out⟩
set_option maxRecDepth 100000 in
set_option maxHeartbeats 4000000 in
theorem plays_ok (n s t : Int) (acs : List AcQ) (v : Value) (w : World) (hv : ActsQ w v acs) (hn : acs.length ≤ 9223372036854775807) (hs : in64 s) (ht : in64 t) (n1 : 1 ≤ n) (n2 : n ≤ 255) :
    Calls Try.prog 3 #[.int .i64 n, v, .int .i64 s, .int .i64 t] w fun e w' => e = .returned (.bool true) ∧ Below w.heap.size w w' := by
  have HNw := Bx.mk (qnew_ok n w n1 n2)
  have HTi := Bx.mk fun (q M : Nat) (W : World) (h : QB W q M n []) => qtimes_any q M n [] W h
  have HLo := Bx.mk fun (q M : Nat) (v1 v2 v3 : Value) (hv : ActsQ w v1 acs) (Q : Exit → Act → World → Prop) (a : Act) (wr : World) => loopY w acs q M n v1 v2 v3 hv hn n1 n2 Q a wr
  have HKn := Bx.mk fun (W : World) => known11_any W
  have HV := Bx.mk hv
  have HA := Bx.mk (And.intro (And.intro n1 n2) (And.intro hs ht))
  obtain ⟨pa, pc, rfl⟩ := hv.form
  have l1 : ¬ n < 1 := by omega
  have l2 : ¬ 255 < n := by omega
  generalize acs.length = pn at *
  clear hv hn n1 n2 hs ht
  go_enter Try.func3, Try.ntmps3
  go_wp2_with fail
  refine HNw.out.mono ?_
  rintro e w1 ⟨q, M, rfl, g1, g2, hb, hq⟩
  have R1 : Bx (BP w q M n [] [] (.slice none 0 0) w1) := Bx.mk ⟨hb, hq, g2, OwnT.nil _ _⟩
  clear g1 g2 hb hq HNw
  go_wp2_with fail
  refine (HTi.out q M _ R1.out.qb).mono ?_
  rintro e Wx ⟨rfl, rfl⟩
  go_wp2
  skip -- M0
  refine HLo.out q M _ _ _ HV.out _ _ _ ⟨⟨⟨rfl, rfl⟩, rfl, rfl, rfl, rfl, rfl⟩, rfl, _, [], [], rfl, R1.out, RelQ.start n, by simp⟩ ?_
  intro a6 w6 vm l m hf s11 hB hR hm6
  obtain ⟨⟨n1, n2⟩, hs, ht⟩ := HA.out
  have hm60 : m.length ≤ 1000 := by omega
  have HLk : Bx (∀ (W : World), TksR W vm m → Calls Try.prog 17 #[vm, .int .i64 s, .int .i64 t] W fun e w' => e = .returned (.int .i64 (refK l s t)) ∧ W = w') := Bx.mk fun W h => by
    have := rlook_any m vm s t W h hm60 ht
    rw [hR.look] at this
    exact this
  have HTm : Bx (∀ (W : World), TksR W vm m → refK l s t = 0 → Calls Try.prog 18 #[vm, .int .i64 s, .int .i64 (perT t)] W fun e w' => e = .returned (.int .i64 (tmsQ l s (perT t))) ∧ W = w') := Bx.mk fun W h h0 => by
    have := rtimes_any m vm s (perT t) W h hm60
    rw [hR.tim s _ (refK_zero h0).2.2.2] at this
    exact this
  have HD32 := Bx.mk fun (h : ¬ t < 0) => div32 t ht h
  have HSe := Bx.mk fun (W : World) (h : QB W q M n l) => senders_any q M n l W h (by have := hR.len; omega)
  have HCo := Bx.mk fun (W : World) (h : TksR W vm m) => count_any m vm W h hm60
  have HCn := Bx.mk (hR.count hB.qb.hm.nd)
  have HLe := Bx.mk fun (W : World) (h : QB W q M n l) => left_any q M n l s t W h hs ht hR.ok (by omega) n2
  have HIn : Bx (∀ x ∈ rowS l, isT m x = true) := Bx.mk fun x hx => by rw [← hR.has, ← rowS_mem]; exact hx
  have HRi := Bx.mk (rowS_rise l hB.qb.hm.nd)
  have HM6 := Bx.mk hm6
  have HL6 := Bx.mk hR.len
  have R1 := Bx.mk hB
  have htq := hR.ok.tms (by omega) s (perT t)
  obtain ⟨ma, mn, mc, hvm⟩ := ownT_shape hB.own
  subst hvm
  obtain ⟨y, rfl, hy⟩ := open184 hf.fr
  have e0 := (hy 0).symm.trans hf.s0
  have e1 := (hy 1).symm.trans hf.s1
  have e2 := (hy 2).symm.trans hf.s2
  have e3 := (hy 3).symm.trans hf.s3
  have e9 := (hy 9).symm.trans hf.s9
  have e11 := (hy 11).symm.trans s11
  clear hf hy s11 hB hR hm6 hm60 HLo HTi HA HV hs ht n1 n2
  rw [e0, e1, e2, e3, e9, e11]
  clear e0 e1 e2 e3 e9 e11
  by_cases h0 : refK l s t = 0
  · have HTm := Bx.mk fun (W : World) (h : TksR W (.slice ma mn mc) m) => HTm.out W h h0
    have hd32 := HD32.out (by have := (refK_zero h0).2.2.1; omega)
    rw [h0] at HLk
    have hwl : IntKind.i64.wrap (n - tmsQ l s (perT t)) = n - tmsQ l s (perT t) := by simp [IntKind.wrap_i64]; omega
    have hlk : leftK l n s t = n - tmsQ l s (perT t) := by unfold leftK; rw [if_pos h0]
    rw [hlk] at HLe
    clear hlk
    generalize tmsQ l s (perT t) = tq at *
    clear htq
    generalize perT t = pt at *
    go_wp2_with fail
    refine (HLk.out _ R1.out.own.reads).mono ?_
    rintro e Wx ⟨rfl, rfl⟩
    go_wp2_with fail
    refine (HTm.out _ R1.out.own.reads).mono ?_
    rintro e Wx ⟨rfl, rfl⟩
    go_wp2_with fail
    skip -- M1
    refine (HSe.out _ R1.out.qb).mono ?_
    rintro e w3 ⟨v19, rfl, ho, hb⟩
    have R3 := Bx.mk (And.intro (R1.out.later hb) ho.ints)
    obtain ⟨xa, xc, hvx⟩ := ho.form
    have hln := rowS_len l
    clear ho hb R1 HSe
    subst hvx
    obtain ⟨xn, hxn⟩ : ∃ xn, (rowS l).length = xn := ⟨_, rfl⟩
    have HX := Bx.mk hxn
    rw [hxn] at hln R3 ⊢
    subst hln
    clear hxn
    go_wp2_with fail
    refine (HCo.out _ R3.out.1.own.reads).mono ?_
    rintro e w4 ⟨rfl, hb⟩
    rw [HCn.out]
    have R4 := Bx.mk (And.intro (R3.out.1.later hb) (R3.out.2.later hb))
    clear hb R3
    go_wp2_with fail
    skip -- M2
    refine (HLe.out _ R4.out.1.qb).mono ?_
    rintro e w5 ⟨rfl, hb⟩
    have R5 := Bx.mk (And.intro (R4.out.1.later hb) (R4.out.2.later hb))
    clear hb R4
    go_wp2
    skip -- M3
    refine loopZ w5 _ _ m (rowS l) R5.out.1.own.reads (by have := HM6.out; omega) R5.out.2 (by have := HX.out; have := HL6.out; omega) HIn.out HRi.out _ _ _ ⟨⟨rfl, rfl⟩, rfl, rfl, rfl, Below.refl _ _⟩ ?_
    intro a8 w8 hf hb
    have HB8 := Bx.mk (R5.out.1.below.trans (hb.mono R5.out.1.below.size))
    clear hb R5
    obtain ⟨z, rfl, hz⟩ := open184 hf
    clear hf hz
    go_wp2_with fail
    refine (HKn.out _).mono ?_
    rintro e w9 ⟨rfl, hb⟩
    have HB9 := Bx.mk (HB8.out.trans (hb.mono HB8.out.size))
    clear hb HB8
    go_wp2
    go_ret
    exact ⟨rfl, HB9.out⟩
  · clear HTm HD32
    have hlk : leftK l n s t = 0 := by unfold leftK; rw [if_neg h0]
    rw [hlk] at HLe
    generalize refK l s t = rK at *
    clear hlk htq
    go_wp2_with fail
    refine (HLk.out _ R1.out.own.reads).mono ?_
    rintro e Wx ⟨rfl, rfl⟩
    go_wp2_with fail
    skip -- M1
    refine (HSe.out _ R1.out.qb).mono ?_
    rintro e w3 ⟨v19, rfl, ho, hb⟩
    have R3 := Bx.mk (And.intro (R1.out.later hb) ho.ints)
    obtain ⟨xa, xc, hvx⟩ := ho.form
    have hln := rowS_len l
    clear ho hb R1 HSe
    subst hvx
    obtain ⟨xn, hxn⟩ : ∃ xn, (rowS l).length = xn := ⟨_, rfl⟩
    have HX := Bx.mk hxn
    rw [hxn] at hln R3 ⊢
    subst hln
    clear hxn
    go_wp2_with fail
    refine (HCo.out _ R3.out.1.own.reads).mono ?_
    rintro e w4 ⟨rfl, hb⟩
    rw [HCn.out]
    have R4 := Bx.mk (And.intro (R3.out.1.later hb) (R3.out.2.later hb))
    clear hb R3
    go_wp2_with fail
    skip -- M2
    refine (HLe.out _ R4.out.1.qb).mono ?_
    rintro e w5 ⟨rfl, hb⟩
    have R5 := Bx.mk (And.intro (R4.out.1.later hb) (R4.out.2.later hb))
    clear hb R4
    go_wp2
    skip -- M3
    refine loopZ w5 _ _ m (rowS l) R5.out.1.own.reads (by have := HM6.out; omega) R5.out.2 (by have := HX.out; have := HL6.out; omega) HIn.out HRi.out _ _ _ ⟨⟨rfl, rfl⟩, rfl, rfl, rfl, Below.refl _ _⟩ ?_
    intro a8 w8 hf hb
    have HB8 := Bx.mk (R5.out.1.below.trans (hb.mono R5.out.1.below.size))
    clear hb R5
    obtain ⟨z, rfl, hz⟩ := open184 hf
    clear hf hz
    go_wp2_with fail
    refine (HKn.out _).mono ?_
    rintro e w9 ⟨rfl, hb⟩
    have HB9 := Bx.mk (HB8.out.trans (hb.mono HB8.out.size))
    clear hb HB8
    go_wp2
    go_ret
    exact ⟨rfl, HB9.out⟩
theorem plays_all (n s t : Int) (acs : List AcQ) (v : Value) (w : World) (hv : ActsQ w v acs) (hn : acs.length ≤ 9223372036854775807) (hs : in64 s) (ht : in64 t) :
    Calls Try.prog 3 #[.int .i64 n, v, .int .i64 s, .int .i64 t] w fun e w' => e = .returned (.bool true) ∧ Below w.heap.size w w' := by
  have hf : ∃ a l c, v = .slice a l c := by obtain ⟨a, c, h⟩ := hv.form; exact ⟨a, _, c, h⟩
  by_cases h1 : n < 1
  · exact plays_low n s t v w hf h1
  · by_cases h2 : 255 < n
    · exact plays_high n s t v w hf h2
    · exact plays_ok n s t acs v w hv hn hs ht (by omega) (by omega)
end Go.Proofs.Ytplkoijgokkmfaa
namespace Go.Proofs.Ytplkoijgokkmfaa
open Go
/-- A world to begin with. -/
noncomputable def laidWorld (os : Os) : World := World.holding Try.prog os ⟨#[], #[], []⟩
end Go.Proofs.Ytplkoijgokkmfaa
