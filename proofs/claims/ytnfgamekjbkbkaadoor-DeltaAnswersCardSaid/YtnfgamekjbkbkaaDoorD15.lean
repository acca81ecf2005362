/-
  Delta: the document's answer.
-/
import Derived.Test.YtnfgamekjbkbkaaDoorD14
import Derived.Test.YtnfgamekjbkbkaaDoorD6
import Derived.Test.YtnfgamekjbkbkaaDoorD12
namespace Go.Proofs.YtnfgamekjbkbkaaDoor
open Go Go.RowKit
theorem step_cellI8 {ops : Array Oper} {o : Oper} {a : Act} {w : World} {K : Act → World → Prop} {Q : Exit → Act → World → Prop} {F : Prop} (hgd : o.guard = none) (x y : Operand) (ho : o.op = .store 3 x y)
    (b i : Nat) (n : Int) (cs ds : Array Value) (t : TypeId) (hx : a.eval x = .pointer (some ⟨b, i, none⟩)) (hy : a.eval y = .int .i64 n) (hrow : w.heap[b]? = some (.cells cs t (0, 0))) (hi : i < cs.size) (hd : cs.setIfInBounds i (.int .i64 n) = ds)
    (h : ∀ w', w.grownBy w' (some b) → w'.heap[b]? = some (.cells ds t (0, 0)) → K (a.put o.dst undef) w') : if Region.wanted o (yielded ops a.tmps) = true then Oper.wp Tryd.prog o a w K Q else F := by
  have hw : Region.wanted o (yielded ops a.tmps) = true := by simp [Region.wanted, hgd]
  rw [if_pos hw]
  have hrun := run_cellI w b i n cs[i] (by rw [cell_of_row _ _ _ _ _ _ hrow]; exact Array.getElem?_eq_getElem hi) (frozen_of_row _ _ _ _ _ hrow)
  unfold Oper.wp execOp
  simp only [ho, hx, hy, hrun, Sem.run_bind, Sem.run_pure, Result.andThen_ok]
  exact h _ (kb_set1 _ _ _ _) (by rw [← hd]; exact heap_setCell_same _ _ _ _ _ _ hrow)
theorem isl_below9 {w : World} {v : Value} {l : List Int} {E : Nat} (h : IsL w v l) (hE : w.heap.size = E) : ∃ sa cap c o, v = .slice sa l.length cap ∧ (0 < l.length → sa = some ⟨c, o, none⟩) ∧ ∀ W1, Below E w W1 → ∀ j, j < l.length → W1.cell? ⟨c, o + j, none⟩ = some (.int .i64 (l.getD j 0)) := by
  obtain ⟨a, cap, rfl, h1, h2, h3⟩ := id h
  by_cases hp : 0 < l.length
  · obtain ⟨c, o, cs, fr, ha, hh, hcs⟩ := h3 hp
    refine ⟨a, cap, c, o, rfl, fun _ => ha, fun W1 hb j hj => ?_⟩
    have hr : W1.heap[c]? = some (.cells cs 3 fr) := by rw [hb.block c (by rw [← hE]; exact (Array.getElem?_eq_some_iff.1 hh).1)]; exact hh
    rw [cell_of_row _ _ _ _ _ _ hr]
    exact hcs j hj
  · exact ⟨a, cap, 0, 0, rfl, fun h => absurd h hp, fun _ _ j hj => absurd hj (by omega)⟩
def fN (v : Int) (L : List Int) : Nat := min v.toNat L.length
def tN (v : Int) (L : List Int) (n : Nat) : Nat := min (L.length - fN v L) n
/-- What is answered: serials, log by log, as long as there is room. -/
def ansL (l : L4) (v : V4) (n : Nat) : L4 :=
  ⟨(l.a.drop (fN v.a l.a)).take (tN v.a l.a n),
   (l.b.drop (fN v.b l.b)).take (tN v.b l.b (n - tN v.a l.a n)),
   (l.c.drop (fN v.c l.c)).take (tN v.c l.c (n - tN v.a l.a n - tN v.b l.b (n - tN v.a l.a n))),
   (l.d.drop (fN v.d l.d)).take (tN v.d l.d (n - tN v.a l.a n - tN v.b l.b (n - tN v.a l.a n) - tN v.c l.c (n - tN v.a l.a n - tN v.b l.b (n - tN v.a l.a n))))⟩
/-- What stays between two logs. -/
structure AO (w : World) (E : Nat) (v : V4) (cs : Array Value) (rs : List (Value × List Int)) (W : World) : Prop where
  kr : KR w E [(E + 2, .cells cs 26), (E + 1, .cells #[.int .i64 0, .int .i64 0, .int .i64 0, .int .i64 0, .slice none 0 0, .slice none 0 0, .slice none 0 0, .slice none 0 0] 26), (E, .cells #[.int .i64 v.a, .int .i64 v.b, .int .i64 v.c, .int .i64 v.d] 22)] W
  own : ∀ r ∈ rs, OwnI W (E + 3) r.1 r.2
theorem AO.later {w : World} {E : Nat} {v : V4} {cs : Array Value} {rs : List (Value × List Int)} {W W1 : World} (h : AO w E v cs rs W) (hb : Below W.heap.size W W1) : AO w E v cs rs W1 := ⟨h.kr.later hb, fun r hr => (h.own r hr).later hb (fun g hg => ((h.own r hr).lt g hg).1)⟩
theorem AO.sz {w : World} {E : Nat} {v : V4} {cs : Array Value} {rs : List (Value × List Int)} {W : World} (h : AO w E v cs rs W) : E + 2 < W.heap.size := h.kr.lt (.head _)
theorem AO.put {w : World} {E : Nat} {v : V4} {cs ds : Array Value} {rs : List (Value × List Int)} {W W1 : World} (h : AO w E v cs rs W) (hg : W.grownBy W1 (some (E + 2))) (hr : W1.heap[E + 2]? = some (.cells ds 26 (0, 0))) : AO w E v ds rs W1 :=
  ⟨h.kr.set hg hr (by omega) (by intro y hy; simp at hy; rcases hy with rfl | rfl <;> (simp only; omega)), fun r hr => ownI_off9 (h.own r hr) (by omega) hg⟩
theorem AO.inner {w : World} {E : Nat} {v : V4} {cs ds : Array Value} {rs : List (Value × List Int)} {u : Value} {l : List Int} {W W1 : World} (h : AO w E v cs rs W) (hi : AI W (E + 2) ds u l W1) : AO w E v ds ((u, l) :: rs) W1 := by
  have h1 := h.put hi.kb hi.row
  refine ⟨h1.kr, fun r hr => ?_⟩
  rcases List.mem_cons.1 hr with rfl | hr
  · exact hi.own.weak h.sz
  · exact h1.own r hr
set_option maxRecDepth 100000 in
set_option maxHeartbeats 16000000 in
theorem ranswer9 (v : V4) (q : Nat) (l : L4) (room : Int) (w : World) (hs : RAt w q l) (hg : Good l) (hok : okV v = true) (hr1 : 16 ≤ room) (hr2 : room ≤ 9223372036854775807) : Calls Tryd.prog 38 #[.pointer (some ⟨q, 0, none⟩), .agg #[.int .i64 v.a, .int .i64 v.b, .int .i64 v.c, .int .i64 v.d], .int .i64 room] w fun e w' => ∃ u, e = .returned (.agg (dC (lowV v l.ver) u)) ∧ Rows4 w' u (ansL l v ((room - 16) / 2).toNat) ∧ Below w.heap.size w w' := by
  obtain ⟨E, hE⟩ : ∃ E, w.heap.size = E := ⟨_, rfl⟩
  have hqE : q < E := by rw [← hE]; exact hs.lt
  obtain ⟨⟨va1, va2⟩, ⟨vb1, vb2⟩, ⟨vc1, vc2⟩, vd1, vd2⟩ := (okV_iff v).1 hok
  obtain ⟨x, hx, hr⟩ := id hs
  obtain ⟨saa, capa, ca, oa0, hxa, hsa, hca⟩ := isl_below9 hr.a hE
  obtain ⟨sab, capb, cb, ob0, hxb, hsb, hcb⟩ := isl_below9 hr.b hE
  obtain ⟨sac, capc, cc, oc0, hxc, hsc, hcc⟩ := isl_below9 hr.c hE
  obtain ⟨sad, capd, cd, od0, hxd, hsd, hcd⟩ := isl_below9 hr.d hE
  obtain ⟨xa, xb, xc, xd⟩ := x
  simp only at hxa hxb hxc hxd hx
  subst hxa hxb hxc hxd
  have HRa : Bx (∀ W, Below E w W → W.cell? ⟨q, 0, none⟩ = some (.slice saa l.a.length capa) ∧ ∀ j, j < l.a.length → W.cell? ⟨ca, oa0 + j, none⟩ = some (.int .i64 (l.a.getD j 0))) := ⟨fun W h => ⟨by rw [cell_of_row _ _ _ _ _ _ (by rw [h.block q hqE]; exact hx)]; rfl, hca W h⟩⟩
  have HSa := Bx.mk hsa
  have HLa : Bx (l.a.length ≤ 256) := ⟨hg.a⟩
  have HRb : Bx (∀ W, Below E w W → W.cell? ⟨q, 1, none⟩ = some (.slice sab l.b.length capb) ∧ ∀ j, j < l.b.length → W.cell? ⟨cb, ob0 + j, none⟩ = some (.int .i64 (l.b.getD j 0))) := ⟨fun W h => ⟨by rw [cell_of_row _ _ _ _ _ _ (by rw [h.block q hqE]; exact hx)]; rfl, hcb W h⟩⟩
  have HSb := Bx.mk hsb
  have HLb : Bx (l.b.length ≤ 256) := ⟨hg.b⟩
  have HRc : Bx (∀ W, Below E w W → W.cell? ⟨q, 2, none⟩ = some (.slice sac l.c.length capc) ∧ ∀ j, j < l.c.length → W.cell? ⟨cc, oc0 + j, none⟩ = some (.int .i64 (l.c.getD j 0))) := ⟨fun W h => ⟨by rw [cell_of_row _ _ _ _ _ _ (by rw [h.block q hqE]; exact hx)]; rfl, hcc W h⟩⟩
  have HSc := Bx.mk hsc
  have HLc : Bx (l.c.length ≤ 256) := ⟨hg.c⟩
  have HRd : Bx (∀ W, Below E w W → W.cell? ⟨q, 3, none⟩ = some (.slice sad l.d.length capd) ∧ ∀ j, j < l.d.length → W.cell? ⟨cd, od0 + j, none⟩ = some (.int .i64 (l.d.getD j 0))) := ⟨fun W h => ⟨by rw [cell_of_row _ _ _ _ _ _ (by rw [h.block q hqE]; exact hx)]; rfl, hcd W h⟩⟩
  have HSd := Bx.mk hsd
  have HLd : Bx (l.d.length ≤ 256) := ⟨hg.d⟩
  obtain ⟨n0, hn0⟩ : ∃ n, ((room - 16) / 2).toNat = n := ⟨_, rfl⟩
  have c1 : IntKind.i64.wrap (room - 16) = room - 16 := IntWalk.i64_in _ (by omega)
  have c2 : IntKind.i64.wrap ((room - 16).tdiv 2) = (n0 : Int) := by rw [IntWalk.i64_quo _ _ (by omega)]; omega
  have HN : Bx ((n0 : Int) ≤ 4611686018427387904) := ⟨by omega⟩
  rw [hn0]
  obtain ⟨fa, hfa⟩ : ∃ n, fN v.a l.a = n := ⟨_, rfl⟩
  obtain ⟨ta, hta⟩ : ∃ n, tN v.a l.a n0 = n := ⟨_, rfl⟩
  obtain ⟨n1, hn1⟩ : ∃ n, n0 - ta = n := ⟨_, rfl⟩
  have HFa : Bx ((min (l.a.length - fa) n0 = ta) ∧ fa ≤ l.a.length ∧ min v.a (l.a.length : Int) = (fa : Int)) := ⟨by rw [← hta, ← hfa]; rfl, by rw [← hfa]; unfold fN; omega, by rw [← hfa]; unfold fN; omega⟩
  have HMa := Bx.mk hn1
  obtain ⟨fb, hfb⟩ : ∃ n, fN v.b l.b = n := ⟨_, rfl⟩
  obtain ⟨tb, htb⟩ : ∃ n, tN v.b l.b n1 = n := ⟨_, rfl⟩
  obtain ⟨n2, hn2⟩ : ∃ n, n1 - tb = n := ⟨_, rfl⟩
  have HFb : Bx ((min (l.b.length - fb) n1 = tb) ∧ fb ≤ l.b.length ∧ min v.b (l.b.length : Int) = (fb : Int)) := ⟨by rw [← htb, ← hfb]; rfl, by rw [← hfb]; unfold fN; omega, by rw [← hfb]; unfold fN; omega⟩
  have HMb := Bx.mk hn2
  obtain ⟨fc, hfc⟩ : ∃ n, fN v.c l.c = n := ⟨_, rfl⟩
  obtain ⟨tc, htc⟩ : ∃ n, tN v.c l.c n2 = n := ⟨_, rfl⟩
  obtain ⟨n3, hn3⟩ : ∃ n, n2 - tc = n := ⟨_, rfl⟩
  have HFc : Bx ((min (l.c.length - fc) n2 = tc) ∧ fc ≤ l.c.length ∧ min v.c (l.c.length : Int) = (fc : Int)) := ⟨by rw [← htc, ← hfc]; rfl, by rw [← hfc]; unfold fN; omega, by rw [← hfc]; unfold fN; omega⟩
  have HMc := Bx.mk hn3
  obtain ⟨fd, hfd⟩ : ∃ n, fN v.d l.d = n := ⟨_, rfl⟩
  obtain ⟨td, htd⟩ : ∃ n, tN v.d l.d n3 = n := ⟨_, rfl⟩
  obtain ⟨n4, hn4⟩ : ∃ n, n3 - td = n := ⟨_, rfl⟩
  have HFd : Bx ((min (l.d.length - fd) n3 = td) ∧ fd ≤ l.d.length ∧ min v.d (l.d.length : Int) = (fd : Int)) := ⟨by rw [← htd, ← hfd]; rfl, by rw [← hfd]; unfold fN; omega, by rw [← hfd]; unfold fN; omega⟩
  have HMd := Bx.mk hn4
  have HAns : Bx (ansL l v n0 = ⟨(l.a.drop fa).take ta, (l.b.drop fb).take tb, (l.c.drop fc).take tc, (l.d.drop fd).take td⟩) := ⟨by
    unfold ansL
    rw [hfa, hfb, hfc, hfd, hta, hn1, htb, hn2, htc, hn3, htd]⟩
  rw [HAns.out]
  clear hta htb htc htd hfa hfb hfc hfd hn0 hn1 hn2 hn3 hn4 hok hs hg hr hx hsa hsb hsc hsd hca hcb hcc hcd HAns
  have K0 : Bx (KR w E [(E + 1, .cells #[.int .i64 0, .int .i64 0, .int .i64 0, .int .i64 0, .slice none 0 0, .slice none 0 0, .slice none 0 0, .slice none 0 0] 26), (E, .cells #[.int .i64 v.a, .int .i64 v.b, .int .i64 v.c, .int .i64 v.d] 22)] (((w.alloc (.cells #[.int .i64 v.a, .int .i64 v.b, .int .i64 v.c, .int .i64 v.d] 22)).alloc (.cells #[.int .i64 0, .int .i64 0, .int .i64 0, .int .i64 0, .slice none 0 0, .slice none 0 0, .slice none 0 0, .slice none 0 0] 26)))) := Bx.mk (by
    subst hE
    have h := ((KR.start w).new (.cells #[.int .i64 v.a, .int .i64 v.b, .int .i64 v.c, .int .i64 v.d] 22)).new (.cells #[.int .i64 0, .int .i64 0, .int .i64 0, .int .i64 0, .slice none 0 0, .slice none 0 0, .slice none 0 0, .slice none 0 0] 26)
    simpa using h)
  have hK0s : (((w.alloc (.cells #[.int .i64 v.a, .int .i64 v.b, .int .i64 v.c, .int .i64 v.d] 22)).alloc (.cells #[.int .i64 0, .int .i64 0, .int .i64 0, .int .i64 0, .slice none 0 0, .slice none 0 0, .slice none 0 0, .slice none 0 0] 26))).heap.size = E + 2 := by simp [hE]
  obtain ⟨rq, hrq⟩ : ∃ c, (lowV v l.ver) = c := ⟨_, rfl⟩
  have HRQ := Bx.mk hrq
  rw [hrq]
  clear hrq
  go_enter Tryd.func38, Tryd.ntmps38
  go_upto_region 1 with fail
  generalize ((w.alloc (.cells #[.int .i64 v.a, .int .i64 v.b, .int .i64 v.c, .int .i64 v.d] 22)).alloc (.cells #[.int .i64 0, .int .i64 0, .int .i64 0, .int .i64 0, .slice none 0 0, .slice none 0 0, .slice none 0 0, .slice none 0 0] 26)) = w0 at *
  go_wp2_with (refine wpList_store_v9 rfl 26 _ _ rfl w0 (E + 2) hK0s #[.int .i64 0, .int .i64 0, .int .i64 0, .int .i64 0, .slice none 0 0, .slice none 0 0, .slice none 0 0, .slice none 0 0] 26 rfl (by rfl) #[.int .i64 0, .int .i64 0, .int .i64 0, .int .i64 0, .slice none 0 0, .slice none 0 0, .slice none 0 0, .slice none 0 0] (by rfl) rfl (by kernel_rfl) (by simp [Value.oneCell']) ?_; intro w1 hb hr _; have K1 := Bx.mk (K0.out.var9 hK0s hb hr); clear hb hr K0)
  clear hK0s
  have R0 : Bx (AO w E v #[.int .i64 0, .int .i64 0, .int .i64 0, .int .i64 0, .slice none 0 0, .slice none 0 0, .slice none 0 0, .slice none 0 0] [] w1) := ⟨⟨K1.out, fun _ h => (List.not_mem_nil h).elim⟩⟩
  clear K1
  refine wp_loop_rounds 5 ?_
  rw [rounds_succ]
  go_upto_region 6 with fail
  have Z0 := Bx.mk (R0.out.later (Below.refl _ _).drew)
  clear R0
  refine wp_region_noPanic ?_
  refine wp_region_held_drew (S := fun W => W.cell? ⟨E, 0, none⟩ = some (.int .i64 v.a) ∧ W.cell? ⟨q, 0, none⟩ = some (.slice saa l.a.length capa)) (by kernel_rfl) (⟨by rw [cell_of_row _ _ _ _ _ _ (Z0.out.kr.rows _ (.tail _ (.tail _ (.head _))))]; rfl, (HRa.out _ Z0.out.kr.below).1⟩) (fun hHeld => ?_)
  generalize w1.drew = z0 at *
  refine takeL 0 (v := ?_) rfl (by kernel_rfl) (by kernel_rfl) (by kernel_rfl) (fun _ _ _ h => h) (Or.inl ⟨by rfl, ?_⟩) hHeld ?_
  rotate_left 1
  · (intro w hSw; go_simp; try with_reducible rfl)
  try simp only [Act.put, List.setIfInBounds_toArray, List.set_cons_zero, List.set_cons_succ]
  refine takeL 1 (v := ?_) rfl (by kernel_rfl) (by kernel_rfl) (by kernel_rfl) (fun _ _ _ h => h) (Or.inl ⟨by rfl, ?_⟩) hHeld ?_
  rotate_left 1
  · (intro w hSw; go_simp; try with_reducible rfl)
  try simp only [Act.put, List.setIfInBounds_toArray, List.set_cons_zero, List.set_cons_succ]
  refine takeL 2 (v := ?_) rfl (by kernel_rfl) (by kernel_rfl) (by kernel_rfl) (fun _ _ _ h => h) (Or.inl ⟨by rfl, ?_⟩) hHeld ?_
  rotate_left 1
  · (intro w hSw; go_simp; try with_reducible rfl)
  try simp only [Act.put, List.setIfInBounds_toArray, List.set_cons_zero, List.set_cons_succ]
  refine takeL 3 (v := ?_) rfl (by kernel_rfl) (by kernel_rfl) (by kernel_rfl) (fun _ _ _ h => h) (Or.inl ⟨by rfl, ?_⟩) hHeld ?_
  rotate_left 1
  · (intro w hSw; obtain ⟨q1, q2⟩ := hSw; go_simp; try with_reducible rfl)
  try simp only [Act.put, List.setIfInBounds_toArray, List.set_cons_zero, List.set_cons_succ]
  refine takeL 4 (v := ?_) rfl (by kernel_rfl) (by kernel_rfl) (by kernel_rfl) (fun _ _ _ h => h) (Or.inl ⟨by rfl, ?_⟩) hHeld ?_
  rotate_left 1
  · (intro w hSw; go_simp; try with_reducible rfl)
  try simp only [Act.put, List.setIfInBounds_toArray, List.set_cons_zero, List.set_cons_succ]
  refine takeL 5 (v := ?_) rfl (by kernel_rfl) (by kernel_rfl) (by kernel_rfl) (fun _ _ _ h => h) (Or.inl ⟨by rfl, ?_⟩) hHeld ?_
  rotate_left 1
  · (intro w hSw; go_simp; try with_reducible rfl)
  try simp only [Act.put, List.setIfInBounds_toArray, List.set_cons_zero, List.set_cons_succ]
  refine takeL 6 (v := ?_) rfl (by kernel_rfl) (by kernel_rfl) (by kernel_rfl) (fun _ _ _ h => h) (Or.inl ⟨by rfl, ?_⟩) hHeld ?_
  rotate_left 1
  · (intro w hSw; go_simp; try with_reducible rfl)
  try simp only [Act.put, List.setIfInBounds_toArray, List.set_cons_zero, List.set_cons_succ]
  refine takeL 7 (v := ?_) rfl (by kernel_rfl) (by kernel_rfl) (by kernel_rfl) (fun _ _ _ h => h) (Or.inl ⟨by rfl, ?_⟩) hHeld ?_
  rotate_left 1
  · (intro w hSw; go_simp; try with_reducible rfl)
  try simp only [Act.put, List.setIfInBounds_toArray, List.set_cons_zero, List.set_cons_succ]
  refine takeL 8 (v := ?_) rfl (by kernel_rfl) (by kernel_rfl) (by kernel_rfl) (fun _ _ _ h => h) (Or.inl ⟨by rfl, ?_⟩) hHeld ?_
  rotate_left 1
  · (intro w hSw; go_simp; try with_reducible rfl)
  try simp only [Act.put, List.setIfInBounds_toArray, List.set_cons_zero, List.set_cons_succ]
  refine takeL 9 (v := ?_) rfl (by kernel_rfl) (by kernel_rfl) (by kernel_rfl) (fun _ _ _ h => h) (Or.inl ⟨by rfl, ?_⟩) hHeld ?_
  rotate_left 1
  · (intro w hSw; obtain ⟨q1, q2⟩ := hSw; go_simp; try with_reducible rfl)
  try simp only [Act.put, List.setIfInBounds_toArray, List.set_cons_zero, List.set_cons_succ]
  refine takeL 10 (v := ?_) rfl (by kernel_rfl) (by kernel_rfl) (by kernel_rfl) (fun _ _ _ h => h) (Or.inl ⟨by rfl, ?_⟩) hHeld ?_
  rotate_left 1
  · (intro w hSw; go_simp; try with_reducible rfl)
  try simp only [Act.put, List.setIfInBounds_toArray, List.set_cons_zero, List.set_cons_succ]
  refine takeL 11 (v := ?_) rfl (by kernel_rfl) (by kernel_rfl) (by kernel_rfl) (fun _ _ _ h => h) (Or.inl ⟨by rfl, ?_⟩) hHeld ?_
  rotate_left 1
  · (intro w hSw; go_simp; try with_reducible rfl)
  try simp only [Act.put, List.setIfInBounds_toArray, List.set_cons_zero, List.set_cons_succ]
  refine takeL 12 (v := ?_) rfl (by kernel_rfl) (by kernel_rfl) (by kernel_rfl) (fun _ _ _ h => h) (Or.inl ⟨by rfl, ?_⟩) hHeld ?_
  rotate_left 1
  · (intro w hSw; go_simp; try with_reducible rfl)
  try simp only [Act.put, List.setIfInBounds_toArray, List.set_cons_zero, List.set_cons_succ]
  refine takeL 13 (v := ?_) rfl (by kernel_rfl) (by kernel_rfl) (by kernel_rfl) (fun _ _ _ h => h) (Or.inl ⟨by rfl, ?_⟩) hHeld ?_
  rotate_left 1
  · (intro w hSw; go_simp; try with_reducible rfl)
  try simp only [Act.put, List.setIfInBounds_toArray, List.set_cons_zero, List.set_cons_succ]
  refine stepL 14 (by kernel_rfl) rfl (fun K hK => ?_)
  refine step_cellI8 rfl _ _ rfl (E + 2) 0 (min v.a (l.a.length : Int)) #[.int .i64 0, .int .i64 0, .int .i64 0, .int .i64 0, .slice none 0 0, .slice none 0 0, .slice none 0 0, .slice none 0 0] #[.int .i64 (min v.a (l.a.length : Int)), .int .i64 0, .int .i64 0, .int .i64 0, .slice none 0 0, .slice none 0 0, .slice none 0 0, .slice none 0 0] 26 (by rfl) (by rfl) (Z0.out.kr.rows _ (.head _)) (by simp) rfl ?_
  intro y0 hg hr
  have S0 := Bx.mk (Z0.out.put hg hr)
  clear hg hr Z0
  refine hK.out _ _ (⟨by rw [cell_of_row _ _ _ _ _ _ (S0.out.kr.rows _ (.tail _ (.tail _ (.head _))))]; rfl, (HRa.out _ S0.out.kr.below).1⟩) (fun hHeld => ?_)
  clear hK K
  try simp only [Act.put]
  refine wpAnyH_done (by kernel_rfl) ?_ _
  refine NoPanic.normal ?_
  clear hHeld
  have m : y0.cell? ⟨E + 2, 0, none⟩ = some (.int .i64 (min v.a (l.a.length : Int))) := by rw [cell_of_row _ _ _ _ _ _ (S0.out.kr.rows _ (.head _))]; rfl
  go_wp2_with fail
  rw [HFa.out.2.2]
  clear m
  refine innerA0 y0 (E + 2) q ca oa0 capa saa (.int .i64 (min v.a (l.a.length : Int))) (.int .i64 0) (.int .i64 0) (.int .i64 0) (.slice none 0 0) (.slice none 0 0) (.slice none 0 0) (.slice none 0 0) l.a fa n0 ta _ _ HFa.out.1 HFa.out.2.1 (by have := HLa.out; omega) (by have := HN.out; omega) S0.out.sz HSa.out (fun W hW => HRa.out W (S0.out.kr.below.trans (grown_below hW (by omega) S0.out.kr.le))) _ _ _ ⟨⟨⟨rfl, rfl⟩, rfl, rfl, rfl, rfl, rfl⟩, rfl, rfl, none, 0, 0, kb_refl _ _, S0.out.kr.rows _ (.head _), OwnI.nil _ _⟩ ?_
  intro a' x0 hIQ
  obtain ⟨oa, ma, ca9, hai⟩ := hIQ.ai
  have R1 := Bx.mk (S0.out.inner hai)
  clear S0 hai
  obtain ⟨t0, rfl, hy⟩ := open73 hIQ.fr.fr
  have e0' := (hy 0).symm.trans hIQ.fr.s0
  have e4 := (hy 4).symm.trans hIQ.fr.s4
  have e6 := (hy 6).symm.trans hIQ.fr.s6
  have e7 := (hy 7).symm.trans hIQ.fr.s7
  have e9 := (hy 9).symm.trans hIQ.fr.s9
  have e8 := (hy 8).symm.trans hIQ.s8
  rw [HMa.out] at e8
  clear hy hIQ
  rw [e0', e4, e6, e7, e8, e9]
  clear e0' e4 e6 e7 e8 e9
  go_wp2
  rw [rounds_succ]
  go_upto_region 6 with fail
  have Z1 := Bx.mk (R1.out.later (Below.refl _ _).drew)
  clear R1
  refine wp_region_noPanic ?_
  refine wp_region_held_drew (S := fun W => W.cell? ⟨E, 1, none⟩ = some (.int .i64 v.b) ∧ W.cell? ⟨q, 1, none⟩ = some (.slice sab l.b.length capb)) (by kernel_rfl) (⟨by rw [cell_of_row _ _ _ _ _ _ (Z1.out.kr.rows _ (.tail _ (.tail _ (.head _))))]; rfl, (HRb.out _ Z1.out.kr.below).1⟩) (fun hHeld => ?_)
  generalize x0.drew = z1 at *
  refine takeL 0 (v := ?_) rfl (by kernel_rfl) (by kernel_rfl) (by kernel_rfl) (fun _ _ _ h => h) (Or.inl ⟨by rfl, ?_⟩) hHeld ?_
  rotate_left 1
  · (intro w hSw; go_simp; try with_reducible rfl)
  try simp only [Act.put, List.setIfInBounds_toArray, List.set_cons_zero, List.set_cons_succ]
  refine takeL 1 (v := ?_) rfl (by kernel_rfl) (by kernel_rfl) (by kernel_rfl) (fun _ _ _ h => h) (Or.inl ⟨by rfl, ?_⟩) hHeld ?_
  rotate_left 1
  · (intro w hSw; go_simp; try with_reducible rfl)
  try simp only [Act.put, List.setIfInBounds_toArray, List.set_cons_zero, List.set_cons_succ]
  refine takeL 2 (v := ?_) rfl (by kernel_rfl) (by kernel_rfl) (by kernel_rfl) (fun _ _ _ h => h) (Or.inl ⟨by rfl, ?_⟩) hHeld ?_
  rotate_left 1
  · (intro w hSw; go_simp; try with_reducible rfl)
  try simp only [Act.put, List.setIfInBounds_toArray, List.set_cons_zero, List.set_cons_succ]
  refine takeL 3 (v := ?_) rfl (by kernel_rfl) (by kernel_rfl) (by kernel_rfl) (fun _ _ _ h => h) (Or.inl ⟨by rfl, ?_⟩) hHeld ?_
  rotate_left 1
  · (intro w hSw; obtain ⟨q1, q2⟩ := hSw; go_simp; try with_reducible rfl)
  try simp only [Act.put, List.setIfInBounds_toArray, List.set_cons_zero, List.set_cons_succ]
  refine takeL 4 (v := ?_) rfl (by kernel_rfl) (by kernel_rfl) (by kernel_rfl) (fun _ _ _ h => h) (Or.inl ⟨by rfl, ?_⟩) hHeld ?_
  rotate_left 1
  · (intro w hSw; go_simp; try with_reducible rfl)
  try simp only [Act.put, List.setIfInBounds_toArray, List.set_cons_zero, List.set_cons_succ]
  refine takeL 5 (v := ?_) rfl (by kernel_rfl) (by kernel_rfl) (by kernel_rfl) (fun _ _ _ h => h) (Or.inl ⟨by rfl, ?_⟩) hHeld ?_
  rotate_left 1
  · (intro w hSw; go_simp; try with_reducible rfl)
  try simp only [Act.put, List.setIfInBounds_toArray, List.set_cons_zero, List.set_cons_succ]
  refine takeL 6 (v := ?_) rfl (by kernel_rfl) (by kernel_rfl) (by kernel_rfl) (fun _ _ _ h => h) (Or.inl ⟨by rfl, ?_⟩) hHeld ?_
  rotate_left 1
  · (intro w hSw; go_simp; try with_reducible rfl)
  try simp only [Act.put, List.setIfInBounds_toArray, List.set_cons_zero, List.set_cons_succ]
  refine takeL 7 (v := ?_) rfl (by kernel_rfl) (by kernel_rfl) (by kernel_rfl) (fun _ _ _ h => h) (Or.inl ⟨by rfl, ?_⟩) hHeld ?_
  rotate_left 1
  · (intro w hSw; go_simp; try with_reducible rfl)
  try simp only [Act.put, List.setIfInBounds_toArray, List.set_cons_zero, List.set_cons_succ]
  refine takeL 8 (v := ?_) rfl (by kernel_rfl) (by kernel_rfl) (by kernel_rfl) (fun _ _ _ h => h) (Or.inl ⟨by rfl, ?_⟩) hHeld ?_
  rotate_left 1
  · (intro w hSw; go_simp; try with_reducible rfl)
  try simp only [Act.put, List.setIfInBounds_toArray, List.set_cons_zero, List.set_cons_succ]
  refine takeL 9 (v := ?_) rfl (by kernel_rfl) (by kernel_rfl) (by kernel_rfl) (fun _ _ _ h => h) (Or.inl ⟨by rfl, ?_⟩) hHeld ?_
  rotate_left 1
  · (intro w hSw; obtain ⟨q1, q2⟩ := hSw; go_simp; try with_reducible rfl)
  try simp only [Act.put, List.setIfInBounds_toArray, List.set_cons_zero, List.set_cons_succ]
  refine takeL 10 (v := ?_) rfl (by kernel_rfl) (by kernel_rfl) (by kernel_rfl) (fun _ _ _ h => h) (Or.inl ⟨by rfl, ?_⟩) hHeld ?_
  rotate_left 1
  · (intro w hSw; go_simp; try with_reducible rfl)
  try simp only [Act.put, List.setIfInBounds_toArray, List.set_cons_zero, List.set_cons_succ]
  refine takeL 11 (v := ?_) rfl (by kernel_rfl) (by kernel_rfl) (by kernel_rfl) (fun _ _ _ h => h) (Or.inl ⟨by rfl, ?_⟩) hHeld ?_
  rotate_left 1
  · (intro w hSw; go_simp; try with_reducible rfl)
  try simp only [Act.put, List.setIfInBounds_toArray, List.set_cons_zero, List.set_cons_succ]
  refine takeL 12 (v := ?_) rfl (by kernel_rfl) (by kernel_rfl) (by kernel_rfl) (fun _ _ _ h => h) (Or.inl ⟨by rfl, ?_⟩) hHeld ?_
  rotate_left 1
  · (intro w hSw; go_simp; try with_reducible rfl)
  try simp only [Act.put, List.setIfInBounds_toArray, List.set_cons_zero, List.set_cons_succ]
  refine takeL 13 (v := ?_) rfl (by kernel_rfl) (by kernel_rfl) (by kernel_rfl) (fun _ _ _ h => h) (Or.inl ⟨by rfl, ?_⟩) hHeld ?_
  rotate_left 1
  · (intro w hSw; go_simp; try with_reducible rfl)
  try simp only [Act.put, List.setIfInBounds_toArray, List.set_cons_zero, List.set_cons_succ]
  refine stepL 14 (by kernel_rfl) rfl (fun K hK => ?_)
  refine step_cellI8 rfl _ _ rfl (E + 2) 1 (min v.b (l.b.length : Int)) #[.int .i64 (min v.a (l.a.length : Int)), .int .i64 0, .int .i64 0, .int .i64 0, .slice oa ma ca9, .slice none 0 0, .slice none 0 0, .slice none 0 0] #[.int .i64 (min v.a (l.a.length : Int)), .int .i64 (min v.b (l.b.length : Int)), .int .i64 0, .int .i64 0, .slice oa ma ca9, .slice none 0 0, .slice none 0 0, .slice none 0 0] 26 (by rfl) (by rfl) (Z1.out.kr.rows _ (.head _)) (by simp) rfl ?_
  intro y1 hg hr
  have S1 := Bx.mk (Z1.out.put hg hr)
  clear hg hr Z1
  refine hK.out _ _ (⟨by rw [cell_of_row _ _ _ _ _ _ (S1.out.kr.rows _ (.tail _ (.tail _ (.head _))))]; rfl, (HRb.out _ S1.out.kr.below).1⟩) (fun hHeld => ?_)
  clear hK K
  try simp only [Act.put]
  refine wpAnyH_done (by kernel_rfl) ?_ _
  refine NoPanic.normal ?_
  clear hHeld
  have m : y1.cell? ⟨E + 2, 1, none⟩ = some (.int .i64 (min v.b (l.b.length : Int))) := by rw [cell_of_row _ _ _ _ _ _ (S1.out.kr.rows _ (.head _))]; rfl
  go_wp2_with fail
  rw [HFb.out.2.2]
  clear m
  refine innerA1 y1 (E + 2) q cb ob0 capb sab (.int .i64 (min v.a (l.a.length : Int))) (.int .i64 (min v.b (l.b.length : Int))) (.int .i64 0) (.int .i64 0) (.slice oa ma ca9) (.slice none 0 0) (.slice none 0 0) (.slice none 0 0) l.b fb n1 tb _ _ HFb.out.1 HFb.out.2.1 (by have := HLb.out; omega) (by have := HN.out; have := HMa.out; omega) S1.out.sz HSb.out (fun W hW => HRb.out W (S1.out.kr.below.trans (grown_below hW (by omega) S1.out.kr.le))) _ _ _ ⟨⟨⟨rfl, rfl⟩, rfl, rfl, rfl, rfl, rfl⟩, rfl, rfl, none, 0, 0, kb_refl _ _, S1.out.kr.rows _ (.head _), OwnI.nil _ _⟩ ?_
  intro a' x1 hIQ
  obtain ⟨ob, mb, cb9, hai⟩ := hIQ.ai
  have R2 := Bx.mk (S1.out.inner hai)
  clear S1 hai
  obtain ⟨t1, rfl, hy⟩ := open73 hIQ.fr.fr
  have e0' := (hy 0).symm.trans hIQ.fr.s0
  have e4 := (hy 4).symm.trans hIQ.fr.s4
  have e6 := (hy 6).symm.trans hIQ.fr.s6
  have e7 := (hy 7).symm.trans hIQ.fr.s7
  have e9 := (hy 9).symm.trans hIQ.fr.s9
  have e8 := (hy 8).symm.trans hIQ.s8
  rw [HMb.out] at e8
  clear hy hIQ
  rw [e0', e4, e6, e7, e8, e9]
  clear e0' e4 e6 e7 e8 e9
  go_wp2
  rw [rounds_succ]
  go_upto_region 6 with fail
  have Z2 := Bx.mk (R2.out.later (Below.refl _ _).drew)
  clear R2
  refine wp_region_noPanic ?_
  refine wp_region_held_drew (S := fun W => W.cell? ⟨E, 2, none⟩ = some (.int .i64 v.c) ∧ W.cell? ⟨q, 2, none⟩ = some (.slice sac l.c.length capc)) (by kernel_rfl) (⟨by rw [cell_of_row _ _ _ _ _ _ (Z2.out.kr.rows _ (.tail _ (.tail _ (.head _))))]; rfl, (HRc.out _ Z2.out.kr.below).1⟩) (fun hHeld => ?_)
  generalize x1.drew = z2 at *
  refine takeL 0 (v := ?_) rfl (by kernel_rfl) (by kernel_rfl) (by kernel_rfl) (fun _ _ _ h => h) (Or.inl ⟨by rfl, ?_⟩) hHeld ?_
  rotate_left 1
  · (intro w hSw; go_simp; try with_reducible rfl)
  try simp only [Act.put, List.setIfInBounds_toArray, List.set_cons_zero, List.set_cons_succ]
  refine takeL 1 (v := ?_) rfl (by kernel_rfl) (by kernel_rfl) (by kernel_rfl) (fun _ _ _ h => h) (Or.inl ⟨by rfl, ?_⟩) hHeld ?_
  rotate_left 1
  · (intro w hSw; go_simp; try with_reducible rfl)
  try simp only [Act.put, List.setIfInBounds_toArray, List.set_cons_zero, List.set_cons_succ]
  refine takeL 2 (v := ?_) rfl (by kernel_rfl) (by kernel_rfl) (by kernel_rfl) (fun _ _ _ h => h) (Or.inl ⟨by rfl, ?_⟩) hHeld ?_
  rotate_left 1
  · (intro w hSw; go_simp; try with_reducible rfl)
  try simp only [Act.put, List.setIfInBounds_toArray, List.set_cons_zero, List.set_cons_succ]
  refine takeL 3 (v := ?_) rfl (by kernel_rfl) (by kernel_rfl) (by kernel_rfl) (fun _ _ _ h => h) (Or.inl ⟨by rfl, ?_⟩) hHeld ?_
  rotate_left 1
  · (intro w hSw; obtain ⟨q1, q2⟩ := hSw; go_simp; try with_reducible rfl)
  try simp only [Act.put, List.setIfInBounds_toArray, List.set_cons_zero, List.set_cons_succ]
  refine takeL 4 (v := ?_) rfl (by kernel_rfl) (by kernel_rfl) (by kernel_rfl) (fun _ _ _ h => h) (Or.inl ⟨by rfl, ?_⟩) hHeld ?_
  rotate_left 1
  · (intro w hSw; go_simp; try with_reducible rfl)
  try simp only [Act.put, List.setIfInBounds_toArray, List.set_cons_zero, List.set_cons_succ]
  refine takeL 5 (v := ?_) rfl (by kernel_rfl) (by kernel_rfl) (by kernel_rfl) (fun _ _ _ h => h) (Or.inl ⟨by rfl, ?_⟩) hHeld ?_
  rotate_left 1
  · (intro w hSw; go_simp; try with_reducible rfl)
  try simp only [Act.put, List.setIfInBounds_toArray, List.set_cons_zero, List.set_cons_succ]
  refine takeL 6 (v := ?_) rfl (by kernel_rfl) (by kernel_rfl) (by kernel_rfl) (fun _ _ _ h => h) (Or.inl ⟨by rfl, ?_⟩) hHeld ?_
  rotate_left 1
  · (intro w hSw; go_simp; try with_reducible rfl)
  try simp only [Act.put, List.setIfInBounds_toArray, List.set_cons_zero, List.set_cons_succ]
  refine takeL 7 (v := ?_) rfl (by kernel_rfl) (by kernel_rfl) (by kernel_rfl) (fun _ _ _ h => h) (Or.inl ⟨by rfl, ?_⟩) hHeld ?_
  rotate_left 1
  · (intro w hSw; go_simp; try with_reducible rfl)
  try simp only [Act.put, List.setIfInBounds_toArray, List.set_cons_zero, List.set_cons_succ]
  refine takeL 8 (v := ?_) rfl (by kernel_rfl) (by kernel_rfl) (by kernel_rfl) (fun _ _ _ h => h) (Or.inl ⟨by rfl, ?_⟩) hHeld ?_
  rotate_left 1
  · (intro w hSw; go_simp; try with_reducible rfl)
  try simp only [Act.put, List.setIfInBounds_toArray, List.set_cons_zero, List.set_cons_succ]
  refine takeL 9 (v := ?_) rfl (by kernel_rfl) (by kernel_rfl) (by kernel_rfl) (fun _ _ _ h => h) (Or.inl ⟨by rfl, ?_⟩) hHeld ?_
  rotate_left 1
  · (intro w hSw; obtain ⟨q1, q2⟩ := hSw; go_simp; try with_reducible rfl)
  try simp only [Act.put, List.setIfInBounds_toArray, List.set_cons_zero, List.set_cons_succ]
  refine takeL 10 (v := ?_) rfl (by kernel_rfl) (by kernel_rfl) (by kernel_rfl) (fun _ _ _ h => h) (Or.inl ⟨by rfl, ?_⟩) hHeld ?_
  rotate_left 1
  · (intro w hSw; go_simp; try with_reducible rfl)
  try simp only [Act.put, List.setIfInBounds_toArray, List.set_cons_zero, List.set_cons_succ]
  refine takeL 11 (v := ?_) rfl (by kernel_rfl) (by kernel_rfl) (by kernel_rfl) (fun _ _ _ h => h) (Or.inl ⟨by rfl, ?_⟩) hHeld ?_
  rotate_left 1
  · (intro w hSw; go_simp; try with_reducible rfl)
  try simp only [Act.put, List.setIfInBounds_toArray, List.set_cons_zero, List.set_cons_succ]
  refine takeL 12 (v := ?_) rfl (by kernel_rfl) (by kernel_rfl) (by kernel_rfl) (fun _ _ _ h => h) (Or.inl ⟨by rfl, ?_⟩) hHeld ?_
  rotate_left 1
  · (intro w hSw; go_simp; try with_reducible rfl)
  try simp only [Act.put, List.setIfInBounds_toArray, List.set_cons_zero, List.set_cons_succ]
  refine takeL 13 (v := ?_) rfl (by kernel_rfl) (by kernel_rfl) (by kernel_rfl) (fun _ _ _ h => h) (Or.inl ⟨by rfl, ?_⟩) hHeld ?_
  rotate_left 1
  · (intro w hSw; go_simp; try with_reducible rfl)
  try simp only [Act.put, List.setIfInBounds_toArray, List.set_cons_zero, List.set_cons_succ]
  refine stepL 14 (by kernel_rfl) rfl (fun K hK => ?_)
  refine step_cellI8 rfl _ _ rfl (E + 2) 2 (min v.c (l.c.length : Int)) #[.int .i64 (min v.a (l.a.length : Int)), .int .i64 (min v.b (l.b.length : Int)), .int .i64 0, .int .i64 0, .slice oa ma ca9, .slice ob mb cb9, .slice none 0 0, .slice none 0 0] #[.int .i64 (min v.a (l.a.length : Int)), .int .i64 (min v.b (l.b.length : Int)), .int .i64 (min v.c (l.c.length : Int)), .int .i64 0, .slice oa ma ca9, .slice ob mb cb9, .slice none 0 0, .slice none 0 0] 26 (by rfl) (by rfl) (Z2.out.kr.rows _ (.head _)) (by simp) rfl ?_
  intro y2 hg hr
  have S2 := Bx.mk (Z2.out.put hg hr)
  clear hg hr Z2
  refine hK.out _ _ (⟨by rw [cell_of_row _ _ _ _ _ _ (S2.out.kr.rows _ (.tail _ (.tail _ (.head _))))]; rfl, (HRc.out _ S2.out.kr.below).1⟩) (fun hHeld => ?_)
  clear hK K
  try simp only [Act.put]
  refine wpAnyH_done (by kernel_rfl) ?_ _
  refine NoPanic.normal ?_
  clear hHeld
  have m : y2.cell? ⟨E + 2, 2, none⟩ = some (.int .i64 (min v.c (l.c.length : Int))) := by rw [cell_of_row _ _ _ _ _ _ (S2.out.kr.rows _ (.head _))]; rfl
  go_wp2_with fail
  rw [HFc.out.2.2]
  clear m
  refine innerA2 y2 (E + 2) q cc oc0 capc sac (.int .i64 (min v.a (l.a.length : Int))) (.int .i64 (min v.b (l.b.length : Int))) (.int .i64 (min v.c (l.c.length : Int))) (.int .i64 0) (.slice oa ma ca9) (.slice ob mb cb9) (.slice none 0 0) (.slice none 0 0) l.c fc n2 tc _ _ HFc.out.1 HFc.out.2.1 (by have := HLc.out; omega) (by have := HN.out; have := HMa.out; have := HMb.out; omega) S2.out.sz HSc.out (fun W hW => HRc.out W (S2.out.kr.below.trans (grown_below hW (by omega) S2.out.kr.le))) _ _ _ ⟨⟨⟨rfl, rfl⟩, rfl, rfl, rfl, rfl, rfl⟩, rfl, rfl, none, 0, 0, kb_refl _ _, S2.out.kr.rows _ (.head _), OwnI.nil _ _⟩ ?_
  intro a' x2 hIQ
  obtain ⟨oc, mc, cc9, hai⟩ := hIQ.ai
  have R3 := Bx.mk (S2.out.inner hai)
  clear S2 hai
  obtain ⟨t2, rfl, hy⟩ := open73 hIQ.fr.fr
  have e0' := (hy 0).symm.trans hIQ.fr.s0
  have e4 := (hy 4).symm.trans hIQ.fr.s4
  have e6 := (hy 6).symm.trans hIQ.fr.s6
  have e7 := (hy 7).symm.trans hIQ.fr.s7
  have e9 := (hy 9).symm.trans hIQ.fr.s9
  have e8 := (hy 8).symm.trans hIQ.s8
  rw [HMc.out] at e8
  clear hy hIQ
  rw [e0', e4, e6, e7, e8, e9]
  clear e0' e4 e6 e7 e8 e9
  go_wp2
  rw [rounds_succ]
  go_upto_region 6 with fail
  have Z3 := Bx.mk (R3.out.later (Below.refl _ _).drew)
  clear R3
  refine wp_region_noPanic ?_
  refine wp_region_held_drew (S := fun W => W.cell? ⟨E, 3, none⟩ = some (.int .i64 v.d) ∧ W.cell? ⟨q, 3, none⟩ = some (.slice sad l.d.length capd)) (by kernel_rfl) (⟨by rw [cell_of_row _ _ _ _ _ _ (Z3.out.kr.rows _ (.tail _ (.tail _ (.head _))))]; rfl, (HRd.out _ Z3.out.kr.below).1⟩) (fun hHeld => ?_)
  generalize x2.drew = z3 at *
  refine takeL 0 (v := ?_) rfl (by kernel_rfl) (by kernel_rfl) (by kernel_rfl) (fun _ _ _ h => h) (Or.inl ⟨by rfl, ?_⟩) hHeld ?_
  rotate_left 1
  · (intro w hSw; go_simp; try with_reducible rfl)
  try simp only [Act.put, List.setIfInBounds_toArray, List.set_cons_zero, List.set_cons_succ]
  refine takeL 1 (v := ?_) rfl (by kernel_rfl) (by kernel_rfl) (by kernel_rfl) (fun _ _ _ h => h) (Or.inl ⟨by rfl, ?_⟩) hHeld ?_
  rotate_left 1
  · (intro w hSw; go_simp; try with_reducible rfl)
  try simp only [Act.put, List.setIfInBounds_toArray, List.set_cons_zero, List.set_cons_succ]
  refine takeL 2 (v := ?_) rfl (by kernel_rfl) (by kernel_rfl) (by kernel_rfl) (fun _ _ _ h => h) (Or.inl ⟨by rfl, ?_⟩) hHeld ?_
  rotate_left 1
  · (intro w hSw; go_simp; try with_reducible rfl)
  try simp only [Act.put, List.setIfInBounds_toArray, List.set_cons_zero, List.set_cons_succ]
  refine takeL 3 (v := ?_) rfl (by kernel_rfl) (by kernel_rfl) (by kernel_rfl) (fun _ _ _ h => h) (Or.inl ⟨by rfl, ?_⟩) hHeld ?_
  rotate_left 1
  · (intro w hSw; obtain ⟨q1, q2⟩ := hSw; go_simp; try with_reducible rfl)
  try simp only [Act.put, List.setIfInBounds_toArray, List.set_cons_zero, List.set_cons_succ]
  refine takeL 4 (v := ?_) rfl (by kernel_rfl) (by kernel_rfl) (by kernel_rfl) (fun _ _ _ h => h) (Or.inl ⟨by rfl, ?_⟩) hHeld ?_
  rotate_left 1
  · (intro w hSw; go_simp; try with_reducible rfl)
  try simp only [Act.put, List.setIfInBounds_toArray, List.set_cons_zero, List.set_cons_succ]
  refine takeL 5 (v := ?_) rfl (by kernel_rfl) (by kernel_rfl) (by kernel_rfl) (fun _ _ _ h => h) (Or.inl ⟨by rfl, ?_⟩) hHeld ?_
  rotate_left 1
  · (intro w hSw; go_simp; try with_reducible rfl)
  try simp only [Act.put, List.setIfInBounds_toArray, List.set_cons_zero, List.set_cons_succ]
  refine takeL 6 (v := ?_) rfl (by kernel_rfl) (by kernel_rfl) (by kernel_rfl) (fun _ _ _ h => h) (Or.inl ⟨by rfl, ?_⟩) hHeld ?_
  rotate_left 1
  · (intro w hSw; go_simp; try with_reducible rfl)
  try simp only [Act.put, List.setIfInBounds_toArray, List.set_cons_zero, List.set_cons_succ]
  refine takeL 7 (v := ?_) rfl (by kernel_rfl) (by kernel_rfl) (by kernel_rfl) (fun _ _ _ h => h) (Or.inl ⟨by rfl, ?_⟩) hHeld ?_
  rotate_left 1
  · (intro w hSw; go_simp; try with_reducible rfl)
  try simp only [Act.put, List.setIfInBounds_toArray, List.set_cons_zero, List.set_cons_succ]
  refine takeL 8 (v := ?_) rfl (by kernel_rfl) (by kernel_rfl) (by kernel_rfl) (fun _ _ _ h => h) (Or.inl ⟨by rfl, ?_⟩) hHeld ?_
  rotate_left 1
  · (intro w hSw; go_simp; try with_reducible rfl)
  try simp only [Act.put, List.setIfInBounds_toArray, List.set_cons_zero, List.set_cons_succ]
  refine takeL 9 (v := ?_) rfl (by kernel_rfl) (by kernel_rfl) (by kernel_rfl) (fun _ _ _ h => h) (Or.inl ⟨by rfl, ?_⟩) hHeld ?_
  rotate_left 1
  · (intro w hSw; obtain ⟨q1, q2⟩ := hSw; go_simp; try with_reducible rfl)
  try simp only [Act.put, List.setIfInBounds_toArray, List.set_cons_zero, List.set_cons_succ]
  refine takeL 10 (v := ?_) rfl (by kernel_rfl) (by kernel_rfl) (by kernel_rfl) (fun _ _ _ h => h) (Or.inl ⟨by rfl, ?_⟩) hHeld ?_
  rotate_left 1
  · (intro w hSw; go_simp; try with_reducible rfl)
  try simp only [Act.put, List.setIfInBounds_toArray, List.set_cons_zero, List.set_cons_succ]
  refine takeL 11 (v := ?_) rfl (by kernel_rfl) (by kernel_rfl) (by kernel_rfl) (fun _ _ _ h => h) (Or.inl ⟨by rfl, ?_⟩) hHeld ?_
  rotate_left 1
  · (intro w hSw; go_simp; try with_reducible rfl)
  try simp only [Act.put, List.setIfInBounds_toArray, List.set_cons_zero, List.set_cons_succ]
  refine takeL 12 (v := ?_) rfl (by kernel_rfl) (by kernel_rfl) (by kernel_rfl) (fun _ _ _ h => h) (Or.inl ⟨by rfl, ?_⟩) hHeld ?_
  rotate_left 1
  · (intro w hSw; go_simp; try with_reducible rfl)
  try simp only [Act.put, List.setIfInBounds_toArray, List.set_cons_zero, List.set_cons_succ]
  refine takeL 13 (v := ?_) rfl (by kernel_rfl) (by kernel_rfl) (by kernel_rfl) (fun _ _ _ h => h) (Or.inl ⟨by rfl, ?_⟩) hHeld ?_
  rotate_left 1
  · (intro w hSw; go_simp; try with_reducible rfl)
  try simp only [Act.put, List.setIfInBounds_toArray, List.set_cons_zero, List.set_cons_succ]
  refine stepL 14 (by kernel_rfl) rfl (fun K hK => ?_)
  refine step_cellI8 rfl _ _ rfl (E + 2) 3 (min v.d (l.d.length : Int)) #[.int .i64 (min v.a (l.a.length : Int)), .int .i64 (min v.b (l.b.length : Int)), .int .i64 (min v.c (l.c.length : Int)), .int .i64 0, .slice oa ma ca9, .slice ob mb cb9, .slice oc mc cc9, .slice none 0 0] #[.int .i64 (min v.a (l.a.length : Int)), .int .i64 (min v.b (l.b.length : Int)), .int .i64 (min v.c (l.c.length : Int)), .int .i64 (min v.d (l.d.length : Int)), .slice oa ma ca9, .slice ob mb cb9, .slice oc mc cc9, .slice none 0 0] 26 (by rfl) (by rfl) (Z3.out.kr.rows _ (.head _)) (by simp) rfl ?_
  intro y3 hg hr
  have S3 := Bx.mk (Z3.out.put hg hr)
  clear hg hr Z3
  refine hK.out _ _ (⟨by rw [cell_of_row _ _ _ _ _ _ (S3.out.kr.rows _ (.tail _ (.tail _ (.head _))))]; rfl, (HRd.out _ S3.out.kr.below).1⟩) (fun hHeld => ?_)
  clear hK K
  try simp only [Act.put]
  refine wpAnyH_done (by kernel_rfl) ?_ _
  refine NoPanic.normal ?_
  clear hHeld
  have m : y3.cell? ⟨E + 2, 3, none⟩ = some (.int .i64 (min v.d (l.d.length : Int))) := by rw [cell_of_row _ _ _ _ _ _ (S3.out.kr.rows _ (.head _))]; rfl
  go_wp2_with fail
  rw [HFd.out.2.2]
  clear m
  refine innerA3 y3 (E + 2) q cd od0 capd sad (.int .i64 (min v.a (l.a.length : Int))) (.int .i64 (min v.b (l.b.length : Int))) (.int .i64 (min v.c (l.c.length : Int))) (.int .i64 (min v.d (l.d.length : Int))) (.slice oa ma ca9) (.slice ob mb cb9) (.slice oc mc cc9) (.slice none 0 0) l.d fd n3 td _ _ HFd.out.1 HFd.out.2.1 (by have := HLd.out; omega) (by have := HN.out; have := HMa.out; have := HMb.out; have := HMc.out; omega) S3.out.sz HSd.out (fun W hW => HRd.out W (S3.out.kr.below.trans (grown_below hW (by omega) S3.out.kr.le))) _ _ _ ⟨⟨⟨rfl, rfl⟩, rfl, rfl, rfl, rfl, rfl⟩, rfl, rfl, none, 0, 0, kb_refl _ _, S3.out.kr.rows _ (.head _), OwnI.nil _ _⟩ ?_
  intro a' x3 hIQ
  obtain ⟨od, md, cd9, hai⟩ := hIQ.ai
  have R4 := Bx.mk (S3.out.inner hai)
  clear S3 hai
  obtain ⟨t3, rfl, hy⟩ := open73 hIQ.fr.fr
  have e0' := (hy 0).symm.trans hIQ.fr.s0
  have e4 := (hy 4).symm.trans hIQ.fr.s4
  have e6 := (hy 6).symm.trans hIQ.fr.s6
  have e7 := (hy 7).symm.trans hIQ.fr.s7
  have e9 := (hy 9).symm.trans hIQ.fr.s9
  have e8 := (hy 8).symm.trans hIQ.s8
  rw [HMd.out] at e8
  clear hy hIQ
  rw [e0', e4, e6, e7, e8, e9]
  clear e0' e4 e6 e7 e8 e9
  go_wp2
  rw [rounds_succ]
  go_wp2_with (first | (refine wpList_load_row rfl 26 _ rfl (E + 2) (by rfl) _ #[.int .i64 (min v.a (l.a.length : Int)), .int .i64 (min v.b (l.b.length : Int)), .int .i64 (min v.c (l.c.length : Int)), .int .i64 (min v.d (l.d.length : Int)), .slice oa ma ca9, .slice ob mb cb9, .slice oc mc cc9, .slice od md cd9] (0, 0) _ (R4.out.kr.rows _ (.head _)) Tryd.underlying26 rfl (by kernel_rfl) ?_) | (refine wpList_store_new rfl 26 _ _ rfl (E + 1) #[.int .i64 (min v.a (l.a.length : Int)), .int .i64 (min v.b (l.b.length : Int)), .int .i64 (min v.c (l.c.length : Int)), .int .i64 (min v.d (l.d.length : Int)), .slice oa ma ca9, .slice ob mb cb9, .slice oc mc cc9, .slice od md cd9] _ _ (by rfl) (by rfl) (R4.out.kr.rows _ (.tail _ (.head _))) rfl (by kernel_rfl) (by simp [Value.oneCell']) ?_; intro w14 hw hr; have HR := Bx.mk hr; have HG := Bx.mk (kb_of9 hw); clear hw hr))
  refine bodyPost_ret (results_cell_row rfl _ _ (E + 1) _ _ _ _ rfl HR.out Tryd.underlying26 rfl (by kernel_rfl)) rfl ?_
  refine ⟨⟨.slice oa ma ca9, .slice ob mb cb9, .slice oc mc cc9, .slice od md cd9⟩, ?_, ⟨(ownI_off9 (R4.out.own _ (.tail _ (.tail _ (.tail _ (.head _))))) (by omega) HG.out).isL, (ownI_off9 (R4.out.own _ (.tail _ (.tail _ (.head _)))) (by omega) HG.out).isL, (ownI_off9 (R4.out.own _ (.tail _ (.head _))) (by omega) HG.out).isL, (ownI_off9 (R4.out.own _ (.head _)) (by omega) HG.out).isL⟩, ?_⟩
  · rw [← HRQ.out]
    rfl
  · rw [hE]
    exact R4.out.kr.below.trans (grown_below HG.out (by omega) R4.out.kr.le)
end Go.Proofs.YtnfgamekjbkbkaaDoor
