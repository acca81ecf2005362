/-
  What of a book is looked for, in order.
-/
import Derived.Test.YtdbdpehagkglfaaH16
import Derived.Test.YtdbdpehagkglfaaCb
import Derived.Test.YtdbdpehagkglfaaRows
import Derived.ProofKit
import Derived.OpenShut
import Derived.ChangeOld
import Derived.Below
import Derived.Deep.DeepHandedRow
import Derived.Deep.Matrix
import Derived.Deep.Slices
namespace Go.Proofs.Ytdbdpehagkglfaa
open Go Go.RowKit Go.Sort Go.Shelf Go.Maps
theorem ranges_map {W : World} {M R n : Nat} {D : DataW Unit} {left : Lit → Bool} {cnt : Nat} (h : W.ranges Try.prog 34 RPp M R n D left cnt) : (∃ es clock, W.heap[M]? = some (.map es clock)) ∧ ∃ a b c d, W.heap[R]? = some (.mapIter a b c d) := by
  obtain ⟨es, clock, since, seen, c0, h1, _, _, _, h2, _⟩ := h
  exact ⟨⟨es, clock, h1⟩, ⟨_, _, _, _, h2⟩⟩
theorem ranges_row {W W1 : World} {M R n : Nat} {D : DataW Unit} {left : Lit → Bool} {cnt : Nat} (h : W.ranges Try.prog 34 RPp M R n D left cnt) {base : Nat} {v : Value} {ss : List Cl} (ho : OwnG 34 4 encC W base v ss) (hg : W.grownBy W1 v.ownBlock) : W1.ranges Try.prog 34 RPp M R n D left cnt := by
  obtain ⟨⟨es, clock, h1⟩, a, b, c, d, h2⟩ := ranges_map h
  refine h.kept hg (fun e => ?_) (fun e => ?_)
  · obtain ⟨cs, fr, hk⟩ := ho.kind M e.symm
    rw [h1] at hk
    cases hk
  · obtain ⟨cs, fr, hk⟩ := ho.kind R e.symm
    rw [h2] at hk
    cases hk
/-- A row of claims that is not older. -/
def RowF (base : Nat) (W : World) (v : Value) (ss : List Cl) : Prop := RowC W v ss ∧ ∀ g, v.ownBlock = some g → base ≤ g
theorem RowF.later {base : Nat} {W W1 : World} {v : Value} {ss : List Cl} (h : RowF base W v ss) (hb : Below W.heap.size W W1) : RowF base W1 v ss := ⟨h.1.later hb, h.2⟩
theorem RowF.aside {base p : Nat} {W W1 : World} {v : Value} {ss : List Cl} (h : RowF base W v ss) (hg : W.grownBy W1 (some p)) (hp : p < base) : RowF base W1 v ss := by
  refine ⟨?_, h.2⟩
  rcases h.1 with h1 | ⟨g, cap, hv, hr⟩
  · exact .inl h1
  · refine .inr ⟨g, cap, hv, fun j hj i u hu => ?_⟩
    have hc := hr j hj i u hu
    have hge := h.2 g (by rw [hv]; rfl)
    have hlt := World.block_lt_of_cell? _ _ hc
    have := cell_aside (Y := g) (j := j * 4 + i) hg ⟨hlt, by omega⟩
    exact this.trans hc
/-- Whose they are, of those that are looked for. -/
def lookedC (f : Cl × Nat → Bool) (ps : List (Cl × Nat)) : List Cl := (ps.filter f).map (·.1)
theorem lookedC_snoc (f : Cl × Nat → Bool) (ps : List (Cl × Nat)) (x : Cl × Nat) : lookedC f (ps ++ [x]) = lookedC f ps ++ if f x then [x.1] else [] := by
  unfold lookedC
  rw [List.filter_append, List.map_append]
  cases h : f x <;> simp [h]
theorem lookedC_len (f : Cl × Nat → Bool) (ps : List (Cl × Nat)) : (lookedC f ps).length ≤ ps.length := by
  unfold lookedC
  rw [List.length_map]
  exact List.length_filter_le _ _
set_option maxRecDepth 100000 in
set_option maxHeartbeats 4000000 in
theorem whose_nil (Q g : Nat) (lb : Array Value) (w : World) (hM : w.cell? ⟨Q, 0, none⟩ = some (.map none)) : Calls Try.prog 35 #[.pointer (some ⟨Q, 0, none⟩), .func (.func g) #[] lb] w fun e w' => ∃ v, e = .returned v ∧ RowF w.heap.size w' v [] ∧ Below w.heap.size w w' := by
  have hrg := run_range_nilMap (P := Try.prog) w 69 34 75 Try.underlying69
  have hnx : ∀ ty, (Instr.next (.pointer (some ⟨w.heap.size, 0, none⟩)) false ty).run Try.prog (w.alloc (.mapIter none 0 #[] 0)) = _ := fun ty => run_next_nilMap w ty 0 0 #[]
  have HS := Bx.mk (sortRow (w.alloc (.mapIter none 0 #[] 0)).heap.size (.slice none 0 0) [] (w.alloc (.mapIter none 0 #[] 0)) (OwnG.nil _ _ _ _ _) (by simp) (Nat.le_refl _))
  go_enter Try.func35, Try.ntmps35
  go_wp2
  refine wp_loop_rounds 1 ?_
  rw [rounds_succ]
  go_wp2_with fail
  refine HS.out.mono ?_
  rintro e w2 ⟨rfl, h1, h2⟩
  have H2 := Bx.mk (And.intro h1 h2)
  clear h1 h2 HS hrg hnx hM
  go_wp2
  go_ret
  exact ⟨_, rfl, ⟨by simpa [sortC] using H2.out.1, fun g hg => by cases hg⟩, (below_a _).trans (H2.out.2.mono (by simp))⟩
set_option maxRecDepth 100000 in
set_option maxHeartbeats 4000000 in
theorem whose_map (Q M g : Nat) (lb : Array Value) (L : List (Cl × Nat)) (f : Cl × Nat → Bool) (w : World) (hM : w.cell? ⟨Q, 0, none⟩ = some (.map (some M))) (m : MapL w M L) (hL : L.length ≤ 1000) (eg : ∀ args w, (callFunc g args).run Try.prog w = .ok (.enter g args) w)
    (hf : ∀ x ∈ L, ∀ W, Below w.heap.size w W → Calls Try.prog g (#[clV x.1, ptr x.2] ++ lb) W fun e W' => e = .returned (.bool (f x)) ∧ Below W.heap.size W W') :
    Calls Try.prog 35 #[.pointer (some ⟨Q, 0, none⟩), .func (.func g) #[] lb] w fun e w' => ∃ v ps, e = .returned v ∧ ps.Perm L ∧ RowF w.heap.size w' v (sortC (lookedC f ps)) ∧ Below w.heap.size w w' := by
  obtain ⟨D0, hown, hkd, hsz⟩ := m.ownsP hL
  have HM := Bx.mk m
  have HKD := Bx.mk hkd
  have HSZ := Bx.mk hsz
  have HF := Bx.mk hf
  have HL := Bx.mk hL
  obtain ⟨nn, hnn⟩ : ∃ nn, L.length = nn := ⟨_, rfl⟩
  rw [hnn] at hown HSZ
  have HN := Bx.mk hnn
  clear hkd hsz m hnn hf hL
  go_enter Try.func35, Try.ntmps35
  go_wp2_with (first
    | (at_range; refine wpList_range_own _ rfl _ 69 rfl 34 75 clKeyed Try.underlying69 _ M nn _ rfl hown ?_; intro w0 hrg0 hg0 hs0)
    | fail)
  go_frame
  have HB0 : Bx (Below w.heap.size w w0) := Bx.mk ⟨hg0.os, hg0.tape, hg0.output, hg0.size, fun i hi => hg0.block i hi (by simp)⟩
  go_loopw [5] (fun v wr => ∃ (left : Lit → Bool) (cnt : Nat) (ps : List (Cl × Nat)), wr.ranges Try.prog 34 RPp M w.heap.size nn D0 left cnt ∧ ps.length + cnt ≤ nn ∧ Bx (CollP L left ps ∧ OwnG 34 4 encC wr w.heap.size v (lookedC f ps) ∧ Below w.heap.size w wr))
    (fun _ wr => wr.rangeLeft M w.heap.size)
  case atStart => exact ⟨_, _, [], hrg0, by rw [HSZ.out]; simp, Bx.mk ⟨CollP.start HKD.out, OwnG.nil _ _ _ _ _, HB0.out⟩⟩
  case round =>
    obtain ⟨left, cnt, ps, hrg, hcs, hC⟩ := hrel
    obtain ⟨av, cv, rfl, -, -⟩ := hC.out.2.1.form
    obtain ⟨nl, hnl⟩ : ∃ nl, (lookedC f ps).length = nl := ⟨_, rfl⟩
    rw [hnl] at hC ⊢
    have HNl := Bx.mk hnl
    clear hnl
    go_wp2_with (first
      | (at_next; refine wpList_next_ranges (α := Value) (β := Value) _ rfl _ rfl 34 clKeyed RPp id id (fun key kl hk => ⟨key, rfl⟩) (fun v _ _ => ⟨v, rfl⟩) M w.heap.size nn _ _ _ rfl hrg ?_ ?_)
      | fail)
    · intro hc0 hl0
      have HE : Bx (ps.Perm L) := Bx.mk (hC.out.1.perm HM.out.wf HM.out.nd hl0)
      have HS := Bx.mk (sortRow w.heap.size _ _ wr hC.out.2.1 (Nat.le_trans (lookedC_len f ps) (by have := HE.out.length_eq; have := HL.out; omega)) (by have := hC.out.2.2.size; omega))
      have HFr := Bx.mk fun g hg => (hC.out.2.1.lt g hg).2
      clear hl0 hrg hcs hc0
      go_wp2_with fail
      refine HS.out.mono ?_
      rintro e w2 ⟨rfl, h1, h2⟩
      have H2 : Bx (RowC w2 (.slice av nl cv) (sortC (lookedC f ps)) ∧ Below w.heap.size w w2) := Bx.mk ⟨h1, hC.out.2.2.trans h2⟩
      clear h1 h2 HS hC
      go_wp2
      go_ret
      exact ⟨_, ps, rfl, HE.out, ⟨H2.out.1, HFr.out⟩, H2.out.2⟩
    · intro vk vu kl yd yp w2 cnt2 hkey hlk hv hat hrg2 hlt hg2 hs2 hen
      obtain ⟨xx, hxl, e1, e2, hC2⟩ := hC.out.1.step HM.out.nd HKD.out hkey hlk hv hat
      obtain rfl : vk = clV xx.1 := e1
      obtain rfl : vu = ptr xx.2 := e2
      have HC2 := Bx.mk hC2
      have HX := Bx.mk hxl
      have HO2 : Bx (OwnG 34 4 encC w2 w.heap.size (.slice av nl cv) (lookedC f ps) ∧ Below w.heap.size w w2) := Bx.mk ⟨hC.out.2.1.aside (fun Mx cs fr e => by
        injection e with e
        subst e
        obtain ⟨_, a, b, c, d, h2⟩ := ranges_map hrg
        rw [h2]
        intro h3
        cases h3) hg2, hC.out.2.2.grown hg2 hC.out.2.2.size (fun k e => by injection e with e; subst e; exact Nat.le_refl _)⟩
      have HSn := Bx.mk (lookedC_snoc f ps xx)
      have HFx : Bx (∀ W, Below w.heap.size w W → Calls Try.prog g (#[clV xx.1, ptr xx.2] ++ lb) W fun e W' => e = .returned (.bool (f xx)) ∧ Below W.heap.size W W') := Bx.mk (HF.out xx hxl)
      have HLt := Bx.mk hlt
      have HOld := Bx.mk hrg
      clear hkey hlk hv hat hg2 hs2 hC2 hxl hC hlt hrg
      obtain ⟨b, hb⟩ : ∃ b, f xx = b := ⟨_, rfl⟩
      rw [hb] at HFx HSn
      obtain ⟨⟨i, r, x, q⟩, p⟩ := xx
      unfold clV ptr at *
      simp only [id_eq] at hen HFx HSn ⊢
      have HB3 : Bx ((w2.alloc (.cells #[.int .i64 i, .int .i64 r, .int .i64 x, .int .i64 q] 34)).rangeAt w2.heap.size 0 [.int .i64 i, .int .i64 r, .int .i64 x, .int .i64 q] ∧ OwnG 34 4 encC (w2.alloc (.cells #[.int .i64 i, .int .i64 r, .int .i64 x, .int .i64 q] 34)) w.heap.size (.slice av nl cv) (lookedC f ps) ∧ Below w.heap.size w (w2.alloc (.cells #[.int .i64 i, .int .i64 r, .int .i64 x, .int .i64 q] 34))) := Bx.mk ⟨box_rng w2 ⟨i, r, x, q⟩ 34, HO2.out.1.later (below_a _), HO2.out.2.alloc HO2.out.2.size _⟩
      have hrg3 := hrg2.alloc (.cells #[.int .i64 i, .int .i64 r, .int .i64 x, .int .i64 q] 34)
      have hrB := HB3.out.1
      clear hrg2 HO2
      cases b with
      | false =>
        go_wp2_with (go_at_fn g; refine (HFx.out _ HB3.out.2.2).mono ?_; rintro e w3 ⟨rfl, hb3⟩; have hrg4 := hrg3.kept (kb_below none hb3) (by simp) (by simp); have H4 := Bx.mk (And.intro (HB3.out.2.1.later hb3) (HB3.out.2.2.trans (hb3.mono HB3.out.2.2.size))); clear hb3 hrg3 hrB HB3)
        go_roundw
        case rel => exact ⟨_, cnt2, ps ++ [(⟨i, r, x, q⟩, p)], hrg4, by have := HLt.out; simp; omega, Bx.mk ⟨HC2.out, by rw [HSn.out]; simpa using H4.out.1, H4.out.2⟩⟩
        case measure => rw [hrg4.left_eq, HOld.out.left_eq]; exact HLt.out
      | true =>
        go_wp2_with (first
          | (go_at_fn g; refine (HFx.out _ HB3.out.2.2).mono ?_; rintro e w3 ⟨rfl, hb3⟩; have hrg4 := hrg3.kept (kb_below none hb3) (by simp) (by simp); have hr4 := rng_later hrB hb3; have H4 := Bx.mk (And.intro (HB3.out.2.1.later hb3) (HB3.out.2.2.trans (hb3.mono HB3.out.2.2.size))); clear hb3 hrg3 hrB HB3)
          | (refine wpList_load_mid rfl _ _ rfl _ _ rfl _ _ hr4 Try.underlying34 rfl (by kernel_rfl) ?_)
          | (refine wpList_apG (T := 34) (n := 4) (enc := encC) elCl rfl _ _ rfl w.heap.size (.slice av nl cv) (lookedC f ps) (by rfl) (H4.out.1.later (below_a (.cells #[.int .i64 i, .int .i64 r, .int .i64 x, .int .i64 q] 34))) w3.heap.size 0 ⟨i, r, x, q⟩ 1 (by rfl) (box_rng w3 ⟨i, r, x, q⟩ 34) (encC_len _) (encC_one _) (Nat.le_trans (lookedC_len f ps) (by have := HL.out; have := HN.out; omega)) (by have := H4.out.2.size; rw [World.size_alloc]; omega) ?_; intro v5 w5 ho5 hg5; have hrg5 := ranges_row (hrg4.alloc (.cells #[.int .i64 i, .int .i64 r, .int .i64 x, .int .i64 q] 34)) (H4.out.1.later (below_a (.cells #[.int .i64 i, .int .i64 r, .int .i64 x, .int .i64 q] 34))) hg5; have H5 := Bx.mk (And.intro ho5 ((H4.out.2.alloc H4.out.2.size (.cells #[.int .i64 i, .int .i64 r, .int .i64 x, .int .i64 q] 34)).trans ((H4.out.1.later (below_a (.cells #[.int .i64 i, .int .i64 r, .int .i64 x, .int .i64 q] 34))).below hg5 (by have := H4.out.2.size; rw [World.size_alloc]; omega)))); clear ho5 hg5 hrg4 hr4 H4))
        go_roundw
        case rel => exact ⟨_, cnt2, ps ++ [(⟨i, r, x, q⟩, p)], hrg5, by have := HLt.out; simp; omega, Bx.mk ⟨HC2.out, by rw [HSn.out]; simpa using H5.out.1, H5.out.2⟩⟩
        case measure => rw [hrg5.left_eq, HOld.out.left_eq]; exact HLt.out
end Go.Proofs.Ytdbdpehagkglfaa
namespace Go.Proofs.Ytdbdpehagkglfaa
open Go Go.RowKit
/-- Whose they are, in order. -/
def whoE (f : En → Bool) (l : List En) : List Cl := sortC ((l.filter f).map (·.c))
theorem looked_prs {l : List En} (hk : l.Pairwise (fun x y => x.c ≠ y.c)) (f : En → Bool) : lookedC (fun x => (l.find? fun e => decide (e.c = x.1)).elim false f) (prsE l) = (l.filter f).map (·.c) := by
  unfold lookedC prsE
  rw [List.filter_map, List.map_map]
  have h1 : ∀ e ∈ l, ((fun x : Cl × Nat => (l.find? fun e => decide (e.c = x.1)).elim false f) ∘ fun e : En => (e.c, e.p)) e = f e := fun e he => by
    have h2 : (l.find? fun y => decide (y.c = e.c)) = some e := by
      cases h3 : l.find? fun y => decide (y.c = e.c) with
      | none =>
        have := List.find?_eq_none.1 h3 e he
        simp at this
      | some y =>
        have h4 := List.mem_of_find?_eq_some h3
        have h5 := List.find?_some h3
        rw [pw_inj hk he h4 (by simpa using h5)]
    simp only [Function.comp, h2, Option.elim]
  rw [List.filter_congr h1]
  rfl
theorem lookedC_perm (f : Cl × Nat → Bool) {a b : List (Cl × Nat)} (h : a.Perm b) : (lookedC f a).Perm (lookedC f b) := (h.filter f).map _
set_option maxRecDepth 100000 in
set_option maxHeartbeats 4000000 in
theorem BookAt.whose {B Q : Nat} {l : List En} {w : World} (h : BookAt B Q l w) (hl : l.length ≤ 1000) (g : Nat) (lb : Array Value) (f : En → Bool) (eg : ∀ args w, (callFunc g args).run Try.prog w = .ok (.enter g args) w)
    (hf : ∀ e ∈ l, ∀ W, Below w.heap.size w W → Calls Try.prog g (#[clV e.c, ptr e.p] ++ lb) W fun x W' => x = .returned (.bool (f e)) ∧ Below W.heap.size W W') :
    Calls Try.prog 35 #[ptr Q, .func (.func g) #[] lb] w fun x w' => ∃ v, x = .returned v ∧ RowF w.heap.size w' v (whoE f l) ∧ Below w.heap.size w w' := by
  obtain ⟨mb, ml, h1, h2, h3⟩ := h.row
  have hM : w.cell? ⟨Q, 0, none⟩ = some (.map mb) := by rw [cell_of_row _ _ _ _ _ _ h1]; rfl
  cases mb with
  | none =>
    have h4 := MapL.none_nil h2
    subst h4
    have h5 : l = [] := List.map_eq_nil_iff.1 h3.symm.eq_nil
    subst h5
    refine (whose_nil Q g lb w hM).mono ?_
    rintro x w' ⟨v, rfl, h6, h7⟩
    exact ⟨v, rfl, by simpa [whoE, sortC] using h6, h7⟩
  | some M =>
    obtain ⟨ml, -, -, h6, h7⟩ := h.mapOf hM
    have hlen : ml.length ≤ 1000 := by rw [h7.length_eq]; simpa [prsE] using hl
    refine (whose_map Q M g lb ml (fun x => (l.find? fun e => decide (e.c = x.1)).elim false f) w hM h6 hlen eg (fun x hx W hb => ?_)).mono ?_
    · obtain ⟨e, he, rfl⟩ := List.mem_map.1 (h7.mem_iff.1 hx)
      have h8 := hf e he W hb
      have h9 : (l.find? fun y => decide (y.c = e.c)) = some e := by
        cases h3 : l.find? fun y => decide (y.c = e.c) with
        | none =>
          have := List.find?_eq_none.1 h3 e he
          simp at this
        | some y =>
          have h4 := List.mem_of_find?_eq_some h3
          have h5 := List.find?_some h3
          rw [pw_inj h.keys he h4 (by simpa using h5)]
      simp only [h9, Option.elim]
      exact h8
    · rintro x w' ⟨v, ps, rfl, hp, h8, h9⟩
      refine ⟨v, rfl, ?_, h9⟩
      rw [sortC_of_perm (lookedC_perm _ (hp.trans h7)), looked_prs h.keys] at h8
      exact h8
set_option maxRecDepth 100000 in
set_option maxHeartbeats 4000000 in
theorem wanted1_any (B : Nat) (e : En) (w : World) (h : EntAt B w e) : Calls Try.prog 49 #[clV e.c, ptr e.p] w fun x w' => x = .returned (.bool (e.k.isNone)) ∧ Below w.heap.size w w' := by
  have HW : Bx (∀ W, Below w.heap.size w W → Calls Try.prog 38 #[.pointer (some ⟨e.p, 0, none⟩)] W fun x w' => x = .returned (.bool e.k.isNone) ∧ w' = W) := Bx.mk fun W hb => wanted_any B e W (h.later hb)
  clear h
  obtain ⟨⟨i, r, x, q⟩, p, s, k, a⟩ := e
  unfold clV ptr
  simp only at HW ⊢
  generalize k.isNone = b at *
  have HBe := Bx.mk (below_a (W := w) (.cells #[.int .i64 i, .int .i64 r, .int .i64 x, .int .i64 q] 34))
  go_enter Try.func49, Try.ntmps49
  go_wp2_with fail
  refine (HW.out _ HBe.out).mono ?_
  rintro e w2 ⟨rfl, hw⟩
  obtain rfl : (w.alloc (.cells #[.int .i64 i, .int .i64 r, .int .i64 x, .int .i64 q] 34)) = w2 := hw.symm
  go_wp2
  go_ret
  exact ⟨by first | rfl | (cases b <;> rfl), HBe.out⟩
set_option maxRecDepth 100000 in
set_option maxHeartbeats 4000000 in
theorem wanted15_any (B Q : Nat) (l : List En) (w : World) (h : BookAt B Q l w) (hl : l.length ≤ 1000) : Calls Try.prog 25 #[ptr Q] w fun x w' => ∃ v, x = .returned v ∧ RowF w.heap.size w' v (whoE (fun e => e.k.isNone) l) ∧ Below w.heap.size w w' := by
  have HN := Bx.mk (h.whose hl 49 #[] (fun e => e.k.isNone) (enters_of Try.func49 (by kernel_rfl) rfl) (fun e he W hb => wanted1_any B e W ((h.later hb).ent e he)))
  clear h hl
  unfold ptr at *
  go_enter Try.func25, Try.ntmps25
  go_wp2_with fail
  refine HN.out.mono ?_
  rintro e w2 ⟨v, rfl, h1, h2⟩
  have HB := Bx.mk (And.intro h1 h2)
  clear h1 h2 HN
  go_wp2
  go_ret
  exact ⟨v, rfl, HB.out⟩
end Go.Proofs.Ytdbdpehagkglfaa
namespace Go.Proofs.Ytdbdpehagkglfaa
open Go Go.RowKit
theorem rng4 {W : World} {g o : Nat} {a b c d : Value} (h : W.rangeAt g o [a, b, c, d]) : W.cell? ⟨g, o, none⟩ = some a ∧ W.cell? ⟨g, o + 1, none⟩ = some b ∧ W.cell? ⟨g, o + 2, none⟩ = some c ∧ W.cell? ⟨g, o + 3, none⟩ = some d := ⟨h 0 a rfl, h 1 b rfl, h 2 c rfl, h 3 d rfl⟩
theorem takeC_succ (cs : List Cl) (k : Nat) (hk : k < cs.length) : cs.take (k + 1) = cs.take k ++ [cs.getD k c0] := by
  rw [List.take_add_one, show cs[k]? = some (cs.getD k c0) by simp [hk]]
  rfl
end Go.Proofs.Ytdbdpehagkglfaa
namespace Go.Proofs.Ytdbdpehagkglfaa
open Go Go.RowKit
theorem whoE_mem (f : En → Bool) (l : List En) (c : Cl) : c ∈ whoE f l ↔ ∃ e ∈ l, f e = true ∧ e.c = c := by
  unfold whoE
  rw [(sortC_perm _).mem_iff, List.mem_map]
  constructor
  · rintro ⟨e, he, rfl⟩
    obtain ⟨h1, h2⟩ := List.mem_filter.1 he
    exact ⟨e, h1, h2, rfl⟩
  · rintro ⟨e, h1, h2, rfl⟩
    exact ⟨e, List.mem_filter.2 ⟨h1, h2⟩, rfl⟩
theorem whoE_len (f : En → Bool) (l : List En) : (whoE f l).length ≤ l.length := by
  unfold whoE
  rw [sortC_length, List.length_map]
  exact List.length_filter_le _ _
end Go.Proofs.Ytdbdpehagkglfaa
namespace Go.Proofs.Ytdbdpehagkglfaa
open Go Go.RowKit
theorem step_st15 {w w1 : World} {ops : Array Oper} {o : Oper} {a : Act} {K : Act → World → Prop} {Q : Exit → Act → World → Prop} {E : Prop} (hgd : o.guard = none) (tt : TypeId) (x y : Operand)
    (ho : o.op = .store tt x y) (hrun : (Instr.storeAt tt (a.eval x) (a.eval y)).run Try.prog w = .ok () w1) (h : K (a.put o.dst undef) w1) :
    if Region.wanted o (yielded ops a.tmps) = true then Oper.wp Try.prog o a w K Q else E := by
  have hw : Region.wanted o (yielded ops a.tmps) = true := by simp [Region.wanted, hgd]
  rw [if_pos hw]
  unfold Oper.wp execOp
  simp only [ho, hrun, Sem.run_bind, Sem.run_pure, Result.andThen_ok]
  exact h
theorem run_st15 (w : World) (b off : Nat) (n : Int) (u : Value) (hc : w.cell? ⟨b, off, none⟩ = some u) (hf : w.frozen? ⟨b, off, none⟩ = false) : (Instr.storeAt 3 (.pointer (some ⟨b, off, none⟩)) (.int .i64 n)).run Try.prog w = .ok () (w.setCell ⟨b, off, none⟩ (.int .i64 n)) := by
  go_simp
set_option maxRecDepth 100000 in
set_option maxHeartbeats 4000000 in
theorem due1_any (B : Nat) (e : En) (T : Nat) (tk : Int) (w : World) (h : EntAt B w e) (hT : w.cell? ⟨T, 0, none⟩ = some (.int .i64 tk)) (ht : 0 ≤ tk ∧ tk ≤ 1073741824) : Calls Try.prog 36 #[clV e.c, ptr e.p, .pointer (some ⟨T, 0, none⟩)] w fun x w' => x = .returned (.bool (dueE tk e)) ∧ Below w.heap.size w w' := by
  have HC : Bx (∀ W, Below w.heap.size w W → Calls Try.prog 37 #[.pointer (some ⟨e.p, 0, none⟩), .int .i64 tk] W fun x w' => x = .returned (.bool (dueE tk e)) ∧ w' = W) := Bx.mk fun W hb => due_any B e tk W (h.later hb) ht
  have HT : Bx (∀ W, Below w.heap.size w W → W.cell? ⟨T, 0, none⟩ = some (.int .i64 tk)) := Bx.mk fun W hb => (hb.cell (p := ⟨T, 0, none⟩) (World.block_lt_of_cell? _ _ hT)).trans hT
  generalize dueE tk e = D at *
  clear hT h ht
  obtain ⟨⟨i, r, x, q⟩, p, s, k, a'⟩ := e
  unfold clV ptr at *
  simp only at HC ⊢
  have HBe := Bx.mk (below_a (W := w) (.cells #[.int .i64 i, .int .i64 r, .int .i64 x, .int .i64 q] 34))
  have hT1 := HT.out _ HBe.out
  go_enter Try.func36, Try.ntmps36
  go_wp2_with fail
  refine (HC.out _ HBe.out).mono ?_
  rintro e w2 ⟨rfl, hw⟩
  obtain rfl : (w.alloc (.cells #[.int .i64 i, .int .i64 r, .int .i64 x, .int .i64 q] 34)) = w2 := hw.symm
  go_wp2
  go_ret
  exact ⟨rfl, HBe.out⟩
/-- Asked for at the tick: those whose claims are among these. -/
def askE (tk : Int) (cs : List Cl) (l : List En) : List En := l.map fun e => if e.c ∈ cs then ⟨e.c, e.p, e.s, e.k, tk⟩ else e
theorem askE_nil (tk : Int) (l : List En) : askE tk [] l = l := by simp [askE]
theorem askE_in {tk : Int} {cs : List Cl} {l : List En} {e : En} (he : e ∈ l) : ∃ y ∈ askE tk cs l, y.c = e.c ∧ y.p = e.p ∧ y.s = e.s ∧ y.k = e.k := by
  refine ⟨_, List.mem_map.2 ⟨e, he, rfl⟩, ?_⟩
  split <;> exact ⟨rfl, rfl, rfl, rfl⟩
theorem askE_snoc {tk : Int} {cs : List Cl} {l : List En} (hk : l.Pairwise (fun x y => x.c ≠ y.c)) {e : En} (he : e ∈ l) : askE tk (cs ++ [e.c]) l = setC (askE tk cs l) ⟨e.c, e.p, e.s, e.k, tk⟩ := by
  unfold askE setC
  rw [List.map_map]
  refine List.map_congr_left fun y hy => ?_
  simp only [Function.comp]
  by_cases h1 : y.c = e.c
  · have := pw_inj hk he hy h1
    subst this
    have h2 : y.c ∈ cs ++ [y.c] := by simp
    rw [if_pos h2]
    split <;> simp
  · by_cases h2 : y.c ∈ cs
    · rw [if_pos (List.mem_append.2 (.inl h2)), if_pos h2]
      simp [h1]
    · have h3 : ¬ y.c ∈ cs ++ [e.c] := fun h => by
        rcases List.mem_append.1 h with h | h
        · exact h2 h
        · exact h1 (by simpa using h)
      rw [if_neg h3, if_neg h2, if_neg h1]
/-- What Due leaves. -/
def dueL (tk : Int) (l : List En) : List En := l.map fun e => if dueE tk e then ⟨e.c, e.p, e.s, e.k, tk⟩ else e
theorem askE_due (tk : Int) {l : List En} (hk : l.Pairwise (fun x y => x.c ≠ y.c)) : askE tk (whoE (dueE tk) l) l = dueL tk l := by
  unfold askE dueL
  refine List.map_congr_left fun e he => ?_
  by_cases h : dueE tk e = true
  · rw [if_pos ((whoE_mem _ _ _).2 ⟨e, he, h, rfl⟩), if_pos h]
  · rw [if_neg h, if_neg]
    intro hm
    obtain ⟨y, hy, h1, h2⟩ := (whoE_mem _ _ _).1 hm
    rw [pw_inj hk he hy h2] at h1
    exact h h1
/-- Between two of those that are due. -/
structure DueR (B Q T : Nat) (l : List En) (tk : Int) (cs : List Cl) (base : Nat) (mb : Option Nat) (v : Value) (k : Nat) (w W : World) : Prop where
  book : BookAt B Q (askE tk (cs.take k) l) W
  keep : KB B w W
  row : RowF base W v cs
  map : W.cell? ⟨Q, 0, none⟩ = some (.map mb)
  tick : W.heap[T]? = some (.cells #[.int .i64 tk] 3 (0, 0))
  size : w.heap.size ≤ W.heap.size
theorem DueR.later {B Q T : Nat} {l : List En} {tk : Int} {cs : List Cl} {base : Nat} {mb : Option Nat} {v : Value} {k : Nat} {w W W1 : World} (h : DueR B Q T l tk cs base mb v k w W) (hb : Below W.heap.size W W1) : DueR B Q T l tk cs base mb v k w W1 :=
  ⟨h.book.later hb, h.keep.trans (KB.of hb), h.row.later hb, (hb.cell (p := ⟨Q, 0, none⟩) h.book.lt).trans h.map, (hb.block T (Array.getElem?_eq_some_iff.1 h.tick).1).trans h.tick, Nat.le_trans h.size hb.size⟩
/-- One of them is asked for. -/
theorem DueR.ask {B Q T : Nat} {l : List En} {tk : Int} {cs : List Cl} {base : Nat} {mb : Option Nat} {v : Value} {k : Nat} {w W : World} (h : DueR B Q T l tk cs base mb v k w W) (hk : l.Pairwise (fun x y => x.c ≠ y.c)) (hkl : k < cs.length) {e : En} (he : e ∈ l) (hc : cs.getD k c0 = e.c) (ht : 0 ≤ tk ∧ tk ≤ 1073741824) (hp : e.p < base) :
    W.cell? ⟨e.p, 4, none⟩ ≠ none ∧ W.frozen? ⟨e.p, 4, none⟩ = false ∧ DueR B Q T l tk cs base mb v (k + 1) w (W.setCell ⟨e.p, 4, none⟩ (.int .i64 tk)) ∧ posE (askE tk (cs.take k) l) e.c = some e.p ∧ KB B W (W.setCell ⟨e.p, 4, none⟩ (.int .i64 tk)) := by
  obtain ⟨y, hy, h1, h2, h3, h4⟩ := askE_in (tk := tk) (cs := cs.take k) he
  have hE := h.book.ent y hy
  obtain ⟨kv, hw, hkv⟩ := hE.row
  rw [h2] at hw
  have hrow : (W.setCell ⟨e.p, 4, none⟩ (.int .i64 tk)).heap[e.p]? = _ := heap_setCells_same e.p _ [.int .i64 tk] 4 W _ hw
  have hg : W.grownBy (W.setCell ⟨e.p, 4, none⟩ (.int .i64 tk)) (some e.p) := kb_setCell _ _ _
  have hkb : KB B W (W.setCell ⟨e.p, 4, none⟩ (.int .i64 tk)) := KB.by_ hg (h2 ▸ hE.old) (fun o ho => by
    rw [show W.heap[e.p]? = _ from hw] at ho
    injection ho with ho
    subst ho
    exact .inr ⟨_, _, _, rfl, .inl rfl⟩)
  have hupd := h.book.upd (W1 := W.setCell ⟨e.p, 4, none⟩ (.int .i64 tk)) (e' := ⟨e.c, e.p, e.s, e.k, tk⟩) hy h1.symm h2.symm ⟨⟨kv, by simpa [spl, WinE, h3] using hrow, by
    have := hkv.keepB hkb
    rw [h4] at this
    exact this⟩, h3 ▸ hE.ok, h2 ▸ hE.old, h1 ▸ hE.fit, ht⟩ (by rw [h2]; exact hg)
  have hTe : T ≠ e.p := fun ex => by
    have h5 := h.tick
    rw [ex, show W.heap[e.p]? = _ from hw] at h5
    injection h5 with h5
    injection h5 with _ h5
    exact absurd h5 (by decide)
  have hQe : Q ≠ e.p := fun ex => by
    obtain ⟨mb', ml, h5, -⟩ := h.book.row
    rw [ex, show W.heap[e.p]? = _ from hw] at h5
    injection h5 with h5
    injection h5 with _ h5
    exact absurd h5 (by decide)
  refine ⟨by rw [hw.at4]; simp, hw.frozen 4, ⟨?_, h.keep.trans hkb, h.row.aside hg hp, ?_, ?_, Nat.le_trans h.size hg.size⟩, ?_, hkb⟩
  · rw [takeC_succ cs k hkl, hc, askE_snoc hk he]
    exact hupd.1
  · rw [cell_heap (hg.block Q h.book.lt (fun ex => hQe (by injection ex)))]
    exact h.map
  · exact (hg.block T (Array.getElem?_eq_some_iff.1 h.tick).1 (fun ex => hTe (by injection ex))).trans h.tick
  · have := posE_in h.book.keys hy
    rw [h1, h2] at this
    exact this
set_option maxRecDepth 100000 in
set_option maxHeartbeats 4000000 in
theorem due_any15 (B Q : Nat) (l : List En) (tk : Int) (w : World) (h : BookAt B Q l w) (hl : l.length ≤ 1000) (ht : 0 ≤ tk ∧ tk ≤ 1073741824) :
    Calls Try.prog 11 #[ptr Q, .int .i64 tk] w fun x w' => ∃ u, x = .returned u ∧ RowC w' u (whoE (dueE tk) l) ∧ Keeps B Q (dueL tk l) w w' := by
  have hbx := below_a (W := w) (.cells #[.int .i64 tk] 3)
  obtain ⟨mb, hM, -⟩ := h.look c0 (by unfold Cl64 in64 c0; simp)
  have HN : Bx (Calls Try.prog 35 #[.pointer (some ⟨Q, 0, none⟩), .func (.func 36) #[] #[.pointer (some ⟨w.heap.size, 0, none⟩)]] (w.alloc (.cells #[.int .i64 tk] 3)) fun x w' => ∃ u, x = .returned u ∧ DueR B Q w.heap.size l tk (whoE (dueE tk) l) (w.heap.size + 1) mb u 0 w w') := Bx.mk (by
    have h1 := h.later hbx
    refine (h1.whose hl 36 #[.pointer (some ⟨w.heap.size, 0, none⟩)] (dueE tk) (enters_of Try.func36 (by kernel_rfl) rfl) (fun e he W hb => ?_)).mono ?_
    · have hb' : Below w.heap.size w W := hbx.trans (hb.mono hbx.size)
      exact due1_any B e w.heap.size tk W ((h.later hb').ent e he) ((hb.cell (p := ⟨w.heap.size, 0, none⟩) (by simp)).trans (by rw [cell_of_row _ _ _ _ _ _ (hnew _ _ _ rfl)]; rfl)) ht
    · rintro x w' ⟨u, rfl, h2, h3⟩
      have h4 : Below w.heap.size w w' := hbx.trans (h3.mono hbx.size)
      refine ⟨u, rfl, ⟨by rw [List.take_zero, askE_nil]; exact h.later h4, KB.of h4, by rw [World.size_alloc] at h2; exact h2, (h4.cell (p := ⟨Q, 0, none⟩) h.lt).trans hM, (h3.block w.heap.size (by simp)).trans (hnew _ _ _ rfl), h4.size⟩⟩)
  have HA : Bx (∀ k v W, k < (whoE (dueE tk) l).length → DueR B Q w.heap.size l tk (whoE (dueE tk) l) (w.heap.size + 1) mb v k w W → ∃ p, Cl64 ((whoE (dueE tk) l).getD k c0) ∧ W.cell? ⟨p, 4, none⟩ ≠ none ∧ W.frozen? ⟨p, 4, none⟩ = false ∧ DueR B Q w.heap.size l tk (whoE (dueE tk) l) (w.heap.size + 1) mb v (k + 1) w (W.setCell ⟨p, 4, none⟩ (.int .i64 tk)) ∧ posE (askE tk ((whoE (dueE tk) l).take k) l) ((whoE (dueE tk) l).getD k c0) = some p ∧ posE (askE tk ((whoE (dueE tk) l).take (k + 1)) l) ((whoE (dueE tk) l).getD k c0) = some p ∧ KB B W (W.setCell ⟨p, 4, none⟩ (.int .i64 tk))) := Bx.mk fun k v W hk hD => by
    have hm : (whoE (dueE tk) l).getD k c0 ∈ whoE (dueE tk) l := by
      rw [show (whoE (dueE tk) l).getD k c0 = (whoE (dueE tk) l)[k] by simp [hk]]
      exact List.getElem_mem hk
    obtain ⟨e, he, h1, h2⟩ := (whoE_mem _ _ _).1 hm
    obtain ⟨h3, h4, h5, h6, h7⟩ := hD.ask h.keys hk he h2.symm ht (by have := (h.ent e he).lt; omega)
    refine ⟨e.p, h2 ▸ (h.ent e he).fit, h3, h4, h5, h2 ▸ h6, ?_, h7⟩
    obtain ⟨y, hy, g1, g2, -, -⟩ := askE_in (tk := tk) (cs := (whoE (dueE tk) l).take (k + 1)) he
    have := posE_in h5.book.keys hy
    rw [g1, g2, h2] at this
    exact this
  have HE := Bx.mk (askE_due tk h.keys)
  have hbn : (whoE (dueE tk) l).length ≤ 1000 := Nat.le_trans (whoE_len _ _) hl
  generalize whoE (dueE tk) l = cs at *
  generalize dueL tk l = l' at *
  clear h hl ht hbx hM
  unfold ptr
  go_enter Try.func11, Try.ntmps11
  go_wp2_with fail
  refine HN.out.mono ?_
  rintro e w2 ⟨u, rfl, h2⟩
  obtain ⟨a, cap, rfl⟩ := h2.row.1.form
  obtain ⟨n, hn⟩ : ∃ n, cs.length = n := ⟨_, rfl⟩
  rw [hn] at h2 HA hbn ⊢
  have HN2 := Bx.mk hn
  have H2 := Bx.mk h2
  obtain ⟨T, hT⟩ : ∃ T, w.heap.size = T := ⟨_, rfl⟩
  rw [hT] at H2 HA ⊢
  clear h2 HN hn
  go_wp2
  go_loopw [13] (fun j wr => ∃ k : Nat, k ≤ n ∧ j = .int .i64 (k : Int) ∧ Bx (DueR B Q T l tk cs (T + 1) mb (.slice a n cap) k w wr)) (fun j _ => n - (intOf j).toNat)
  case atStart => exact ⟨0, Nat.zero_le _, rfl, H2⟩
  case round =>
    clear H2
    obtain ⟨k, hk, rfl, HI⟩ := hrel
    by_cases hlt : k < n
    · have hlt' : (k : Int) < (n : Int) := by omega
      obtain ⟨g, rfl, -, hrg⟩ := HI.out.row.1.at_ k (by rw [HN2.out]; exact hlt)
      have R0 : Bx (DueR B Q T l tk cs (T + 1) mb (.slice (some ⟨g, 0, none⟩) n cap) k w (wr.alloc (.cells #[.int .i64 (cs.getD k c0).id, .int .i64 (cs.getD k c0).ro, .int .i64 (cs.getD k c0).ex, .int .i64 (cs.getD k c0).se] 34)).drew ∧ (wr.alloc (.cells #[.int .i64 (cs.getD k c0).id, .int .i64 (cs.getD k c0).ro, .int .i64 (cs.getD k c0).ex, .int .i64 (cs.getD k c0).se] 34)).drew.heap[wr.heap.size]? = some (.cells #[.int .i64 (cs.getD k c0).id, .int .i64 (cs.getD k c0).ro, .int .i64 (cs.getD k c0).ex, .int .i64 (cs.getD k c0).se] 34 (0, 0))) := Bx.mk ⟨HI.out.later (below_a _).drew, hnew _ _ _ rfl⟩
      obtain ⟨p, hp⟩ := HA.out k _ _ hlt R0.out.1
      have HP := Bx.mk hp
      clear HI hp
      generalize hy : cs.getD k c0 = y at *
      obtain ⟨i, r, x, q⟩ := y
      simp only at hrg R0 HP
      obtain ⟨g0, g1, g2, g3⟩ := rng4 hrg
      clear hrg
      go_upto_region 5 with fail
      clear g0 g1 g2 g3
      generalize hX : wr.heap.size = X at *
      generalize wr.alloc (.cells #[.int .i64 i, .int .i64 r, .int .i64 x, .int .i64 q] 34) = w1 at *
      have hlk : (Instr.lookup 69 (.map mb) (.agg #[.int .i64 i, .int .i64 r, .int .i64 x, .int .i64 q]) false).run Try.prog w1.drew = .ok (.pointer (some ⟨p, 0, none⟩)) w1.drew := by
        obtain ⟨mb2, h1, h2, -⟩ := R0.out.1.book.look ⟨i, r, x, q⟩ HP.out.1
        rw [R0.out.1.map] at h1
        injection h1 with h1
        injection h1 with h1
        subst h1
        rw [HP.out.2.2.2.2.1] at h2
        exact h2
      have hc4 : ∃ u4, w1.drew.cell? ⟨p, 4, none⟩ = some u4 := Option.ne_none_iff_exists'.1 HP.out.2.1
      obtain ⟨u4, hu4⟩ := hc4
      refine wp_region_noPanic ?_
      refine wp_region_held_drew (S := fun W => W.cell? ⟨Q, 0, none⟩ = some (.map mb) ∧ (W.rangeAt X 0 [.int .i64 i, .int .i64 r, .int .i64 x, .int .i64 q] ∧ ((Instr.lookup 69 (.map mb) (.agg #[.int .i64 i, .int .i64 r, .int .i64 x, .int .i64 q]) false).run Try.prog W = .ok (.pointer (some ⟨p, 0, none⟩)) W ∧ W.cell? ⟨T, 0, none⟩ = some (.int .i64 tk)))) (by kernel_rfl) (⟨R0.out.1.map, row_rng15 (l := [.int .i64 i, .int .i64 r, .int .i64 x, .int .i64 q]) R0.out.2, hlk, by rw [cell_of_row _ _ _ _ _ _ R0.out.1.tick]; rfl⟩) (fun hHeld => ?_)
      clear hlk
      generalize w1.drew = W0 at *
      refine takeL 0 (v := ?_) rfl (by kernel_rfl) (by kernel_rfl) (by kernel_rfl) (fun _ _ _ h => h) (Or.inl ⟨by rfl, ?_⟩) hHeld ?_
      rotate_left 1
      · (intro w hSw; go_simp; try with_reducible rfl)
      try simp only [Act.put, List.setIfInBounds_toArray, List.set_cons_zero, List.set_cons_succ]
      refine takeL 1 (v := ?_) rfl (by kernel_rfl) (by kernel_rfl) (by kernel_rfl) (fun _ _ _ h => h) (Or.inl ⟨by rfl, ?_⟩) hHeld ?_
      rotate_left 1
      · (intro w hSw; go_simp; try with_reducible rfl)
      try simp only [Act.put, List.setIfInBounds_toArray, List.set_cons_zero, List.set_cons_succ]
      refine takeL 2 (v := ?_) rfl (by kernel_rfl) (by kernel_rfl) (by kernel_rfl) (fun _ _ _ h => h) (Or.inl ⟨by rfl, ?_⟩) hHeld ?_
      rotate_left 1
      · (intro w hSw; go_simp; try with_reducible rfl)
      try simp only [Act.put, List.setIfInBounds_toArray, List.set_cons_zero, List.set_cons_succ]
      refine takeL 3 (v := ?_) rfl (by kernel_rfl) (by kernel_rfl) (by kernel_rfl) (fun _ _ _ h => h) (Or.inl ⟨by rfl, ?_⟩) hHeld ?_
      rotate_left 1
      · (intro w hSw; have h1 := hSw.1; go_simp; try with_reducible rfl)
      try simp only [Act.put, List.setIfInBounds_toArray, List.set_cons_zero, List.set_cons_succ]
      refine takeL 4 rfl (by kernel_rfl) (by kernel_rfl) (by kernel_rfl) (fun _ _ _ h => h) (yieldsIf_load_mid (by rfl) _ _ rfl _ _ rfl _ _ (fun w hSw => hSw.2.1) Try.underlying34 rfl (by kernel_rfl)) hHeld ?_
      try simp only [Act.put, List.setIfInBounds_toArray, List.set_cons_zero, List.set_cons_succ]
      refine takeL 5 (v := ?_) rfl (by kernel_rfl) (by kernel_rfl) (by kernel_rfl) (fun _ _ _ h => h) (Or.inl ⟨by rfl, ?_⟩) hHeld ?_
      rotate_left 1
      · (intro w hSw; have h3 := hSw.2.2.1; go_simp; try with_reducible rfl)
      try simp only [Act.put, List.setIfInBounds_toArray, List.set_cons_zero, List.set_cons_succ]
      refine takeL 6 (v := ?_) rfl (by kernel_rfl) (by kernel_rfl) (by kernel_rfl) (fun _ _ _ h => h) (Or.inl ⟨by rfl, ?_⟩) hHeld ?_
      rotate_left 1
      · (intro w hSw; have h4 := hSw.2.2.2; go_simp; try with_reducible rfl)
      try simp only [Act.put, List.setIfInBounds_toArray, List.set_cons_zero, List.set_cons_succ]
      refine takeL 7 (v := ?_) rfl (by kernel_rfl) (by kernel_rfl) (by kernel_rfl) (fun _ _ _ h => h) (Or.inl ⟨by rfl, ?_⟩) hHeld ?_
      rotate_left 1
      · (intro w hSw; go_simp; try with_reducible rfl)
      try simp only [Act.put, List.setIfInBounds_toArray, List.set_cons_zero, List.set_cons_succ]
      refine takeL 8 (v := ?_) rfl (by kernel_rfl) (by kernel_rfl) (by kernel_rfl) (fun _ _ _ h => h) (Or.inl ⟨by rfl, ?_⟩) hHeld ?_
      rotate_left 1
      · (intro w hSw; go_simp; try with_reducible rfl)
      try simp only [Act.put, List.setIfInBounds_toArray, List.set_cons_zero, List.set_cons_succ]
      refine stepL 9 (by kernel_rfl) rfl (fun K hK => ?_)
      refine step_st15 rfl 3 _ _ rfl (run_st15 W0 p 4 tk u4 hu4 HP.out.2.2.1) ?_
      have R2 := Bx.mk HP.out.2.2.2.1
      have hX2 := HP.out.2.2.2.2.2.2.block _ _ R0.out.2 (.inr (hard_cells (by decide) (by decide)))
      have hlk2 : (Instr.lookup 69 (.map mb) (.agg #[.int .i64 i, .int .i64 r, .int .i64 x, .int .i64 q]) false).run Try.prog (W0.setCell ⟨p, 4, none⟩ (.int .i64 tk)) = .ok (.pointer (some ⟨p, 0, none⟩)) (W0.setCell ⟨p, 4, none⟩ (.int .i64 tk)) := by
        obtain ⟨mb2, h1, h2, -⟩ := R2.out.book.look ⟨i, r, x, q⟩ HP.out.1
        rw [R2.out.map] at h1
        injection h1 with h1
        injection h1 with h1
        subst h1
        rw [HP.out.2.2.2.2.2.1] at h2
        exact h2
      refine hK.out _ _ (⟨R2.out.map, row_rng15 (l := [.int .i64 i, .int .i64 r, .int .i64 x, .int .i64 q]) hX2, hlk2, by rw [cell_of_row _ _ _ _ _ _ R2.out.tick]; rfl⟩) (fun hHeld => ?_)
      clear hK K hX2 hlk2 hu4
      generalize W0.setCell ⟨p, 4, none⟩ (.int .i64 tk) = W2 at *
      try simp only [Act.put, List.setIfInBounds_toArray, List.set_cons_zero, List.set_cons_succ]
      refine wpAnyH_done (by kernel_rfl) ?_ _
      refine NoPanic.normal ?_
      clear hHeld
      go_wp2
      go_roundw
      case rel => exact ⟨k + 1, by omega, by go_num, R2⟩
      case measure => simp [intOf]; omega
    · have ek : k = n := by omega
      have HF : Bx (RowC wr (.slice a n cap) cs ∧ Keeps B Q l' w wr) := Bx.mk (by
        have h1 := HI.out.book
        rw [ek, ← HN2.out, List.take_length, HE.out] at h1
        exact ⟨HI.out.row.1, h1, HI.out.keep⟩)
      have hlt' : ¬ (k : Int) < (n : Int) := by omega
      clear ek HI
      go_wp2
      go_ret
      exact ⟨_, rfl, HF.out⟩
end Go.Proofs.Ytdbdpehagkglfaa
namespace Go.Proofs.Ytdbdpehagkglfaa
open Go Go.RowKit
theorem who_none (f : En → Bool) (e : En) (h : f e = false) : whoE f [e] = [] := by simp [whoE, h, sortC]
theorem who_one (f : En → Bool) (e : En) (h : f e = true) : whoE f [e] = [e.c] := by simp [whoE, h, sortC]
theorem due_none (tk : Int) (e : En) (h : dueE tk e = false) : dueL tk [e] = [e] := by simp [dueL, h]
theorem due_one (tk : Int) (e : En) (h : dueE tk e = true) : dueL tk [e] = [⟨e.c, e.p, e.s, e.k, tk⟩] := by simp [dueL, h]
/-- One that is not due. -/
theorem due_no (B Q p : Nat) (c : Cl) (s : Ws) (a tk : Int) (w : World) (h : BookAt B Q [⟨c, p, s, none, a⟩] w) (ht : 0 ≤ tk ∧ tk ≤ 1073741824) (hd : ¬ 8 ≤ tk - a) : Calls Try.prog 11 #[.pointer (some ⟨Q, 0, none⟩), .int .i64 tk] w fun x w' => (∃ ad cap, x = .returned (.slice ad 0 cap)) ∧ Keeps B Q [⟨c, p, s, none, a⟩] w w' := by
  have hf : dueE tk ⟨c, p, s, none, a⟩ = false := by simp [dueE]; omega
  refine (due_any15 B Q _ tk w h (by simp) ht).mono ?_
  rintro x w' ⟨u, rfl, h1, h2⟩
  rw [who_none _ _ hf] at h1
  rw [due_none _ _ hf] at h2
  obtain ⟨ad, cap, rfl⟩ := h1.form
  exact ⟨⟨ad, cap, rfl⟩, h2⟩
/-- One that is due. -/
theorem due_yes (B Q p : Nat) (c : Cl) (s : Ws) (a tk : Int) (w : World) (h : BookAt B Q [⟨c, p, s, none, a⟩] w) (ht : 0 ≤ tk ∧ tk ≤ 1073741824) (hd : 8 ≤ tk - a) : Calls Try.prog 11 #[.pointer (some ⟨Q, 0, none⟩), .int .i64 tk] w fun x w' => (∃ ad cap, x = .returned (.slice ad 1 cap)) ∧ Keeps B Q [⟨c, p, s, none, tk⟩] w w' := by
  have hf : dueE tk ⟨c, p, s, none, a⟩ = true := by simp [dueE]; omega
  refine (due_any15 B Q _ tk w h (by simp) ht).mono ?_
  rintro x w' ⟨u, rfl, h1, h2⟩
  rw [who_one _ _ hf] at h1
  rw [due_one _ _ hf] at h2
  obtain ⟨ad, cap, rfl⟩ := h1.form
  exact ⟨⟨ad, cap, rfl⟩, h2⟩
set_option maxRecDepth 100000 in
set_option maxHeartbeats 4000000 in
theorem known15_ex (w : World) : Calls Try.prog 24 #[] w fun x w' => x = .returned (.bool true) ∧ Below w.heap.size w w' := by
  have HNw := Bx.mk (new15 w)
  obtain ⟨B, hB⟩ : ∃ B, w.heap.size = B := ⟨_, rfl⟩
  have HWt := Bx.mk fun W (h : BookAt B B [] W) (hs : B ≤ W.heap.size) => want_ok B B [] 5 W h ⟨5, 0, 0, 1⟩ (by unfold Cl64 in64; simp) (fun e he => by cases he) rfl (by simp) (by simp) hs
  have HNo := Bx.mk fun p a tk W (h : BookAt B B [⟨⟨5, 0, 0, 1⟩, p, Ws.zero, none, a⟩] W) ht hd => due_no B B p ⟨5, 0, 0, 1⟩ Ws.zero a tk W h ht hd
  have HYe := Bx.mk fun p a tk W (h : BookAt B B [⟨⟨5, 0, 0, 1⟩, p, Ws.zero, none, a⟩] W) ht hd => due_yes B B p ⟨5, 0, 0, 1⟩ Ws.zero a tk W h ht hd
  rw [hB] at HNw ⊢
  unfold ptr clV at *
  simp only at HWt
  go_enter Try.func24, Try.ntmps24
  go_wp2_with fail
  refine HNw.out.mono ?_
  rintro e w1 ⟨rfl, h1, h2⟩
  have H1 : Bx (BookAt B B [] (w1.alloc (.cells #[.int .i64 5, .int .i64 0, .int .i64 0, .int .i64 1] 34)) ∧ Below B w (w1.alloc (.cells #[.int .i64 5, .int .i64 0, .int .i64 0, .int .i64 1] 34))) := Bx.mk ⟨h1.later (below_a _), h2.alloc (by have := h2.size; omega) _⟩
  clear h1 h2 HNw
  go_wp2_with fail
  refine (HWt.out _ H1.out.1 (by have := H1.out.2.size; rw [← hB]; exact this)).mono ?_
  rintro e w2 ⟨rfl, p, h1, h2⟩
  have H2 : Bx (BookAt B B [⟨⟨5, 0, 0, 1⟩, p, Ws.zero, none, 5⟩] w2 ∧ KB B w w2) := Bx.mk ⟨h1, ((KB.of (by rw [hB]; exact H1.out.2) : KB B w _)).trans h2⟩
  clear h1 h2 HWt H1
  go_wp2_with fail
  refine (HNo.out p 5 12 _ H2.out.1 (by omega) (by omega)).mono ?_
  rintro e w3 ⟨⟨ad0, cap0, rfl⟩, h1, h2⟩
  have H3 := Bx.mk (And.intro h1 (H2.out.2.trans h2))
  clear h1 h2 H2
  go_wp2_with fail
  refine (HYe.out p 5 13 _ H3.out.1 (by omega) (by omega)).mono ?_
  rintro e w4 ⟨⟨ad1, cap1, rfl⟩, h1, h2⟩
  have H4 := Bx.mk (And.intro h1 (H3.out.2.trans h2))
  clear h1 h2 H3
  go_wp2_with fail
  refine (HNo.out p 13 20 _ H4.out.1 (by omega) (by omega)).mono ?_
  rintro e w5 ⟨⟨ad2, cap2, rfl⟩, h1, h2⟩
  have H5 := Bx.mk (And.intro h1 (H4.out.2.trans h2))
  clear h1 h2 H4
  go_wp2_with fail
  refine (HYe.out p 13 21 _ H5.out.1 (by omega) (by omega)).mono ?_
  rintro e w6 ⟨⟨ad3, cap3, rfl⟩, h1, h2⟩
  have H6 := Bx.mk (And.intro h1 (H5.out.2.trans h2))
  clear h1 h2 H5
  go_wp2
  go_ret
  exact ⟨rfl, H6.out.2.below (by omega)⟩
end Go.Proofs.Ytdbdpehagkglfaa
namespace Go.Proofs.Ytdbdpehagkglfaa
open Go Go.ChangeShapes Go.WideShapes Go.ChangeAt Go.RowKit
/-- Claims behind a slice. -/
def ClsR (w : World) (v : Value) (l : List Cl) : Prop :=
  ∃ a cap, v = .slice a l.length cap ∧ (0 < l.length → ∃ b o, a = some ⟨b, o, none⟩ ∧ ∀ i, i < l.length → w.rangeAt b (o + i * 4) [.int .i64 (l.getD i c0).id, .int .i64 (l.getD i c0).ro, .int .i64 (l.getD i c0).ex, .int .i64 (l.getD i c0).se] ∧ Cl64 (l.getD i c0))
theorem ClsR.form {w : World} {v : Value} {l : List Cl} (h : ClsR w v l) : ∃ a cap, v = .slice a l.length cap := by
  obtain ⟨a, cap, hv, -⟩ := h
  exact ⟨a, cap, hv⟩
theorem ClsR.start {w : World} {v : Value} {l : List Cl} (h : ClsR w v l) (hp : 0 < l.length) : ∃ b o cap, v = .slice (some ⟨b, o, none⟩) l.length cap := by
  obtain ⟨a, cap, hv, hr⟩ := h
  obtain ⟨b, o, ha, -⟩ := hr hp
  exact ⟨b, o, cap, by rw [hv, ha]⟩
theorem ClsR.at_ {w : World} {b o n cap : Nat} {l : List Cl} (h : ClsR w (.slice (some ⟨b, o, none⟩) n cap) l) (k : Nat) (hk : k < l.length) : w.rangeAt b (o + k * 4) [.int .i64 (l.getD k c0).id, .int .i64 (l.getD k c0).ro, .int .i64 (l.getD k c0).ex, .int .i64 (l.getD k c0).se] ∧ Cl64 (l.getD k c0) := by
  obtain ⟨a, cap', hv, hr⟩ := h
  obtain ⟨b', o', ha, hi⟩ := hr (by omega)
  injection hv with h1 h2 h3
  rw [ha] at h1
  injection h1 with h1
  injection h1 with h1 h4
  subst h1 h4
  exact hi k hk
set_option maxRecDepth 100000 in
theorem cl_in {H : Type} {enc : TypeId × Value → H} {W : World} {fuel : Nat} {cs : List Value} {x : DataW H × List MemPlace} (h : DataW.trod enc Try.prog W 0 (fun _ => true) true fuel 24 cs = some x) :
    ∃ c : Cl, cs = [.int .i64 c.id, .int .i64 c.ro, .int .i64 c.ex, .int .i64 c.se] ∧ Cl64 c := by
  obtain ⟨zs, n2, -, -, hlen2, hxl2, hf2⟩ := DataW.trod_struct Try.underlying24 h
  have hl4 : cs.length = 4 := hlen2.trans (by kernel_rfl)
  have hz4 : zs.length = 4 := hxl2
  match cs, hl4, zs, hz4 with
  | [c2, c3, c4, c5], _, [z0, z1, z2, z3], _ =>
    have k0 : DataW.trod enc Try.prog W 0 (fun _ => true) true n2 3 [c2] = some z0 := hf2 0 _ rfl
    have k1 : DataW.trod enc Try.prog W 0 (fun _ => true) true n2 3 [c3] = some z1 := hf2 1 _ rfl
    have k2 : DataW.trod enc Try.prog W 0 (fun _ => true) true n2 3 [c4] = some z2 := hf2 2 _ rfl
    have k3 : DataW.trod enc Try.prog W 0 (fun _ => true) true n2 3 [c5] = some z3 := hf2 3 _ rfl
    obtain ⟨n0, e2, -, w0⟩ := DataW.trod_int Try.underlying3 k0
    obtain ⟨n1, e3, -, w1⟩ := DataW.trod_int Try.underlying3 k1
    obtain ⟨n4, e4, -, w2⟩ := DataW.trod_int Try.underlying3 k2
    obtain ⟨n5, e5, -, w3⟩ := DataW.trod_int Try.underlying3 k3
    simp at e2 e3 e4 e5
    subst e2 e3 e4 e5
    exact ⟨⟨n0, n1, n4, n5⟩, rfl, lit_i64 n0 w0, lit_i64 n1 w1, lit_i64 n4 w2, lit_i64 n5 w3⟩
set_option maxRecDepth 100000 in
theorem open_cls {H : Type} {enc : TypeId × Value → H} {W : World} {a : Option Addr} {len cap : Nat} {d : DataW H} {p : List MemPlace} (h : DataW.Trod enc Try.prog W 0 (fun _ => true) true 43 (.slice a len cap) d p) :
    ∃ l, ClsR W (.slice a len cap) l ∧ l.length ≤ 9223372036854775807 := by
  obtain ⟨fuel, hf⟩ := h
  rcases Deep.open_slice Try.underlying43 hf with ⟨hcs, _⟩ | ⟨x, l, c, m, n, D, Pl, hcs, _, hl, hm, hmm, _, hi⟩
  · simp [Value.cells] at hcs
    obtain ⟨rfl, rfl, rfl⟩ := hcs
    exact ⟨[], ⟨none, 0, rfl, fun h => absurd h (by simp)⟩, by simp⟩
  · simp [Value.cells] at hcs
    obtain ⟨rfl, rfl, rfl⟩ := hcs
    have hcm : cap ≤ 9223372036854775807 := hm
    have hm2 : m = cap := by simpa using hmm
    have hC : Try.prog.cellsOf 24 = 4 := by kernel_rfl
    have hrow : ∀ i, i < len → ∃ o : Cl, (∀ j u, [Value.int .i64 o.id, .int .i64 o.ro, .int .i64 o.ex, .int .i64 o.se][j]? = some u → W.cell? (x.add (i * 4 + j)) = some u) ∧ Cl64 o := fun i hil => by
      obtain ⟨cs', hc', ht⟩ := hi i (by omega)
      rw [hC] at hc'
      obtain ⟨_, hcl, hat⟩ := World.cells?_some hc'
      obtain ⟨o, e, hb⟩ := cl_in ht
      refine ⟨o, fun j u hj => ?_, hb⟩
      have hj4 : j < 4 := by have := (List.getElem?_eq_some_iff.1 hj).1; simpa using this
      rw [← Deep.add_add, hat j hj4, e]
      exact hj
    obtain ⟨f, hfb⟩ := Deep.choose_lt hrow
    have hlen : ((List.range len).map f).length = len := by simp
    refine ⟨(List.range len).map f, ⟨some x, cap, by rw [hlen], fun hp => ?_⟩, by rw [hlen]; omega⟩
    rw [hlen] at hp
    obtain ⟨hc0, -⟩ := hfb 0 hp
    have h00 := hc0 0 _ rfl
    obtain ⟨b, off, spot⟩ := x
    have hspot : spot = none := by simpa [Addr.add] using World.cell?_spot h00
    subst hspot
    refine ⟨b, off, rfl, fun i hi2 => ?_⟩
    rw [hlen] at hi2
    have e : ((List.range len).map f).getD i c0 = f i := by simp [hi2]
    rw [e]
    obtain ⟨hc1, hl1⟩ := hfb i hi2
    refine ⟨fun j u hj => ?_, hl1⟩
    have := hc1 j u hj
    rw [Go.WideShapes.add_plain] at this
    show W.cell? ⟨b, off + i * 4 + j, none⟩ = some u
    rw [Nat.add_assoc]
    exact this
/-- The first claims that a book is filled with. -/
def fullC (m : Nat) : List Cl := (List.range m).map fun (j : Nat) => (⟨(j : Int) + 1, 0, 0, (j : Int) + 1⟩ : Cl)
theorem fullC_succ (m : Nat) : fullC (m + 1) = fullC m ++ [⟨(m : Int) + 1, 0, 0, (m : Int) + 1⟩] := by
  unfold fullC
  rw [List.range_succ, List.map_append]
  rfl
theorem fullC_len (m : Nat) : (fullC m).length = m := by simp [fullC]
/-- A book with the first m, all of them wanted. -/
structure FullB (B : Nat) (w : World) (m : Nat) (l : List En) (W : World) : Prop where
  book : BookAt B B l W
  cls : l.map (·.c) = fullC m
  want : ∀ e ∈ l, e.k = none
  keep : KB B w W
theorem FullB.len {B : Nat} {w : World} {m : Nat} {l : List En} {W : World} (h : FullB B w m l W) : l.length = m := by
  have := congrArg List.length h.cls
  rw [fullC_len] at this
  simpa using this
theorem FullB.later {B : Nat} {w : World} {m : Nat} {l : List En} {W W1 : World} (h : FullB B w m l W) (hb : Below W.heap.size W W1) : FullB B w m l W1 := ⟨h.book.later hb, h.cls, h.want, h.keep.trans (KB.of hb)⟩
theorem FullB.new {B : Nat} {w : World} {m : Nat} {l : List En} {W : World} (h : FullB B w m l W) (k : Nat) (hk : m ≤ k) : ∀ e ∈ l, e.c ≠ ⟨(k : Int) + 1, 0, 0, (k : Int) + 1⟩ := fun e he hc => by
  have h1 : e.c ∈ fullC m := by rw [← h.cls]; exact List.mem_map.2 ⟨e, he, rfl⟩
  rw [hc] at h1
  obtain ⟨j, hj, h2⟩ := List.mem_map.1 h1
  have h3 := List.mem_range.1 hj
  injection h2 with h2
  omega
theorem nat_fit (k : Nat) (hk : k < 100) : Cl64 ⟨(k : Int) + 1, 0, 0, (k : Int) + 1⟩ ∧ okC ⟨(k : Int) + 1, 0, 0, (k : Int) + 1⟩ = true := by
  refine ⟨⟨?_, ?_, ?_, ?_⟩, (okC_iff _ _ _ _).2 ?_⟩
  all_goals first | (unfold in64; simp only; omega) | omega
/-- The next one is wanted. -/
theorem full_yes (B : Nat) (w : World) (m : Nat) (l : List En) (W : World) (h : FullB B w m l W) (hm : m < 16) (hB : B ≤ W.heap.size) : Calls Try.prog 9 #[ptr B, clV ⟨(m : Int) + 1, 0, 0, (m : Int) + 1⟩, .int .i64 5] W fun x W1 => x = .returned (.int .i64 0) ∧ ∃ l', FullB B w (m + 1) l' W1 := by
  obtain ⟨f1, f2⟩ := nat_fit m (by omega)
  refine (want_ok B B l 5 W h.book _ f1 (h.new m (Nat.le_refl _)) f2 (by rw [h.len]; exact hm) (by omega) hB).mono ?_
  rintro x W1 ⟨rfl, p, h1, h2⟩
  refine ⟨rfl, _, h1, ?_, fun e he => ?_, h.keep.trans h2⟩
  · rw [List.map_append, h.cls, fullC_succ]
    rfl
  · rcases List.mem_append.1 he with he | he
    · exact h.want e he
    · obtain rfl : e = _ := List.mem_singleton.1 he
      rfl
/-- No one more is wanted. -/
theorem full_no (B : Nat) (w : World) (k : Nat) (l : List En) (W : World) (h : FullB B w 16 l W) (hk : 16 ≤ k) (hk2 : k < 100) : Calls Try.prog 9 #[ptr B, clV ⟨(k : Int) + 1, 0, 0, (k : Int) + 1⟩, .int .i64 5] W fun x W1 => x = .returned (.int .i64 6) ∧ FullB B w 16 l W1 := by
  obtain ⟨f1, f2⟩ := nat_fit k hk2
  refine (want_full B B l 5 W h.book _ f1 (h.new k hk) f2 (by rw [h.len]; exact Nat.le_refl _)).mono ?_
  rintro x W1 ⟨rfl, h1⟩
  exact ⟨rfl, h.later h1⟩
/-- Whoever is wanted of a full book: an error. -/
theorem want_not0 (B Q : Nat) (l : List En) (tk : Int) (w : World) (h : BookAt B Q l w) (c : Cl) (hc : Cl64 c) (hlen : 16 ≤ l.length) : Calls Try.prog 9 #[ptr Q, clV c, .int .i64 tk] w fun x w' => (∃ er : Int, er ≠ 0 ∧ x = .returned (.int .i64 er)) ∧ Below w.heap.size w w' := by
  by_cases hok : okC c = true
  · by_cases hin : ∃ e ∈ l, e.c = c
    · obtain ⟨e, he, rfl⟩ := hin
      refine (want_twice B Q l tk w h e he hok).mono ?_
      rintro x w' ⟨rfl, hb⟩
      exact ⟨⟨8, by decide, rfl⟩, hb⟩
    · refine (want_full B Q l tk w h c hc (fun e he hec => hin ⟨e, he, hec⟩) hok hlen).mono ?_
      rintro x w' ⟨rfl, hb⟩
      exact ⟨⟨6, by decide, rfl⟩, hb⟩
  · refine (want_bad Q c tk (by simpa using hok) w).mono ?_
    rintro x w' ⟨rfl, hb⟩
    exact ⟨⟨10, by decide, rfl⟩, hb⟩
theorem FullB.who {B : Nat} {w : World} {m : Nat} {l : List En} {W : World} (h : FullB B w m l W) : (whoE (fun e => e.k.isNone) l).length = m := by
  unfold whoE
  rw [sortC_length, List.length_map, List.filter_eq_self.2 (fun e he => by rw [h.want e he]; rfl), h.len]
end Go.Proofs.Ytdbdpehagkglfaa
