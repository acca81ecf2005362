/-
  Revocations: a log put into a writer; what a set is known by.
  Revocations: what the statements say with: few, Same, To.
-/
import Derived.Test.YtnfgamekjbkbkaaDoorEn
import Derived.Test.YtnfgamekjbkbkaaDoorAd
namespace Go.Proofs.YtnfgamekjbkbkaaDoor
open Go Go.RowKit
/-- A log's bytes. -/
def be2s (l : List Int) : List UInt8 := (l.map fun n => beN 2 n.toNat).flatten
def logB (l : List Int) : List UInt8 := beN 2 l.length ++ be2s l
theorem be2s_length (l : List Int) : (be2s l).length = 2 * l.length := by
  unfold be2s
  induction l with
  | nil => rfl
  | cons x l ih => rw [List.map_cons, List.flatten_cons, List.length_append, ih, beN_length, List.length_cons]; omega
theorem logB_length (l : List Int) : (logB l).length = 2 + 2 * l.length := by unfold logB; rw [List.length_append, beN_length, be2s_length]
theorem put_one2 (l : List UInt8) (n : Int) (h1 : 0 ≤ n) (h2 : n ≤ 65535) (hl : l.length + 2 ≤ 1024) : putS (l, 0) (fNum 1 n) = (l ++ beN 2 n.toNat, 0) := by
  have hc : chk (fNum 1 n) = 0 := by
    unfold chk fNum most
    simp only
    rw [if_neg (by omega), if_neg (by omega), if_neg (by simp; omega)]
  have he : enc (fNum 1 n) = beN 2 n.toNat := by unfold enc fNum; simp only; rw [if_neg (by omega)]; rfl
  unfold putS
  simp only
  rw [if_neg (by simp), if_neg (by rw [hc]; simp), if_neg (by rw [he, beN_length]; omega), he]
theorem put_many (ns : List Int) : ∀ (l : List UInt8), (∀ n ∈ ns, okS n = true) → l.length + 2 * ns.length ≤ 1024 → (ns.map (fNum 1)).foldl putS (l, 0) = (l ++ be2s ns, 0) := by
  induction ns with
  | nil => intro l _ _; simp [be2s]
  | cons n ns ih =>
    intro l hs hl
    have hn := hs n (.head _)
    unfold okS at hn
    simp at hn
    rw [List.length_cons] at hl
    rw [List.map_cons, List.foldl_cons, put_one2 l n (by omega) (by omega) (by omega), ih _ (fun x hx => hs x (.tail _ hx)) (by rw [List.length_append, beN_length]; omega)]
    unfold be2s
    rw [List.map_cons, List.flatten_cons, List.append_assoc]
theorem IsL.intsN {W : World} {p : Nat} {v : Value} {l : List Int} {T : TypeId} {cs : Array Value} {fr : Nat × Nat} (h : IsL W v l) (hp : W.heap[p]? = some (.cells cs T fr)) (hT : T ≠ 3) : IntsN W p v l := by
  obtain ⟨a, cap, hv, hc, hn, hr⟩ := h
  refine ⟨a, cap, hv, hc, fun h0 => ?_⟩
  obtain ⟨c, o, cs', fr', ha, hh, hcs⟩ := hr h0
  refine ⟨c, o, ha, fun e => ?_, fun i hi => ?_⟩
  · subst e
    rw [hp] at hh
    injection hh with hh
    injection hh with _ e2 _
    exact hT e2
  · rw [cell_of_row _ _ _ _ _ _ hh]
    exact hcs i hi
theorem wr_int : (98 : TypeId) ≠ 3 := by decide
theorem run_int : (145 : TypeId) ≠ 3 := by decide
theorem IsW.typed {w : World} {p : Nat} {st : List UInt8 × Int} (h : IsW w p st) : ∃ cs, w.heap[p]? = some (.cells cs 98 (0, 0)) := by
  obtain ⟨out, _, _, _, h⟩ := h
  exact ⟨_, h⟩
set_option maxRecDepth 100000 in
set_option maxHeartbeats 1000000 in
theorem putLog_any (m : List Int) (v : Value) (p : Nat) (l : List UInt8) (w : World) (hW : IsW w p (l, 0)) (hv : IsL w v m) (hs : ∀ n ∈ m, okS n = true) (hl : l.length + 2 + 2 * m.length ≤ 1024) :
    Calls Tryd.prog 48 #[.pointer (some ⟨p, 0, none⟩), v] w fun e w' => e = .returned (.pointer (some ⟨p, 0, none⟩)) ∧ IsW w' p (l ++ logB m, 0) ∧ w.grownBy w' (some p) := by
  obtain ⟨cs, hcs⟩ := hW.typed
  have hpl := hW.lt
  have hn1 : [fNum 1 (m.length : Int)].foldl putS (l, 0) = (l ++ beN 2 m.length, 0) := put_one2 l _ (by omega) (by omega) (by omega)
  have hn2 : (m.map (fNum 1)).foldl putS (l ++ beN 2 m.length, 0) = (l ++ logB m, 0) := by
    rw [put_many m _ hs (by rw [List.length_append, beN_length]; omega), List.append_assoc]
    rfl
  have HC1 : Bx (Calls Tryd.prog 49 #[.pointer (some ⟨p, 0, none⟩), .int .i64 1, .slice (some ⟨w.heap.size, 0, none⟩) 1 1] (w.alloc (.cells #[.int .i64 (m.length : Int)] 3)) fun e w' => e = .returned (.pointer (some ⟨p, 0, none⟩)) ∧ IsW w' p (l ++ beN 2 m.length, 0) ∧ (w.alloc (.cells #[.int .i64 (m.length : Int)] 3)).grownBy w' (some p)) := ⟨by
    have h := wnum_any 1 [(m.length : Int)] _ p (l, 0) (w.alloc (.cells #[.int .i64 (m.length : Int)] 3)) (hW.later (below_a _) hpl) (ints_one w p _ _ hpl) (fun n hn => by simp at hn; omega) (by simp)
    rw [show [(m.length : Int)].map (fNum 1) = [fNum 1 (m.length : Int)] from rfl, hn1] at h
    exact h⟩
  have HC2 : Bx (∀ W, w.grownBy W (some p) → IsW W p (l ++ beN 2 m.length, 0) → Calls Tryd.prog 49 #[.pointer (some ⟨p, 0, none⟩), .int .i64 1, v] W fun e w' => e = .returned (.pointer (some ⟨p, 0, none⟩)) ∧ IsW w' p (l ++ logB m, 0) ∧ W.grownBy w' (some p)) := ⟨fun W hg hW' => by
    obtain ⟨cs', hcs'⟩ := hW'.typed
    have h := wnum_any 1 m v p (l ++ beN 2 m.length, 0) W hW' ((hv.grown hg hcs wr_int).intsN hcs' wr_int) (fun n hn => okS_in (hs n hn)) (by omega)
    rw [hn2] at h
    exact h⟩
  obtain ⟨a, cap, rfl⟩ := hv.form
  obtain ⟨n, hn⟩ : ∃ n, m.length = n := ⟨_, rfl⟩
  rw [hn] at HC1 HC2 ⊢
  have hn3 : (n : Int) ≤ 1024 := by omega
  have HG : Bx (∀ W, (w.alloc (.cells #[.int .i64 (n : Int)] 3)).grownBy W (some p) → w.grownBy W (some p)) := ⟨fun W h => kb_trans (kb_below _ (below_a _)) h⟩
  clear hW hv hs hl hcs hpl hn1 hn2 hn
  go_enter Tryd.func48, Tryd.ntmps48
  go_wp2_with fail
  refine HC1.out.mono ?_
  rintro e w1 ⟨rfl, h1, h2⟩
  have H1 := Bx.mk (And.intro h1 (HG.out w1 h2))
  clear h1 h2 HC1 HG
  go_wp2_with fail
  refine (HC2.out w1 H1.out.2 H1.out.1).mono ?_
  rintro e w2 ⟨rfl, h1, h2⟩
  have H2 := Bx.mk (And.intro h1 (kb_trans H1.out.2 h2))
  clear h1 h2 HC2 H1
  go_wp2
  go_ret
  exact ⟨rfl, H2.out⟩
/-- What stays while a set's print is taken. -/
structure PS (w : World) (E R : Nat) (x : VV) (l : L4) (bs : List UInt8) (W : World) : Prop where
  below : Below E w W
  res : W.heap[E]? = some (.cells (u8s (List.replicate 32 0)) 121 (0, 0))
  took : Took W R 145 bs W
  rows : Rows4 W x l
  lt : E < R
theorem PS.sz {w : World} {E R : Nat} {x : VV} {l : L4} {bs : List UInt8} {W : World} (h : PS w E R x l bs W) : E < W.heap.size := (Array.getElem?_eq_some_iff.1 h.res).1
theorem PS.later {w : World} {E R : Nat} {x : VV} {l : L4} {bs : List UInt8} {W W1 : World} (h : PS w E R x l bs W) (hb : Below W.heap.size W W1) : PS w E R x l bs W1 :=
  ⟨h.below.trans (hb.mono (Nat.le_of_lt h.sz)), by rw [hb.block _ h.sz]; exact h.res, h.took.later hb, h.rows.later hb, h.lt⟩
theorem PS.add {w : World} {E R : Nat} {x : VV} {l : L4} {bs bs' : List UInt8} {W W1 : World} (h : PS w E R x l bs W) (ht : Took W R 145 bs' W1) : PS w E R x l bs' W1 := by
  obtain ⟨ws, rest, h1, _⟩ := h.took
  exact ⟨h.below.trans (grown_below ht.kept (Nat.le_of_lt h.lt) (Nat.le_of_lt h.sz)), by rw [ht.kept.block _ h.sz (fun e => by injection e with e; have := h.lt; omega)]; exact h.res, ht.self, h.rows.grown ht.kept h1 run_int, h.lt⟩
theorem partsAt_own {W : World} {base R : Nat} {v : Value} {l : List UInt8} (h : OwnB W base v l) (hR : R < base) (hb : base ≤ W.heap.size) (t : TypeId) : PartsAt (W.alloc (.cells #[v] t)) R (.slice (some ⟨W.heap.size, 0, none⟩) 1 1) [l] := by
  refine ⟨_, 1, rfl, fun _ => ⟨W.heap.size, 0, by omega, rfl, fun j hj => ?_⟩⟩
  have hj0 : j = 0 := by simp at hj; omega
  subst hj0
  refine ⟨v, by rw [cell_of_row _ _ _ _ _ _ (hnew _ _ _ rfl)]; rfl, ?_⟩
  have h' := own_a h (.cells #[v] t)
  obtain ⟨a, cap, hv, hc, _, hr⟩ := h'.bytes
  refine ⟨a, cap, hv, hc, fun hp => ?_⟩
  obtain ⟨c, o, ha, hf⟩ := hr hp
  refine ⟨c, o, ?_, ha, hf⟩
  have := h'.lt c (by rw [hv, ha]; rfl)
  omega
/-- What a set is known by. -/
def printB (l : L4) : List UInt8 := logB l.a ++ (logB l.b ++ (logB l.c ++ logB l.d))
set_option maxRecDepth 100000 in
set_option maxHeartbeats 2000000 in
theorem print_any8 (v : Value) (l : L4) (w : World) (hv : SetV w v l) (hg : Good l) (hTab : Tab w) (hG : 1 < w.heap.size) : Calls Tryd.prog 63 #[v] w fun e w' => e = .returned (.agg (u8s (sha (printB l)))) ∧ Below w.heap.size w w' := by
  obtain ⟨zc, hzc⟩ : ∃ zc, stC (List.replicate 8 0) (List.replicate 64 0) 0 = zc := ⟨_, rfl⟩
  have hzv : ∀ W : World, (zeroValue 145).run Tryd.prog W = .ok (.agg zc) W := fun W => by rw [← hzc, zero73]; kernel_rfl
  obtain ⟨z32, hz32⟩ : ∃ z, u8s (List.replicate 32 0) = z := ⟨_, rfl⟩
  have hz32v : ∀ W : World, (zeroValue 121).run Tryd.prog W = .ok (.agg z32) W := fun W => by rw [← hz32, zero32]; kernel_rfl
  obtain ⟨zw, hzwv, hzw⟩ := zero_wr
  obtain ⟨E, hE⟩ : ∃ E, w.heap.size = E := ⟨_, rfl⟩
  have hb0 : Below w.heap.size w ((w.alloc (.cells z32 121)).alloc (.cells zc 145)) := ((Below.refl _ _).alloc (Nat.le_refl _) _).trans ((Below.refl _ _).alloc (by simp) _)
  have HO := Bx.mk (own_any8 v l ((w.alloc (.cells z32 121)).alloc (.cells zc 145)) (hv.later hb0))
  have P0 : Bx (∀ x W, Rows4 W x l → Below ((w.alloc (.cells z32 121)).alloc (.cells zc 145)).heap.size ((w.alloc (.cells z32 121)).alloc (.cells zc 145)) W → PS w E (E + 1) x l [] W) := ⟨fun x W hx hb => by
    subst hE
    have ht : Took ((w.alloc (.cells z32 121)).alloc (.cells zc 145)) (w.heap.size + 1) 145 [] ((w.alloc (.cells z32 121)).alloc (.cells zc 145)) := ⟨_, _, by rw [hnew _ _ _ (by simp), ← hzc]; rfl, StIs.zero, kb_refl _ _⟩
    exact ⟨hb0.trans (hb.mono (by simp; omega)), by rw [hb.block _ (by simp; omega), hold _ _ _ (by simp), hnew _ _ _ rfl, hz32], ht.later hb, hx, by omega⟩⟩
  have HT : Bx (∀ W, Below E w W → Tab W) := ⟨fun W h => hTab.later h (by omega)⟩
  have HZ := Bx.mk (And.intro hzw hz32)
  have HGd := Bx.mk hg
  have HGE : Bx (1 < E) := ⟨by omega⟩
  obtain ⟨pt, rfl⟩ := hv.ptr
  rw [hE]
  clear hv hb0 hzc hz32 hzw hg hTab hG
  go_enter Tryd.func63, Tryd.ntmps63
  go_wp2_with fail
  generalize ((w.alloc (.cells z32 121)).alloc (.cells zc 145)) = w0 at *
  refine HO.out.mono ?_
  rintro e y0 ⟨x, rfl, hx, hb⟩
  obtain ⟨p1, q1, t1, s1, a1, b1, c1, d1, rfl⟩ := hx.forms
  have H0 := Bx.mk (P0.out _ y0 hx hb)
  have i0 := idxL0 (.slice p1 l.a.length a1) (.slice q1 l.b.length b1) (.slice t1 l.c.length c1) (.slice s1 l.d.length d1)
  have i1 := idxL1 (.slice p1 l.a.length a1) (.slice q1 l.b.length b1) (.slice t1 l.c.length c1) (.slice s1 l.d.length d1)
  have i2 := idxL2 (.slice p1 l.a.length a1) (.slice q1 l.b.length b1) (.slice t1 l.c.length c1) (.slice s1 l.d.length d1)
  have i3 := idxL3 (.slice p1 l.a.length a1) (.slice q1 l.b.length b1) (.slice t1 l.c.length c1) (.slice s1 l.d.length d1)
  clear hx hb HO P0
  unfold VV.v
  go_wp2
  refine wp_loop_rounds 5 ?_
  rw [rounds_succ]
  have HP0 := Bx.mk (putLog_any l.a _ y0.heap.size [] (y0.alloc (.cells zw 98)) (new_wr y0 zw HZ.out.1) (H0.out.rows.a.later (below_a _)) (fun n h => HGd.out.s n (.inl h)) (by have := HGd.out.a; simp; omega))
  have HBa0 := Bx.mk (below_a (W := y0) (.cells zw 98))
  go_wp2_with fail
  generalize y0.alloc (.cells zw 98) = y0a at *
  refine HP0.out.mono ?_
  rintro e y1 ⟨rfl, hw, hg⟩
  rw [List.nil_append] at hw
  have H0b := Bx.mk (H0.out.later (HBa0.out.trans (grown_below hg (Nat.le_refl _) HBa0.out.size)))
  have HW0 := Bx.mk hw
  clear hw hg HP0 HBa0 H0
  generalize y0.heap.size = q0 at *
  go_wp2_with fail
  refine (wout_ok q0 (logB l.a) y1 HW0.out).mono ?_
  rintro e y2 ⟨v0, rfl, ho, hb⟩
  have H0c := Bx.mk (H0b.out.later hb)
  have HPt0 := Bx.mk (partsAt_own (W := y2) ho H0b.out.took.lt hb.size 27)
  obtain ⟨e0, f0, hv0⟩ := own_form ho
  have HLn0 : Bx ((logB l.a).length ≤ 1000) := ⟨by rw [logB_length]; have := HGd.out.a; omega⟩
  generalize hlg : logB l.a = g0 at *
  have HLg0 := Bx.mk hlg
  clear hlg
  subst hv0
  clear ho hb H0b HW0
  go_wp2_with fail
  refine (add_any (E + 1) [] [g0] _ _ (H0c.out.took.later (below_a _)) HPt0.out (by simp) (by have := HLn0.out; simp; omega) (HT.out _ (H0c.out.later (below_a _)).below) (by have := HGE.out; omega)).mono ?_
  rintro e y4 ⟨rfl, ht⟩
  rw [List.flatten_singleton] at ht
  have H1 := Bx.mk ((H0c.out.later (below_a _)).add ht)
  clear ht H0c HPt0
  go_wp2
  rw [rounds_succ]
  have HP1 := Bx.mk (putLog_any l.b _ y4.heap.size [] (y4.alloc (.cells zw 98)) (new_wr y4 zw HZ.out.1) (H1.out.rows.b.later (below_a _)) (fun n h => HGd.out.s n (.inr (.inl h))) (by have := HGd.out.b; simp; omega))
  have HBa1 := Bx.mk (below_a (W := y4) (.cells zw 98))
  go_wp2_with fail
  generalize y4.alloc (.cells zw 98) = y4a at *
  refine HP1.out.mono ?_
  rintro e y5 ⟨rfl, hw, hg⟩
  rw [List.nil_append] at hw
  have H1b := Bx.mk (H1.out.later (HBa1.out.trans (grown_below hg (Nat.le_refl _) HBa1.out.size)))
  have HW1 := Bx.mk hw
  clear hw hg HP1 HBa1 H1
  generalize y4.heap.size = q1 at *
  go_wp2_with fail
  refine (wout_ok q1 (logB l.b) y5 HW1.out).mono ?_
  rintro e y6 ⟨v1, rfl, ho, hb⟩
  have H1c := Bx.mk (H1b.out.later hb)
  have HPt1 := Bx.mk (partsAt_own (W := y6) ho H1b.out.took.lt hb.size 27)
  obtain ⟨e1, f1, hv1⟩ := own_form ho
  have HLn1 : Bx ((logB l.b).length ≤ 1000) := ⟨by rw [logB_length]; have := HGd.out.b; omega⟩
  generalize hlg : logB l.b = g1 at *
  have HLg1 := Bx.mk hlg
  clear hlg
  subst hv1
  clear ho hb H1b HW1
  go_wp2_with fail
  refine (add_any (E + 1) ([] ++ g0) [g1] _ _ (H1c.out.took.later (below_a _)) HPt1.out (by simp) (by have := HLn1.out; have := HLn0.out; simp; omega) (HT.out _ (H1c.out.later (below_a _)).below) (by have := HGE.out; omega)).mono ?_
  rintro e y8 ⟨rfl, ht⟩
  rw [List.flatten_singleton] at ht
  have H2 := Bx.mk ((H1c.out.later (below_a _)).add ht)
  clear ht H1c HPt1
  go_wp2
  rw [rounds_succ]
  have HP2 := Bx.mk (putLog_any l.c _ y8.heap.size [] (y8.alloc (.cells zw 98)) (new_wr y8 zw HZ.out.1) (H2.out.rows.c.later (below_a _)) (fun n h => HGd.out.s n (.inr (.inr (.inl h)))) (by have := HGd.out.c; simp; omega))
  have HBa2 := Bx.mk (below_a (W := y8) (.cells zw 98))
  go_wp2_with fail
  generalize y8.alloc (.cells zw 98) = y8a at *
  refine HP2.out.mono ?_
  rintro e y9 ⟨rfl, hw, hg⟩
  rw [List.nil_append] at hw
  have H2b := Bx.mk (H2.out.later (HBa2.out.trans (grown_below hg (Nat.le_refl _) HBa2.out.size)))
  have HW2 := Bx.mk hw
  clear hw hg HP2 HBa2 H2
  generalize y8.heap.size = q2 at *
  go_wp2_with fail
  refine (wout_ok q2 (logB l.c) y9 HW2.out).mono ?_
  rintro e y10 ⟨v2, rfl, ho, hb⟩
  have H2c := Bx.mk (H2b.out.later hb)
  have HPt2 := Bx.mk (partsAt_own (W := y10) ho H2b.out.took.lt hb.size 27)
  obtain ⟨e2, f2, hv2⟩ := own_form ho
  have HLn2 : Bx ((logB l.c).length ≤ 1000) := ⟨by rw [logB_length]; have := HGd.out.c; omega⟩
  generalize hlg : logB l.c = g2 at *
  have HLg2 := Bx.mk hlg
  clear hlg
  subst hv2
  clear ho hb H2b HW2
  go_wp2_with fail
  refine (add_any (E + 1) (([] ++ g0) ++ g1) [g2] _ _ (H2c.out.took.later (below_a _)) HPt2.out (by simp) (by have := HLn2.out; have := HLn0.out; have := HLn1.out; simp [List.length_append]; omega) (HT.out _ (H2c.out.later (below_a _)).below) (by have := HGE.out; omega)).mono ?_
  rintro e y12 ⟨rfl, ht⟩
  rw [List.flatten_singleton] at ht
  have H3 := Bx.mk ((H2c.out.later (below_a _)).add ht)
  clear ht H2c HPt2
  go_wp2
  rw [rounds_succ]
  have HP3 := Bx.mk (putLog_any l.d _ y12.heap.size [] (y12.alloc (.cells zw 98)) (new_wr y12 zw HZ.out.1) (H3.out.rows.d.later (below_a _)) (fun n h => HGd.out.s n (.inr (.inr (.inr h)))) (by have := HGd.out.d; simp; omega))
  have HBa3 := Bx.mk (below_a (W := y12) (.cells zw 98))
  go_wp2_with fail
  generalize y12.alloc (.cells zw 98) = y12a at *
  refine HP3.out.mono ?_
  rintro e y13 ⟨rfl, hw, hg⟩
  rw [List.nil_append] at hw
  have H3b := Bx.mk (H3.out.later (HBa3.out.trans (grown_below hg (Nat.le_refl _) HBa3.out.size)))
  have HW3 := Bx.mk hw
  clear hw hg HP3 HBa3 H3
  generalize y12.heap.size = q3 at *
  go_wp2_with fail
  refine (wout_ok q3 (logB l.d) y13 HW3.out).mono ?_
  rintro e y14 ⟨v3, rfl, ho, hb⟩
  have H3c := Bx.mk (H3b.out.later hb)
  have HPt3 := Bx.mk (partsAt_own (W := y14) ho H3b.out.took.lt hb.size 27)
  obtain ⟨e3, f3, hv3⟩ := own_form ho
  have HLn3 : Bx ((logB l.d).length ≤ 1000) := ⟨by rw [logB_length]; have := HGd.out.d; omega⟩
  generalize hlg : logB l.d = g3 at *
  have HLg3 := Bx.mk hlg
  clear hlg
  subst hv3
  clear ho hb H3b HW3
  go_wp2_with fail
  refine (add_any (E + 1) ((([] ++ g0) ++ g1) ++ g2) [g3] _ _ (H3c.out.took.later (below_a _)) HPt3.out (by simp) (by have := HLn3.out; have := HLn0.out; have := HLn1.out; have := HLn2.out; simp [List.length_append]; omega) (HT.out _ (H3c.out.later (below_a _)).below) (by have := HGE.out; omega)).mono ?_
  rintro e y16 ⟨rfl, ht⟩
  rw [List.flatten_singleton] at ht
  have H4 := Bx.mk ((H3c.out.later (below_a _)).add ht)
  clear ht H3c HPt3
  go_wp2
  rw [rounds_succ]
  have HB4 : Bx (((([] ++ g0) ++ g1) ++ g2) ++ g3 = printB l) := ⟨by unfold printB; rw [HLg0.out, HLg1.out, HLg2.out, HLg3.out]; simp [List.append_assoc]⟩
  rw [HB4.out] at H4
  have HLp : Bx ((printB l).length ≤ 5000) := ⟨by rw [← HB4.out]; simp only [List.length_append, List.length_nil]; have := HLn0.out; have := HLn1.out; have := HLn2.out; have := HLn3.out; omega⟩
  clear HB4 HLg0 HLg1 HLg2 HLg3 HLn0 HLn1 HLn2 HLn3 i0 i1 i2 i3
  generalize hpb : printB l = pb at *
  have HPb := Bx.mk hpb
  clear hpb
  have HIL : Bx ((sha pb).length = 32) := Bx.mk (sha_length _)
  go_wp2_with fail
  refine (sum_any (E + 1) pb _ H4.out.took (by have := HLp.out; omega) (HT.out _ H4.out.below) (Nat.lt_of_lt_of_le HGE.out (Nat.le_of_lt H4.out.sz))).mono ?_
  rintro e y17 ⟨rfl, hb⟩
  have H5 := Bx.mk (H4.out.later hb)
  clear hb H4
  generalize hsh : sha pb = sh at *
  have HSh := Bx.mk hsh
  clear hsh
  have HI3 : Bx ((Tryd.prog.info? 121).map (·.size) = some (u8s sh).size) := Bx.mk (by rw [u8s_size, HIL.out]; kernel_rfl)
  have HSz : Bx ((u8s sh).size = (u8s (List.replicate 32 0)).size) := Bx.mk (by rw [u8s_size, u8s_size, HIL.out]; simp)
  go_wp2_with (refine wpList_store_new rfl 121 _ _ rfl E (u8s sh) _ _ (by rfl) (by rfl) H5.out.res HSz.out HI3.out (one_u8s _) ?_; intro y18 hw hr; have HR := Bx.mk hr; have HBw := Bx.mk (show Below E w y18 by rw [hw]; exact below_setCells (Nat.le_refl _) _ _ _ _ H5.out.below); clear hw hr H5)
  refine bodyPost_ret (results_cell_row rfl _ _ E _ (u8s sh) _ _ rfl HR.out Tryd.underlying121 rfl HI3.out) rfl ?_
  exact ⟨by first | rfl | rw [HPb.out, HSh.out] | rw [HSh.out], HBw.out⟩
end Go.Proofs.YtnfgamekjbkbkaaDoor
namespace Go.Proofs.YtnfgamekjbkbkaaDoor
open Go Go.RowKit
theorem ownI_empty (W : World) (base : Nat) (hb : base ≤ W.heap.size) : OwnI (W.alloc (.cells #[] 3)) base (.slice (some ⟨W.heap.size, 0, none⟩) 0 0) [] :=
  ⟨rfl, .inr ⟨W.heap.size, 0, #[], rfl, hb, hnew _ _ _ rfl, Nat.le_refl _, by simp [maxLen], by simp, by simp [i64s]⟩⟩
theorem Ints.take8 {w : World} {a : Option Addr} {n cap : Nat} {ns : List Int} (h : Ints w (.slice a n cap) ns) (m : Nat) (hm : m ≤ n) : Ints w (.slice a m cap) (ns.take m) := by
  obtain ⟨a', cap', hv, hc, hn, hr⟩ := h
  injection hv with e1 e2 e3
  subst e1 e2 e3
  refine ⟨_, _, by rw [List.length_take, Nat.min_eq_left hm], by rw [List.length_take]; omega, hn, fun hp => ?_⟩
  rw [List.length_take] at hp
  obtain ⟨c, o, ha, hf⟩ := hr (by omega)
  refine ⟨c, o, ha, fun i hi => ?_⟩
  rw [List.length_take] at hi
  rw [hf i (by omega)]
  simp [List.getD_eq_getElem?_getD, show i < m by omega]
/-- Rows that came in. -/
structure RowsI (W : World) (x : VV) (l : L4) : Prop where
  a : Ints W x.a l.a
  b : Ints W x.b l.b
  c : Ints W x.c l.c
  d : Ints W x.d l.d
theorem RowsI.later {W W1 : World} {x : VV} {l : L4} (h : RowsI W x l) (hb : Below W.heap.size W W1) : RowsI W1 x l := ⟨h.a.later hb, h.b.later hb, h.c.later hb, h.d.later hb⟩
def L4.take (l : L4) (n : Nat) : L4 := ⟨l.a.take n, l.b.take n, l.c.take n, l.d.take n⟩
theorem Most.take (l : L4) (n : Nat) : Most (l.take n) n := ⟨by simp [L4.take]; omega, by simp [L4.take]; omega, by simp [L4.take]; omega, by simp [L4.take]; omega⟩
end Go.Proofs.YtnfgamekjbkbkaaDoor
