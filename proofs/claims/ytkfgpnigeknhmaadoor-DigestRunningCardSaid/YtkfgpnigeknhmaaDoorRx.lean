/-
  The walk of the statement on running digests: a copy that goes its own way.
-/
import Derived.Test.YtkfgpnigeknhmaaDoorRw
namespace Go.Proofs.YtkfgpnigeknhmaaDoor
open Go Go.RowKit
theorem consL {P : Program} {ops : Array Oper} {Q : Exit → Act → World → Prop} {md : Region.Mode} {S : World → Prop} {fuel : Nat} {listed : Array Bool} {a : Act} {w : World} (i : Nat) {o : Oper} {rs : List Nat} (ho : ops.toList[i]? = some o)
    (h : ∀ K' : Act → World → Prop, Shut (∀ a w, S w → (S w → wpAnyH P md ops Q S fuel (listed.setIfInBounds i true) a w) → K' a w) → if Region.wanted o (yielded ops a.tmps) = true then Oper.wp P o a w K' Q else K' (a.put o.dst undef) w)
    (hs : AllReadyH P md ops Q S fuel listed a w rs) : AllReadyH P md ops Q S fuel listed a w (i :: rs) := AllReadyH.cons (by rw [← Array.getElem?_toList]; exact ho) h hs
/-- What has been made of the call's own beside the copy: the slice of one part, and the bytes that begin as none. -/
structure Oy (w3 : World) (bs : List UInt8) (Cb : Nat) (cs : List UInt8) (B0 : Nat) (W : World) : Prop where
  dy : Dy w3 bs (some (Cb, cs)) W
  size : B0 ≤ W.heap.size
theorem Oy.later {w3 W W1 : World} {bs cs : List UInt8} {Cb B0 : Nat} (h : Oy w3 bs Cb cs B0 W) (hb : Below W.heap.size W W1) : Oy w3 bs Cb cs B0 W1 := ⟨h.dy.later hb, Nat.le_trans h.size hb.size⟩
theorem own_ne' {w : World} {B0 Cb : Nat} {v : Value} {l : List UInt8} (h : OwnB w B0 v l) (hC : Cb < B0) : v.ownBlock ≠ some Cb := fun e => by have := (h.lt Cb e).2; omega
set_option maxRecDepth 100000 in
set_option maxHeartbeats 4000000 in
theorem reg19 (w3 : World) (Tb : Nat) (tbl : List Value) (A5 A6 : Option Addr) (N5 C5 N6 C6 : Nat) (qs : List (List UInt8)) (st : Stt w3 Tb tbl (.slice A5 N5 C5) (.slice A6 N6 C6) qs) (Q : Exit → Act → World → Prop) (Cb : Nat) (all cs : List UInt8) (k0 m : Nat) (hall : all = qs.flatten) (hcs : cs = (qs.take m).flatten) (hk0 : k0 = cs.length)
    (a : Act) (wr : World) (h : IL w3 Tb A6 N6 C6 (.pointer (some ⟨Cb, 0, none⟩)) k0 a) (hd : Dy w3 all (some (Cb, cs)) wr)
    (hQ : ∀ a' W', Fr 125 a' → a'.eval (.tmp 4) = .bool true → Below w3.heap.size w3 W' → Q .normal a' W') :
    Code.wp Tryd.prog (regionAt Tryd.f4.body 19) Q a wr := by
  have hl1 : all.length ≤ 1200 := by rw [hall]; exact st.few.2
  have hl2 : cs.length ≤ 1200 := by rw [hcs]; exact Nat.le_trans (flat_le qs m) st.few.2
  have hk1 : k0 ≤ N6 := by
    obtain ⟨_, _, hv, _⟩ := st.all
    injection hv with _ e _
    rw [hk0, e, hcs]
    exact flat_le qs m
  have hcap : ∃ hh : N6 ≤ C6, A6 = none → C6 = 0 := by
    obtain ⟨_, _, hv, hc, hz, _⟩ := st.all
    injection hv with e1 e2 e3
    subst e1 e2 e3
    exact ⟨hc, hz⟩
  have s6 := fun W => cut_bytes A6 N6 C6 k0 hk1 hcap.1 hcap.2 W
  have HA : Bx (Bytes w3 (.slice A6 N6 C6) all) := Bx.mk (by rw [hall]; exact st.all)
  have HK : Bx (Bytes w3 (.slice A6 k0 C6) cs) := Bx.mk (by
    have hb := st.all.take k0 hk1
    rw [hk0, hcs, flat_take, ← hcs, ← hk0] at hb
    exact hb)
  have HMk : Bx (∀ W, Below w3.heap.size w3 W → W.rangeAt Tb 0 tbl ∧ Bx (Below w3.heap.size w3 W)) := Bx.mk (fun W hb => ⟨st.rng hb, ⟨hb⟩⟩)
  have hCb := (hd.cp _ rfl).1
  have hCl := (hd.cp _ rfl).2.lt
  simp only at hCb hCl
  obtain ⟨B0, hB0⟩ : ∃ B0, wr.heap.size = B0 := ⟨_, rfl⟩
  rw [hB0] at hCl
  have hRl : w3.heap.size < B0 := by omega
  have HB := Bx.mk (And.intro hCb (And.intro hCl hRl))
  have HO0 : Bx (Oy w3 all Cb cs B0 wr.drew) := Bx.mk ⟨hd.later (Below.refl _ _).drew, by rw [← hB0]; exact Nat.le_refl _⟩
  have HKn : Bx (∀ W, Oy w3 all Cb cs B0 W → Calls Tryd.prog 14 #[] W fun e W' => e = .returned (.bool true) ∧ Bx (Oy w3 all Cb cs B0 W')) := Bx.mk (fun W ho =>
    (st.known ho.dy.below).mono fun _ _ ⟨he, hb⟩ => ⟨he, ⟨ho.later hb⟩⟩)
  have HSc : Bx (∀ W, Oy w3 all Cb cs B0 W → Calls Tryd.prog 17 #[.pointer (some ⟨Cb, 0, none⟩)] W fun e W' => e = .returned (.agg (vs8 (sha cs)).toArray) ∧ Bx (Oy w3 all Cb cs B0 W')) := Bx.mk (fun W ho =>
    (st.sum ho.dy.below (ho.dy.cp _ rfl).2 (by show cs.length ≤ 10000; omega)).mono fun _ _ ⟨he, hb⟩ => ⟨he, ⟨ho.later hb⟩⟩)
  have HRk : Bx (∀ W, Oy w3 all Cb cs B0 W → Calls Tryd.prog 12 #[.agg tbl.toArray, .slice A6 k0 C6] W fun e W' => e = .returned (.agg (vs8 (sha cs)).toArray) ∧ Bx (Oy w3 all Cb cs B0 W')) := Bx.mk (fun W ho =>
    (st.ref ho.dy.below (HK.out.later ho.dy.below) (by omega)).mono fun _ _ ⟨he, hb⟩ => ⟨he, ⟨ho.later hb⟩⟩)
  have HLn : Bx (∀ W, Oy w3 all Cb cs B0 W → Calls Tryd.prog 18 #[.pointer (some ⟨Cb, 0, none⟩)] W fun e W' => e = .returned (.int .i64 (k0 : Int)) ∧ W = W') := Bx.mk (fun W ho => by
    rw [hk0]
    exact len_any _ cs W (ho.dy.cp _ rfl).2 (by omega))
  have HAdd : Bx (∀ W v, Oy w3 all Cb cs B0 W → PartsAt W Cb v [all] → Calls Tryd.prog 16 #[.pointer (some ⟨Cb, 0, none⟩), v] W fun e W' => e = .returned (.pointer (some ⟨Cb, 0, none⟩)) ∧ Bx (Oy w3 all Cb (cs ++ all) B0 W' ∧ W.grownBy W' (some Cb))) := Bx.mk (fun W v ho hp => by
    have h := add_any Cb cs [all] v W (ho.dy.cp _ rfl).2 hp (by simp) (by rw [List.flatten_singleton]; omega) (st.tab.later ho.dy.below st.g) (by have := st.g; omega)
    rw [List.flatten_singleton] at h
    exact h.mono fun _ _ ⟨he, ht⟩ => ⟨he, ⟨⟨ho.dy.addc ht, Nat.le_trans ho.size ht.kept.size⟩, ht.kept⟩⟩)
  have HSa : Bx (∀ W, Oy w3 all Cb (cs ++ all) B0 W → Calls Tryd.prog 17 #[.pointer (some ⟨Cb, 0, none⟩)] W fun e W' => e = .returned (.agg (vs8 (sha (cs ++ all))).toArray) ∧ Bx (Oy w3 all Cb (cs ++ all) B0 W' ∧ Below W.heap.size W W')) := Bx.mk (fun W ho =>
    (st.sum ho.dy.below (ho.dy.cp _ rfl).2 (by show (cs ++ all).length ≤ 10000; rw [List.length_append]; omega)).mono fun _ _ ⟨he, hb⟩ => ⟨he, ⟨ho.later hb, hb⟩⟩)
  have HRa : Bx (∀ W v, Oy w3 all Cb (cs ++ all) B0 W → Bytes W v (cs ++ all) → Calls Tryd.prog 12 #[.agg tbl.toArray, v] W fun e W' => e = .returned (.agg (vs8 (sha (cs ++ all))).toArray) ∧ Bx (Oy w3 all Cb (cs ++ all) B0 W')) := Bx.mk (fun W v ho hv =>
    (st.ref ho.dy.below hv (by rw [List.length_append]; omega)).mono fun _ _ ⟨he, hb⟩ => ⟨he, ⟨ho.later hb⟩⟩)
  have HSr : Bx (∀ W, Oy w3 all Cb (cs ++ all) B0 W → Calls Tryd.prog 17 #[.pointer (some ⟨w3.heap.size, 0, none⟩)] W fun e W' => e = .returned (.agg (vs8 (sha all)).toArray) ∧ Bx (Oy w3 all Cb (cs ++ all) B0 W')) := Bx.mk (fun W ho =>
    (st.sum ho.dy.below ho.dy.took (by omega)).mono fun _ _ ⟨he, hb⟩ => ⟨he, ⟨ho.later hb⟩⟩)
  have HRr : Bx (∀ W, Oy w3 all Cb (cs ++ all) B0 W → Calls Tryd.prog 12 #[.agg tbl.toArray, .slice A6 N6 C6] W fun e W' => e = .returned (.agg (vs8 (sha all)).toArray) ∧ Bx (Oy w3 all Cb (cs ++ all) B0 W')) := Bx.mk (fun W ho =>
    (st.ref ho.dy.below (HA.out.later ho.dy.below) (by omega)).mono fun _ _ ⟨he, hb⟩ => ⟨he, ⟨ho.later hb⟩⟩)
  have HQ := Bx.mk hQ
  have HL := Bx.mk (And.intro hl1 hl2)
  have q1 := eqv (sha cs) (sha_length _)
  have q2 := eqv (sha (cs ++ all)) (sha_length _)
  have q3 := eqv (sha all) (sha_length _)
  have hg26 : Tryd.prog.eqGuardType Tryd.prog.depth 26 = false := by kernel_rfl
  have hu32 := Tryd.underlying32
  have hi32 := tbl_size st.is
  obtain ⟨x, rfl, hx⟩ := open125 h.fr
  have e6 := (hx 6).symm.trans h.s6
  have e7 := (hx 7).symm.trans h.s7
  have e8 := (hx 8).symm.trans h.s8
  have e9 := (hx 9).symm.trans h.s9
  have e11 := (hx 11).symm.trans h.s11
  clear h hx hd hQ st hall hcs hk0 hl1 hl2 hk1 hcap hB0 hCb hCl hRl
  rw [e6, e7, e8, e9, e11]
  clear e6 e7 e8 e9 e11
  generalize vs8 (sha cs) = o1 at *
  generalize vs8 (sha (cs ++ all)) = o2 at *
  generalize vs8 (sha all) = o3 at *
  conv => arg 2; whnf
  refine wp_region_noPanic ?_
  refine wp_region_held_drew (S := fun W => W.rangeAt Tb 0 tbl ∧ Bx (Below w3.heap.size w3 W)) (by kernel_rfl) (HMk.out _ HO0.out.dy.below) (fun hHeld => ?_)
  refine stepL 0 (by kernel_rfl) rfl (fun K hK => ?_)
  go_simp
  refine (HKn.out _ HO0.out).mono ?_
  rintro e W1 ⟨rfl, h1⟩
  show K _ _
  refine hK.out _ _ (HMk.out _ h1.out.dy.below) (fun hHeld => ?_)
  clear hK K
  try simp only [Act.put, List.setIfInBounds_toArray, List.set_cons_zero, List.set_cons_succ]
  refine takeL 1 (v := ?_) rfl (by kernel_rfl) (by kernel_rfl) (by kernel_rfl) (fun _ _ _ h => h) (Or.inl ⟨by rfl, ?_⟩) hHeld ?_
  rotate_left 1
  · (intro w hSw; go_simp; try with_reducible rfl)
  try simp only [Act.put, List.setIfInBounds_toArray, List.set_cons_zero, List.set_cons_succ]
  refine takeL 2 (v := ?_) rfl (by kernel_rfl) (by kernel_rfl) (by kernel_rfl) (fun _ _ _ h => h) (Or.inl ⟨by rfl, ?_⟩) hHeld ?_
  rotate_left 1
  · (intro w hSw; go_simp; try with_reducible rfl)
  try simp only [Act.put, List.setIfInBounds_toArray, List.set_cons_zero, List.set_cons_succ]
  refine takeL 4 rfl (by kernel_rfl) (by kernel_rfl) (by kernel_rfl) (fun _ _ _ h => h) (yieldsIf_load_mid (by rfl) _ _ rfl _ _ rfl _ _ (fun w hSw => hSw.1) hu32 rfl hi32) hHeld ?_
  try simp only [Act.put, List.setIfInBounds_toArray, List.set_cons_zero, List.set_cons_succ]
  refine takeL 5 (v := ?_) rfl (by kernel_rfl) (by kernel_rfl) (by kernel_rfl) (fun _ _ _ h => h) (Or.inl ⟨by rfl, ?_⟩) hHeld ?_
  rotate_left 1
  · (intro w hSw; go_simp; try with_reducible rfl)
  try simp only [Act.put, List.setIfInBounds_toArray, List.set_cons_zero, List.set_cons_succ]
  refine takeL 6 (v := ?_) rfl (by kernel_rfl) (by kernel_rfl) (by kernel_rfl) (fun _ _ _ h => h) (Or.inl ⟨by rfl, ?_⟩) hHeld ?_
  rotate_left 1
  · (intro w hSw; go_simp; try with_reducible rfl)
  try simp only [Act.put, List.setIfInBounds_toArray, List.set_cons_zero, List.set_cons_succ]
  refine takeL 7 (v := ?_) rfl (by kernel_rfl) (by kernel_rfl) (by kernel_rfl) (fun _ _ _ h => h) (Or.inl ⟨by rfl, ?_⟩) hHeld ?_
  rotate_left 1
  · (intro w hSw; (try dsimp only at hSw); obtain ⟨hS1, hS3⟩ := hSw; go_simp; try with_reducible rfl)
  try simp only [Act.put, List.setIfInBounds_toArray, List.set_cons_zero, List.set_cons_succ]
  refine stepL 3 (by kernel_rfl) rfl (fun K hK => ?_)
  go_simp
  refine (HSc.out _ h1.out).mono ?_
  rintro e W2 ⟨rfl, h2⟩
  show K _ _
  refine hK.out _ _ (HMk.out _ h2.out.dy.below) (fun hHeld => ?_)
  clear hK K
  try simp only [Act.put, List.setIfInBounds_toArray, List.set_cons_zero, List.set_cons_succ]
  refine stepL 8 (by kernel_rfl) rfl (fun K hK => ?_)
  go_simp
  refine (HRk.out _ h2.out).mono ?_
  rintro e W3 ⟨rfl, h3⟩
  show K _ _
  refine hK.out _ _ (HMk.out _ h3.out.dy.below) (fun hHeld => ?_)
  clear hK K
  try simp only [Act.put, List.setIfInBounds_toArray, List.set_cons_zero, List.set_cons_succ]
  refine takeL 9 (v := ?_) rfl (by kernel_rfl) (by kernel_rfl) (by kernel_rfl) (fun _ _ _ h => h) (Or.inl ⟨by rfl, ?_⟩) hHeld ?_
  rotate_left 1
  · (intro w hSw; go_simp; try with_reducible rfl)
  try simp only [Act.put, List.setIfInBounds_toArray, List.set_cons_zero, List.set_cons_succ]
  refine takeL 10 (v := ?_) rfl (by kernel_rfl) (by kernel_rfl) (by kernel_rfl) (fun _ _ _ h => h) (Or.inl ⟨by rfl, ?_⟩) hHeld ?_
  rotate_left 1
  · (intro w hSw; go_simp; try with_reducible rfl)
  try simp only [Act.put, List.setIfInBounds_toArray, List.set_cons_zero, List.set_cons_succ]
  refine takeL 11 (v := ?_) rfl (by kernel_rfl) (by kernel_rfl) (by kernel_rfl) (fun _ _ _ h => h) (Or.inl ⟨by rfl, ?_⟩) hHeld ?_
  rotate_left 1
  · (intro w hSw; go_simp; try with_reducible rfl)
  try simp only [Act.put, List.setIfInBounds_toArray, List.set_cons_zero, List.set_cons_succ]
  refine takeL 12 (v := ?_) rfl (by kernel_rfl) (by kernel_rfl) (by kernel_rfl) (fun _ _ _ h => h) (Or.inl ⟨by rfl, ?_⟩) hHeld ?_
  rotate_left 1
  · (intro w hSw; go_simp; try with_reducible rfl)
  try simp only [Act.put, List.setIfInBounds_toArray, List.set_cons_zero, List.set_cons_succ]
  refine takeL 14 (v := ?_) rfl (by kernel_rfl) (by kernel_rfl) (by kernel_rfl) (fun _ _ _ h => h) (Or.inl ⟨by rfl, ?_⟩) hHeld ?_
  rotate_left 1
  · (intro w hSw; go_simp; try with_reducible rfl)
  try simp only [Act.put, List.setIfInBounds_toArray, List.set_cons_zero, List.set_cons_succ]
  refine stepL 13 (by kernel_rfl) rfl (fun K hK => ?_)
  go_simp
  refine (HLn.out _ h3.out).mono ?_
  rintro e W4 ⟨rfl, rfl⟩
  show K _ _
  refine hK.out _ _ (HMk.out _ h3.out.dy.below) (fun hHeld => ?_)
  clear hK K
  try simp only [Act.put, List.setIfInBounds_toArray, List.set_cons_zero, List.set_cons_succ]
  refine takeL 15 (v := ?_) rfl (by kernel_rfl) (by kernel_rfl) (by kernel_rfl) (fun _ _ _ h => h) (Or.inl ⟨by rfl, ?_⟩) hHeld ?_
  rotate_left 1
  · (intro w hSw; go_simp; try with_reducible rfl)
  try simp only [Act.put, List.setIfInBounds_toArray, List.set_cons_zero, List.set_cons_succ]
  refine takeL 16 (v := ?_) rfl (by kernel_rfl) (by kernel_rfl) (by kernel_rfl) (fun _ _ _ h => h) (Or.inl ⟨by rfl, ?_⟩) hHeld ?_
  rotate_left 1
  · (intro w hSw; go_simp; try with_reducible rfl)
  try simp only [Act.put, List.setIfInBounds_toArray, List.set_cons_zero, List.set_cons_succ]
  refine takeL 17 (v := ?_) rfl (by kernel_rfl) (by kernel_rfl) (by kernel_rfl) (fun _ _ _ h => h) (Or.inl ⟨by rfl, ?_⟩) hHeld ?_
  rotate_left 1
  · (intro w hSw; go_simp; try with_reducible rfl)
  try simp only [Act.put, List.setIfInBounds_toArray, List.set_cons_zero, List.set_cons_succ]
  refine takeL 18 (v := ?_) rfl (by kernel_rfl) (by kernel_rfl) (by kernel_rfl) (fun _ _ _ h => h) (Or.inl ⟨by rfl, ?_⟩) hHeld ?_
  rotate_left 1
  · (intro w hSw; go_simp; try with_reducible rfl)
  try simp only [Act.put, List.setIfInBounds_toArray, List.set_cons_zero, List.set_cons_succ]
  refine takeL 19 (v := ?_) rfl (by kernel_rfl) (by kernel_rfl) (by kernel_rfl) (fun _ _ _ h => h) (Or.inl ⟨by rfl, ?_⟩) hHeld ?_
  rotate_left 1
  · (intro w hSw; go_simp; try with_reducible rfl)
  try simp only [Act.put, List.setIfInBounds_toArray, List.set_cons_zero, List.set_cons_succ]
  refine takeL 23 rfl (by kernel_rfl) (by kernel_rfl) (by kernel_rfl) (fun _ _ _ h => h) (yieldsIf_load_mid (by rfl) _ _ rfl _ _ rfl _ _ (fun w hSw => hSw.1) hu32 rfl hi32) hHeld ?_
  try simp only [Act.put, List.setIfInBounds_toArray, List.set_cons_zero, List.set_cons_succ]
  refine takeL 25 (v := ?_) rfl (by kernel_rfl) (by kernel_rfl) (by kernel_rfl) (fun _ _ _ h => h) (Or.inl ⟨by rfl, ?_⟩) hHeld ?_
  rotate_left 1
  · (intro w hSw; go_simp; try with_reducible rfl)
  try simp only [Act.put, List.setIfInBounds_toArray, List.set_cons_zero, List.set_cons_succ]
  refine takeL 26 (v := ?_) rfl (by kernel_rfl) (by kernel_rfl) (by kernel_rfl) (fun _ _ _ h => h) (Or.inl ⟨by rfl, ?_⟩) hHeld ?_
  rotate_left 1
  · (intro w hSw; go_simp; try with_reducible rfl)
  try simp only [Act.put, List.setIfInBounds_toArray, List.set_cons_zero, List.set_cons_succ]
  refine takeL 27 (v := ?_) rfl (by kernel_rfl) (by kernel_rfl) (by kernel_rfl) (fun _ _ _ h => h) (Or.inl ⟨by rfl, ?_⟩) hHeld ?_
  rotate_left 1
  · (intro w hSw; (try dsimp only at hSw); obtain ⟨hS1, hS3⟩ := hSw; go_simp; try with_reducible rfl)
  try simp only [Act.put, List.setIfInBounds_toArray, List.set_cons_zero, List.set_cons_succ]
  refine takeL 29 (v := ?_) rfl (by kernel_rfl) (by kernel_rfl) (by kernel_rfl) (fun _ _ _ h => h) (Or.inl ⟨by rfl, ?_⟩) hHeld ?_
  rotate_left 1
  · (intro w hSw; go_simp; try with_reducible rfl)
  try simp only [Act.put, List.setIfInBounds_toArray, List.set_cons_zero, List.set_cons_succ]
  refine wpAnyH_ready (rs := [20, 24]) (by kernel_rfl) (by simp) ?_
  refine consL 20 rfl (fun K hK => ?_) (consL 24 rfl (fun K hK => ?_) AllReadyH.nil)
  · go_simp
    refine hK.out _ _ (HMk.out _ (h3.out.later (below_a _)).dy.below) (fun hHeld => ?_)
    clear hK K
    try simp only [Act.put, List.setIfInBounds_toArray, List.set_cons_zero, List.set_cons_succ]
    have h4a : Bx (Oy w3 all Cb cs B0 (W3.alloc (.cells #[.slice A6 N6 C6] 23))) := Bx.mk (h3.out.later (below_a _))
    have hPt : Bx (PartsAt (W3.alloc (.cells #[.slice A6 N6 C6] 23)) Cb (.slice (some ⟨W3.heap.size, 0, none⟩) 1 1) [all]) := Bx.mk (one_at HA.out h3.out.dy.below Cb (by have := HB.out; omega) (h3.out.dy.cp _ rfl).2.lt)
    generalize W3.alloc (.cells #[.slice A6 N6 C6] 23) = W4 at *
    refine wpAnyH_ready (rs := [21, 24]) (by kernel_rfl) (by simp) ?_
    refine consL 21 rfl (fun K hK => ?_) (consL 24 rfl (fun K hK => ?_) AllReadyH.nil)
    · go_simp
      refine (HAdd.out _ _ h4a.out hPt.out).mono ?_
      rintro e W5 ⟨rfl, h5⟩
      show K _ _
      refine hK.out _ _ (HMk.out _ h5.out.1.dy.below) (fun hHeld => ?_)
      clear hK K
      try simp only [Act.put, List.setIfInBounds_toArray, List.set_cons_zero, List.set_cons_succ]
      have h5a := Bx.mk h5.out.1
      refine wpAnyH_ready (rs := [22, 24]) (by kernel_rfl) (by simp) ?_
      refine consL 22 rfl (fun K hK => ?_) (consL 24 rfl (fun K hK => ?_) AllReadyH.nil)
      · go_simp
        refine (HSa.out _ h5a.out).mono ?_
        rintro e W6 ⟨rfl, h6⟩
        show K _ _
        refine hK.out _ _ (HMk.out _ h6.out.1.dy.below) (fun hHeld => ?_)
        clear hK K
        try simp only [Act.put, List.setIfInBounds_toArray, List.set_cons_zero, List.set_cons_succ]
        have h6a := Bx.mk h6.out.1
        refine stepL 24 (by kernel_rfl) rfl (fun K hK => ?_)
        go_simp
        refine hK.out _ _ (HMk.out _ (h6a.out.later (below_a _)).dy.below) (fun hHeld => ?_)
        clear hK K
        try simp only [Act.put, List.setIfInBounds_toArray, List.set_cons_zero, List.set_cons_succ]
        have hJ : Bx (Oy w3 all Cb (cs ++ all) B0 (W6.alloc (.cells #[] 5))) := Bx.mk (h6a.out.later (below_a _))
        have hOw : Bx (OwnB (W6.alloc (.cells #[] 5)) B0 (.slice (some ⟨W6.heap.size, 0, none⟩) 0 0) []) := Bx.mk (own_empty W6 B0 h6a.out.size)
        generalize W6.alloc (.cells #[] 5) = W7 at *
        refine stepL 28 (by kernel_rfl) rfl (fun K hK => ?_)
        refine step_apw (by rfl) _ _ rfl B0 _ [] (by rfl) hOw.out _ cs (by rfl) (HK.out.later hJ.out.dy.below) (by have := HL.out; simp only [List.length_nil]; omega) hJ.out.size ?_
        intro v1 W8 ho8 hg8
        have h8 : Bx (Oy w3 all Cb (cs ++ all) B0 W8) := Bx.mk ⟨hJ.out.dy.laterB (own_below hOw.out hg8 hJ.out.size) HB.out.2.2 (fun p hp => by injection hp with hp; subst hp; exact HB.out.2.1), Nat.le_trans hJ.out.size hg8.size⟩
        have hO8 : Bx (OwnB W8 B0 v1 cs) := Bx.mk ho8
        refine hK.out _ _ (HMk.out _ h8.out.dy.below) (fun hHeld => ?_)
        clear hK K
        try simp only [Act.put, List.setIfInBounds_toArray, List.set_cons_zero, List.set_cons_succ]
        clear ho8 hg8
        refine stepL 30 (by kernel_rfl) rfl (fun K hK => ?_)
        refine step_apw (by rfl) _ _ rfl B0 _ cs (by rfl) hO8.out _ all (by rfl) (HA.out.later h8.out.dy.below) (by have := HL.out; omega) h8.out.size ?_
        intro v2 W9 ho9 hg9
        have h9 : Bx (Oy w3 all Cb (cs ++ all) B0 W9) := Bx.mk ⟨h8.out.dy.laterB (own_below hO8.out hg9 h8.out.size) HB.out.2.2 (fun p hp => by injection hp with hp; subst hp; exact HB.out.2.1), Nat.le_trans h8.out.size hg9.size⟩
        have hO9 : Bx (OwnB W9 B0 v2 (cs ++ all)) := Bx.mk ho9
        refine hK.out _ _ (HMk.out _ h9.out.dy.below) (fun hHeld => ?_)
        clear hK K
        try simp only [Act.put, List.setIfInBounds_toArray, List.set_cons_zero, List.set_cons_succ]
        clear ho9 hg9
        refine stepL 31 (by kernel_rfl) rfl (fun K hK => ?_)
        go_simp
        refine (HRa.out _ _ h9.out hO9.out.bytes).mono ?_
        rintro e W10 ⟨rfl, h10⟩
        show K _ _
        refine hK.out _ _ (HMk.out _ h10.out.dy.below) (fun hHeld => ?_)
        clear hK K
        try simp only [Act.put, List.setIfInBounds_toArray, List.set_cons_zero, List.set_cons_succ]
        refine takeL 32 (v := ?_) rfl (by kernel_rfl) (by kernel_rfl) (by kernel_rfl) (fun _ _ _ h => h) (Or.inl ⟨by rfl, ?_⟩) hHeld ?_
        rotate_left 1
        · (intro w hSw; go_simp; try with_reducible rfl)
        try simp only [Act.put, List.setIfInBounds_toArray, List.set_cons_zero, List.set_cons_succ]
        refine takeL 33 (v := ?_) rfl (by kernel_rfl) (by kernel_rfl) (by kernel_rfl) (fun _ _ _ h => h) (Or.inl ⟨by rfl, ?_⟩) hHeld ?_
        rotate_left 1
        · (intro w hSw; go_simp; try with_reducible rfl)
        try simp only [Act.put, List.setIfInBounds_toArray, List.set_cons_zero, List.set_cons_succ]
        refine takeL 34 (v := ?_) rfl (by kernel_rfl) (by kernel_rfl) (by kernel_rfl) (fun _ _ _ h => h) (Or.inl ⟨by rfl, ?_⟩) hHeld ?_
        rotate_left 1
        · (intro w hSw; go_simp; try with_reducible rfl)
        try simp only [Act.put, List.setIfInBounds_toArray, List.set_cons_zero, List.set_cons_succ]
        refine takeL 36 rfl (by kernel_rfl) (by kernel_rfl) (by kernel_rfl) (fun _ _ _ h => h) (yieldsIf_load_mid (by rfl) _ _ rfl _ _ rfl _ _ (fun w hSw => hSw.1) hu32 rfl hi32) hHeld ?_
        try simp only [Act.put, List.setIfInBounds_toArray, List.set_cons_zero, List.set_cons_succ]
        refine takeL 37 (v := ?_) rfl (by kernel_rfl) (by kernel_rfl) (by kernel_rfl) (fun _ _ _ h => h) (Or.inl ⟨by rfl, ?_⟩) hHeld ?_
        rotate_left 1
        · (intro w hSw; go_simp; try with_reducible rfl)
        try simp only [Act.put, List.setIfInBounds_toArray, List.set_cons_zero, List.set_cons_succ]
        refine stepL 35 (by kernel_rfl) rfl (fun K hK => ?_)
        go_simp
        refine (HSr.out _ h10.out).mono ?_
        rintro e W11 ⟨rfl, h11⟩
        show K _ _
        refine hK.out _ _ (HMk.out _ h11.out.dy.below) (fun hHeld => ?_)
        clear hK K
        try simp only [Act.put, List.setIfInBounds_toArray, List.set_cons_zero, List.set_cons_succ]
        refine stepL 38 (by kernel_rfl) rfl (fun K hK => ?_)
        go_simp
        refine (HRr.out _ h11.out).mono ?_
        rintro e W12 ⟨rfl, h12⟩
        show K _ _
        refine hK.out _ _ (HMk.out _ h12.out.dy.below) (fun hHeld => ?_)
        clear hK K
        try simp only [Act.put, List.setIfInBounds_toArray, List.set_cons_zero, List.set_cons_succ]
        refine takeL 39 (v := ?_) rfl (by kernel_rfl) (by kernel_rfl) (by kernel_rfl) (fun _ _ _ h => h) (Or.inl ⟨by rfl, ?_⟩) hHeld ?_
        rotate_left 1
        · (intro w hSw; go_simp; try with_reducible rfl)
        try simp only [Act.put, List.setIfInBounds_toArray, List.set_cons_zero, List.set_cons_succ]
        refine takeL 40 (v := ?_) rfl (by kernel_rfl) (by kernel_rfl) (by kernel_rfl) (fun _ _ _ h => h) (Or.inl ⟨by rfl, ?_⟩) hHeld ?_
        rotate_left 1
        · (intro w hSw; go_simp; try with_reducible rfl)
        try simp only [Act.put, List.setIfInBounds_toArray, List.set_cons_zero, List.set_cons_succ]
        refine takeL 41 (v := ?_) rfl (by kernel_rfl) (by kernel_rfl) (by kernel_rfl) (fun _ _ _ h => h) (Or.inl ⟨by rfl, ?_⟩) hHeld ?_
        rotate_left 1
        · (intro w hSw; go_simp; try with_reducible rfl)
        try simp only [Act.put, List.setIfInBounds_toArray, List.set_cons_zero, List.set_cons_succ]
        refine wpAnyH_done (by kernel_rfl) ?_ _
        exact NoPanic.normal (HQ.out _ _ ⟨rfl, rfl⟩ rfl h12.out.dy.below)
      · go_simp
        refine hK.out _ _ (HMk.out _ (h5a.out.later (below_a _)).dy.below) (fun hHeld => ?_)
        clear hK K
        try simp only [Act.put, List.setIfInBounds_toArray, List.set_cons_zero, List.set_cons_succ]
        have h6b : Bx (Oy w3 all Cb (cs ++ all) B0 (W5.alloc (.cells #[] 5))) := Bx.mk (h5a.out.later (below_a _))
        have hOw : Bx (OwnB (W5.alloc (.cells #[] 5)) B0 (.slice (some ⟨W5.heap.size, 0, none⟩) 0 0) []) := Bx.mk (own_empty W5 B0 h5a.out.size)
        generalize W5.alloc (.cells #[] 5) = W6 at *
        refine stepL 22 (by kernel_rfl) rfl (fun K hK => ?_)
        go_simp
        refine (HSa.out _ h6b.out).mono ?_
        rintro e W7 ⟨rfl, h6⟩
        show K _ _
        refine hK.out _ _ (HMk.out _ h6.out.1.dy.below) (fun hHeld => ?_)
        clear hK K
        try simp only [Act.put, List.setIfInBounds_toArray, List.set_cons_zero, List.set_cons_succ]
        have hJ := Bx.mk h6.out.1
        have hOw := Bx.mk (hOw.out.later h6.out.2 (fun g hg => (hOw.out.lt g hg).1))
        refine stepL 28 (by kernel_rfl) rfl (fun K hK => ?_)
        refine step_apw (by rfl) _ _ rfl B0 _ [] (by rfl) hOw.out _ cs (by rfl) (HK.out.later hJ.out.dy.below) (by have := HL.out; simp only [List.length_nil]; omega) hJ.out.size ?_
        intro v1 W8 ho8 hg8
        have h8 : Bx (Oy w3 all Cb (cs ++ all) B0 W8) := Bx.mk ⟨hJ.out.dy.laterB (own_below hOw.out hg8 hJ.out.size) HB.out.2.2 (fun p hp => by injection hp with hp; subst hp; exact HB.out.2.1), Nat.le_trans hJ.out.size hg8.size⟩
        have hO8 : Bx (OwnB W8 B0 v1 cs) := Bx.mk ho8
        refine hK.out _ _ (HMk.out _ h8.out.dy.below) (fun hHeld => ?_)
        clear hK K
        try simp only [Act.put, List.setIfInBounds_toArray, List.set_cons_zero, List.set_cons_succ]
        clear ho8 hg8
        refine stepL 30 (by kernel_rfl) rfl (fun K hK => ?_)
        refine step_apw (by rfl) _ _ rfl B0 _ cs (by rfl) hO8.out _ all (by rfl) (HA.out.later h8.out.dy.below) (by have := HL.out; omega) h8.out.size ?_
        intro v2 W9 ho9 hg9
        have h9 : Bx (Oy w3 all Cb (cs ++ all) B0 W9) := Bx.mk ⟨h8.out.dy.laterB (own_below hO8.out hg9 h8.out.size) HB.out.2.2 (fun p hp => by injection hp with hp; subst hp; exact HB.out.2.1), Nat.le_trans h8.out.size hg9.size⟩
        have hO9 : Bx (OwnB W9 B0 v2 (cs ++ all)) := Bx.mk ho9
        refine hK.out _ _ (HMk.out _ h9.out.dy.below) (fun hHeld => ?_)
        clear hK K
        try simp only [Act.put, List.setIfInBounds_toArray, List.set_cons_zero, List.set_cons_succ]
        clear ho9 hg9
        refine stepL 31 (by kernel_rfl) rfl (fun K hK => ?_)
        go_simp
        refine (HRa.out _ _ h9.out hO9.out.bytes).mono ?_
        rintro e W10 ⟨rfl, h10⟩
        show K _ _
        refine hK.out _ _ (HMk.out _ h10.out.dy.below) (fun hHeld => ?_)
        clear hK K
        try simp only [Act.put, List.setIfInBounds_toArray, List.set_cons_zero, List.set_cons_succ]
        refine takeL 32 (v := ?_) rfl (by kernel_rfl) (by kernel_rfl) (by kernel_rfl) (fun _ _ _ h => h) (Or.inl ⟨by rfl, ?_⟩) hHeld ?_
        rotate_left 1
        · (intro w hSw; go_simp; try with_reducible rfl)
        try simp only [Act.put, List.setIfInBounds_toArray, List.set_cons_zero, List.set_cons_succ]
        refine takeL 33 (v := ?_) rfl (by kernel_rfl) (by kernel_rfl) (by kernel_rfl) (fun _ _ _ h => h) (Or.inl ⟨by rfl, ?_⟩) hHeld ?_
        rotate_left 1
        · (intro w hSw; go_simp; try with_reducible rfl)
        try simp only [Act.put, List.setIfInBounds_toArray, List.set_cons_zero, List.set_cons_succ]
        refine takeL 34 (v := ?_) rfl (by kernel_rfl) (by kernel_rfl) (by kernel_rfl) (fun _ _ _ h => h) (Or.inl ⟨by rfl, ?_⟩) hHeld ?_
        rotate_left 1
        · (intro w hSw; go_simp; try with_reducible rfl)
        try simp only [Act.put, List.setIfInBounds_toArray, List.set_cons_zero, List.set_cons_succ]
        refine takeL 36 rfl (by kernel_rfl) (by kernel_rfl) (by kernel_rfl) (fun _ _ _ h => h) (yieldsIf_load_mid (by rfl) _ _ rfl _ _ rfl _ _ (fun w hSw => hSw.1) hu32 rfl hi32) hHeld ?_
        try simp only [Act.put, List.setIfInBounds_toArray, List.set_cons_zero, List.set_cons_succ]
        refine takeL 37 (v := ?_) rfl (by kernel_rfl) (by kernel_rfl) (by kernel_rfl) (fun _ _ _ h => h) (Or.inl ⟨by rfl, ?_⟩) hHeld ?_
        rotate_left 1
        · (intro w hSw; go_simp; try with_reducible rfl)
        try simp only [Act.put, List.setIfInBounds_toArray, List.set_cons_zero, List.set_cons_succ]
        refine stepL 35 (by kernel_rfl) rfl (fun K hK => ?_)
        go_simp
        refine (HSr.out _ h10.out).mono ?_
        rintro e W11 ⟨rfl, h11⟩
        show K _ _
        refine hK.out _ _ (HMk.out _ h11.out.dy.below) (fun hHeld => ?_)
        clear hK K
        try simp only [Act.put, List.setIfInBounds_toArray, List.set_cons_zero, List.set_cons_succ]
        refine stepL 38 (by kernel_rfl) rfl (fun K hK => ?_)
        go_simp
        refine (HRr.out _ h11.out).mono ?_
        rintro e W12 ⟨rfl, h12⟩
        show K _ _
        refine hK.out _ _ (HMk.out _ h12.out.dy.below) (fun hHeld => ?_)
        clear hK K
        try simp only [Act.put, List.setIfInBounds_toArray, List.set_cons_zero, List.set_cons_succ]
        refine takeL 39 (v := ?_) rfl (by kernel_rfl) (by kernel_rfl) (by kernel_rfl) (fun _ _ _ h => h) (Or.inl ⟨by rfl, ?_⟩) hHeld ?_
        rotate_left 1
        · (intro w hSw; go_simp; try with_reducible rfl)
        try simp only [Act.put, List.setIfInBounds_toArray, List.set_cons_zero, List.set_cons_succ]
        refine takeL 40 (v := ?_) rfl (by kernel_rfl) (by kernel_rfl) (by kernel_rfl) (fun _ _ _ h => h) (Or.inl ⟨by rfl, ?_⟩) hHeld ?_
        rotate_left 1
        · (intro w hSw; go_simp; try with_reducible rfl)
        try simp only [Act.put, List.setIfInBounds_toArray, List.set_cons_zero, List.set_cons_succ]
        refine takeL 41 (v := ?_) rfl (by kernel_rfl) (by kernel_rfl) (by kernel_rfl) (fun _ _ _ h => h) (Or.inl ⟨by rfl, ?_⟩) hHeld ?_
        rotate_left 1
        · (intro w hSw; go_simp; try with_reducible rfl)
        try simp only [Act.put, List.setIfInBounds_toArray, List.set_cons_zero, List.set_cons_succ]
        refine wpAnyH_done (by kernel_rfl) ?_ _
        exact NoPanic.normal (HQ.out _ _ ⟨rfl, rfl⟩ rfl h12.out.dy.below)
    · go_simp
      refine hK.out _ _ (HMk.out _ (h4a.out.later (below_a _)).dy.below) (fun hHeld => ?_)
      clear hK K
      try simp only [Act.put, List.setIfInBounds_toArray, List.set_cons_zero, List.set_cons_succ]
      have h5b : Bx (Oy w3 all Cb cs B0 (W4.alloc (.cells #[] 5))) := Bx.mk (h4a.out.later (below_a _))
      have hOw : Bx (OwnB (W4.alloc (.cells #[] 5)) B0 (.slice (some ⟨W4.heap.size, 0, none⟩) 0 0) []) := Bx.mk (own_empty W4 B0 h4a.out.size)
      have hPt := Bx.mk (hPt.out.below (below_a (.cells #[] 5)))
      generalize W4.alloc (.cells #[] 5) = W5 at *
      refine stepL 21 (by kernel_rfl) rfl (fun K hK => ?_)
      go_simp
      refine (HAdd.out _ _ h5b.out hPt.out).mono ?_
      rintro e W6 ⟨rfl, h5⟩
      show K _ _
      refine hK.out _ _ (HMk.out _ h5.out.1.dy.below) (fun hHeld => ?_)
      clear hK K
      try simp only [Act.put, List.setIfInBounds_toArray, List.set_cons_zero, List.set_cons_succ]
      have h6c := Bx.mk h5.out.1
      have hOw := Bx.mk (hOw.out.kept h5.out.2 (own_ne' hOw.out HB.out.2.1))
      refine stepL 22 (by kernel_rfl) rfl (fun K hK => ?_)
      go_simp
      refine (HSa.out _ h6c.out).mono ?_
      rintro e W7 ⟨rfl, h6⟩
      show K _ _
      refine hK.out _ _ (HMk.out _ h6.out.1.dy.below) (fun hHeld => ?_)
      clear hK K
      try simp only [Act.put, List.setIfInBounds_toArray, List.set_cons_zero, List.set_cons_succ]
      have hJ := Bx.mk h6.out.1
      have hOw := Bx.mk (hOw.out.later h6.out.2 (fun g hg => (hOw.out.lt g hg).1))
      refine stepL 28 (by kernel_rfl) rfl (fun K hK => ?_)
      refine step_apw (by rfl) _ _ rfl B0 _ [] (by rfl) hOw.out _ cs (by rfl) (HK.out.later hJ.out.dy.below) (by have := HL.out; simp only [List.length_nil]; omega) hJ.out.size ?_
      intro v1 W8 ho8 hg8
      have h8 : Bx (Oy w3 all Cb (cs ++ all) B0 W8) := Bx.mk ⟨hJ.out.dy.laterB (own_below hOw.out hg8 hJ.out.size) HB.out.2.2 (fun p hp => by injection hp with hp; subst hp; exact HB.out.2.1), Nat.le_trans hJ.out.size hg8.size⟩
      have hO8 : Bx (OwnB W8 B0 v1 cs) := Bx.mk ho8
      refine hK.out _ _ (HMk.out _ h8.out.dy.below) (fun hHeld => ?_)
      clear hK K
      try simp only [Act.put, List.setIfInBounds_toArray, List.set_cons_zero, List.set_cons_succ]
      clear ho8 hg8
      refine stepL 30 (by kernel_rfl) rfl (fun K hK => ?_)
      refine step_apw (by rfl) _ _ rfl B0 _ cs (by rfl) hO8.out _ all (by rfl) (HA.out.later h8.out.dy.below) (by have := HL.out; omega) h8.out.size ?_
      intro v2 W9 ho9 hg9
      have h9 : Bx (Oy w3 all Cb (cs ++ all) B0 W9) := Bx.mk ⟨h8.out.dy.laterB (own_below hO8.out hg9 h8.out.size) HB.out.2.2 (fun p hp => by injection hp with hp; subst hp; exact HB.out.2.1), Nat.le_trans h8.out.size hg9.size⟩
      have hO9 : Bx (OwnB W9 B0 v2 (cs ++ all)) := Bx.mk ho9
      refine hK.out _ _ (HMk.out _ h9.out.dy.below) (fun hHeld => ?_)
      clear hK K
      try simp only [Act.put, List.setIfInBounds_toArray, List.set_cons_zero, List.set_cons_succ]
      clear ho9 hg9
      refine stepL 31 (by kernel_rfl) rfl (fun K hK => ?_)
      go_simp
      refine (HRa.out _ _ h9.out hO9.out.bytes).mono ?_
      rintro e W10 ⟨rfl, h10⟩
      show K _ _
      refine hK.out _ _ (HMk.out _ h10.out.dy.below) (fun hHeld => ?_)
      clear hK K
      try simp only [Act.put, List.setIfInBounds_toArray, List.set_cons_zero, List.set_cons_succ]
      refine takeL 32 (v := ?_) rfl (by kernel_rfl) (by kernel_rfl) (by kernel_rfl) (fun _ _ _ h => h) (Or.inl ⟨by rfl, ?_⟩) hHeld ?_
      rotate_left 1
      · (intro w hSw; go_simp; try with_reducible rfl)
      try simp only [Act.put, List.setIfInBounds_toArray, List.set_cons_zero, List.set_cons_succ]
      refine takeL 33 (v := ?_) rfl (by kernel_rfl) (by kernel_rfl) (by kernel_rfl) (fun _ _ _ h => h) (Or.inl ⟨by rfl, ?_⟩) hHeld ?_
      rotate_left 1
      · (intro w hSw; go_simp; try with_reducible rfl)
      try simp only [Act.put, List.setIfInBounds_toArray, List.set_cons_zero, List.set_cons_succ]
      refine takeL 34 (v := ?_) rfl (by kernel_rfl) (by kernel_rfl) (by kernel_rfl) (fun _ _ _ h => h) (Or.inl ⟨by rfl, ?_⟩) hHeld ?_
      rotate_left 1
      · (intro w hSw; go_simp; try with_reducible rfl)
      try simp only [Act.put, List.setIfInBounds_toArray, List.set_cons_zero, List.set_cons_succ]
      refine takeL 36 rfl (by kernel_rfl) (by kernel_rfl) (by kernel_rfl) (fun _ _ _ h => h) (yieldsIf_load_mid (by rfl) _ _ rfl _ _ rfl _ _ (fun w hSw => hSw.1) hu32 rfl hi32) hHeld ?_
      try simp only [Act.put, List.setIfInBounds_toArray, List.set_cons_zero, List.set_cons_succ]
      refine takeL 37 (v := ?_) rfl (by kernel_rfl) (by kernel_rfl) (by kernel_rfl) (fun _ _ _ h => h) (Or.inl ⟨by rfl, ?_⟩) hHeld ?_
      rotate_left 1
      · (intro w hSw; go_simp; try with_reducible rfl)
      try simp only [Act.put, List.setIfInBounds_toArray, List.set_cons_zero, List.set_cons_succ]
      refine stepL 35 (by kernel_rfl) rfl (fun K hK => ?_)
      go_simp
      refine (HSr.out _ h10.out).mono ?_
      rintro e W11 ⟨rfl, h11⟩
      show K _ _
      refine hK.out _ _ (HMk.out _ h11.out.dy.below) (fun hHeld => ?_)
      clear hK K
      try simp only [Act.put, List.setIfInBounds_toArray, List.set_cons_zero, List.set_cons_succ]
      refine stepL 38 (by kernel_rfl) rfl (fun K hK => ?_)
      go_simp
      refine (HRr.out _ h11.out).mono ?_
      rintro e W12 ⟨rfl, h12⟩
      show K _ _
      refine hK.out _ _ (HMk.out _ h12.out.dy.below) (fun hHeld => ?_)
      clear hK K
      try simp only [Act.put, List.setIfInBounds_toArray, List.set_cons_zero, List.set_cons_succ]
      refine takeL 39 (v := ?_) rfl (by kernel_rfl) (by kernel_rfl) (by kernel_rfl) (fun _ _ _ h => h) (Or.inl ⟨by rfl, ?_⟩) hHeld ?_
      rotate_left 1
      · (intro w hSw; go_simp; try with_reducible rfl)
      try simp only [Act.put, List.setIfInBounds_toArray, List.set_cons_zero, List.set_cons_succ]
      refine takeL 40 (v := ?_) rfl (by kernel_rfl) (by kernel_rfl) (by kernel_rfl) (fun _ _ _ h => h) (Or.inl ⟨by rfl, ?_⟩) hHeld ?_
      rotate_left 1
      · (intro w hSw; go_simp; try with_reducible rfl)
      try simp only [Act.put, List.setIfInBounds_toArray, List.set_cons_zero, List.set_cons_succ]
      refine takeL 41 (v := ?_) rfl (by kernel_rfl) (by kernel_rfl) (by kernel_rfl) (fun _ _ _ h => h) (Or.inl ⟨by rfl, ?_⟩) hHeld ?_
      rotate_left 1
      · (intro w hSw; go_simp; try with_reducible rfl)
      try simp only [Act.put, List.setIfInBounds_toArray, List.set_cons_zero, List.set_cons_succ]
      refine wpAnyH_done (by kernel_rfl) ?_ _
      exact NoPanic.normal (HQ.out _ _ ⟨rfl, rfl⟩ rfl h12.out.dy.below)
  · go_simp
    refine hK.out _ _ (HMk.out _ (h3.out.later (below_a _)).dy.below) (fun hHeld => ?_)
    clear hK K
    try simp only [Act.put, List.setIfInBounds_toArray, List.set_cons_zero, List.set_cons_succ]
    have h4b : Bx (Oy w3 all Cb cs B0 (W3.alloc (.cells #[] 5))) := Bx.mk (h3.out.later (below_a _))
    have hOw : Bx (OwnB (W3.alloc (.cells #[] 5)) B0 (.slice (some ⟨W3.heap.size, 0, none⟩) 0 0) []) := Bx.mk (own_empty W3 B0 h3.out.size)
    generalize W3.alloc (.cells #[] 5) = W4 at *
    refine stepL 20 (by kernel_rfl) rfl (fun K hK => ?_)
    go_simp
    refine hK.out _ _ (HMk.out _ (h4b.out.later (below_a _)).dy.below) (fun hHeld => ?_)
    clear hK K
    try simp only [Act.put, List.setIfInBounds_toArray, List.set_cons_zero, List.set_cons_succ]
    have h5c : Bx (Oy w3 all Cb cs B0 (W4.alloc (.cells #[.slice A6 N6 C6] 23))) := Bx.mk (h4b.out.later (below_a _))
    have hPt : Bx (PartsAt (W4.alloc (.cells #[.slice A6 N6 C6] 23)) Cb (.slice (some ⟨W4.heap.size, 0, none⟩) 1 1) [all]) := Bx.mk (one_at HA.out h4b.out.dy.below Cb (by have := HB.out; omega) (h4b.out.dy.cp _ rfl).2.lt)
    have hOw := Bx.mk (hOw.out.later (below_a (.cells #[.slice A6 N6 C6] 23)) (fun g hg => (hOw.out.lt g hg).1))
    generalize W4.alloc (.cells #[.slice A6 N6 C6] 23) = W5 at *
    refine stepL 21 (by kernel_rfl) rfl (fun K hK => ?_)
    go_simp
    refine (HAdd.out _ _ h5c.out hPt.out).mono ?_
    rintro e W6 ⟨rfl, h5⟩
    show K _ _
    refine hK.out _ _ (HMk.out _ h5.out.1.dy.below) (fun hHeld => ?_)
    clear hK K
    try simp only [Act.put, List.setIfInBounds_toArray, List.set_cons_zero, List.set_cons_succ]
    have h6d := Bx.mk h5.out.1
    have hOw := Bx.mk (hOw.out.kept h5.out.2 (own_ne' hOw.out HB.out.2.1))
    refine stepL 22 (by kernel_rfl) rfl (fun K hK => ?_)
    go_simp
    refine (HSa.out _ h6d.out).mono ?_
    rintro e W7 ⟨rfl, h6⟩
    show K _ _
    refine hK.out _ _ (HMk.out _ h6.out.1.dy.below) (fun hHeld => ?_)
    clear hK K
    try simp only [Act.put, List.setIfInBounds_toArray, List.set_cons_zero, List.set_cons_succ]
    have hJ := Bx.mk h6.out.1
    have hOw := Bx.mk (hOw.out.later h6.out.2 (fun g hg => (hOw.out.lt g hg).1))
    refine stepL 28 (by kernel_rfl) rfl (fun K hK => ?_)
    refine step_apw (by rfl) _ _ rfl B0 _ [] (by rfl) hOw.out _ cs (by rfl) (HK.out.later hJ.out.dy.below) (by have := HL.out; simp only [List.length_nil]; omega) hJ.out.size ?_
    intro v1 W8 ho8 hg8
    have h8 : Bx (Oy w3 all Cb (cs ++ all) B0 W8) := Bx.mk ⟨hJ.out.dy.laterB (own_below hOw.out hg8 hJ.out.size) HB.out.2.2 (fun p hp => by injection hp with hp; subst hp; exact HB.out.2.1), Nat.le_trans hJ.out.size hg8.size⟩
    have hO8 : Bx (OwnB W8 B0 v1 cs) := Bx.mk ho8
    refine hK.out _ _ (HMk.out _ h8.out.dy.below) (fun hHeld => ?_)
    clear hK K
    try simp only [Act.put, List.setIfInBounds_toArray, List.set_cons_zero, List.set_cons_succ]
    clear ho8 hg8
    refine stepL 30 (by kernel_rfl) rfl (fun K hK => ?_)
    refine step_apw (by rfl) _ _ rfl B0 _ cs (by rfl) hO8.out _ all (by rfl) (HA.out.later h8.out.dy.below) (by have := HL.out; omega) h8.out.size ?_
    intro v2 W9 ho9 hg9
    have h9 : Bx (Oy w3 all Cb (cs ++ all) B0 W9) := Bx.mk ⟨h8.out.dy.laterB (own_below hO8.out hg9 h8.out.size) HB.out.2.2 (fun p hp => by injection hp with hp; subst hp; exact HB.out.2.1), Nat.le_trans h8.out.size hg9.size⟩
    have hO9 : Bx (OwnB W9 B0 v2 (cs ++ all)) := Bx.mk ho9
    refine hK.out _ _ (HMk.out _ h9.out.dy.below) (fun hHeld => ?_)
    clear hK K
    try simp only [Act.put, List.setIfInBounds_toArray, List.set_cons_zero, List.set_cons_succ]
    clear ho9 hg9
    refine stepL 31 (by kernel_rfl) rfl (fun K hK => ?_)
    go_simp
    refine (HRa.out _ _ h9.out hO9.out.bytes).mono ?_
    rintro e W10 ⟨rfl, h10⟩
    show K _ _
    refine hK.out _ _ (HMk.out _ h10.out.dy.below) (fun hHeld => ?_)
    clear hK K
    try simp only [Act.put, List.setIfInBounds_toArray, List.set_cons_zero, List.set_cons_succ]
    refine takeL 32 (v := ?_) rfl (by kernel_rfl) (by kernel_rfl) (by kernel_rfl) (fun _ _ _ h => h) (Or.inl ⟨by rfl, ?_⟩) hHeld ?_
    rotate_left 1
    · (intro w hSw; go_simp; try with_reducible rfl)
    try simp only [Act.put, List.setIfInBounds_toArray, List.set_cons_zero, List.set_cons_succ]
    refine takeL 33 (v := ?_) rfl (by kernel_rfl) (by kernel_rfl) (by kernel_rfl) (fun _ _ _ h => h) (Or.inl ⟨by rfl, ?_⟩) hHeld ?_
    rotate_left 1
    · (intro w hSw; go_simp; try with_reducible rfl)
    try simp only [Act.put, List.setIfInBounds_toArray, List.set_cons_zero, List.set_cons_succ]
    refine takeL 34 (v := ?_) rfl (by kernel_rfl) (by kernel_rfl) (by kernel_rfl) (fun _ _ _ h => h) (Or.inl ⟨by rfl, ?_⟩) hHeld ?_
    rotate_left 1
    · (intro w hSw; go_simp; try with_reducible rfl)
    try simp only [Act.put, List.setIfInBounds_toArray, List.set_cons_zero, List.set_cons_succ]
    refine takeL 36 rfl (by kernel_rfl) (by kernel_rfl) (by kernel_rfl) (fun _ _ _ h => h) (yieldsIf_load_mid (by rfl) _ _ rfl _ _ rfl _ _ (fun w hSw => hSw.1) hu32 rfl hi32) hHeld ?_
    try simp only [Act.put, List.setIfInBounds_toArray, List.set_cons_zero, List.set_cons_succ]
    refine takeL 37 (v := ?_) rfl (by kernel_rfl) (by kernel_rfl) (by kernel_rfl) (fun _ _ _ h => h) (Or.inl ⟨by rfl, ?_⟩) hHeld ?_
    rotate_left 1
    · (intro w hSw; go_simp; try with_reducible rfl)
    try simp only [Act.put, List.setIfInBounds_toArray, List.set_cons_zero, List.set_cons_succ]
    refine stepL 35 (by kernel_rfl) rfl (fun K hK => ?_)
    go_simp
    refine (HSr.out _ h10.out).mono ?_
    rintro e W11 ⟨rfl, h11⟩
    show K _ _
    refine hK.out _ _ (HMk.out _ h11.out.dy.below) (fun hHeld => ?_)
    clear hK K
    try simp only [Act.put, List.setIfInBounds_toArray, List.set_cons_zero, List.set_cons_succ]
    refine stepL 38 (by kernel_rfl) rfl (fun K hK => ?_)
    go_simp
    refine (HRr.out _ h11.out).mono ?_
    rintro e W12 ⟨rfl, h12⟩
    show K _ _
    refine hK.out _ _ (HMk.out _ h12.out.dy.below) (fun hHeld => ?_)
    clear hK K
    try simp only [Act.put, List.setIfInBounds_toArray, List.set_cons_zero, List.set_cons_succ]
    refine takeL 39 (v := ?_) rfl (by kernel_rfl) (by kernel_rfl) (by kernel_rfl) (fun _ _ _ h => h) (Or.inl ⟨by rfl, ?_⟩) hHeld ?_
    rotate_left 1
    · (intro w hSw; go_simp; try with_reducible rfl)
    try simp only [Act.put, List.setIfInBounds_toArray, List.set_cons_zero, List.set_cons_succ]
    refine takeL 40 (v := ?_) rfl (by kernel_rfl) (by kernel_rfl) (by kernel_rfl) (fun _ _ _ h => h) (Or.inl ⟨by rfl, ?_⟩) hHeld ?_
    rotate_left 1
    · (intro w hSw; go_simp; try with_reducible rfl)
    try simp only [Act.put, List.setIfInBounds_toArray, List.set_cons_zero, List.set_cons_succ]
    refine takeL 41 (v := ?_) rfl (by kernel_rfl) (by kernel_rfl) (by kernel_rfl) (fun _ _ _ h => h) (Or.inl ⟨by rfl, ?_⟩) hHeld ?_
    rotate_left 1
    · (intro w hSw; go_simp; try with_reducible rfl)
    try simp only [Act.put, List.setIfInBounds_toArray, List.set_cons_zero, List.set_cons_succ]
    refine wpAnyH_done (by kernel_rfl) ?_ _
    exact NoPanic.normal (HQ.out _ _ ⟨rfl, rfl⟩ rfl h12.out.dy.below)
end Go.Proofs.YtkfgpnigeknhmaaDoor
