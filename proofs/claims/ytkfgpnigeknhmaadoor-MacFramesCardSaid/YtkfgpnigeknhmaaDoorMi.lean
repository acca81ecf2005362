/-
  The walk of the document's Tag.
-/
import Derived.Test.YtkfgpnigeknhmaaDoorMh
namespace Go.Proofs.YtkfgpnigeknhmaaDoor
open Go Go.RowKit
theorem consL {P : Program} {ops : Array Oper} {Q : Exit → Act → World → Prop} {md : Region.Mode} {S : World → Prop} {fuel : Nat} {listed : Array Bool} {a : Act} {w : World} (i : Nat) {o : Oper} {rs : List Nat} (ho : ops.toList[i]? = some o)
    (h : ∀ K' : Act → World → Prop, Shut (∀ a w, S w → (S w → wpAnyH P md ops Q S fuel (listed.setIfInBounds i true) a w) → K' a w) → if Region.wanted o (yielded ops a.tmps) = true then Oper.wp P o a w K' Q else K' (a.put o.dst undef) w)
    (hs : AllReadyH P md ops Q S fuel listed a w rs) : AllReadyH P md ops Q S fuel listed a w (i :: rs) := AllReadyH.cons (by rw [← Array.getElem?_toList]; exact ho) h hs
theorem OwnB.weak {w : World} {base base' : Nat} {v : Value} {l : List UInt8} (h : OwnB w base v l) (hb : base' ≤ base) : OwnB w base' v l := by
  refine ⟨h.1, ?_⟩
  rcases h.2 with h0 | ⟨g, cap, cur, hv, hb', hr⟩
  · exact .inl h0
  · exact .inr ⟨g, cap, cur, hv, Nat.le_trans hb hb', hr⟩
/-- Bytes that grow lie in another block than an array. -/
theorem own_arr {w : World} {base D : Nat} {v : Value} {l : List UInt8} {c : Array Value} (h : OwnB w base v l) (hD : w.heap[D]? = some (.cells c 26 (0, 0))) : some D ≠ v.ownBlock := by
  intro e
  rcases h.2 with ⟨rfl, _⟩ | ⟨g, cap, cur, rfl, _, hh, _⟩
  · cases e
  · injection e with e
    simp only at e
    subst e
    rw [hD] at hh
    injection hh with e
    injection e with _ e2
    exact absurd e2 (by decide)
set_option maxRecDepth 100000 in
theorem open22 {a : Act} (h : Fr 22 a) : ∃ x : Nat → Value, a = ⟨List.toArray (x 0 :: x 1 :: x 2 :: x 3 :: x 4 :: x 5 :: x 6 :: x 7 :: x 8 :: x 9 :: x 10 :: x 11 :: x 12 :: x 13 :: x 14 :: x 15 :: x 16 :: x 17 :: x 18 :: x 19 :: x 20 :: x 21 :: []), []⟩ ∧ ∀ i, a.eval (.tmp i) = x i := ⟨fun i => a.tmps.getD i undef, h.form, fun _ => rfl⟩
structure IT (vk vb : Value) (T R : Nat) (a : Act) : Prop where
  fr : Fr 22 a
  s1 : a.eval (.tmp 1) = vk
  s2 : a.eval (.tmp 2) = vb
  s3 : a.eval (.tmp 3) = .pointer (some ⟨T, 0, none⟩)
  s6 : a.eval (.tmp 6) = .pointer (some ⟨R, 0, none⟩)
/-- What stays while a tag is made. -/
structure TS (w2 : World) (T R : Nat) (tbl : List Value) (vk vb : Value) (key bb : List UInt8) : Prop where
  row : w2.heap[T]? = some (.cells tbl.toArray 32 (0, 0))
  res : w2.heap[R]? = some (.cells (u8s (List.replicate 32 0)) 26 (0, 0))
  ne : T ≠ R
  hkey : Bytes w2 vk key
  hbytes : Bytes w2 vb bb
  kl : key.length ≤ 1000000
  bl : bb.length ≤ 1000000
  is : u32s (kTab ++ hTab) = tbl.toArray
theorem TS.rng {w2 W : World} {T R : Nat} {tbl : List Value} {vk vb : Value} {key bb : List UInt8} (h : TS w2 T R tbl vk vb key bb) (hb : Below w2.heap.size w2 W) : W.rangeAt T 0 tbl := fun j v hv => by
  rw [hb.cell (p := ⟨T, 0 + j, none⟩) (Array.getElem?_eq_some_iff.1 h.row).1, cell_of_row _ _ _ _ _ _ h.row, Nat.zero_add, ← Array.getElem?_toList]
  exact hv
/-- filled, called where these stay. -/
def FilQ (w2 : World) (l : List UInt8) (W : World) (e : Ending) (W' : World) : Prop := ∃ M, e = .returned (.slice (some ⟨M, 0, none⟩) 64 64) ∧ Bx (OwnB W' w2.heap.size (.slice (some ⟨M, 0, none⟩) 64 64) l ∧ Below W.heap.size W W')
section
variable {w2 : World} {T R : Nat} {tbl : List Value} {vk vb : Value} {key bb : List UInt8} (st : TS w2 T R tbl vk vb key bb)
include st
theorem TS.fil {W : World} (b : UInt8) (hb : Below w2.heap.size w2 W) : Calls Tryd.prog 45 #[.agg tbl.toArray, vk, .int .u8 (ub b)] W (FilQ w2 (turn b (keyB key)) W) :=
  (rfilled_any tbl st.is key b vk W (st.hkey.later hb) st.kl).mono fun _ _ ⟨M, he, ho, hb2⟩ => ⟨M, he, ⟨ho.weak hb.size, hb2⟩⟩
theorem TS.sum {W : World} {x : Value} {ps : List UInt8} (hx : Bytes W x ps) (hl : ps.length ≤ 10000000) : Calls Tryd.prog 12 #[.agg tbl.toArray, x] W fun e W' => e = .returned (.agg (vs8 (sha ps)).toArray) ∧ Bx (Below W.heap.size W W') := by
  rw [← st.is, ← u8s_vs]
  exact (rsum_any ps x W hx (by omega)).mono fun _ _ ⟨he, hb⟩ => ⟨he, ⟨hb⟩⟩
end
theorem tbl_size3 {tbl : List Value} (h : u32s (kTab ++ hTab) = tbl.toArray) : (Tryd.prog.info? 32).map (·.size) = some tbl.length := by
  have h2 := tbl_size2 h
  rw [h2]; simp
theorem one_vs (l : List UInt8) : ((vs8 l).toArray).all (·.oneCell') = true := one_u8s l
set_option maxRecDepth 100000 in
set_option maxHeartbeats 2000000 in
theorem reg1T (w2 : World) (T R : Nat) (tbl : List Value) (vk vb : Value) (key bb : List UInt8) (st : TS w2 T R tbl vk vb key bb) (Q : Exit → Act → World → Prop) (a : Act) (h : IT vk vb T R a)
    (hQ : ∀ a' W' D, IT vk vb T R a' → a'.eval (.tmp 7) = .pointer (some ⟨D, 0, none⟩) → Below w2.heap.size w2 W' → W'.heap[D]? = some (.cells (u8s (sha (turn 54 (keyB key) ++ bb))) 26 (0, 0)) → Q .normal a' W') :
    Code.wp Tryd.prog (regionAt Tryd.f26.body 1) Q a w2 := by
  have HMk : Bx (∀ W, Below w2.heap.size w2 W → W.rangeAt T 0 tbl ∧ Bx (Below w2.heap.size w2 W)) := Bx.mk (fun W hb => ⟨st.rng hb, ⟨hb⟩⟩)
  have HFil : Bx (∀ W, Below w2.heap.size w2 W → Calls Tryd.prog 45 #[.agg tbl.toArray, vk, .int .u8 54] W (FilQ w2 (turn 54 (keyB key)) W)) := Bx.mk (fun W hb => st.fil 54 hb)
  have HSum : Bx (∀ W x, Bytes W x (turn 54 (keyB key) ++ bb) → Calls Tryd.prog 12 #[.agg tbl.toArray, x] W fun e W' => e = .returned (.agg (vs8 (sha (turn 54 (keyB key) ++ bb))).toArray) ∧ Bx (Below W.heap.size W W')) := Bx.mk (fun W x hx => st.sum hx (by have := st.bl; rw [List.length_append, turn_length, keyB_length]; omega))
  have HBb : Bx (∀ W, Below w2.heap.size w2 W → Bytes W vb bb) := Bx.mk (fun W hb => st.hbytes.later hb)
  have HLn : Bx ((turn 54 (keyB key)).length + bb.length ≤ 140737488355328) := Bx.mk (by have := st.bl; rw [turn_length, keyB_length]; omega)
  have HQ := Bx.mk hQ
  have hu32 := Tryd.underlying32
  have hi32 := tbl_size3 st.is
  obtain ⟨z32, hz32⟩ : ∃ z, u8s (List.replicate 32 0) = z := ⟨_, rfl⟩
  have hz32v : ∀ W : World, (zeroValue 26).run Tryd.prog W = .ok (.agg z32) W := fun W => by rw [← hz32, zero32]; kernel_rfl
  have HZ : Bx (z32.size = 32) := Bx.mk (by rw [← hz32, u8s_size]; rfl)
  have HSL : Bx ((vs8 (sha (turn 54 (keyB key) ++ bb))).toArray.size = 32) := Bx.mk (by rw [← u8s_vs, u8s_size, sha_length])
  have HI : Bx ((Tryd.prog.info? 26).map (·.size) = some (vs8 (sha (turn 54 (keyB key) ++ bb))).toArray.size) := Bx.mk (by rw [HSL.out]; kernel_rfl)
  have HB0 : Bx (Below w2.heap.size w2 w2.drew) := Bx.mk (Below.refl _ _).drew
  obtain ⟨x, rfl, hx⟩ := open22 h.fr
  have e1 := (hx 1).symm.trans h.s1
  have e2 := (hx 2).symm.trans h.s2
  have e3 := (hx 3).symm.trans h.s3
  have e6 := (hx 6).symm.trans h.s6
  obtain ⟨ak, ck, hvk, -, -⟩ := bytes_form st.hkey
  obtain ⟨ab, cb, hvb, -, -⟩ := bytes_form st.hbytes
  obtain ⟨nk, hnk⟩ : ∃ n, key.length = n := ⟨_, rfl⟩
  obtain ⟨nb, hnb⟩ : ∃ n, bb.length = n := ⟨_, rfl⟩
  rw [hnk] at hvk
  rw [hnb] at hvb
  clear hnk hnb
  subst hvk
  subst hvb
  clear h hx hQ st hz32
  rw [e1, e2, e3, e6]
  clear e1 e2 e3 e6
  have HMO := Bx.mk (one_vs (sha (turn 54 (keyB key) ++ bb)))
  have HUV : Bx ((vs8 (sha (turn 54 (keyB key) ++ bb))).toArray = u8s (sha (turn 54 (keyB key) ++ bb))) := Bx.mk rfl
  generalize vs8 (sha (turn 54 (keyB key) ++ bb)) = o1 at *
  generalize turn 54 (keyB key) = t54 at *
  conv => arg 2; whnf
  refine wp_region_noPanic ?_
  refine wp_region_held_drew (S := fun W => W.rangeAt T 0 tbl ∧ Bx (Below w2.heap.size w2 W)) (by kernel_rfl) (HMk.out _ HB0.out) (fun hHeld => ?_)
  generalize w2.drew = W0 at *
  refine takeL 0 rfl (by kernel_rfl) (by kernel_rfl) (by kernel_rfl) (fun _ _ _ h => h) (yieldsIf_load_mid (by rfl) _ _ rfl _ _ rfl _ _ (fun w hSw => hSw.1) hu32 rfl hi32) hHeld ?_
  try simp only [Act.put, List.setIfInBounds_toArray, List.set_cons_zero, List.set_cons_succ]
  refine takeL 1 rfl (by kernel_rfl) (by kernel_rfl) (by kernel_rfl) (fun _ _ _ h => h) (yieldsIf_load_mid (by rfl) _ _ rfl _ _ rfl _ _ (fun w hSw => hSw.1) hu32 rfl hi32) hHeld ?_
  try simp only [Act.put, List.setIfInBounds_toArray, List.set_cons_zero, List.set_cons_succ]
  refine takeL 2 (v := ?_) rfl (by kernel_rfl) (by kernel_rfl) (by kernel_rfl) (fun _ _ _ h => h) (Or.inl ⟨by rfl, ?_⟩) hHeld ?_
  rotate_left 1
  · (intro w hSw; go_simp; try with_reducible rfl)
  try simp only [Act.put, List.setIfInBounds_toArray, List.set_cons_zero, List.set_cons_succ]
  refine takeL 4 (v := ?_) rfl (by kernel_rfl) (by kernel_rfl) (by kernel_rfl) (fun _ _ _ h => h) (Or.inl ⟨by rfl, ?_⟩) hHeld ?_
  rotate_left 1
  · (intro w hSw; go_simp; try with_reducible rfl)
  try simp only [Act.put, List.setIfInBounds_toArray, List.set_cons_zero, List.set_cons_succ]
  refine wpAnyH_ready (rs := [3, 7]) (by kernel_rfl) (by simp) ?_
  refine consL 3 rfl (fun K hK => ?_) (consL 7 rfl (fun K hK => ?_) AllReadyH.nil)
  · go_simp
    refine (HFil.out _ HB0.out).mono ?_
    rintro e W4 ⟨M, rfl, h3⟩
    show K _ _
    refine hK.out _ _ (HMk.out _ (HB0.out.trans (h3.out.2.mono HB0.out.size))) (fun hHeld => ?_)
    clear hK K
    try simp only [Act.put, List.setIfInBounds_toArray, List.set_cons_zero, List.set_cons_succ]
    have b4 := Bx.mk (HB0.out.trans (h3.out.2.mono HB0.out.size))
    have hOw := Bx.mk h3.out.1
    refine wpAnyH_ready (rs := [5, 7]) (by kernel_rfl) (by simp) ?_
    refine consL 5 rfl (fun K hK => ?_) (consL 7 rfl (fun K hK => ?_) AllReadyH.nil)
    · refine step_ap rfl _ _ rfl w2.heap.size _ t54 (by rfl) hOw.out _ bb (by rfl) (HBb.out _ b4.out) HLn.out b4.out.size ?_
      intro v5 W5 ho5 hg5 _
      have b5 : Bx (Below w2.heap.size w2 W5) := Bx.mk (b4.out.trans (own_below hOw.out hg5 b4.out.size))
      have hOw := Bx.mk ho5
      refine hK.out _ _ (HMk.out _ b5.out) (fun hHeld => ?_)
      clear hK K
      try simp only [Act.put, List.setIfInBounds_toArray, List.set_cons_zero, List.set_cons_succ]
      clear ho5 hg5
      refine wpAnyH_ready (rs := [6, 7]) (by kernel_rfl) (by simp) ?_
      refine consL 6 rfl (fun K hK => ?_) (consL 7 rfl (fun K hK => ?_) AllReadyH.nil)
      · go_simp
        refine (HSum.out _ _ hOw.out.bytes).mono ?_
        rintro e W6 ⟨rfl, h6⟩
        show K _ _
        refine hK.out _ _ (HMk.out _ (b5.out.trans (h6.out.mono b5.out.size))) (fun hHeld => ?_)
        clear hK K
        try simp only [Act.put, List.setIfInBounds_toArray, List.set_cons_zero, List.set_cons_succ]
        have b6 := Bx.mk (b5.out.trans (h6.out.mono b5.out.size))
        refine stepL 7 (by kernel_rfl) rfl (fun K hK => ?_)
        go_simp
        refine hK.out _ _ (HMk.out _ (b6.out.trans ((below_a _).mono b6.out.size))) (fun hHeld => ?_)
        clear hK K
        try simp only [Act.put, List.setIfInBounds_toArray, List.set_cons_zero, List.set_cons_succ]
        have b7 : Bx (Below w2.heap.size w2 (W6.alloc (.cells z32 26))) := Bx.mk (b6.out.trans ((below_a _).mono b6.out.size))
        have hD : Bx ((W6.alloc (.cells z32 26)).heap[W6.heap.size]? = some (.cells z32 26 (0, 0)) ∧ w2.heap.size ≤ W6.heap.size) := Bx.mk ⟨hnew _ _ _ rfl, b6.out.size⟩
        generalize W6.alloc (.cells z32 26) = W7 at *
        generalize W6.heap.size = D at *
        refine stepL 8 (by kernel_rfl) rfl (fun K hK => ?_)
        have hS8 := Bx.mk (heap_setCells_all hD.out.1 (HSL.out.trans HZ.out.symm))
        have hB8 := Bx.mk (below_setCells hD.out.2 o1 0 _ _ b7.out)
        refine step_st rfl 26 _ _ rfl D o1.toArray (by rfl) (by rfl) (there_row hD.out.1 0 _ (by rw [HSL.out, HZ.out]; omega)) HI.out HMO.out ?_
        refine hK.out _ _ (HMk.out _ hB8.out) (fun hHeld => ?_)
        refine wpAnyH_done (by kernel_rfl) ?_ _
        exact NoPanic.normal (HQ.out _ _ D ⟨⟨rfl, rfl⟩, rfl, rfl, rfl, rfl⟩ rfl hB8.out (by rw [← HUV.out]; exact hS8.out))
      · go_simp
        refine hK.out _ _ (HMk.out _ (b5.out.trans ((below_a _).mono b5.out.size))) (fun hHeld => ?_)
        clear hK K
        try simp only [Act.put, List.setIfInBounds_toArray, List.set_cons_zero, List.set_cons_succ]
        have b6 : Bx (Below w2.heap.size w2 (W5.alloc (.cells z32 26))) := Bx.mk (b5.out.trans ((below_a _).mono b5.out.size))
        have hD : Bx ((W5.alloc (.cells z32 26)).heap[W5.heap.size]? = some (.cells z32 26 (0, 0)) ∧ w2.heap.size ≤ W5.heap.size) := Bx.mk ⟨hnew _ _ _ rfl, b5.out.size⟩
        have hOw := Bx.mk (hOw.out.later (below_a (.cells z32 26)) (fun g hg => (hOw.out.lt g hg).1))
        generalize W5.alloc (.cells z32 26) = W6 at *
        generalize W5.heap.size = D at *
        refine stepL 6 (by kernel_rfl) rfl (fun K hK => ?_)
        go_simp
        refine (HSum.out _ _ hOw.out.bytes).mono ?_
        rintro e W7 ⟨rfl, h6⟩
        show K _ _
        refine hK.out _ _ (HMk.out _ (b6.out.trans (h6.out.mono b6.out.size))) (fun hHeld => ?_)
        clear hK K
        try simp only [Act.put, List.setIfInBounds_toArray, List.set_cons_zero, List.set_cons_succ]
        have b7 := Bx.mk (b6.out.trans (h6.out.mono b6.out.size))
        have hD := Bx.mk (And.intro ((h6.out.block _ (Array.getElem?_eq_some_iff.1 hD.out.1).1).trans hD.out.1) hD.out.2)
        refine stepL 8 (by kernel_rfl) rfl (fun K hK => ?_)
        have hS8 := Bx.mk (heap_setCells_all hD.out.1 (HSL.out.trans HZ.out.symm))
        have hB8 := Bx.mk (below_setCells hD.out.2 o1 0 _ _ b7.out)
        refine step_st rfl 26 _ _ rfl D o1.toArray (by rfl) (by rfl) (there_row hD.out.1 0 _ (by rw [HSL.out, HZ.out]; omega)) HI.out HMO.out ?_
        refine hK.out _ _ (HMk.out _ hB8.out) (fun hHeld => ?_)
        refine wpAnyH_done (by kernel_rfl) ?_ _
        exact NoPanic.normal (HQ.out _ _ D ⟨⟨rfl, rfl⟩, rfl, rfl, rfl, rfl⟩ rfl hB8.out (by rw [← HUV.out]; exact hS8.out))
    · go_simp
      refine hK.out _ _ (HMk.out _ (b4.out.trans ((below_a _).mono b4.out.size))) (fun hHeld => ?_)
      clear hK K
      try simp only [Act.put, List.setIfInBounds_toArray, List.set_cons_zero, List.set_cons_succ]
      have b5 : Bx (Below w2.heap.size w2 (W4.alloc (.cells z32 26))) := Bx.mk (b4.out.trans ((below_a _).mono b4.out.size))
      have hD : Bx ((W4.alloc (.cells z32 26)).heap[W4.heap.size]? = some (.cells z32 26 (0, 0)) ∧ w2.heap.size ≤ W4.heap.size) := Bx.mk ⟨hnew _ _ _ rfl, b4.out.size⟩
      have hOw := Bx.mk (hOw.out.later (below_a (.cells z32 26)) (fun g hg => (hOw.out.lt g hg).1))
      generalize W4.alloc (.cells z32 26) = W5 at *
      generalize W4.heap.size = D at *
      refine stepL 5 (by kernel_rfl) rfl (fun K hK => ?_)
      refine step_ap rfl _ _ rfl w2.heap.size _ t54 (by rfl) hOw.out _ bb (by rfl) (HBb.out _ b5.out) HLn.out b5.out.size ?_
      intro v5 W6 ho5 hg5 _
      have b6 : Bx (Below w2.heap.size w2 W6) := Bx.mk (b5.out.trans (own_below hOw.out hg5 b5.out.size))
      have hD := Bx.mk (And.intro ((hg5.block _ (Array.getElem?_eq_some_iff.1 hD.out.1).1 (own_arr hOw.out hD.out.1)).trans hD.out.1) hD.out.2)
      have hOw := Bx.mk ho5
      refine hK.out _ _ (HMk.out _ b6.out) (fun hHeld => ?_)
      clear hK K
      try simp only [Act.put, List.setIfInBounds_toArray, List.set_cons_zero, List.set_cons_succ]
      clear ho5 hg5
      refine stepL 6 (by kernel_rfl) rfl (fun K hK => ?_)
      go_simp
      refine (HSum.out _ _ hOw.out.bytes).mono ?_
      rintro e W7 ⟨rfl, h6⟩
      show K _ _
      refine hK.out _ _ (HMk.out _ (b6.out.trans (h6.out.mono b6.out.size))) (fun hHeld => ?_)
      clear hK K
      try simp only [Act.put, List.setIfInBounds_toArray, List.set_cons_zero, List.set_cons_succ]
      have b7 := Bx.mk (b6.out.trans (h6.out.mono b6.out.size))
      have hD := Bx.mk (And.intro ((h6.out.block _ (Array.getElem?_eq_some_iff.1 hD.out.1).1).trans hD.out.1) hD.out.2)
      refine stepL 8 (by kernel_rfl) rfl (fun K hK => ?_)
      have hS8 := Bx.mk (heap_setCells_all hD.out.1 (HSL.out.trans HZ.out.symm))
      have hB8 := Bx.mk (below_setCells hD.out.2 o1 0 _ _ b7.out)
      refine step_st rfl 26 _ _ rfl D o1.toArray (by rfl) (by rfl) (there_row hD.out.1 0 _ (by rw [HSL.out, HZ.out]; omega)) HI.out HMO.out ?_
      refine hK.out _ _ (HMk.out _ hB8.out) (fun hHeld => ?_)
      refine wpAnyH_done (by kernel_rfl) ?_ _
      exact NoPanic.normal (HQ.out _ _ D ⟨⟨rfl, rfl⟩, rfl, rfl, rfl, rfl⟩ rfl hB8.out (by rw [← HUV.out]; exact hS8.out))
  · go_simp
    refine hK.out _ _ (HMk.out _ (HB0.out.trans ((below_a _).mono HB0.out.size))) (fun hHeld => ?_)
    clear hK K
    try simp only [Act.put, List.setIfInBounds_toArray, List.set_cons_zero, List.set_cons_succ]
    have b4 : Bx (Below w2.heap.size w2 (W0.alloc (.cells z32 26))) := Bx.mk (HB0.out.trans ((below_a _).mono HB0.out.size))
    have hD : Bx ((W0.alloc (.cells z32 26)).heap[W0.heap.size]? = some (.cells z32 26 (0, 0)) ∧ w2.heap.size ≤ W0.heap.size) := Bx.mk ⟨hnew _ _ _ rfl, HB0.out.size⟩
    generalize W0.alloc (.cells z32 26) = W4 at *
    generalize W0.heap.size = D at *
    refine stepL 3 (by kernel_rfl) rfl (fun K hK => ?_)
    go_simp
    refine (HFil.out _ b4.out).mono ?_
    rintro e W5 ⟨M, rfl, h3⟩
    show K _ _
    refine hK.out _ _ (HMk.out _ (b4.out.trans (h3.out.2.mono b4.out.size))) (fun hHeld => ?_)
    clear hK K
    try simp only [Act.put, List.setIfInBounds_toArray, List.set_cons_zero, List.set_cons_succ]
    have b5 := Bx.mk (b4.out.trans (h3.out.2.mono b4.out.size))
    have hOw := Bx.mk h3.out.1
    have hD := Bx.mk (And.intro ((h3.out.2.block _ (Array.getElem?_eq_some_iff.1 hD.out.1).1).trans hD.out.1) hD.out.2)
    refine stepL 5 (by kernel_rfl) rfl (fun K hK => ?_)
    refine step_ap rfl _ _ rfl w2.heap.size _ t54 (by rfl) hOw.out _ bb (by rfl) (HBb.out _ b5.out) HLn.out b5.out.size ?_
    intro v5 W6 ho5 hg5 _
    have b6 : Bx (Below w2.heap.size w2 W6) := Bx.mk (b5.out.trans (own_below hOw.out hg5 b5.out.size))
    have hD := Bx.mk (And.intro ((hg5.block _ (Array.getElem?_eq_some_iff.1 hD.out.1).1 (own_arr hOw.out hD.out.1)).trans hD.out.1) hD.out.2)
    have hOw := Bx.mk ho5
    refine hK.out _ _ (HMk.out _ b6.out) (fun hHeld => ?_)
    clear hK K
    try simp only [Act.put, List.setIfInBounds_toArray, List.set_cons_zero, List.set_cons_succ]
    clear ho5 hg5
    refine stepL 6 (by kernel_rfl) rfl (fun K hK => ?_)
    go_simp
    refine (HSum.out _ _ hOw.out.bytes).mono ?_
    rintro e W7 ⟨rfl, h6⟩
    show K _ _
    refine hK.out _ _ (HMk.out _ (b6.out.trans (h6.out.mono b6.out.size))) (fun hHeld => ?_)
    clear hK K
    try simp only [Act.put, List.setIfInBounds_toArray, List.set_cons_zero, List.set_cons_succ]
    have b7 := Bx.mk (b6.out.trans (h6.out.mono b6.out.size))
    have hD := Bx.mk (And.intro ((h6.out.block _ (Array.getElem?_eq_some_iff.1 hD.out.1).1).trans hD.out.1) hD.out.2)
    refine stepL 8 (by kernel_rfl) rfl (fun K hK => ?_)
    have hS8 := Bx.mk (heap_setCells_all hD.out.1 (HSL.out.trans HZ.out.symm))
    have hB8 := Bx.mk (below_setCells hD.out.2 o1 0 _ _ b7.out)
    refine step_st rfl 26 _ _ rfl D o1.toArray (by rfl) (by rfl) (there_row hD.out.1 0 _ (by rw [HSL.out, HZ.out]; omega)) HI.out HMO.out ?_
    refine hK.out _ _ (HMk.out _ hB8.out) (fun hHeld => ?_)
    refine wpAnyH_done (by kernel_rfl) ?_ _
    exact NoPanic.normal (HQ.out _ _ D ⟨⟨rfl, rfl⟩, rfl, rfl, rfl, rfl⟩ rfl hB8.out (by rw [← HUV.out]; exact hS8.out))
set_option maxRecDepth 100000 in
set_option maxHeartbeats 2000000 in
theorem rtag_any (tbl : List Value) (htb : u32s (kTab ++ hTab) = tbl.toArray) (key bb : List UInt8) (vk vb : Value) (w : World) (hk : Bytes w vk key) (hb : Bytes w vb bb) (hkl : key.length ≤ 1000000) (hbl : bb.length ≤ 1000000) :
    Calls Tryd.prog 26 #[.agg tbl.toArray, vk, vb] w fun e w' => e = .returned (.agg (u8s (hmac key bb))) ∧ Below w.heap.size w w' := by
  obtain ⟨z32, hz32⟩ : ∃ z, u8s (List.replicate 32 0) = z := ⟨_, rfl⟩
  have hz32v : ∀ W : World, (zeroValue 26).run Tryd.prog W = .ok (.agg z32) W := fun W => by rw [← hz32, zero32]; kernel_rfl
  have HST : Bx (TS ((w.alloc (.cells tbl.toArray 32)).alloc (.cells z32 26)) w.heap.size (w.heap.size + 1) tbl vk vb key bb ∧ Below w.heap.size w ((w.alloc (.cells tbl.toArray 32)).alloc (.cells z32 26))) := Bx.mk (by
    have hB : Below w.heap.size w ((w.alloc (.cells tbl.toArray 32)).alloc (.cells z32 26)) := ((Below.refl _ _).alloc (Nat.le_refl _) _).alloc (by simp) _
    exact ⟨⟨by rw [hold _ _ _ (by simp), hnew _ _ _ rfl], by rw [hnew _ _ _ (by simp), hz32], by omega, hk.later hB, hb.later hB, hkl, hbl, htb⟩, hB⟩)
  obtain ⟨hm, hhm⟩ : ∃ hm, hmac key bb = hm := ⟨_, rfl⟩
  have HHM : Bx (sha (turn 92 (keyB key) ++ sha (turn 54 (keyB key) ++ bb)) = hm) := Bx.mk hhm
  rw [hhm]
  have HKL : Bx (key.length ≤ 1000000) := Bx.mk hkl
  obtain ⟨ak, ck, hvk, -, -⟩ := bytes_form hk
  obtain ⟨ab, cb, hvb, -, -⟩ := bytes_form hb
  obtain ⟨nk, hnk⟩ : ∃ n, key.length = n := ⟨_, rfl⟩
  obtain ⟨nb, hnb⟩ : ∃ n, bb.length = n := ⟨_, rfl⟩
  rw [hnk] at hvk
  rw [hnb] at hvb
  clear hnk hnb hk hb hkl hbl htb hz32 hhm
  subst hvk
  subst hvb
  go_enter Tryd.func26, Tryd.ntmps26
  go_upto_region 1 with (fail)
  generalize (w.alloc (.cells tbl.toArray 32)).alloc (.cells z32 26) = w2 at *
  refine reg1T w2 w.heap.size (w.heap.size + 1) tbl _ _ key bb HST.out.1 _ _ ⟨⟨rfl, rfl⟩, rfl, rfl, rfl, rfl⟩ ?_
  intro a' W1 D hIT h7 hB1 hr1
  have H1 : Bx (Below w2.heap.size w2 W1 ∧ W1.heap[D]? = some (.cells (u8s (sha (turn 54 (keyB key) ++ bb))) 26 (0, 0))) := Bx.mk ⟨hB1, hr1⟩
  clear hB1 hr1 hz32v
  have HIL : Bx ((sha (turn 54 (keyB key) ++ bb)).length = 32) := Bx.mk (sha_length _)
  generalize sha (turn 54 (keyB key) ++ bb) = inn at *
  obtain ⟨x, rfl, hx⟩ := open22 hIT.fr
  have e1 := (hx 1).symm.trans hIT.s1
  have e2 := (hx 2).symm.trans hIT.s2
  have e3 := (hx 3).symm.trans hIT.s3
  have e6 := (hx 6).symm.trans hIT.s6
  have e7 := (hx 7).symm.trans h7
  clear hIT hx h7
  rw [e1, e2, e3, e6, e7]
  clear e1 e2 e3 e6 e7
  go_upto_region 2 with (fail)
  have HMk : Bx (∀ W, Below w2.heap.size w2 W → W.rangeAt w.heap.size 0 tbl ∧ Bx (Below w.heap.size w W)) := Bx.mk (fun W hb => ⟨HST.out.1.rng hb, ⟨HST.out.2.trans (hb.mono HST.out.2.size)⟩⟩)
  have HFil : Bx (∀ W, Below w2.heap.size w2 W → Calls Tryd.prog 45 #[.agg tbl.toArray, .slice ak nk ck, .int .u8 92] W (FilQ w2 (turn 92 (keyB key)) W)) := Bx.mk (fun W hb => HST.out.1.fil 92 hb)
  have HTL : Bx ((turn 92 (keyB key)).length = 64) := Bx.mk (by rw [turn_length, keyB_length])
  have HSum : Bx (∀ W x, Bytes W x (turn 92 (keyB key) ++ inn) → Calls Tryd.prog 12 #[.agg tbl.toArray, x] W fun e W' => e = .returned (.agg (vs8 (sha (turn 92 (keyB key) ++ inn))).toArray) ∧ Bx (Below W.heap.size W W')) := Bx.mk (fun W x hx => HST.out.1.sum hx (by rw [List.length_append, HTL.out, HIL.out]; omega))
  have hu32 := Tryd.underlying32
  have hi32 := tbl_size3 HST.out.1.is
  have HB0 : Bx (Below w2.heap.size w2 W1.drew ∧ W1.drew.heap[D]? = some (.cells (u8s inn) 26 (0, 0))) := Bx.mk ⟨H1.out.1.drew, H1.out.2⟩
  clear H1
  have HRS : Bx (∀ W, Below w2.heap.size w2 W → W.heap[w.heap.size + 1]? = some (.cells (u8s (List.replicate 32 0)) 26 (0, 0))) := Bx.mk (fun W hb => by rw [hb.block _ (Array.getElem?_eq_some_iff.1 HST.out.1.res).1]; exact HST.out.1.res)
  generalize turn 92 (keyB key) = t92 at *
  refine wp_region_noPanic ?_
  refine wp_region_held_drew (S := fun W => W.rangeAt w.heap.size 0 tbl ∧ Bx (Below w.heap.size w W)) (by kernel_rfl) (HMk.out _ HB0.out.1) (fun hHeld => ?_)
  generalize W1.drew = W0 at *
  refine takeL 0 rfl (by kernel_rfl) (by kernel_rfl) (by kernel_rfl) (fun _ _ _ h => h) (yieldsIf_load_mid (by rfl) _ _ rfl _ _ rfl _ _ (fun w hSw => hSw.1) hu32 rfl hi32) hHeld ?_
  try simp only [Act.put, List.setIfInBounds_toArray, List.set_cons_zero, List.set_cons_succ]
  refine takeL 1 rfl (by kernel_rfl) (by kernel_rfl) (by kernel_rfl) (fun _ _ _ h => h) (yieldsIf_load_mid (by rfl) _ _ rfl _ _ rfl _ _ (fun w hSw => hSw.1) hu32 rfl hi32) hHeld ?_
  try simp only [Act.put, List.setIfInBounds_toArray, List.set_cons_zero, List.set_cons_succ]
  refine takeL 2 (v := ?_) rfl (by kernel_rfl) (by kernel_rfl) (by kernel_rfl) (fun _ _ _ h => h) (Or.inl ⟨by rfl, ?_⟩) hHeld ?_
  rotate_left 1
  · (intro w hSw; go_simp; try with_reducible rfl)
  try simp only [Act.put, List.setIfInBounds_toArray, List.set_cons_zero, List.set_cons_succ]
  refine takeL 4 (v := ?_) rfl (by kernel_rfl) (by kernel_rfl) (by kernel_rfl) (fun _ _ _ h => h) (Or.inl ⟨by rfl, ?_⟩) hHeld ?_
  rotate_left 1
  · (intro w hSw; go_simp; try with_reducible rfl)
  try simp only [Act.put, List.setIfInBounds_toArray, List.set_cons_zero, List.set_cons_succ]
  refine stepL 3 (by kernel_rfl) rfl (fun K hK => ?_)
  go_simp
  refine (HFil.out _ HB0.out.1).mono ?_
  rintro e W3 ⟨M, rfl, h3⟩
  show K _ _
  refine hK.out _ _ (HMk.out _ (HB0.out.1.trans (h3.out.2.mono HB0.out.1.size))) (fun hHeld => ?_)
  clear hK K
  try simp only [Act.put, List.setIfInBounds_toArray, List.set_cons_zero, List.set_cons_succ]
  have H3 : Bx (Below w2.heap.size w2 W3 ∧ Bytes W3 (.slice (some ⟨D, 0, none⟩) 32 32) inn ∧ OwnB W3 w2.heap.size (.slice (some ⟨M, 0, none⟩) 64 64) t92) := Bx.mk ⟨HB0.out.1.trans (h3.out.2.mono HB0.out.1.size), (row_bytes HB0.out.2 HIL.out).later h3.out.2, h3.out.1⟩
  clear h3
  refine stepL 5 (by kernel_rfl) rfl (fun K hK => ?_)
  refine step_ap rfl _ _ rfl w2.heap.size _ t92 (by rfl) H3.out.2.2 _ inn (by rfl) H3.out.2.1 (by rw [HTL.out, HIL.out]; omega) H3.out.1.size ?_
  intro v5 W5 ho5 hg5 _
  have H5 : Bx (Below w2.heap.size w2 W5 ∧ Bytes W5 v5 (t92 ++ inn)) := Bx.mk ⟨H3.out.1.trans (own_below H3.out.2.2 hg5 H3.out.1.size), ho5.bytes⟩
  refine hK.out _ _ (HMk.out _ H5.out.1) (fun hHeld => ?_)
  clear hK K
  try simp only [Act.put, List.setIfInBounds_toArray, List.set_cons_zero, List.set_cons_succ]
  clear ho5 hg5 H3
  refine stepL 6 (by kernel_rfl) rfl (fun K hK => ?_)
  go_simp
  refine (HSum.out _ _ H5.out.2).mono ?_
  rintro e W6 ⟨rfl, h6⟩
  show K _ _
  refine hK.out _ _ (HMk.out _ (H5.out.1.trans (h6.out.mono H5.out.1.size))) (fun hHeld => ?_)
  clear hK K
  try simp only [Act.put, List.setIfInBounds_toArray, List.set_cons_zero, List.set_cons_succ]
  have H6 : Bx (Below w2.heap.size w2 W6) := Bx.mk (H5.out.1.trans (h6.out.mono H5.out.1.size))
  have HUV : Bx ((vs8 (sha (t92 ++ inn))).toArray = u8s hm) := Bx.mk (by rw [HHM.out]; rfl)
  have HML : Bx (hm.length = 32) := Bx.mk (by rw [← HHM.out, sha_length])
  clear H5 h6
  rw [HUV.out]
  have HI3 : Bx ((Tryd.prog.info? 26).map (·.size) = some (u8s hm).size) := Bx.mk (by rw [u8s_size, HML.out]; kernel_rfl)
  have HR6 := Bx.mk (HRS.out _ H6.out)
  have Hw : Bx (w.heap.size + 1 < w2.heap.size ∧ w.heap.size ≠ w.heap.size + 1) := Bx.mk ⟨(Array.getElem?_eq_some_iff.1 HST.out.1.res).1, by omega⟩
  have Hd : Bx (Below w.heap.size w (W6.setCells (w.heap.size + 1) 0 (u8s hm).toList) ∧ (W6.setCells (w.heap.size + 1) 0 (u8s hm).toList).heap[w.heap.size + 1]? = some (.cells (u8s hm) 26 (0, 0))) := Bx.mk ⟨below_setCells (by omega) _ _ _ _ (HST.out.2.trans (H6.out.mono HST.out.2.size)), heap_setCells_all HR6.out (by rw [u8s_size, u8s_size, HML.out]; rfl)⟩
  have Hr : Bx ((W6.setCells (w.heap.size + 1) 0 (u8s hm).toList).rangeAt w.heap.size 0 tbl) := Bx.mk (fun j v hv => by
    have hx := (HMk.out _ H6.out).1 j v hv
    rw [← hx]
    show World.cell? _ _ = _
    unfold World.cell?
    rw [heap_setCells_other (w.heap.size + 1) w.heap.size (by omega)])
  refine stepL 7 (by kernel_rfl) rfl (fun K hK => ?_)
  refine step_st rfl 26 _ _ rfl (w.heap.size + 1) (u8s hm) (by rfl) (by rfl) (there_row HR6.out 0 _ (by rw [u8s_size, u8s_size, HML.out]; simp)) HI3.out (one_u8s _) ?_
  refine hK.out _ _ ⟨Hr.out, ⟨Hd.out.1⟩⟩ (fun hHeld => ?_)
  refine wpAnyH_done (by kernel_rfl) ?_ _
  refine NoPanic.normal ?_
  clear hK K hHeld
  go_wp2
  refine bodyPost_ret (results_cell_row rfl _ _ (w.heap.size + 1) _ (u8s hm) _ _ rfl Hd.out.2 Tryd.underlying26 rfl HI3.out) rfl ?_
  exact ⟨rfl, Hd.out.1⟩
end Go.Proofs.YtkfgpnigeknhmaaDoor
