/-
  The walk of the statement on running digests: what stands behind the loop.
-/
import Derived.Test.YtkfgpnigeknhmaaDoorRv
namespace Go.Proofs.YtkfgpnigeknhmaaDoor
open Go Go.RowKit
theorem nil_bytes (W : World) : Bytes W (.slice none 0 0) [] := ⟨none, 0, rfl, Nat.le_refl _, fun _ => rfl, fun h => by simp at h⟩
/-- An operation of a statement that draws its order: append, where its guard is decided. -/
theorem step_apw {w : World} {ops : Array Oper} {o : Oper} {a : Act} {K : Act → World → Prop} {Q : Exit → Act → World → Prop} {E : Prop} (hw : Region.wanted o (yielded ops a.tmps) = true) (s x : Operand)
    (ho : o.op = .call { callee := .builtin .append, args := #[s, x], argTypes := #[23, 23] }) (base : Nat) (v : Value) (l : List UInt8) (hs : a.eval s = v) (hown : OwnB w base v l) (xv : Value) (ps : List UInt8) (hx : a.eval x = xv) (hb : Bytes w xv ps)
    (hn : l.length + ps.length ≤ 140737488355328) (hbase : base ≤ w.heap.size)
    (h : ∀ v' w', OwnB w' base v' (l ++ ps) → w.grownBy w' v.ownBlock → K (a.put o.dst v') w') :
    if Region.wanted o (yielded ops a.tmps) = true then Oper.wp Tryd.prog o a w K Q else E := by
  rw [if_pos hw]
  obtain ⟨v', w', hrun, h1, h2, h3⟩ := run_ap w base v l hown xv ps hb hn hbase o.type
  unfold Oper.wp
  simp [execOp, ho, resolve, invoke, builtin, hs, hx, hrun, Result.andThen]
  exact h v' w' h1 h2
theorem Dy.laterB {w3 W W1 : World} {bs : List UInt8} {c : Option (Nat × List UInt8)} {B : Nat} (h : Dy w3 bs c W) (hb : Below B W W1) (h1 : w3.heap.size < B) (h2 : ∀ p, c = some p → p.1 < B) : Dy w3 bs c W1 := by
  have hk : ∀ (b : Nat) (cs : List UInt8), b < B → Took W b 42 cs W → Took W1 b 42 cs W1 := fun b cs hlt ht => by
    obtain ⟨ws, rest, q1, q2, _⟩ := ht
    exact ⟨ws, rest, by rw [hb.block _ hlt]; exact q1, q2, kb_refl _ _⟩
  exact ⟨h.below.trans (hb.mono (by omega)), hk _ _ h1 h.took, fun p hp => ⟨(h.cp p hp).1, hk _ _ (h2 p hp) (h.cp p hp).2⟩⟩
theorem PartsAt.below {w w1 : World} {b : Nat} {v : Value} {pss : List (List UInt8)} (h : PartsAt w b v pss) (hb : Below w.heap.size w w1) : PartsAt w1 b v pss := h.later (kb_below (some b) hb)
/-- What the function hands back. -/
def Yes (w0 : World) (Q : Exit → Act → World → Prop) : Prop := ∀ a W, Fr 125 a → a.eval (.tmp 4) = .bool true → Below w0.heap.size w0 W → Q .normal a W
/-- The slots that matter behind the loop. -/
structure IL (w3 : World) (Tb : Nat) (A6 : Option Addr) (N6 C6 : Nat) (vc : Value) (k0 : Nat) (a : Act) : Prop where
  fr : Fr 125 a
  s6 : a.eval (.tmp 6) = .slice A6 N6 C6
  s7 : a.eval (.tmp 7) = .pointer (some ⟨Tb, 0, none⟩)
  s8 : a.eval (.tmp 8) = .pointer (some ⟨w3.heap.size, 0, none⟩)
  s9 : a.eval (.tmp 9) = vc
  s11 : a.eval (.tmp 11) = .int .i64 (k0 : Int)
set_option maxRecDepth 100000 in
set_option maxHeartbeats 2000000 in
theorem reg15 (w3 : World) (Tb : Nat) (tbl : List Value) (A5 A6 : Option Addr) (N5 C5 N6 C6 : Nat) (qs : List (List UInt8)) (st : Stt w3 Tb tbl (.slice A5 N5 C5) (.slice A6 N6 C6) qs) (Q : Exit → Act → World → Prop) (bs : List UInt8) (c : Option (Nat × List UInt8)) (vc : Value) (k0 : Nat)
    (a : Act) (wr : World) (h : IL w3 Tb A6 N6 C6 vc k0 a) (h13 : a.eval (.tmp 13) = .pointer none) (hd : Dy w3 bs c wr)
    (hQ : ∀ a' W', IL w3 Tb A6 N6 C6 vc k0 a' → a'.eval (.tmp 80) = .bool false → Dy w3 bs c W' → Q .normal a' W') :
    Code.wp Tryd.prog (regionAt Tryd.f4.body 15) Q a wr := by
  have HMk : Bx (∀ W, Below w3.heap.size w3 W → W.rangeAt Tb 0 tbl ∧ Bx (Below w3.heap.size w3 W)) := Bx.mk (fun W hb => ⟨st.rng hb, ⟨hb⟩⟩)
  have HSum : Bx (∀ W, Dy w3 bs c W → Calls Tryd.prog 17 #[.pointer none] W fun e W' => e = .returned (.agg (vs8 (sha [])).toArray) ∧ Bx (Dy w3 bs c W')) := Bx.mk (fun W hd => by
    rw [← u8s_vs]
    exact (sum_nil W (st.tab.later hd.below st.g) (Nat.lt_of_lt_of_le st.g hd.below.size)).mono fun _ _ ⟨he, hb⟩ => ⟨he, ⟨hd.later hb⟩⟩)
  have HRef : Bx (∀ W, Dy w3 bs c W → Calls Tryd.prog 12 #[.agg tbl.toArray, .slice none 0 0] W fun e W' => e = .returned (.agg (vs8 (sha [])).toArray) ∧ Bx (Dy w3 bs c W')) := Bx.mk (fun W hd =>
    (st.ref hd.below (nil_bytes W) (by simp)).mono fun _ _ ⟨he, hb⟩ => ⟨he, ⟨hd.later hb⟩⟩)
  have HD0 : Bx (Dy w3 bs c wr.drew) := Bx.mk (hd.later (Below.refl _ _).drew)
  have HQ := Bx.mk hQ
  have eq1 := eqv (sha []) (sha_length _)
  have hg26 : Tryd.prog.eqGuardType Tryd.prog.depth 26 = false := by kernel_rfl
  have hu32 := Tryd.underlying32
  have hi32 := tbl_size st.is
  obtain ⟨x, rfl, hx⟩ := open125 h.fr
  have e6 := (hx 6).symm.trans h.s6
  have e7 := (hx 7).symm.trans h.s7
  have e8 := (hx 8).symm.trans h.s8
  have e9 := (hx 9).symm.trans h.s9
  have e11 := (hx 11).symm.trans h.s11
  have e13 := (hx 13).symm.trans h13
  clear h hx h13 hd hQ st
  rw [e6, e7, e8, e9, e11, e13]
  clear e6 e7 e8 e9 e11 e13
  generalize vs8 (sha []) = out at *
  conv => arg 2; whnf
  refine wp_region_noPanic ?_
  refine wp_region_held_drew (S := fun W => W.rangeAt Tb 0 tbl ∧ Bx (Below w3.heap.size w3 W)) (by kernel_rfl) (HMk.out _ HD0.out.below) (fun hHeld => ?_)
  refine takeL 0 (v := ?_) rfl (by kernel_rfl) (by kernel_rfl) (by kernel_rfl) (fun _ _ _ h => h) (Or.inl ⟨by rfl, ?_⟩) hHeld ?_
  rotate_left 1
  · (intro w hSw; go_simp; try with_reducible rfl)
  try simp only [Act.put, List.setIfInBounds_toArray, List.set_cons_zero, List.set_cons_succ]
  refine takeL 1 (v := ?_) rfl (by kernel_rfl) (by kernel_rfl) (by kernel_rfl) (fun _ _ _ h => h) (Or.inl ⟨by rfl, ?_⟩) hHeld ?_
  rotate_left 1
  · (intro w hSw; go_simp; try with_reducible rfl)
  try simp only [Act.put, List.setIfInBounds_toArray, List.set_cons_zero, List.set_cons_succ]
  refine stepL 2 (by kernel_rfl) rfl (fun K hK => ?_)
  go_simp
  refine hK.out _ _ (HMk.out _ (HD0.out.later (below_a _)).below) (fun hHeld => ?_)
  clear hK K
  try simp only [Act.put, List.setIfInBounds_toArray, List.set_cons_zero, List.set_cons_succ]
  have hd1 : Bx (Dy w3 bs c (wr.drew.alloc (.cells #[.slice A6 N6 C6] 23))) := Bx.mk (HD0.out.later (below_a _))
  refine stepL 3 (by kernel_rfl) rfl (fun K hK => ?_)
  go_simp
  refine (add_nil _ _).mono ?_
  rintro e W1 ⟨rfl, rfl⟩
  show K _ _
  refine hK.out _ _ (HMk.out _ hd1.out.below) (fun hHeld => ?_)
  clear hK K
  try simp only [Act.put, List.setIfInBounds_toArray, List.set_cons_zero, List.set_cons_succ]
  refine takeL 4 (v := ?_) rfl (by kernel_rfl) (by kernel_rfl) (by kernel_rfl) (fun _ _ _ h => h) (Or.inl ⟨by rfl, ?_⟩) hHeld ?_
  rotate_left 1
  · (intro w hSw; go_simp; try with_reducible rfl)
  try simp only [Act.put, List.setIfInBounds_toArray, List.set_cons_zero, List.set_cons_succ]
  refine takeL 5 (v := ?_) rfl (by kernel_rfl) (by kernel_rfl) (by kernel_rfl) (fun _ _ _ h => h) (Or.inl ⟨by rfl, ?_⟩) hHeld ?_
  rotate_left 1
  · (intro w hSw; go_simp; try with_reducible rfl)
  try simp only [Act.put, List.setIfInBounds_toArray, List.set_cons_zero, List.set_cons_succ]
  refine takeL 6 (v := ?_) rfl (by kernel_rfl) (by kernel_rfl) (by kernel_rfl) (fun _ _ _ h => h) (Or.inl ⟨by rfl, ?_⟩) hHeld ?_
  rotate_left 1
  · (intro w hSw; go_simp; try with_reducible rfl)
  try simp only [Act.put, List.setIfInBounds_toArray, List.set_cons_zero, List.set_cons_succ]
  refine takeL 8 rfl (by kernel_rfl) (by kernel_rfl) (by kernel_rfl) (fun _ _ _ h => h) (yieldsIf_load_mid (by rfl) _ _ rfl _ _ rfl _ _ (fun w hSw => hSw.1) hu32 rfl hi32) hHeld ?_
  try simp only [Act.put, List.setIfInBounds_toArray, List.set_cons_zero, List.set_cons_succ]
  refine stepL 7 (by kernel_rfl) rfl (fun K hK => ?_)
  go_simp
  refine (HSum.out _ hd1.out).mono ?_
  rintro e W2 ⟨rfl, hd2⟩
  show K _ _
  refine hK.out _ _ (HMk.out _ hd2.out.below) (fun hHeld => ?_)
  clear hK K
  try simp only [Act.put, List.setIfInBounds_toArray, List.set_cons_zero, List.set_cons_succ]
  refine stepL 9 (by kernel_rfl) rfl (fun K hK => ?_)
  go_simp
  refine (HRef.out _ hd2.out).mono ?_
  rintro e W3 ⟨rfl, hd3⟩
  show K _ _
  refine hK.out _ _ (HMk.out _ hd3.out.below) (fun hHeld => ?_)
  clear hK K
  try simp only [Act.put, List.setIfInBounds_toArray, List.set_cons_zero, List.set_cons_succ]
  refine takeL 10 (v := ?_) rfl (by kernel_rfl) (by kernel_rfl) (by kernel_rfl) (fun _ _ _ h => h) (Or.inl ⟨by rfl, ?_⟩) hHeld ?_
  rotate_left 1
  · (intro w hSw; go_simp; try with_reducible rfl)
  try simp only [Act.put, List.setIfInBounds_toArray, List.set_cons_zero, List.set_cons_succ]
  refine takeL 11 (v := ?_) rfl (by kernel_rfl) (by kernel_rfl) (by kernel_rfl) (fun _ _ _ h => h) (Or.inl ⟨by rfl, ?_⟩) hHeld ?_
  rotate_left 1
  · (intro w hSw; go_simp; try with_reducible rfl)
  try simp only [Act.put, List.setIfInBounds_toArray, List.set_cons_zero, List.set_cons_succ]
  refine takeL 12 (v := ?_) rfl (by kernel_rfl) (by kernel_rfl) (by kernel_rfl) (fun _ _ _ h => h) (Or.inl ⟨by rfl, ?_⟩) hHeld ?_
  rotate_left 1
  · (intro w hSw; go_simp; try with_reducible rfl)
  try simp only [Act.put, List.setIfInBounds_toArray, List.set_cons_zero, List.set_cons_succ]
  refine takeL 13 (v := ?_) rfl (by kernel_rfl) (by kernel_rfl) (by kernel_rfl) (fun _ _ _ h => h) (Or.inl ⟨by rfl, ?_⟩) hHeld ?_
  rotate_left 1
  · (intro w hSw; go_simp; try with_reducible rfl)
  try simp only [Act.put, List.setIfInBounds_toArray, List.set_cons_zero, List.set_cons_succ]
  refine stepL 14 (by kernel_rfl) rfl (fun K hK => ?_)
  go_simp
  refine (len_nil _).mono ?_
  rintro e W4 ⟨rfl, rfl⟩
  show K _ _
  refine hK.out _ _ (HMk.out _ hd3.out.below) (fun hHeld => ?_)
  clear hK K
  try simp only [Act.put, List.setIfInBounds_toArray, List.set_cons_zero, List.set_cons_succ]
  refine takeL 15 (v := ?_) rfl (by kernel_rfl) (by kernel_rfl) (by kernel_rfl) (fun _ _ _ h => h) (Or.inl ⟨by rfl, ?_⟩) hHeld ?_
  rotate_left 1
  · (intro w hSw; go_simp; try with_reducible rfl)
  try simp only [Act.put, List.setIfInBounds_toArray, List.set_cons_zero, List.set_cons_succ]
  refine takeL 16 (v := ?_) rfl (by kernel_rfl) (by kernel_rfl) (by kernel_rfl) (fun _ _ _ h => h) (Or.inl ⟨by rfl, ?_⟩) hHeld ?_
  rotate_left 1
  · (intro w hSw; go_simp; try with_reducible rfl)
  try simp only [Act.put, List.setIfInBounds_toArray, List.set_cons_zero, List.set_cons_succ]
  refine takeL 17 (v := ?_) rfl (by kernel_rfl) (by kernel_rfl) (by kernel_rfl) (fun _ _ _ h => h) (Or.inl ⟨by rfl, ?_⟩) hHeld ?_
  rotate_left 1
  · (intro w hSw; go_simp; try with_reducible rfl)
  try simp only [Act.put, List.setIfInBounds_toArray, List.set_cons_zero, List.set_cons_succ]
  refine takeL 18 (v := ?_) rfl (by kernel_rfl) (by kernel_rfl) (by kernel_rfl) (fun _ _ _ h => h) (Or.inl ⟨by rfl, ?_⟩) hHeld ?_
  rotate_left 1
  · (intro w hSw; go_simp; try with_reducible rfl)
  try simp only [Act.put, List.setIfInBounds_toArray, List.set_cons_zero, List.set_cons_succ]
  refine stepL 19 (by kernel_rfl) rfl (fun K hK => ?_)
  go_simp
  refine (copy_nil _).mono ?_
  rintro e W5 ⟨rfl, rfl⟩
  show K _ _
  refine hK.out _ _ (HMk.out _ hd3.out.below) (fun hHeld => ?_)
  clear hK K
  try simp only [Act.put, List.setIfInBounds_toArray, List.set_cons_zero, List.set_cons_succ]
  refine takeL 20 (v := ?_) rfl (by kernel_rfl) (by kernel_rfl) (by kernel_rfl) (fun _ _ _ h => h) (Or.inl ⟨by rfl, ?_⟩) hHeld ?_
  rotate_left 1
  · (intro w hSw; go_simp; try with_reducible rfl)
  try simp only [Act.put, List.setIfInBounds_toArray, List.set_cons_zero, List.set_cons_succ]
  refine takeL 21 (v := ?_) rfl (by kernel_rfl) (by kernel_rfl) (by kernel_rfl) (fun _ _ _ h => h) (Or.inl ⟨by rfl, ?_⟩) hHeld ?_
  rotate_left 1
  · (intro w hSw; go_simp; try with_reducible rfl)
  try simp only [Act.put, List.setIfInBounds_toArray, List.set_cons_zero, List.set_cons_succ]
  refine wpAnyH_done (by kernel_rfl) ?_ _
  exact NoPanic.normal (HQ.out _ _ ⟨⟨rfl, rfl⟩, rfl, rfl, rfl, rfl, rfl⟩ rfl hd3.out)
end Go.Proofs.YtkfgpnigeknhmaaDoor
