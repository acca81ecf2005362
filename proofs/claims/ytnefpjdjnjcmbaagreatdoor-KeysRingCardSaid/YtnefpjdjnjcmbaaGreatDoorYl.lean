/-
  What a ring knows: the keys of a map, sorted.
-/
import Derived.Test.YtnefpjdjnjcmbaaGreatDoorYj
import Derived.Test.YtnefpjdjnjcmbaaGreatDoorDe
import Derived.Test.YtnefpjdjnjcmbaaGreatDoorSrt
namespace Go.Proofs.YtnefpjdjnjcmbaaGreatDoor
open Go Go.RowKit Go.Maps Go.Sort Go.Shelf
set_option maxRecDepth 100000 in
set_option maxHeartbeats 1000000 in
theorem keys1_nil (F : Fence) (n : Nat) (h10 : F.fn 50) (hro : F.round = none) (l Bm : Nat) (J : List Cl → World → Prop) (W : World) (hJ : AbidesFrom W.heap.size J)
    (hm : W.cell? ⟨Bm, 0, none⟩ = some (.map none)) (h0 : J [] W) :
    CallsIn F n Tryz.prog 50 #[.func (.yield l) #[] #[], .pointer (some ⟨Bm, 0, none⟩)] W fun e W' => (∃ v, e = .returned v) ∧ ∃ ss : List Cl, ss = [] ∧ J ss W' := by
  refine callsIn_of_wp Tryz.func50 rfl h10 ?_ hro
  simp only [Tryz.ntmps50, List.size_toArray, List.length_cons, List.length_nil, Nat.reduceAdd, Nat.reduceSub, Array.replicate_succ, Array.replicate_zero, List.push_toArray, List.append_toArray, List.nil_append, List.cons_append]
  have hrg := run_range_nilMap (P := Tryz.prog) W 70 26 45 Tryz.underlying70
  have hnx : ∀ ty, (Instr.next (.pointer (some ⟨W.heap.size, 0, none⟩)) false ty).run Tryz.prog (W.alloc (.mapIter none 0 #[] 0)) = _ := fun ty => run_next_nilMap _ ty 0 0 #[]
  gi_wp2
  refine wpIn_loop_rounds 1 ?_
  rw [roundsIn_succ]
  gi_wp2
  go_end0
  exact ⟨⟨_, rfl⟩, [], rfl, hJ [] W _ none h0 (World.grownBy_alloc W _ none) (fun r e => by cases e)⟩
theorem keys_gives_nil (F : Fence) (n : Nat) (h10 : F.fn 50) (hro : F.round = none) (Bm : Nat) (w : World) (hBm : Bm < w.heap.size) (hm : w.cell? ⟨Bm, 0, none⟩ = some (.map none)) :
    SeqGives F n Tryz.prog 50 #[.pointer (some ⟨Bm, 0, none⟩)] clV (fun ss : List Cl => ss = []) 0 w := fun l J W hW hJ _ h0 =>
  keys1_nil F n h10 hro l Bm J W hJ ((hW.cell (p := ⟨Bm, 0, none⟩) hBm).trans hm) h0
/-- What is older stays, and the draws only grow: so new blocks and draws are all. -/
theorem grow_of {W W1 : World} (hb : Go.RowKit.Below W.heap.size W W1) (hd : W.drawn ≤ W1.drawn) : ∃ q os, W1 = grow (W.drewN q) os := by
  refine ⟨W1.drawn - W.drawn, W1.heap.extract W.heap.size W1.heap.size, ?_⟩
  obtain ⟨h, t, d, o, u⟩ := W
  obtain ⟨h1, t1, d1, o1, u1⟩ := W1
  obtain ⟨e1, e2, e3, e4, e5⟩ := hb
  simp only at e1 e2 e3 e4 e5 hd
  subst e1 e2 e3
  have eh : h1 = h ++ h1.extract h.size h1.size := by
    apply Array.ext_getElem?
    intro i
    by_cases hi : i < h.size
    · rw [Array.getElem?_append_left hi]; exact e5 i hi
    · rw [Array.getElem?_append_right (by omega), Array.getElem?_extract]
      by_cases hj : i < h1.size
      · rw [if_pos (by omega)]; congr 1; omega
      · rw [if_neg (by omega)]; exact Array.getElem?_eq_none (by omega)
  show (⟨h1, t1, d1, o1, u1⟩ : World) = ⟨h ++ h1.extract h.size h1.size, t1, d + (d1 - d), o1, u1⟩
  rw [← eh, show d + (d1 - d) = d1 by omega]
instance : Inhabited Cl := ⟨c0⟩
/-- The cells of claims. -/
def encC (c : Cl) : List Value := (clC c).toList
theorem cmp_lays (g off size : Nat) (w : World) : CmpLays Tryz.prog 39 #[] encC 4 cmpC g off size w := by
  intro m os dk _ x y
  refine (compare_anyD x y _).mono ?_
  rintro e w' ⟨rfl, hb, hd⟩
  exact ⟨rfl, grow_of hb hd⟩
theorem lt_less (a b : Cl) : ltOf cmpC a b = lessC a b := by unfold ltOf; exact cmpC_neg a b
theorem less_cases (a b : Cl) : lessC a b = true ∨ a = b ∨ lessC b a = true := by
  obtain ⟨a1, a3, a2, a0⟩ := a
  obtain ⟨b1, b3, b2, b0⟩ := b
  rw [lessC_iff, lessC_iff, Cl.mk.injEq]
  omega
theorem less_irr (a : Cl) : lessC a a = false := by
  cases h : lessC a a
  · rfl
  · obtain ⟨a1, a3, a2, a0⟩ := a
    rw [lessC_iff] at h
    omega
theorem less_asymm {a b : Cl} (h : lessC a b = true) : lessC b a = false := by
  cases k : lessC b a
  · rfl
  · have := less_trans a b a h k
    rw [less_irr] at this
    cases this
theorem cmp_swo : SWO (ltOf cmpC) where
  irrefl x := by rw [lt_less, less_irr]
  trans x y z h k := by rw [lt_less] at *; exact less_trans x y z h k
  ntrans x y z h k := by
    rw [lt_less] at *
    rcases less_cases x y with h1 | rfl | h1
    · rw [h1] at h; cases h
    · exact k
    · rcases less_cases y z with k1 | rfl | k1
      · rw [k1] at k; cases k
      · exact h
      · exact less_asymm (less_trans z y x k1 h1)
/-- Claims in order. -/
def sortC (ss : List Cl) : List Cl := ss.mergeSort fun x y => !(ltOf cmpC) y x
theorem sortC_perm (ss : List Cl) : (sortC ss).Perm ss := List.mergeSort_perm _ _
theorem sortC_length (ss : List Cl) : (sortC ss).length = ss.length := (sortC_perm ss).length_eq
theorem flatC_get (ss : List Cl) (j i : Nat) (hj : j < ss.length) (hi : i < 4) : (flatC ss)[j * 4 + i]? = (encC (ss.getD j c0))[i]? := by
  induction ss generalizing j with
  | nil => simp at hj
  | cons c ss ih =>
    have hl : (clC c).toList.length = 4 := by simp [clC]
    unfold flatC
    rw [List.flatMap_cons]
    cases j with
    | zero => rw [List.getElem?_append_left (by omega)]; simp [encC]
    | succ j =>
      rw [List.getElem?_append_right (by omega), hl, show (j + 1) * 4 + i - 4 = j * 4 + i by omega]
      have := ih j (by simpa using hj)
      simpa [flatC] using this
/-- A row of claims. -/
def RowC (W : World) (v : Value) (ss : List Cl) : Prop := (ss = [] ∧ v = .slice none 0 0) ∨ ∃ g cap, v = .slice (some ⟨g, 0, none⟩) ss.length cap ∧ ∀ j, j < ss.length → W.rangeAt g (j * 4) (encC (ss.getD j c0))
theorem RowC.later {W W1 : World} {v : Value} {ss : List Cl} (h : RowC W v ss) (hb : Go.RowKit.Below W.heap.size W W1) : RowC W1 v ss := by
  rcases h with h | ⟨g, cap, hv, hr⟩
  · exact .inl h
  · refine .inr ⟨g, cap, hv, fun j hj i u hu => ?_⟩
    have hc := hr j hj i u hu
    rw [show W1.cell? ⟨g, j * 4 + i, none⟩ = W.cell? ⟨g, j * 4 + i, none⟩ from hb.cell (p := ⟨g, j * 4 + i, none⟩) (World.block_lt_of_cell? _ _ hc)]
    exact hc
theorem holds_row {W : World} {base g cap : Nat} {ss : List Cl} (h : W.ownsRow base 26 4 (.slice (some ⟨g, 0, none⟩) ss.length cap) ss.length (flatC ss)) : HoldsK encC 4 W g 0 ss.toArray := by
  rcases h.2 with ⟨h1, -⟩ | ⟨g', cap', cur, hv, -, hg, hc1, hc2, hc3, hc4⟩
  · cases h1
  · injection hv with hv1 hv2 hv3
    injection hv1 with hv1
    injection hv1 with hv1
    subst hv1
    intro t ht
    rw [size_flatK] at ht
    have ht2 : t < ss.length * 4 := by simpa using ht
    have e1 : t = t / 4 * 4 + t % 4 := by omega
    have e2 := flatC_get ss (t / 4) (t % 4) (by omega) (by omega)
    rw [← e1, ← hc4, List.getElem?_take_of_lt ht2] at e2
    refine ⟨?_, frozen_of_row _ _ _ _ _ hg⟩
    rw [cell_of_row _ _ _ _ _ _ hg, Nat.zero_add, ← Array.getElem?_toList, e2, get_flatK _ _ _ _ ht]
    have e3 : ss.toArray[t / 4]! = ss.getD (t / 4) c0 := by
      have : t / 4 < ss.length := by omega
      simp [this]
    rw [e3]
    have e4 : t % 4 < (encC (ss.getD (t / 4) c0)).length := by simp [encC, clC]; omega
    rw [List.getElem?_eq_getElem e4, getElem!_pos (encC (ss.getD (t / 4) c0)) (t % 4) e4]
    rfl
theorem row_holds {W : World} {g cap n : Nat} {ss : List Cl} (h : HoldsK encC 4 W g 0 ss.toArray) (hn : n = ss.length) : RowC W (.slice (some ⟨g, 0, none⟩) n cap) ss := by
  subst hn
  refine .inr ⟨g, cap, rfl, fun j hj i u hu => ?_⟩
  have hi : i < 4 := by have := (List.getElem?_eq_some_iff.1 hu).1; simpa [encC, clC] using this
  have h1 := (h (j * 4 + i) (by rw [size_flatK]; simp; omega)).1
  rw [get_flatK _ _ _ _ (by simp; omega), show (j * 4 + i) / 4 = j by omega, show (j * 4 + i) % 4 = i by omega, Nat.zero_add] at h1
  show W.cell? ⟨g, j * 4 + i, none⟩ = some u
  rw [h1]
  have e3 : ss.toArray[j]! = ss.getD j c0 := by simp [hj]
  rw [e3]
  obtain ⟨h5, h6⟩ := List.getElem?_eq_some_iff.1 hu
  rw [getElem!_pos (encC (ss.getD j c0)) i h5, h6]
  rfl
theorem below_sortW {B : Nat} (w : World) (blk off m : Nat) (dk : Array Cl) (os : Array Obj) (h1 : B ≤ blk) (h2 : B ≤ w.heap.size) : Go.RowKit.Below B w (sortWorldK encC 4 w blk off m dk os) := by
  refine ⟨rfl, rfl, rfl, ?_, fun k hk => ?_⟩
  · exact size_sortWorldK_c encC 4 w blk off m dk os
  · show (_ ++ os)[k]? = _
    rw [Array.getElem?_append_left (by show k < (putRowK encC 4 _ blk off dk).heap.size; rw [size_putRowK]; show k < w.heap.size; omega)]
    show (w.heap.modify blk _)[k]? = _
    rw [Array.getElem?_modify, if_neg (by omega)]
set_option maxRecDepth 100000 in
set_option maxHeartbeats 1000000 in
/-- What is collected of an iterator, in order. -/
theorem sortedF_any (sv : Value) (S : List Cl → Prop) (w : World) (hlen : ∀ ss, S ss → ss.length ≤ 1000)
    (hcol : Calls Tryz.prog 48 #[sv] w fun e w' => ∃ (v : Value) (ss : List Cl), e = .returned v ∧ S ss ∧ w'.ownsRow w.heap.size 26 4 v ss.length (flatC ss) ∧ (v = .slice none 0 0 ↔ ss = []) ∧ Go.RowKit.Below w.heap.size w w') :
    Calls Tryz.prog 37 #[sv, .func (.func 39) #[] #[]] w fun e w' => ∃ (v : Value) (ss : List Cl), e = .returned v ∧ S ss ∧ RowC w' v (sortC ss) ∧ Go.RowKit.Below w.heap.size w w' := by
  have HC := Bx.mk hcol
  have HLe := Bx.mk hlen
  clear hcol hlen
  go_enter Tryz.func37, Tryz.ntmps37
  go_wp2_with fail
  refine HC.out.mono ?_
  rintro e w1 ⟨v, ss, rfl, hS, hrow, hnil, hb⟩
  have HS := Bx.mk hS
  rcases hrow.2 with ⟨rfl, h0⟩ | ⟨g, cap, cur, rfl, hbg, hg, h1, h2, h3, h4⟩
  · have hss : ss = [] := List.length_eq_zero_iff.1 h0
    subst hss
    have HB := Bx.mk hb
    clear hrow hnil hb hS HC
    go_wp2_with fail
    have hn := AnyF.slices_SortFunc_none Tryz.sortL none 0 (.func (.func 39) #[] #[]) w1
    change Calls Tryz.prog 49 _ _ _ at hn
    refine hn.mono ?_
    rintro e w2 ⟨rfl, rfl⟩
    go_wp2
    go_ret
    exact ⟨_, [], rfl, HS.out, .inl ⟨by simp [sortC], rfl⟩, HB.out⟩
  · have HH := Bx.mk (And.intro (holds_row hrow) (And.intro (Array.getElem?_eq_some_iff.1 hg).1 (And.intro hb hbg)))
    have hsz : ss.length < 4611686018427387904 := by have := HLe.out ss hS; omega
    have hs := AnyQ.slices_SortFunc_total Tryz.sortL 4 Tryz.isAgg26 Tryz.sizeOf26 encC (fun x => by simp [encC, clC]) (fun x u hu => by simp [encC, clC] at hu; rcases hu with rfl | rfl | rfl | rfl <;> rfl) cmpC cmp_swo 39 #[] g 0 cap ss.toArray w1 (enters_of Tryz.func39 (by kernel_rfl) rfl) (cmp_lays g 0 _ w1) HH.out.1 HH.out.2.1 (by simpa using hsz) (fun x y a b => by
      rw [lt_less] at a b
      rcases less_cases x y with h | h | h
      · rw [h] at a; cases a
      · exact h
      · rw [h] at b; cases b)
    change Calls Tryz.prog 49 #[.slice (some ⟨g, 0, none⟩) ss.length cap, .func (.func 39) #[] #[]] _ _ at hs
    have HSo := Bx.mk hs
    obtain ⟨nn, hnn⟩ : ∃ nn, ss.length = nn := ⟨_, rfl⟩
    have HN := Bx.mk hnn
    rw [hnn] at HSo ⊢
    clear hrow hnil hb hS HC hbg hg h1 h2 h3 h4 hs hsz hnn
    go_wp2_with fail
    refine HSo.out.mono ?_
    rintro e w2 ⟨rfl, m, os, hw⟩
    have hw2 : w2 = sortWorldK encC 4 w1 g 0 m (sortC ss).toArray os := hw
    have HF : Bx (RowC w2 (.slice (some ⟨g, 0, none⟩) nn cap) (sortC ss) ∧ Go.RowKit.Below w.heap.size w w2) := Bx.mk (by
      rw [hw2]
      exact And.intro (row_holds (cap := cap) (holdsK_sortWorldK_c encC 4 w1 g 0 ss.toArray (sortC ss).toArray m os HH.out.1 HH.out.2.1 (by simp [sortC_length])) (show nn = (sortC ss).length by rw [sortC_length, HN.out])) (HH.out.2.2.1.trans (below_sortW w1 g 0 m (sortC ss).toArray os HH.out.2.2.2 HH.out.2.2.1.size)))
    clear hw hw2
    go_wp2
    go_ret
    exact ⟨_, ss, rfl, HS.out, HF.out.1, HF.out.2⟩
end Go.Proofs.YtnefpjdjnjcmbaaGreatDoor
namespace Go.Proofs.YtnefpjdjnjcmbaaGreatDoor
open Go Go.RowKit
/-- What stays beside two blocks, and beside maps that are not old. -/
structure KP (R L B : Nat) (W W1 : World) : Prop where
  os : W1.os = W.os
  tape : W1.tape = W.tape
  output : W1.output = W.output
  size : W.heap.size ≤ W1.heap.size
  block : ∀ i o, W.heap[i]? = some o → i ≠ R → i ≠ L → (i < B ∨ o.isWalk = false) → W1.heap[i]? = some o
theorem KP.refl (R L B : Nat) (W : World) : KP R L B W W := ⟨rfl, rfl, rfl, Nat.le_refl _, fun _ _ h _ _ _ => h⟩
theorem KP.trans {R L B : Nat} {W W1 W2 : World} (h : KP R L B W W1) (k : KP R L B W1 W2) : KP R L B W W2 :=
  ⟨k.os.trans h.os, k.tape.trans h.tape, k.output.trans h.output, Nat.le_trans h.size k.size, fun i o h0 h1 h2 h3 => k.block i o (h.block i o h0 h1 h2 h3) h1 h2 h3⟩
theorem KP.below {R L B : Nat} {W W1 : World} (h : Below W.heap.size W W1) : KP R L B W W1 :=
  ⟨h.os, h.tape, h.output, h.size, fun i o h0 _ _ _ => by rw [h.block i (Array.getElem?_eq_some_iff.1 h0).1]; exact h0⟩
theorem KP.by_ {R L B : Nat} {W W1 : World} {j : Nat} (h : W.grownBy W1 (some j)) (hj : j = R ∨ j = L ∨ (B ≤ j ∧ ∃ o, W.heap[j]? = some o ∧ o.isWalk = true)) : KP R L B W W1 :=
  ⟨h.os, h.tape, h.output, h.size, fun i o h0 h1 h2 h3 => by
    rw [h.block i (Array.getElem?_eq_some_iff.1 h0).1 (fun e => ?_)]
    · exact h0
    · injection e with e
      subst e
      rcases hj with hj | hj | ⟨hj, o2, h4, h5⟩
      · exact h1 hj
      · exact h2 hj
      · rw [h0] at h4
        injection h4 with h4
        subst h4
        rcases h3 with h3 | h3
        · omega
        · rw [h3] at h5; cases h5⟩
theorem KP.weaken {R L B : Nat} {W W1 : World} (h : KP R R B W W1) : KP R L B W W1 := ⟨h.os, h.tape, h.output, h.size, fun i o h0 h1 _ h3 => h.block i o h0 h1 h1 h3⟩
theorem KeyO.keep {R L B : Nat} {W W1 : World} {v : Value} {bs : List UInt8} (h : KeyO W B v bs) (k : KP R L B W W1) (hR : R < B) (hL : L < B) : KeyO W1 B v bs := by
  obtain ⟨p, s, hv, hp, hr, h1, h2⟩ := h
  refine ⟨p, s, hv, hp, k.block p _ hr (by omega) (by omega) (.inr rfl), h1, ?_⟩
  rcases h2 with h0 | ⟨g, cap, cur, hv', hb', hg, hr'⟩
  · exact .inl h0
  · exact .inr ⟨g, cap, cur, hv', hb', k.block g _ hg (by omega) (by omega) (.inr rfl), hr'⟩
/-- A ring in its block. -/
structure RingAt (W : World) (R : Nat) (tk : List Value) (mv : Value) (lb : List Value) : Prop where
  row : W.heap[R]? = some (.cells (rgC tk (mv :: lb)) 73 (0, 0))
  tkl : tk.length = 36
  lbl : lb.length = 8
theorem RingAt.map {W : World} {R : Nat} {tk : List Value} {mv : Value} {lb : List Value} (h : RingAt W R tk mv lb) : W.cell? ⟨R, 36, none⟩ = some mv := by
  rw [cell_of_row _ _ _ _ _ _ h.row]
  unfold rgC
  rw [List.getElem?_toArray, List.getElem?_append_right (by rw [h.tkl]; exact Nat.le_refl _), h.tkl]
  rfl
theorem RingAt.lab {W : World} {R : Nat} {tk : List Value} {mv : Value} {lb : List Value} (h : RingAt W R tk mv lb) (i : Nat) (hi : i < 8) : W.cell? ⟨R, 37 + i, none⟩ = some (lb.getD i undef) := by
  rw [cell_of_row _ _ _ _ _ _ h.row]
  unfold rgC
  rw [List.getElem?_toArray, List.getElem?_append_right (by rw [h.tkl]; omega), h.tkl, show 37 + i - 36 = i + 1 by omega, List.getElem?_cons_succ]
  have := h.lbl
  simp [show i < lb.length by omega]
theorem RingAt.later {W W1 : World} {R : Nat} {tk : List Value} {mv : Value} {lb : List Value} (h : RingAt W R tk mv lb) (hb : W1.heap[R]? = W.heap[R]?) : RingAt W1 R tk mv lb := ⟨by rw [hb]; exact h.row, h.tkl, h.lbl⟩
theorem RingAt.lt {W : World} {R : Nat} {tk : List Value} {mv : Value} {lb : List Value} (h : RingAt W R tk mv lb) : R < W.heap.size := (Array.getElem?_eq_some_iff.1 h.row).1
/-- A ring's map, nil or not; if it is there, it is not older than B. -/
def MapV (W : World) (B : Nat) (mv : Value) (l : List (Cl × Nat)) : Prop := (mv = .map none ∧ l = []) ∨ ∃ M, mv = .map (some M) ∧ B ≤ M ∧ MapL W M l
theorem MapL.lt {W : World} {M : Nat} {l : List (Cl × Nat)} (m : MapL W M l) : M < W.heap.size := by obtain ⟨es, clock, hb, -, -⟩ := m.st; exact (Array.getElem?_eq_some_iff.1 hb).1
theorem MapV.later {W W1 : World} {B : Nat} {mv : Value} {l : List (Cl × Nat)} (h : MapV W B mv l) (hb : Below W.heap.size W W1) : MapV W1 B mv l := by
  rcases h with h | ⟨M, h1, h2, h3⟩
  · exact .inl h
  · exact .inr ⟨M, h1, h2, h3.later (hb.block M h3.lt)⟩
theorem MapV.look {W : World} {B : Nat} {mv : Value} {l : List (Cl × Nat)} (h : MapV W B mv l) (c : Cl) (hc : Cl64 c) : (Instr.lookup 70 mv (clV c) true).run Tryz.prog W = .ok (lookV (atC l c)) W := by
  rcases h with ⟨rfl, rfl⟩ | ⟨M, rfl, _, h3⟩
  · exact look_nil c hc W
  · exact h3.look c hc
theorem MapV.len {W : World} {B : Nat} {mv : Value} {l : List (Cl × Nat)} (h : MapV W B mv l) (ty : TypeId) : (Builtin.len_ #[70] ty #[mv]).run Tryz.prog W = .ok (.int .i64 (l.length : Int)) W := by
  rcases h with ⟨rfl, rfl⟩ | ⟨M, rfl, _, h3⟩
  · exact len_nilmap ty W
  · exact h3.len ty
theorem sortC_of_perm {a b : List Cl} (h : a.Perm b) : sortC a = sortC b := by
  have tr : ∀ x y z : Cl, (!(Go.Proofs.ltOf cmpC) y x) = true → (!(Go.Proofs.ltOf cmpC) z y) = true → (!(Go.Proofs.ltOf cmpC) z x) = true := fun x y z h1 h2 => by
    simp only [Bool.not_eq_true'] at *
    exact cmp_swo.ntrans z y x h2 h1
  have to : ∀ x y : Cl, ((!(Go.Proofs.ltOf cmpC) y x) || (!(Go.Proofs.ltOf cmpC) x y)) = true := fun x y => by
    rw [lt_less, lt_less]
    cases h : lessC y x
    · rfl
    · rw [less_asymm h]; rfl
  refine List.Perm.eq_of_pairwise (le := fun x y => (!(Go.Proofs.ltOf cmpC) y x) = true) (fun x y _ _ h1 h2 => ?_) (List.pairwise_mergeSort tr to a) (List.pairwise_mergeSort tr to b) (((sortC_perm a).trans h).trans (sortC_perm b).symm)
  rw [lt_less, Bool.not_eq_true'] at h1 h2
  rcases less_cases x y with k | k | k
  · rw [k] at h2; cases h2
  · exact k
  · rw [k] at h1; cases h1
theorem keys0_any (mb : Option Nat) (w : World) : Calls Tryz.prog 38 #[.map mb] w fun e w' => e = .returned (.func (.func 50) #[] #[.pointer (some ⟨w.heap.size, 0, none⟩)]) ∧ w' = w.alloc (.cells #[.map mb] 70) :=
  (callsIn_wide (n := 1)).1 (keys0_in Fence.wide 1 trivial rfl mb w)
theorem collect_keys (B : Nat) (mv : Value) (l : List (Cl × Nat)) (Bm : Nat) (w : World) (hBm : Bm < w.heap.size) (hm : w.cell? ⟨Bm, 0, none⟩ = some mv) (h : MapV w B mv l) (hl : l.length ≤ 1000) :
    Calls Tryz.prog 48 #[.func (.func 50) #[] #[.pointer (some ⟨Bm, 0, none⟩)]] w fun e w' => ∃ (v : Value) (ss : List Cl), e = .returned v ∧ ss.Perm (l.map (·.1)) ∧ w'.ownsRow w.heap.size 26 4 v ss.length (flatC ss) ∧ (v = .slice none 0 0 ↔ ss = []) ∧ Below w.heap.size w w' := by
  have e1 := enters_of (P := Tryz.prog) Tryz.func50 (by kernel_rfl) rfl
  rcases h with ⟨rfl, rfl⟩ | ⟨M, rfl, _, h3⟩
  · refine ((callsIn_wide (n := 3)).1 (collect_in Fence.wide 3 trivial trivial rfl (by omega) _ _ trivial e1 (fun ss => ss = []) 0 (by unfold maxLen; omega) (by omega) w (keys_gives_nil Fence.wide 1 trivial rfl Bm w hBm hm))).mono ?_
    rintro e w' ⟨v, ss, h1, rfl, h4⟩
    exact ⟨v, [], h1, List.Perm.refl _, h4⟩
  · exact (callsIn_wide (n := 3)).1 (collect_in Fence.wide 3 trivial trivial rfl (by omega) _ _ trivial e1 (fun ss => ss.Perm (l.map (·.1))) l.length (by unfold maxLen; omega) (by omega) w (keys_gives Fence.wide 1 trivial rfl (by omega) Bm M l w hBm hm h3 hl))
set_option maxRecDepth 100000 in
set_option maxHeartbeats 1000000 in
theorem ring_known (R B : Nat) (tk : List Value) (mv : Value) (lb : List Value) (l : List (Cl × Nat)) (w : World) (hr : RingAt w R tk mv lb) (hm : MapV w B mv l) (hl : l.length ≤ 1000) :
    Calls Tryz.prog 21 #[.pointer (some ⟨R, 0, none⟩)] w fun e w' => ∃ v, e = .returned v ∧ RowC w' v (sortC (l.map (·.1))) ∧ Below w.heap.size w w' := by
  have HC : Bx (Calls Tryz.prog 37 #[.func (.func 50) #[] #[.pointer (some ⟨w.heap.size, 0, none⟩)], .func (.func 39) #[] #[]] (w.alloc (.cells #[mv] 70)) fun e w' => ∃ v, e = .returned v ∧ RowC w' v (sortC (l.map (·.1))) ∧ Below w.heap.size w w') := Bx.mk (by
    refine (sortedF_any _ (fun ss => ss.Perm (l.map (·.1))) _ (fun ss hs => by rw [hs.length_eq]; simpa using hl) (collect_keys B mv l w.heap.size _ (by simp) (by rw [cell_of_row _ _ _ _ _ _ (hnew _ _ _ rfl)]; rfl) (hm.later (below_a _)) hl)).mono ?_
    rintro e w' ⟨v, ss, h1, h2, h3, h4⟩
    exact ⟨v, h1, by rw [← sortC_of_perm h2]; exact h3, (below_a _).trans (h4.mono (by simp))⟩)
  have hc := hr.map
  obtain ⟨mb, hmb⟩ : ∃ mb, mv = .map mb := by
    rcases hm with ⟨h, _⟩ | ⟨M, h, _⟩
    · exact ⟨_, h⟩
    · exact ⟨_, h⟩
  subst hmb
  clear hr hm
  go_enter Tryz.func21, Tryz.ntmps21
  go_wp2_with fail
  refine (keys0_any mb w).mono ?_
  rintro e w1 ⟨rfl, rfl⟩
  go_wp2_with fail
  refine HC.out.mono ?_
  rintro e w2 ⟨v, rfl, h1, h2⟩
  have H2 := Bx.mk (And.intro h1 h2)
  clear h1 h2 HC hc
  go_wp2
  go_ret
  exact ⟨v, rfl, H2.out⟩
set_option maxRecDepth 100000 in
theorem copied_key (bs : List UInt8) (v : Value) (w : World) (hv : IsKey w v bs) (hl : bs.length ≤ 140737488355328) :
    Calls Tryz.prog 34 #[v] w fun e w' => ∃ v', e = .returned v' ∧ KeyO w' w.heap.size v' bs ∧ Below w.heap.size w w' := by
  have HK := Bx.mk (kbytes_any bs v w hv hl)
  have HL := Bx.mk hl
  obtain ⟨p, s, rfl, -, -⟩ := hv
  clear hl
  go_enter Tryz.func34, Tryz.ntmps34
  go_wp2_with fail
  refine HK.out.mono ?_
  rintro e w1 ⟨v1, rfl, ho, hb⟩
  have H1 := Bx.mk (And.intro ho.bytes hb)
  clear ho hb HK
  go_wp2_with fail
  refine (new_any bs v1 w1 H1.out.1 HL.out).mono ?_
  rintro e w2 ⟨v2, rfl, hk, hb⟩
  have H2 := Bx.mk (And.intro (hk.weak H1.out.2.size) (H1.out.2.trans (hb.mono H1.out.2.size)))
  clear hk hb H1
  go_wp2
  go_ret
  exact ⟨v2, rfl, H2.out⟩
end Go.Proofs.YtnefpjdjnjcmbaaGreatDoor
