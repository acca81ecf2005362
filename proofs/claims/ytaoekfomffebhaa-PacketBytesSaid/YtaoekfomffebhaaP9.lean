/-
  The reader's packet.
-/
import Derived.Test.YtaoekfomffebhaaP16
import Derived.Test.YtaoekfomffebhaaP10
import Derived.Test.YtaoekfomffebhaaP5
namespace Go.Proofs.Ytaoekfomffebhaa
open Go Go.ChangeShapes Go.WideShapes Go.ChangeAt Go.RowKit
theorem pk_kindB (k : Int) : Try.prog.built 33 [(0, .int .i64 k)] = some (pkC ⟨k, ⟨0, 0, 0, 0⟩, 0, Nn.zero, [], z32P⟩ (.slice none 0 0)) := by kernel_rfl
theorem pk_setC (x : Pk) (v : Value) (c : Cl) : spl (pkC x v) 1 (clC c).toList = pkC { x with c := c } v := rfl
theorem pk_setTo (x : Pk) (v : Value) (n : Int) : (pkC x v).setIfInBounds 5 (.int .i64 n) = pkC { x with to := n } v := rfl
theorem pk_setN (x : Pk) (v : Value) (n : Nn) : spl (pkC x v) 6 (nnC n).toList = pkC { x with n := n } v := rfl
theorem pk_setB (x : Pk) (v u : Value) (b : List UInt8) : (pkC x v).setIfInBounds 8 u = pkC { x with b := b } u := rfl
theorem pk_setT (x : Pk) (u : Value) (sk : List UInt8) (hx : x.t.length = 32) (hs : sk.length = 32) : spl (pkC x u) 9 (u8s sk).toList = pkC { x with t := sk } u := by
  have hsz : (u8s sk).size = 32 := by rw [u8s_size, hs]
  apply Array.ext_getElem?
  intro i
  rw [spl_get, pkC_size x u hx, Array.length_toList, hsz]
  by_cases h9 : i < 9
  · rw [if_neg (by omega)]
    match i, h9 with
    | 0, _ => rfl
    | 1, _ => rfl
    | 2, _ => rfl
    | 3, _ => rfl
    | 4, _ => rfl
    | 5, _ => rfl
    | 6, _ => rfl
    | 7, _ => rfl
    | 8, _ => rfl
  · obtain ⟨j, rfl⟩ : ∃ j, i = j + 9 := ⟨i - 9, by omega⟩
    have e1 : (pkC { x with t := sk } u)[j + 9]? = (u8s sk).toList[j]? := by unfold pkC; rw [List.getElem?_toArray]; rfl
    have e2 : (pkC x u)[j + 9]? = (u8s x.t).toList[j]? := by unfold pkC; rw [List.getElem?_toArray]; rfl
    by_cases h4 : j < 32
    · rw [if_pos (by omega), e1]
      congr 1
    · rw [if_neg (by omega), e1, e2, List.getElem?_eq_none (by rw [Array.length_toList, u8s_size, hx]; omega), List.getElem?_eq_none (by rw [Array.length_toList, u8s_size, hs]; omega)]
theorem nrR_len (p : List UInt8 × Int) : (nrR p).1.length ≤ p.1.length := Nat.le_trans (stepR_len _ _) (stepR_len _ _)
theorem getR4_len (l : List UInt8) (er : Int) : (getR l er 4).2.1.length ≤ l.length := stepR_len (l, er) 4
theorem bytR_len (l : List UInt8) (er z : Int) : (bytR l er z).2.1.length ≤ l.length := by
  unfold bytR
  have h := getR4_len l er
  split
  · split
    · simp
    · exact h
  · exact h
/-- What the next fields are, and the reader behind them. -/
def r1P (p : List UInt8 × Int) := stepR p 0
def r2P (p : List UInt8 × Int) := rdR (r1P p)
def r3P (p : List UInt8 × Int) := stepR (r2P p) 1
def r4P (p : List UInt8 × Int) := nrR (r3P p)
def r5P (p : List UInt8 × Int) := (bytR (r4P p).1 (r4P p).2 512).2
def r6P (p : List UInt8 × Int) := stT (r5P p) 32
def rdX (p : List UInt8 × Int) : Pk := ⟨numR p 0, rdC (r1P p), numR (r2P p) 1, nrC (r3P p), (bytR (r4P p).1 (r4P p).2 512).1, tgT (r5P p) 32⟩
theorem r_lens (p : List UInt8 × Int) : (r1P p).1.length ≤ p.1.length ∧ (r2P p).1.length ≤ p.1.length ∧ (r3P p).1.length ≤ p.1.length ∧ (r4P p).1.length ≤ p.1.length ∧ (r5P p).1.length ≤ p.1.length := by
  have h1 := stepR_len p 0
  have h2 := rdR_len (r1P p)
  have h3 := stepR_len (r2P p) 1
  have h4 := nrR_len (r3P p)
  have h5 := bytR_len (r4P p).1 (r4P p).2 512
  have g1 : (r1P p).1.length ≤ p.1.length := h1
  have g2 : (r2P p).1.length ≤ p.1.length := Nat.le_trans h2 g1
  have g3 : (r3P p).1.length ≤ p.1.length := Nat.le_trans h3 g2
  have g4 : (r4P p).1.length ≤ p.1.length := Nat.le_trans h4 g3
  exact ⟨g1, g2, g3, g4, Nat.le_trans h5 g4⟩
/-- What holds while a packet is read. -/
structure PR (w : World) (B q D : Nat) (zc : Array Value) (x : Pk) (v : Value) (p : List UInt8 × Int) (W : World) : Prop where
  box : W.heap[B]? = some (.cells #[.pointer (some ⟨q, 0, none⟩)] 67 (0, 0))
  res : W.heap[B + 1]? = some (.cells zc 33 (0, 0))
  pk : W.heap[D]? = some (.cells (pkC x v) 33 (0, 0))
  rd : IsR W q p.1 p.2
  gr : w.grownBy W (some q)
  lt : B + 1 < D
  qlt : q < B
  at_ : w.heap.size = B
theorem PR.dlt {w : World} {B q D : Nat} {zc : Array Value} {x : Pk} {v : Value} {p : List UInt8 × Int} {W : World} (h : PR w B q D zc x v p W) : D < W.heap.size := (Array.getElem?_eq_some_iff.1 h.pk).1
theorem PR.read {w : World} {B q D : Nat} {zc : Array Value} {x : Pk} {v : Value} {p p1 : List UInt8 × Int} {W W1 : World} (h : PR w B q D zc x v p W) (h1 : IsR W1 q p1.1 p1.2) (hg : W.grownBy W1 (some q)) : PR w B q D zc x v p1 W1 := by
  have h2 := h.dlt
  have h3 := h.lt
  have h4 := h.qlt
  exact ⟨(hg.block B (by omega) (fun e => by injection e with e; omega)).trans h.box, (hg.block (B + 1) (by omega) (fun e => by injection e with e; omega)).trans h.res, (hg.block D h2 (fun e => by injection e with e; omega)).trans h.pk, h1, kb_trans h.gr hg, h.lt, h.qlt, h.at_⟩
theorem PR.put {w : World} {B q D : Nat} {zc : Array Value} {x y : Pk} {v u : Value} {p : List UInt8 × Int} {W W1 : World} (h : PR w B q D zc x v p W) (hg : W.grownBy W1 (some D)) (hp : W1.heap[D]? = some (.cells (pkC y u) 33 (0, 0))) : PR w B q D zc y u p W1 := by
  have h2 := h.dlt
  have h3 := h.lt
  have h4 := h.qlt
  exact ⟨(hg.block B (by omega) (fun e => by injection e with e; omega)).trans h.box, (hg.block (B + 1) (by omega) (fun e => by injection e with e; omega)).trans h.res, hp, h.rd.asideT h.pk (by decide) hg (by omega), kb_new h.gr hg (by have := h.at_; omega), h.lt, h.qlt, h.at_⟩
theorem PR.ptr {w : World} {B q D : Nat} {zc : Array Value} {x : Pk} {v : Value} {p : List UInt8 × Int} {W : World} (h : PR w B q D zc x v p W) : W.cell? ⟨B, 0, none⟩ = some (.pointer (some ⟨q, 0, none⟩)) := by rw [cell_of_row _ _ _ _ _ _ h.box]; rfl
theorem PR.begin {w w1 w8 : World} {B q D : Nat} {zc yc : Array Value} {x : Pk} {v : Value} {p : List UInt8 × Int} (hg8 : (w1.alloc (.cells zc 33)).grownBy w8 (some D)) (hr8 : w8.heap[D]? = some (.cells yc 33 (0, 0))) (hyc : pkC x v = yc) (h1 : IsR w1 q p.1 p.2 ∧ w.grownBy w1 (some q) ∧ w1.heap[B]? = some (.cells #[.pointer (some ⟨q, 0, none⟩)] 67 (0, 0)) ∧ w1.heap[B + 1]? = some (.cells zc 33 (0, 0)) ∧ B + 1 < w1.heap.size) (hD : w1.heap.size = D) (hq : q < B) (hB : w.heap.size = B) : PR w B q D zc x v p w8 := by
  obtain ⟨a1, a2, a3, a4, a5⟩ := h1
  have hb := below_a (W := w1) (.cells zc 33)
  have hn : (w1.alloc (.cells zc 33)).heap[D]? = some (.cells zc 33 (0, 0)) := hnew _ _ _ hD.symm
  rw [hD] at hb a5
  have hs := hb.size
  exact ⟨(hg8.block B (by omega) (fun e => by injection e with e; omega)).trans ((hb.block B (by omega)).trans a3), (hg8.block (B + 1) (by omega) (fun e => by injection e with e; omega)).trans ((hb.block (B + 1) (by omega)).trans a4), by rw [hyc]; exact hr8, (a1.later (by rw [hD]; exact hb)).asideT hn (by decide) hg8 (by omega), kb_new (kb_trans a2 (kb_below _ (by rw [hD]; exact hb))) hg8 (by omega), a5, hq, hB⟩
set_option maxRecDepth 100000 in
set_option maxHeartbeats 4000000 in
theorem rpacket14 (q : Nat) (p : List UInt8 × Int) (w : World) (h : IsR w q p.1 p.2) (hl : p.1.length ≤ 5000) :
    Calls Try.prog 34 #[.agg #[.pointer (some ⟨q, 0, none⟩)]] w fun e w' => ∃ u, e = .returned (pkV (rdX p) u) ∧ OwnB w' w.heap.size u (rdX p).b ∧ IsR w' q (r6P p).1 (r6P p).2 ∧ w.grownBy w' (some q) := by
  obtain ⟨zc, hzc⟩ : ∃ zc, pkC Pk.zero (.slice none 0 0) = zc := ⟨_, rfl⟩
  have hzv : ∀ W : World, (zeroValue 33).run Try.prog W = .ok (.agg zc) W := fun W => by rw [← hzc]; exact pk_zeroW W
  have HZ := Bx.mk (show zc.size = 41 by rw [← hzc, pkC_size _ _ rfl])
  obtain ⟨B, hB⟩ : ∃ B, w.heap.size = B := ⟨_, rfl⟩
  have K0 := Bx.mk (((KP.start w B hB).new (.cells #[.pointer (some ⟨q, 0, none⟩)] 67)).new (.cells zc 33))
  rw [alloc_sizeP, hB] at K0
  have HqB : Bx (q < B) := Bx.mk (by rw [← hB]; exact h.lt)
  have HR0 := Bx.mk (h.later (w1 := (w.alloc (.cells #[.pointer (some ⟨q, 0, none⟩)] 67)).alloc (.cells zc 33)) (by rw [hB]; exact K0.out.below))
  obtain ⟨L1, L2, L3, L4, L5⟩ := r_lens p
  have HL := Bx.mk (And.intro hl (And.intro (Nat.le_trans L1 hl) (And.intro (Nat.le_trans L2 hl) (And.intro (Nat.le_trans L3 hl) (And.intro (Nat.le_trans L4 hl) (Nat.le_trans L5 hl))))))
  have HB := Bx.mk hB
  have hc0 : ((w.alloc (.cells #[.pointer (some ⟨q, 0, none⟩)] 67)).alloc (.cells zc 33)).cell? ⟨B, 0, none⟩ = some (.pointer (some ⟨q, 0, none⟩)) := by rw [cell_of_row _ _ _ _ _ _ (K0.out.rows _ (.tail _ (.head _)))]; rfl
  obtain ⟨X, hX⟩ : ∃ X, rdX p = X := ⟨_, rfl⟩
  have HXX := Bx.mk hX
  rw [hX]
  rw [hB]
  clear hzc hl h L1 L2 L3 L4 L5 hX
  go_enter Try.func34, Try.ntmps34
  go_wp2_with fail
  generalize (w.alloc (.cells #[.pointer (some ⟨q, 0, none⟩)] 67)).alloc (.cells zc 33) = w0 at *
  refine (rnum_any q 0 p.1 p.2 w0 HR0.out HL.out.1 (by omega)).mono ?_
  rintro e w1 ⟨rfl, hr1, hg1⟩
  have H1 : Bx (IsR w1 q (r1P p).1 (r1P p).2 ∧ w.grownBy w1 (some q) ∧ w1.heap[B]? = some (.cells #[.pointer (some ⟨q, 0, none⟩)] 67 (0, 0)) ∧ w1.heap[B + 1]? = some (.cells zc 33 (0, 0)) ∧ B + 1 < w1.heap.size) := Bx.mk (by
    have k1 := K0.out.lt (x := (B + 1, _)) (.head _)
    have k2 := HqB.out
    simp only at k1
    exact ⟨hr1, kb_trans (kb_below _ (by rw [HB.out]; exact K0.out.below)) hg1, (hg1.block B (by omega) (fun e => by injection e with e; omega)).trans (K0.out.rows _ (.tail _ (.head _))), (hg1.block (B + 1) (by omega) (fun e => by injection e with e; omega)).trans (K0.out.rows _ (.head _)), Nat.lt_of_lt_of_le k1 hg1.size⟩)
  obtain ⟨kk, hkk⟩ : ∃ kk, (getR p.1 p.2 0).1.n = kk := ⟨_, rfl⟩
  have HKK : Bx (numR p 0 = kk) := Bx.mk hkk
  rw [hkk]
  clear hr1 hg1 K0 HR0 hc0 hkk
  obtain ⟨D, hD⟩ : ∃ D, w1.heap.size = D := ⟨_, rfl⟩
  obtain ⟨yk, hyk⟩ : ∃ y : Pk, y = ⟨kk, ⟨0, 0, 0, 0⟩, 0, Nn.zero, [], z32P⟩ := ⟨_, rfl⟩
  have HYK := Bx.mk hyk
  have hbk : Try.prog.built 33 [(0, .int .i64 kk)] = some (pkC yk (.slice none 0 0)) := by rw [hyk]; exact pk_kindB kk
  have HIk : Bx ((Try.prog.info? 33).map (·.size) = some (pkC yk (.slice none 0 0)).size ∧ (pkC yk (.slice none 0 0)).size = zc.size ∧ (pkC yk (.slice none 0 0)).all (·.oneCell') = true) := Bx.mk (by rw [hyk]; exact ⟨pk_infoW _ _ rfl, by rw [HZ.out, pkC_size _ _ rfl], pkC_one _ _ _ _⟩)
  have HnD : Bx ((w1.alloc (.cells zc 33)).heap[D]? = some (.cells zc 33 (0, 0))) := Bx.mk (hnew _ _ _ hD.symm)
  obtain ⟨yc, hyc⟩ : ∃ yc, pkC yk (.slice none 0 0) = yc := ⟨_, rfl⟩
  rw [hyc] at hbk HIk
  go_wp2_with (first | (refine wpList_buildP rfl 33 _ rfl yc (by simp only [List.map_toArray, List.map_cons, List.map_nil]; exact hbk) ?_) | (refine wpList_store_new rfl 33 _ _ rfl D yc zc _ (by rfl) (by rfl) HnD.out HIk.out.2.1 HIk.out.1 HIk.out.2.2 ?_; intro w8 hw8 hr8; have H2 := Bx.mk (PR.begin (kb_ofP hw8) hr8 hyc H1.out hD HqB.out HB.out); have hc0 := H2.out.ptr; clear hw8 hr8))
  clear H1 hD hbk HIk HnD hyc hyk HqB
  skip -- M1
  refine (read_any q (r1P p) w8 H2.out.rd HL.out.2.1).mono ?_
  rintro e w2 ⟨rfl, hr, hg⟩
  have H3 := Bx.mk (H2.out.read (p1 := r2P p) hr hg)
  clear hr hg H2 hc0
  have HT0 : Bx (yk.t.length = 32) := Bx.mk (by rw [HYK.out]; rfl)
  unfold clV
  obtain ⟨cc, hcc⟩ : ∃ cc, rdC (r1P p) = cc := ⟨_, rfl⟩
  have HCC := Bx.mk hcc
  rw [hcc]
  clear hcc
  have HTh := Bx.mk (there_row H3.out.pk 1 (clC cc).size (by rw [pkC_size _ _ (by exact HT0.out)]; show 1 + 4 ≤ 41; decide))
  have HSt : Bx ((w2.setCells D 1 (clC cc).toList).heap[D]? = some (.cells (pkC { yk with c := cc } (.slice none 0 0)) 33 (0, 0))) := Bx.mk (by rw [heap_setCells_same D 33 _ 1 w2 _ H3.out.pk]; rw [pk_setC])
  have H4 : Bx (PR w B q D zc { yk with c := cc } (.slice none 0 0) _ (w2.setCells D 1 (clC cc).toList)) := Bx.mk (H3.out.put (kb_setCells (b := D) _ _ _) HSt.out)
  have hc0 := H4.out.ptr
  obtain ⟨w3, hw3⟩ : ∃ W, w2.setCells D 1 (clC cc).toList = W := ⟨_, rfl⟩
  rw [hw3] at H4 hc0
  go_wp2_with (refine wpList_store_mid rfl 30 _ _ rfl D 1 (clC cc) (by rfl) (by rfl) HTh.out (by kernel_rfl) (by simp [clC, Value.oneCell']) ?_; rw [hw3])
  clear hw3
  clear H3 HTh HSt
  refine (rnum_any q 1 (r2P p).1 (r2P p).2 w3 H4.out.rd HL.out.2.2.1 (by omega)).mono ?_
  rintro e w4 ⟨rfl, hr, hg⟩
  have H5 := Bx.mk (H4.out.read (p1 := r3P p) hr hg)
  obtain ⟨nn, hnn⟩ : ∃ nn, (getR (r2P p).1 (r2P p).2 1).1.n = nn := ⟨_, rfl⟩
  have HNN : Bx (numR (r2P p) 1 = nn) := Bx.mk hnn
  rw [hnn]
  clear hr hg H4 hc0 hnn
  have hfz : w4.frozen? ⟨D, 5, none⟩ = false := frozen_of_row _ _ _ _ _ H5.out.pk
  have hcl := (pk_at H5.out.pk).to
  go_upto_region 4 with fail
  have H6 : Bx (PR w B q D zc { yk with c := cc, to := nn } (.slice none 0 0) (r3P p) (w4.setCell ⟨D, 5, none⟩ (.int .i64 nn))) := Bx.mk (H5.out.put (kb_setCell (b := D) _ _ _) (by rw [heap_setCell_same w4 D 5 _ 33 _ H5.out.pk, pk_setTo]))
  generalize w4.setCell ⟨D, 5, none⟩ (.int .i64 nn) = w5 at *
  clear H5 hfz hcl
  have hc0 := H6.out.ptr
  go_wp2_with fail
  refine (nread_any q (r3P p) w5 H6.out.rd HL.out.2.2.2.1).mono ?_
  rintro e w6 ⟨rfl, hr, hg⟩
  have H7 := Bx.mk (H6.out.read (p1 := r4P p) hr hg)
  clear hr hg H6 hc0
  unfold nv
  obtain ⟨no, hno⟩ : ∃ no, nrC (r3P p) = no := ⟨_, rfl⟩
  have HNO := Bx.mk hno
  rw [hno]
  clear hno
  have HTh := Bx.mk (there_row H7.out.pk 6 (nnC no).size (by rw [pkC_size _ _ (by exact HT0.out)]; show 6 + 2 ≤ 41; decide))
  have HSt : Bx ((w6.setCells D 6 (nnC no).toList).heap[D]? = some (.cells (pkC { yk with c := cc, to := nn, n := no } (.slice none 0 0)) 33 (0, 0))) := Bx.mk (by rw [heap_setCells_same D 33 _ 6 w6 _ H7.out.pk]; rw [pk_setN])
  have H8 : Bx (PR w B q D zc { yk with c := cc, to := nn, n := no } (.slice none 0 0) _ (w6.setCells D 6 (nnC no).toList)) := Bx.mk (H7.out.put (kb_setCells (b := D) _ _ _) HSt.out)
  have hc0 := H8.out.ptr
  obtain ⟨w7, hw7⟩ : ∃ W, w6.setCells D 6 (nnC no).toList = W := ⟨_, rfl⟩
  rw [hw7] at H8 hc0
  go_wp2_with (refine wpList_store_mid rfl 31 _ _ rfl D 6 (nnC no) (by rfl) (by rfl) HTh.out (by kernel_rfl) (by simp [nnC, Value.oneCell']) ?_; rw [hw7])
  clear hw7
  clear H7 HTh HSt
  refine (rbyt_own q 512 (r4P p).1 (r4P p).2 w7 H8.out.rd HL.out.2.2.2.2.1).mono ?_
  rintro e w9 ⟨u9, rfl, ho, hr, hg⟩
  have H9 := Bx.mk (And.intro (H8.out.read (p1 := r5P p) hr hg) (ho.weak (show D + 1 ≤ w7.heap.size from H8.out.dlt)))
  obtain ⟨bb, hbb⟩ : ∃ bb, (bytR (r4P p).1 (r4P p).2 512).1 = bb := ⟨_, rfl⟩
  have HBB := Bx.mk hbb
  rw [hbb] at ho H9
  obtain ⟨a9, c9, hv9⟩ := own_form ho
  subst hv9
  clear ho hr hg H8 hc0 hbb
  have hfz : w9.frozen? ⟨D, 8, none⟩ = false := frozen_of_row _ _ _ _ _ H9.out.1.pk
  have hcl := (pk_at H9.out.1.pk).b
  go_upto_region 6 with fail
  have HA := Bx.mk (And.intro (show PR w B q D zc { yk with c := cc, to := nn, n := no, b := bb } (.slice a9 bb.length c9) (r5P p) (w9.setCell ⟨D, 8, none⟩ (.slice a9 bb.length c9)) from H9.out.1.put (kb_setCell (b := D) _ _ _) (by rw [heap_setCell_same w9 D 8 _ 33 _ H9.out.1.pk, pk_setB _ _ _ bb])) (H9.out.2.kept (kb_setCell (b := D) w9 8 (.slice a9 bb.length c9)) (fun e => by have := (H9.out.2.lt _ e).2; omega)))
  generalize w9.setCell ⟨D, 8, none⟩ (.slice a9 bb.length c9) = wa at *
  clear H9 hfz hcl
  go_wp2_with (refine wpList_load_row rfl 67 _ rfl B (by rfl) _ _ _ _ HA.out.1.box Try.underlying67 rfl (by kernel_rfl) ?_)
  refine (rtagB14 q (r5P p) wa HA.out.1.rd HL.out.2.2.2.2.2).mono ?_
  rintro e wb ⟨rfl, hr, hg⟩
  have HBs := Bx.mk (And.intro (HA.out.1.read (p1 := r6P p) hr hg) (HA.out.2.kept hg (fun e => by have := (HA.out.2.lt _ e).2; have h1 := HA.out.1.lt; have h2 := HA.out.1.qlt; omega)))
  clear hr hg HA
  have HTL := Bx.mk (tgT_length (r5P p) 32)
  have HX : Bx (X = { yk with c := cc, to := nn, n := no, b := bb, t := tgT (r5P p) 32 }) := Bx.mk (by rw [← HXX.out, HYK.out]; unfold rdX; rw [HKK.out, HCC.out, HNN.out, HNO.out, HBB.out])
  clear HXX
  generalize tgT (r5P p) 32 = tt at *
  have HTh := Bx.mk (there_row HBs.out.1.pk 9 (u8s tt).size (by rw [pkC_size _ _ (by exact HT0.out), u8s_size, HTL.out]; decide))
  have HSt : Bx ((wb.setCells D 9 (u8s tt).toList).heap[D]? = some (.cells (pkC { yk with c := cc, to := nn, n := no, b := bb, t := tt } (.slice a9 bb.length c9)) 33 (0, 0))) := Bx.mk (by rw [heap_setCells_same D 33 _ 9 wb _ HBs.out.1.pk, pk_setT _ _ _ (by exact HT0.out) HTL.out])
  have HSk : Bx ((Try.prog.info? 27).map (·.size) = some (u8s tt).size) := Bx.mk (by rw [u8s_size, HTL.out]; kernel_rfl)
  go_upto_region 7 with (refine wpList_store_mid rfl 27 _ _ rfl D 9 (u8s tt) (by rfl) (by rfl) HTh.out HSk.out (one_u8s _) ?_)
  have HC := Bx.mk (And.intro (HBs.out.1.put (kb_setCells (b := D) _ _ _) HSt.out) (HBs.out.2.kept (kb_setCells (b := D) (u8s tt).toList 9 wb) (fun e => by have := (HBs.out.2.lt _ e).2; omega)))
  generalize wb.setCells D 9 (u8s tt).toList = wc at *
  clear HBs HTh HSt HSk
  have HJ : Bx ((Try.prog.info? 33).map (·.size) = some (pkC { yk with c := cc, to := nn, n := no, b := bb, t := tt } (.slice a9 bb.length c9)).size ∧ (pkC { yk with c := cc, to := nn, n := no, b := bb, t := tt } (.slice a9 bb.length c9)).size = zc.size ∧ (pkC { yk with c := cc, to := nn, n := no, b := bb, t := tt } (.slice a9 bb.length c9)).all (·.oneCell') = true) := Bx.mk ⟨pk_infoW _ _ HTL.out, by rw [HZ.out, pkC_size _ _ HTL.out], pkC_one _ _ _ _⟩
  have HYB : Bx (X.b = bb) := Bx.mk (by rw [HX.out])
  rw [← HX.out] at HC HJ
  clear HX HYK HKK HCC HNN HNO HBB HT0 HTL
  obtain ⟨tz, htz⟩ : ∃ tz, pkC X (.slice a9 bb.length c9) = tz := ⟨_, rfl⟩
  have HTZ := Bx.mk htz
  have HPk : Bx (wc.heap[D]? = some (.cells tz 33 (0, 0))) := Bx.mk (by rw [← htz]; exact HC.out.1.pk)
  rw [htz] at HJ
  clear htz
  go_wp2_with (first | (refine wpList_load_row rfl 33 _ rfl D (by rfl) _ _ _ _ HPk.out Try.underlying33 rfl HJ.out.1 ?_) | (refine wpList_store_new rfl 33 _ _ rfl (B + 1) tz zc _ (by rfl) (by rfl) HC.out.1.res HJ.out.2.1 HJ.out.1 HJ.out.2.2 ?_; intro wd hw8 hr8; have hg8 := Bx.mk (kb_ofP hw8); have HR8 := Bx.mk hr8; clear hw8 hr8))
  have HE := Bx.mk (And.intro ((HC.out.2.kept hg8.out (fun e => by have := (HC.out.2.lt _ e).2; have := HC.out.1.lt; omega)).weak (show B ≤ D + 1 by have := HC.out.1.lt; omega)) (And.intro (HC.out.1.rd.asideT HC.out.1.res (by decide) hg8.out (by have := HC.out.1.qlt; omega)) (kb_new HC.out.1.gr hg8.out (by have := HB.out; omega))))
  refine bodyPost_ret (results_cell_row rfl _ _ (B + 1) _ tz _ _ rfl HR8.out Try.underlying33 rfl HJ.out.1) rfl ?_
  exact ⟨_, by rw [← HTZ.out]; rfl, by rw [HYB.out]; exact HE.out.1, HE.out.2⟩
end Go.Proofs.Ytaoekfomffebhaa
namespace Go.Proofs.Ytaoekfomffebhaa
open Go Go.ChangeShapes Go.WideShapes Go.ChangeAt Go.RowKit
/-- What Parse tells. -/
def psE14 (b : List UInt8) : Int := if (r6P (b, 0)).2 ≠ 0 then (r6P (b, 0)).2 else if kindB (rdX (b, 0)).k = false then 13 else if chkP (rdX (b, 0)) ≠ 0 then 3 else if 0 < (r6P (b, 0)).1.length then 3 else 0
def psX (b : List UInt8) : Pk := if psE14 b = 0 then rdX (b, 0) else Pk.zero
/-- What holds behind the reading. -/
structure PP (w : World) (B R q D : Nat) (zc : Array Value) (x : Pk) (u : Value) (p : List UInt8 × Int) (W : World) : Prop where
  res : W.heap[B]? = some (.cells zc 33 (0, 0))
  box : W.heap[R]? = some (.cells #[.pointer (some ⟨q, 0, none⟩)] 67 (0, 0))
  pk : W.heap[D]? = some (.cells (pkC x u) 33 (0, 0))
  rd : IsR W q p.1 p.2
  body : OwnB W (B + 1) u x.b
  below : Below B w W
  lt : B < W.heap.size
theorem PP.later {w : World} {B R q D : Nat} {zc : Array Value} {x : Pk} {u : Value} {p : List UInt8 × Int} {W W1 : World} (h : PP w B R q D zc x u p W) (hb : Below W.heap.size W W1) : PP w B R q D zc x u p W1 :=
  ⟨(hb.block B (Array.getElem?_eq_some_iff.1 h.res).1).trans h.res, (hb.block R (Array.getElem?_eq_some_iff.1 h.box).1).trans h.box, (hb.block D (Array.getElem?_eq_some_iff.1 h.pk).1).trans h.pk, h.rd.later hb, h.body.later hb (fun g hg => (h.body.lt g hg).1), h.below.trans (hb.mono (Nat.le_of_lt h.lt)), Nat.lt_of_lt_of_le h.lt hb.size⟩
theorem PP.ptr {w : World} {B R q D : Nat} {zc : Array Value} {x : Pk} {u : Value} {p : List UInt8 × Int} {W : World} (h : PP w B R q D zc x u p W) : W.cell? ⟨R, 0, none⟩ = some (.pointer (some ⟨q, 0, none⟩)) := by rw [cell_of_row _ _ _ _ _ _ h.box]; rfl
/-- The result's cell is set: what the body was stays. -/
theorem PP.fin {w : World} {B R q D : Nat} {zc : Array Value} {x : Pk} {u : Value} {p : List UInt8 × Int} {W W1 : World} (h : PP w B R q D zc x u p W) (hg : W.grownBy W1 (some B)) : OwnB W1 B u x.b ∧ Below B w W1 :=
  ⟨(h.body.kept hg (fun e => by have := (h.body.lt _ e).2; omega)).weak (by omega), h.below.trans (grown_below hg (Nat.le_refl _) (Nat.le_of_lt h.lt))⟩
/-- What is read is put into a block of its own. -/
theorem PP.begin {w w3 w4 w5 : World} {B R q D : Nat} {zc tz : Array Value} {x : Pk} {u : Value} {p : List UInt8 × Int} (h : (w3.heap[B]? = some (.cells zc 33 (0, 0)) ∧ w3.heap[R]? = some (.cells #[.pointer (some ⟨q, 0, none⟩)] 67 (0, 0)) ∧ Below B w w3 ∧ B < q ∧ q < R)) (hr : IsR w4 q p.1 p.2) (hg : w3.grownBy w4 (some q)) (ho : OwnB w4 w3.heap.size u x.b) (hD : w4.heap.size = D) (htz : pkC x u = tz) (hg8 : (w4.alloc (.cells zc 33)).grownBy w5 (some D)) (hr8 : w5.heap[D]? = some (.cells tz 33 (0, 0))) : PP w B R q D zc x u p w5 := by
  obtain ⟨h1, h2, h3, h4, h5⟩ := h
  have hb1 := (Array.getElem?_eq_some_iff.1 h1).1
  have hr1 := (Array.getElem?_eq_some_iff.1 h2).1
  have hb := below_a (W := w4) (.cells zc 33)
  have hs := hg.size
  have hn : (w4.alloc (.cells zc 33)).heap[D]? = some (.cells zc 33 (0, 0)) := hnew _ _ _ hD.symm
  have hs4 : w4.heap.size ≤ (w4.alloc (.cells zc 33)).heap.size := hb.size
  refine ⟨?_, ?_, by rw [htz]; exact hr8, ((hr.later hb).asideT hn (by decide) hg8 (by have := hr.lt; omega)), ?_, ?_, by have := hg8.size; omega⟩
  · rw [hg8.block B (by omega) (fun e => by injection e with e; omega), hb.block B (by omega), hg.block B hb1 (fun e => by injection e with e; omega)]
    exact h1
  · rw [hg8.block R (by omega) (fun e => by injection e with e; omega), hb.block R (by omega), hg.block R hr1 (fun e => by injection e with e; omega)]
    exact h2
  · exact ((own_a ho _).kept hg8 (fun e => by have := (ho.lt _ e).1; omega)).weak (by omega)
  · exact ((h3.trans (grown_below hg (by omega) (by omega))).trans (hb.mono (by omega))).trans (grown_below hg8 (by omega) (by omega))
set_option maxRecDepth 100000 in
set_option maxHeartbeats 4000000 in
theorem parse14 (b : List UInt8) (v : Value) (w : World) (hv : Bytes w v b) (hl : b.length ≤ 1024) :
    Calls Try.prog 13 #[v] w fun e w' => ∃ u, e = .returned (.tuple #[pkV (psX b) u, .int .i64 (psE14 b)]) ∧ OwnB w' w.heap.size u (psX b).b ∧ Below w.heap.size w w' := by
  obtain ⟨a0, c0, rfl, -, -⟩ := bytes_form hv
  obtain ⟨zc, hzc⟩ : ∃ zc, pkC Pk.zero (.slice none 0 0) = zc := ⟨_, rfl⟩
  have hzv : ∀ W : World, (zeroValue 33).run Try.prog W = .ok (.agg zc) W := fun W => by rw [← hzc]; exact pk_zeroW W
  have hbz : Try.prog.built 33 [] = some zc := by rw [← hzc]; exact pk_noneW
  have HI : Bx ((Try.prog.info? 33).map (·.size) = some zc.size) := Bx.mk (by rw [← hzc]; exact pk_infoW _ _ rfl)
  have HO : Bx (zc.all (·.oneCell') = true) := Bx.mk (by rw [← hzc]; exact pkC_one _ _ _ _)
  have HZ := Bx.mk (show zc.size = 41 by rw [← hzc, pkC_size _ _ rfl])
  have HZC := Bx.mk hzc
  obtain ⟨B, hB⟩ : ∃ B, w.heap.size = B := ⟨_, rfl⟩
  have K0 := Bx.mk ((KP.start w B hB).new (.cells zc 33))
  rw [hB] at K0
  have HNe := Bx.mk (new_ok b _ (w.alloc (.cells zc 33)) (hv.old hB K0.out.below) hl)
  have HRp := Bx.mk fun (q : Nat) (W : World) (h : IsR W q b 0) => rpacket14 q (b, 0) W h (show b.length ≤ 5000 by omega)
  have HTL := Bx.mk (show (rdX (b, 0)).t.length = 32 from tgT_length _ _)
  obtain ⟨E, hE⟩ : ∃ E, psE14 b = E := ⟨_, rfl⟩
  obtain ⟨Y, hY⟩ : ∃ Y, psX b = Y := ⟨_, rfl⟩
  have HE : Bx (E = if (r6P (b, 0)).2 ≠ 0 then (r6P (b, 0)).2 else if kindB (rdX (b, 0)).k = false then 13 else if chkP (rdX (b, 0)) ≠ 0 then 3 else if 0 < (r6P (b, 0)).1.length then 3 else 0) := Bx.mk hE.symm
  have HY : Bx (Y = if E = 0 then rdX (b, 0) else Pk.zero) := Bx.mk (by rw [← hY, ← hE]; rfl)
  rw [hE, hY, hB]
  generalize rdX (b, 0) = X at *
  generalize r6P (b, 0) = p6 at *
  clear hzc hv hl hE hY
  go_enter Try.func13, Try.ntmps13
  go_wp2_with fail
  generalize w.alloc (.cells zc 33) = w0 at *
  refine HNe.out.mono ?_
  rintro e w1 ⟨rfl, hr1, hb1⟩
  obtain ⟨q, hq⟩ : ∃ q, w0.heap.size = q := ⟨_, rfl⟩
  have hBq : B < q := by rw [← hq]; exact K0.out.lt (.head _)
  rw [hq] at hr1 ⊢
  have H1 := Bx.mk (And.intro (K0.out.later hb1) (And.intro hr1 hBq))
  clear hr1 hb1 K0 HNe hq hBq
  obtain ⟨R, hR⟩ : ∃ R, w1.heap.size = R := ⟨_, rfl⟩
  have HqR : Bx (q < R) := Bx.mk (by rw [← hR]; exact H1.out.2.1.lt)
  have H3 : Bx (((w1.alloc (.cells #[.pointer (some ⟨q, 0, none⟩)] 67)).heap[B]? = some (.cells zc 33 (0, 0)) ∧ (w1.alloc (.cells #[.pointer (some ⟨q, 0, none⟩)] 67)).heap[R]? = some (.cells #[.pointer (some ⟨q, 0, none⟩)] 67 (0, 0)) ∧ Below B w (w1.alloc (.cells #[.pointer (some ⟨q, 0, none⟩)] 67)) ∧ B < q ∧ q < R) ∧ IsR (w1.alloc (.cells #[.pointer (some ⟨q, 0, none⟩)] 67)) q b 0) := Bx.mk (by
    obtain ⟨k1, k2, k3⟩ := H1.out
    have k4 := k1.new (.cells #[.pointer (some ⟨q, 0, none⟩)] 67)
    rw [hR] at k4
    exact ⟨⟨k4.rows _ (.tail _ (.head _)), k4.rows _ (.head _), k4.below, k3, HqR.out⟩, k2.later (below_a _)⟩)
  clear H1
  go_wp2_with fail
  generalize w1.alloc (.cells #[.pointer (some ⟨q, 0, none⟩)] 67) = w3 at *
  skip -- M1
  refine (HRp.out q w3 H3.out.2).mono ?_
  rintro e w4 ⟨u4, rfl, ho4, hr4, hg4⟩
  obtain ⟨a4, c4, hv4⟩ := own_form ho4
  subst hv4
  obtain ⟨D, hD⟩ : ∃ D, w4.heap.size = D := ⟨_, rfl⟩
  have H4 := Bx.mk fun (W : World) (tz : Array Value) (htz : pkC X (.slice a4 X.b.length c4) = tz) (hg : (w4.alloc (.cells zc 33)).grownBy W (some D)) (hw : W.heap[D]? = some (.cells tz 33 (0, 0))) => PP.begin H3.out.1 hr4 hg4 ho4 hD htz hg hw
  have HnD : Bx ((w4.alloc (.cells zc 33)).heap[D]? = some (.cells zc 33 (0, 0))) := Bx.mk (hnew _ _ _ hD.symm)
  have HJ : Bx ((Try.prog.info? 33).map (·.size) = some (pkC X (.slice a4 X.b.length c4)).size ∧ (pkC X (.slice a4 X.b.length c4)).size = zc.size ∧ (pkC X (.slice a4 X.b.length c4)).all (·.oneCell') = true) := Bx.mk ⟨pk_infoW _ _ HTL.out, by rw [HZ.out, pkC_size _ _ HTL.out], pkC_one _ _ _ _⟩
  have HCk : Bx (∀ W, Bytes W (.slice a4 X.b.length c4) X.b → Calls Try.prog 9 #[pkV X (.slice a4 X.b.length c4)] W fun e w' => e = .returned (.int .i64 (chkP X)) ∧ Below W.heap.size W w') := Bx.mk fun W h => check14 X _ W HTL.out h
  unfold pkV at HCk
  unfold pkV
  obtain ⟨tz, htz⟩ : ∃ tz, pkC X (.slice a4 X.b.length c4) = tz := ⟨_, rfl⟩
  have HTZ := Bx.mk htz
  rw [htz] at HJ HCk ⊢
  clear hr4 hg4 ho4 H3 HRp HqR hR htz
  go_wp2_with (refine wpList_store_new rfl 33 _ _ rfl D tz zc _ (by rfl) (by rfl) HnD.out HJ.out.2.1 HJ.out.1 HJ.out.2.2 ?_; intro w5 hw8 hr8; have H5 := Bx.mk (H4.out w5 tz HTZ.out (kb_ofP hw8) hr8); have hc0 := H5.out.ptr; clear hw8 hr8)
  clear H4 HnD hD
  skip -- M2
  refine (rerr_any q _ p6.2 w5 H5.out.rd).mono ?_
  rintro e w6 ⟨rfl, rfl⟩
  by_cases he : p6.2 = 0
  · rw [he]
    have k0 := (pk_at H5.out.pk).k
    cases hk : kindB X.k with
    | false =>
      obtain rfl : E = 13 := by rw [HE.out, if_neg (by simp [he]), if_pos hk]
      go_wp2_with fail
      refine (iskind14 X.k _ hk w6).mono ?_
      rintro e w7 ⟨rfl, rfl⟩
      go_wp2_with (first | (refine wpList_buildP rfl 33 _ rfl zc (by exact hbz) ?_) | (refine wpList_store_new rfl 33 _ _ rfl B zc zc _ (by rfl) (by rfl) H5.out.res rfl HI.out HO.out ?_; intro w8 hw8 hr8; have hg8 := Bx.mk (kb_ofP hw8); have HR8 := Bx.mk hr8; clear hw8 hr8))
      obtain rfl : Y = Pk.zero := by rw [HY.out, if_neg (by decide)]
      refine bodyPost_ret (results_pair rfl _ _ _ B _ rfl (run_loadVar_row _ B _ _ _ _ _ HR8.out Try.underlying33 rfl HI.out)) rfl ?_
      exact ⟨.slice none 0 0, by rw [← HZC.out]; rfl, OwnB.nil _ _, (H5.out.fin hg8.out).2⟩
    | true =>
      go_wp2_with fail
      refine (iskind14 X.k _ hk w6).mono ?_
      rintro e w7 ⟨rfl, rfl⟩
      clear k0
      have HPk : Bx (w6.heap[D]? = some (.cells tz 33 (0, 0))) := Bx.mk (by rw [← HTZ.out]; exact H5.out.pk)
      go_wp2_with (refine wpList_load_row rfl 33 _ rfl D (by rfl) _ _ _ _ HPk.out Try.underlying33 rfl HJ.out.1 ?_)
      refine (HCk.out w6 H5.out.body.bytes).mono ?_
      rintro e w9 ⟨rfl, hb9⟩
      have H9 := Bx.mk (H5.out.later hb9)
      clear hb9 H5 hc0 HPk HCk
      by_cases hc : chkP X = 0
      · rw [hc]
        have hc0 := H9.out.ptr
        go_wp2_with fail
        refine (left_any q p6.1 p6.2 w9 H9.out.rd).mono ?_
        rintro e wa ⟨rfl, rfl⟩
        by_cases hlf : 0 < p6.1.length
        · have hlf1 : (0 : Int) < (p6.1.length : Int) := by omega
          obtain rfl : E = 3 := by rw [HE.out, if_neg (by simp [he]), if_neg (by simp [hk]), if_neg (by simp [hc]), if_pos hlf]
          go_wp2_with (first | (refine wpList_buildP rfl 33 _ rfl zc (by exact hbz) ?_) | (refine wpList_store_new rfl 33 _ _ rfl B zc zc _ (by rfl) (by rfl) H9.out.res rfl HI.out HO.out ?_; intro w8 hw8 hr8; have hg8 := Bx.mk (kb_ofP hw8); have HR8 := Bx.mk hr8; clear hw8 hr8))
          obtain rfl : Y = Pk.zero := by rw [HY.out, if_neg (by decide)]
          refine bodyPost_ret (results_pair rfl _ _ _ B _ rfl (run_loadVar_row _ B _ _ _ _ _ HR8.out Try.underlying33 rfl HI.out)) rfl ?_
          exact ⟨.slice none 0 0, by rw [← HZC.out]; rfl, OwnB.nil _ _, (H9.out.fin hg8.out).2⟩
        · have hlf1 : ¬ (0 : Int) < (p6.1.length : Int) := by omega
          obtain rfl : E = 0 := by rw [HE.out, if_neg (by simp [he]), if_neg (by simp [hk]), if_neg (by simp [hc]), if_neg hlf]
          obtain rfl : Y = X := by rw [HY.out, if_pos rfl]
          have HPk : Bx (wa.heap[D]? = some (.cells tz 33 (0, 0))) := Bx.mk (by rw [← HTZ.out]; exact H9.out.pk)
          go_wp2_with (first | (refine wpList_load_row rfl 33 _ rfl D (by rfl) _ _ _ _ HPk.out Try.underlying33 rfl HJ.out.1 ?_) | (refine wpList_store_new rfl 33 _ _ rfl B tz zc _ (by rfl) (by rfl) H9.out.res HJ.out.2.1 HJ.out.1 HJ.out.2.2 ?_; intro w8 hw8 hr8; have hg8 := Bx.mk (kb_ofP hw8); have HR8 := Bx.mk hr8; clear hw8 hr8))
          refine bodyPost_ret (results_pair rfl _ _ _ B _ rfl (run_loadVar_row _ B _ _ _ _ _ HR8.out Try.underlying33 rfl HJ.out.1)) rfl ?_
          exact ⟨_, by rw [← HTZ.out]; rfl, H9.out.fin hg8.out⟩
      · obtain rfl : E = 3 := by rw [HE.out, if_neg (by simp [he]), if_neg (by simp [hk]), if_pos hc]
        generalize chkP X = ck at *
        go_wp2_with (first | (refine wpList_buildP rfl 33 _ rfl zc (by exact hbz) ?_) | (refine wpList_store_new rfl 33 _ _ rfl B zc zc _ (by rfl) (by rfl) H9.out.res rfl HI.out HO.out ?_; intro w8 hw8 hr8; have hg8 := Bx.mk (kb_ofP hw8); have HR8 := Bx.mk hr8; clear hw8 hr8))
        obtain rfl : Y = Pk.zero := by rw [HY.out, if_neg (by decide)]
        refine bodyPost_ret (results_pair rfl _ _ _ B _ rfl (run_loadVar_row _ B _ _ _ _ _ HR8.out Try.underlying33 rfl HI.out)) rfl ?_
        exact ⟨.slice none 0 0, by rw [← HZC.out]; rfl, OwnB.nil _ _, (H9.out.fin hg8.out).2⟩
  · obtain rfl : E = p6.2 := by rw [HE.out, if_pos he]
    have HEn := Bx.mk he
    generalize hpe : p6.2 = er at *
    go_wp2_with (first | (refine wpList_buildP rfl 33 _ rfl zc (by exact hbz) ?_) | (refine wpList_store_new rfl 33 _ _ rfl B zc zc _ (by rfl) (by rfl) H5.out.res rfl HI.out HO.out ?_; intro w8 hw8 hr8; have hg8 := Bx.mk (kb_ofP hw8); have HR8 := Bx.mk hr8; clear hw8 hr8))
    refine (rerr_any q p6.1 er w6 (by have := H5.out.rd; rw [hpe] at this; exact this)).mono ?_
    rintro e w7 ⟨rfl, rfl⟩
    go_wp2_with (first | (refine wpList_buildP rfl 33 _ rfl zc (by exact hbz) ?_) | (refine wpList_store_new rfl 33 _ _ rfl B zc zc _ (by rfl) (by rfl) H5.out.res rfl HI.out HO.out ?_; intro w8 hw8 hr8; have hg8 := Bx.mk (kb_ofP hw8); have HR8 := Bx.mk hr8; clear hw8 hr8))
    obtain rfl : Y = Pk.zero := by rw [HY.out, if_neg (by exact HEn.out)]
    refine bodyPost_ret (results_pair rfl _ _ _ B _ rfl (run_loadVar_row _ B _ _ _ _ _ HR8.out Try.underlying33 rfl HI.out)) rfl ?_
    exact ⟨.slice none 0 0, by rw [← HZC.out]; rw [hpe]; rfl, OwnB.nil _ _, (H5.out.fin hg8.out).2⟩
end Go.Proofs.Ytaoekfomffebhaa
namespace Go.Proofs.Ytaoekfomffebhaa
open Go Go.RowKit
theorem step_fwd (n s : Int) (more : List UInt8) (hs : s = 0 ∨ s = 1 ∨ s = 2) (h0 : 0 ≤ n) (h : n < 256 ^ wid s) : stepR (beN (wid s) n.toNat ++ more, 0) s = (more, 0) ∧ numR (beN (wid s) n.toNat ++ more, 0) s = n := by
  have hl : wid s ≤ (beN (wid s) n.toNat ++ more).length := by rw [List.length_append, beN_length]; omega
  rw [stepR_long _ s hs hl, numR_long _ s hs hl, List.drop_left' (beN_length _ _), List.take_left' (beN_length _ _)]
  exact ⟨rfl, val_at n (wid s) h0 h⟩
theorem nr_fwd (n : Nn) (more : List UInt8) (h : okN n = true) : nrR (nB n ++ more, 0) = (more, 0) ∧ nrC (nB n ++ more, 0) = n := by
  have hh := (okN_iff n).1 h
  have e : nB n ++ more = beN (wid 1) n.b.toNat ++ (beN (wid 2) n.c.toNat ++ more) := by unfold nB; rw [List.append_assoc]; rfl
  have s1 := step_fwd n.b 1 (beN (wid 2) n.c.toNat ++ more) (by omega) (by omega) (by show n.b < 256 ^ 2; omega)
  have s2 := step_fwd n.c 2 more (by omega) (by omega) (by show n.c < 256 ^ 4; omega)
  have r : nrR (nB n ++ more, 0) = (more, 0) := by unfold nrR; rw [e, s1.1, s2.1]
  have k : nrN (nB n ++ more, 0) = n := by
    unfold nrN
    rw [e, s1.2, s1.1, s2.2]
  refine ⟨r, ?_⟩
  have he : nrE (nB n ++ more, 0) = 0 := by
    unfold nrE
    rw [r, k, if_neg (by simp), if_pos h]
  unfold nrC
  rw [if_pos he, k]
theorem byt_fwd (b more : List UInt8) (h : b.length ≤ 512) : bytR (beN 2 b.length ++ (b ++ more)) 0 512 = (b, (more, 0)) := by
  have ht : (beN 2 b.length ++ (b ++ more)).take 2 = beN 2 b.length := List.take_left' (beN_length _ _)
  have hd : (beN 2 b.length ++ (b ++ more)).drop 2 = b ++ more := List.drop_left' (beN_length _ _)
  have hv : valN (beN 2 b.length) = b.length := by rw [valN_beN]; exact Nat.mod_eq_of_lt (by omega)
  have hl : (beN 2 b.length ++ (b ++ more)).length = 2 + (b.length + more.length) := by rw [List.length_append, beN_length, List.length_append]
  have hg : getR (beN 2 b.length ++ (b ++ more)) 0 4 = (⟨4, 0, b⟩, more, 0) := by
    unfold getR getF
    rw [if_neg (by simp), if_neg (by omega), if_pos rfl, if_neg (by omega), ht, hv, if_neg (by omega), if_neg (by omega), hd, List.take_left' rfl, List.drop_left' rfl]
  unfold bytR
  rw [hg]
  simp only
  rw [if_neg (by omega)]
theorem tgT_all (p : List UInt8 × Int) : tgT p 32 = (List.range 32).map (tgB p) := by
  unfold tgT
  apply List.map_congr_left
  intro j hj
  rw [if_pos (List.mem_range.1 hj)]
theorem tg_fwd (t more : List UInt8) (k : Nat) (hk : k ≤ t.length) : stT (t ++ more, 0) k = (t.drop k ++ more, 0) := by
  induction k with
  | zero => rfl
  | succ k ih =>
    show stepR (stT (t ++ more, 0) k) 0 = _
    rw [ih (by omega), stepR_long _ 0 (by omega) (by rw [List.length_append, List.length_drop]; show 1 ≤ _; omega), show wid 0 = 1 from rfl]
    rw [List.drop_append_of_le_length (by rw [List.length_drop]; omega), List.drop_drop]
theorem tgB_fwd (t more : List UInt8) (k : Nat) (hk : k < t.length) : tgB (t ++ more, 0) k = t.getD k 0 := by
  unfold tgB
  rw [tg_fwd t more k (by omega), numR_long _ 0 (by omega) (by rw [List.length_append, List.length_drop]; show 1 ≤ _; omega), show wid 0 = 1 from rfl]
  rw [List.take_append_of_le_length (by rw [List.length_drop]; omega)]
  have e : (t.drop k).take 1 = [t.getD k 0] := by
    rw [List.drop_eq_getElem_cons hk, List.getD_eq_getElem?_getD, List.getElem?_eq_getElem hk]
    rfl
  rw [e]
  show UInt8.ofNat ((((0 * 256 + (t.getD k 0).toNat : Nat) : Int)).toNat % 256) = _
  rw [Int.toNat_natCast]
  have := (t.getD k 0).toNat_lt
  exact UInt8.toNat_inj.mp (by rw [UInt8.toNat_ofNat']; omega)
theorem tgT_fwd (t more : List UInt8) (ht : t.length = 32) : tgT (t ++ more, 0) 32 = t := by
  apply ext_getD
  · rw [tgT_length, ht]
  · intro i hi
    rw [tgT_length] at hi
    rw [tgT_all, List.getD_eq_getElem?_getD, List.getElem?_map, List.getElem?_range hi]
    exact tgB_fwd t more i (by omega)
/-- A right packet's bytes are read as the packet. -/
theorem parse_fwd (x : Pk) (hc : chkP x = 0) (ht : x.t.length = 32) : psE14 (pkB x) = 0 ∧ psX (pkB x) = x := by
  obtain ⟨g1, g2, g3, g4, g5, -⟩ := chkP_ok hc
  have k1 := (kindB_iff _).1 g1
  have k3 := (placeB_iff _).1 g3
  have e : pkB x = beN (wid 0) x.k.toNat ++ (clB x.c ++ (beN (wid 1) x.to.toNat ++ (nB x.n ++ (beN 2 x.b.length ++ (x.b ++ (x.t ++ [])))))) := by
    unfold pkB hdB
    simp only [List.append_assoc, List.append_nil]
    rfl
  have s1 := step_fwd x.k 0 (clB x.c ++ (beN (wid 1) x.to.toNat ++ (nB x.n ++ (beN 2 x.b.length ++ (x.b ++ (x.t ++ [])))))) (by omega) (by omega) (by show x.k < 256 ^ 1; omega)
  have s2 := rd_clB x.c (beN (wid 1) x.to.toNat ++ (nB x.n ++ (beN 2 x.b.length ++ (x.b ++ (x.t ++ []))))) g2
  have s3 := step_fwd x.to 1 (nB x.n ++ (beN 2 x.b.length ++ (x.b ++ (x.t ++ [])))) (by omega) (by omega) (by show x.to < 256 ^ 2; omega)
  have s4 := nr_fwd x.n (beN 2 x.b.length ++ (x.b ++ (x.t ++ []))) g4
  have s5 := byt_fwd x.b (x.t ++ []) g5
  have s6 := tg_fwd x.t [] 32 (by omega)
  have q1 : r1P (pkB x, 0) = (clB x.c ++ (beN (wid 1) x.to.toNat ++ (nB x.n ++ (beN 2 x.b.length ++ (x.b ++ (x.t ++ []))))), 0) := by unfold r1P; rw [e]; exact s1.1
  have q2 : r2P (pkB x, 0) = (beN (wid 1) x.to.toNat ++ (nB x.n ++ (beN 2 x.b.length ++ (x.b ++ (x.t ++ [])))), 0) := by unfold r2P; rw [q1]; exact s2.2.2
  have q3 : r3P (pkB x, 0) = (nB x.n ++ (beN 2 x.b.length ++ (x.b ++ (x.t ++ []))), 0) := by unfold r3P; rw [q2]; exact s3.1
  have q4 : r4P (pkB x, 0) = (beN 2 x.b.length ++ (x.b ++ (x.t ++ [])), 0) := by unfold r4P; rw [q3]; exact s4.1
  have q5 : r5P (pkB x, 0) = (x.t ++ [], 0) := by unfold r5P; rw [q4, s5]
  have q6 : r6P (pkB x, 0) = ([], 0) := by unfold r6P; rw [q5, s6, List.drop_of_length_le (by omega)]; rfl
  have hX : rdX (pkB x, 0) = x := by
    apply Pk.ext'
    · show numR (pkB x, 0) 0 = x.k
      rw [e]; exact s1.2
    · show rdC (r1P (pkB x, 0)) = x.c
      rw [q1]; exact s2.2.1
    · show numR (r2P (pkB x, 0)) 1 = x.to
      rw [q2]; exact s3.2
    · show nrC (r3P (pkB x, 0)) = x.n
      rw [q3]; exact s4.2
    · show (bytR (r4P (pkB x, 0)).1 (r4P (pkB x, 0)).2 512).1 = x.b
      rw [q4, s5]
    · show tgT (r5P (pkB x, 0)) 32 = x.t
      rw [q5]; exact tgT_fwd x.t [] ht
  have hE : psE14 (pkB x) = 0 := by
    unfold psE14
    rw [q6, hX, if_neg (by simp), if_neg (by simp [g1]), if_neg (by simp [hc]), if_neg (by simp)]
  exact ⟨hE, by unfold psX; rw [if_pos hE, hX]⟩
end Go.Proofs.Ytaoekfomffebhaa
namespace Go.Proofs.Ytaoekfomffebhaa
open Go Go.ChangeShapes Go.WideShapes Go.ChangeAt Go.RowKit
theorem KP.fresh {w : World} {B A : Nat} {rs : List (Nat × Obj)} {W W1 : World} {o o1 : Obj} (h : KP w B rs W) (hA : W.heap.size = A) (hg : (W.alloc o).grownBy W1 (some A)) (hr : W1.heap[A]? = some o1) : KP w B ((A, o1) :: rs) W1 ∧ Below W.heap.size W W1 := by
  have k := h.new o
  rw [hA] at k
  have hle := h.le
  exact ⟨k.set hg hr (by omega) (fun x hx => by have := h.lt hx; omega), (below_a o).trans (grown_below hg (by omega) (by have := (below_a (W := W) o).size; omega))⟩
/-- How many bytes a packet has. -/
def szP (n : Int) : Int := if 0 ≤ n ∧ n ≤ 512 then 52 + n else 0
set_option maxRecDepth 100000 in
set_option maxHeartbeats 4000000 in
theorem size14 (n : Int) (w : World) : Calls Try.prog 11 #[.int .i64 n] w fun e w' => e = .returned (.int .i64 (szP n)) ∧ w = w' := by
  unfold szP
  by_cases h1 : n < 0
  · rw [if_neg (by omega)]
    go_enter Try.func11, Try.ntmps11
    go_wp2
    go_ret
    exact ⟨rfl, rfl⟩
  · by_cases h2 : 512 < n
    · rw [if_neg (by omega)]
      go_enter Try.func11, Try.ntmps11
      go_wp2
      go_ret
      exact ⟨rfl, rfl⟩
    · rw [if_pos (by omega)]
      have h3 : -9223372036854775808 ≤ 52 + n := by omega
      have h4 : 52 + n ≤ 9223372036854775807 := by omega
      have hw : IntKind.i64.wrap (52 + n) = 52 + n := by simp [IntKind.wrap_i64]; omega
      go_enter Try.func11, Try.ntmps11
      go_wp2
      go_ret
      exact ⟨by first | rfl | (congr 2; omega) | simp [hw], rfl⟩
set_option maxRecDepth 100000 in
set_option maxHeartbeats 4000000 in
theorem rbytes14 (x : Pk) (v : Value) (w : World) (ht : x.t.length = 32) (hb : Bytes w v x.b) (hc : chkP x = 0) : Calls Try.prog 15 #[pkV x v] w fun e w' => ∃ u, e = .returned u ∧ OwnB w' w.heap.size u (pkB x) ∧ Below w.heap.size w w' := by
  obtain ⟨a0, c0, rfl, -, -⟩ := bytes_form hb
  obtain ⟨B, hB⟩ : ∃ B, w.heap.size = B := ⟨_, rfl⟩
  have HHd : Bx (∀ W, Below B w W → Calls Try.prog 16 #[pkV x (.slice a0 x.b.length c0)] W fun e w' => ∃ u, e = .returned u ∧ OwnB w' W.heap.size u (hdB x) ∧ Below W.heap.size W w') := Bx.mk fun W h => rhead14 x _ W ht (hb.old hB h) hc
  have H0 := Bx.mk (PB.new hB 29 x (.slice a0 x.b.length c0))
  have HII : Bx ((Try.prog.info? 29).map (·.size) = some (pkL x (.slice a0 x.b.length c0)).length) := Bx.mk (pk_infoR x (.slice a0 x.b.length c0) ht)
  have HT := Bx.mk ht
  have HL : Bx ((hdB x).length ≤ 600) := Bx.mk (by rw [hdB_length]; have := (chkP_ok hc).2.2.2.2.1; omega)
  unfold pkB
  generalize hdB x = hd at *
  have HRow : Bx (∀ W, PB w B 29 x (.slice a0 x.b.length c0) W → W.heap[B]? = some (.cells (pkL x (.slice a0 x.b.length c0)).toArray 29 (0, 0))) := Bx.mk fun W h => h.row
  obtain ⟨tk, htk⟩ : ∃ tk, pkL x (.slice a0 x.b.length c0) = tk := ⟨_, rfl⟩
  have H0 : Bx (PB w B 29 x (.slice a0 x.b.length c0) (w.alloc (.cells tk.toArray 29))) := by rw [← htk]; exact H0
  unfold pkV pkC at HHd
  unfold pkV pkC
  rw [htk] at HHd HII HRow ⊢
  rw [hB]
  clear hb htk hc ht
  go_enter Try.func15, Try.ntmps15
  go_upto_region 1 with fail
  generalize w.alloc (.cells tk.toArray 29) = w0 at *
  have R0 := Bx.mk (And.intro (H0.out.later (Below.refl _ _).drew) True.intro)
  clear H0
  refine wp_region_noPanic ?_
  refine wp_region_held_drew (S := fun _ => True) (by kernel_rfl) (trivial) (fun hHeld => ?_)
  generalize w0.drew = W0 at *
  refine takeL 2 (v := ?_) rfl (by kernel_rfl) (by kernel_rfl) (by kernel_rfl) (fun _ _ _ h => h) (Or.inl ⟨by rfl, ?_⟩) hHeld ?_
  rotate_left 1
  · (intro w hSw; go_simp; try with_reducible rfl)
  try simp only [Act.put, List.setIfInBounds_toArray, List.set_cons_zero, List.set_cons_succ]
  refine takeL 3 (v := ?_) rfl (by kernel_rfl) (by kernel_rfl) (by kernel_rfl) (fun _ _ _ h => h) (Or.inl ⟨by rfl, ?_⟩) hHeld ?_
  rotate_left 1
  · (intro w hSw; go_simp; try with_reducible rfl)
  try simp only [Act.put, List.setIfInBounds_toArray, List.set_cons_zero, List.set_cons_succ]
  refine stepL 0 (by kernel_rfl) rfl (fun K hK => ?_)
  refine step_ld rfl 29 _ rfl B (by rfl) _ tk.toArray _ (HRow.out W0 R0.out.1) Try.underlying29 rfl HII.out ?_
  refine hK.out _ _ trivial (fun hHeld => ?_)
  clear hK K
  try simp only [Act.put, List.setIfInBounds_toArray, List.set_cons_zero, List.set_cons_succ]
  refine stepL 1 (by kernel_rfl) rfl (fun K hK => ?_)
  go_simp
  refine (HHd.out W0 R0.out.1.below).mono ?_
  rintro e W1 ⟨u1, rfl, ho, hb⟩
  show K _ _
  have R1 := Bx.mk (And.intro (R0.out.1.later hb) (ho.weak (Nat.le_of_lt R0.out.1.lt)))
  obtain ⟨q1, k1, hv⟩ := own_form ho
  subst hv
  clear hb ho R0
  refine hK.out _ _ trivial (fun hHeld => ?_)
  clear hK K
  try simp only [Act.put, List.setIfInBounds_toArray, List.set_cons_zero, List.set_cons_succ]
  refine stepL 4 (by kernel_rfl) rfl (fun K hK => ?_)
  refine step_ap rfl _ _ rfl B _ _ (by rfl) R1.out.2 _ _ (by rfl) (R1.out.1.at.tag HT.out) (by rw [HT.out]; have := HL.out; omega) (Nat.le_of_lt R1.out.1.lt) ?_
  intro u2 W2 ho hg _
  have R2 := Bx.mk (And.intro ho (R1.out.1.below.trans (own_below R1.out.2 hg (Nat.le_of_lt R1.out.1.lt))))
  clear ho hg R1
  refine hK.out _ _ trivial (fun hHeld => ?_)
  clear hK K
  try simp only [Act.put, List.setIfInBounds_toArray, List.set_cons_zero, List.set_cons_succ]
  refine takeL 5 (v := ?_) rfl (by kernel_rfl) (by kernel_rfl) (by kernel_rfl) (fun _ _ _ h => h) (Or.inl ⟨by rfl, ?_⟩) hHeld ?_
  rotate_left 1
  · (intro w hSw; go_simp; try with_reducible rfl)
  try simp only [Act.put, List.setIfInBounds_toArray, List.set_cons_zero, List.set_cons_succ]
  refine wpAnyH_done (by kernel_rfl) ?_ _
  refine NoPanic.normal ?_
  clear hHeld
  try go_wp2
  go_ret
  exact ⟨_, rfl, R2.out.1, R2.out.2⟩
end Go.Proofs.Ytaoekfomffebhaa
namespace Go.Proofs.Ytaoekfomffebhaa
open Go Go.ChangeShapes Go.WideShapes Go.ChangeAt Go.RowKit
theorem z32_get (k : Nat) : z32P.getD k 0 = 0 := by
  unfold z32P
  rw [List.getD_eq_getElem?_getD, List.getElem?_replicate]
  split <;> rfl
set_option maxRecDepth 100000 in
set_option maxHeartbeats 4000000 in
theorem rcheck14 (x : Pk) (v : Value) (w : World) (ht : x.t.length = 32) (hb : Bytes w v x.b) : Calls Try.prog 8 #[pkV x v] w fun e w' => e = .returned (.int .i64 (chkP x)) ∧ Below w.heap.size w w' := by
  obtain ⟨a0, c0, rfl, -, -⟩ := bytes_form hb
  have HC := Bx.mk fun (W : World) => cright_any x.c W
  have HN := Bx.mk fun (W : World) => rright12_any x.n W
  unfold clV at HC
  unfold nv at HN
  obtain ⟨B, hB⟩ : ∃ B, w.heap.size = B := ⟨_, rfl⟩
  have H0 := Bx.mk (PB.new hB 29 x (.slice a0 x.b.length c0))
  obtain ⟨tk, htk⟩ : ∃ tk, pkC x (.slice a0 x.b.length c0) = tk := ⟨_, rfl⟩
  have HT := Bx.mk ht
  unfold pkV
  rw [htk] at ⊢
  have H0 : Bx (PB w B 29 x (.slice a0 x.b.length c0) (w.alloc (.cells tk 29))) := by rw [← htk]; exact H0
  rw [hB]
  clear hb htk ht
  unfold chkP
  cases hk : kindB x.k with
  | false =>
    rw [if_pos rfl]
    by_cases h1 : x.k < 1
    · have hd : decide (x.k < 1) = true := decide_eq_true h1
      have k0 := H0.out.at.k
      go_enter Try.func8, Try.ntmps8
      go_wp2_with fail
      go_ret
      exact ⟨rfl, H0.out.below⟩
    · have h14 : 14 < x.k := by
        unfold kindB at hk
        simp at hk
        omega
      have hd : decide (14 < x.k) = true := decide_eq_true h14
      have k0 := H0.out.at.k
      go_enter Try.func8, Try.ntmps8
      go_wp2_with fail
      go_ret
      exact ⟨rfl, H0.out.below⟩
  | true =>
    have hkk := (kindB_iff _).1 hk
    have hd1 : ¬ x.k < 1 := by omega
    have hd2 : ¬ 14 < x.k := by omega
    clear hk
    rw [if_neg (by simp)]
    cases hc : okC x.c with
    | false =>
      rw [if_pos rfl]
      have k0 := H0.out.at.k
      go_enter Try.func8, Try.ntmps8
      go_wp2_with (refine wpList_load_midP (by rfl) 23 _ rfl B 1 (by rfl) _ _ H0.out.at.c Try.underlying23 rfl (by kernel_rfl) ?_)
      generalize w.alloc (.cells tk 29) = w0 at *
      refine (HC.out w0).mono ?_
      rintro e w2 ⟨rfl, hb2⟩
      rw [hc]
      have H2 := Bx.mk (H0.out.later hb2)
      clear hb2 H0 k0
      have k5 := H2.out.at.to
      go_wp2_with fail
      go_ret
      exact ⟨rfl, H2.out.below⟩
    | true =>
      rw [if_neg (by simp)]
      cases hp : placeB x.to with
      | false =>
        rw [if_pos rfl]
        by_cases h1 : x.to < 0
        · have hd : decide (x.to < 0) = true := decide_eq_true h1
          clear hp
          have k0 := H0.out.at.k
          go_enter Try.func8, Try.ntmps8
          go_wp2_with (refine wpList_load_midP (by rfl) 23 _ rfl B 1 (by rfl) _ _ H0.out.at.c Try.underlying23 rfl (by kernel_rfl) ?_)
          generalize w.alloc (.cells tk 29) = w0 at *
          refine (HC.out w0).mono ?_
          rintro e w2 ⟨rfl, hb2⟩
          rw [hc]
          have H2 := Bx.mk (H0.out.later hb2)
          clear hb2 H0 k0
          have k5 := H2.out.at.to
          go_wp2_with fail
          go_ret
          exact ⟨rfl, H2.out.below⟩
        · have h6 : 65535 < x.to := by
            unfold placeB at hp
            simp at hp
            omega
          have hd : decide (65535 < x.to) = true := decide_eq_true h6
          have hd0 : decide (x.to < 0) = false := decide_eq_false h1
          clear h1
          clear hp
          have k0 := H0.out.at.k
          go_enter Try.func8, Try.ntmps8
          go_wp2_with (refine wpList_load_midP (by rfl) 23 _ rfl B 1 (by rfl) _ _ H0.out.at.c Try.underlying23 rfl (by kernel_rfl) ?_)
          generalize w.alloc (.cells tk 29) = w0 at *
          refine (HC.out w0).mono ?_
          rintro e w2 ⟨rfl, hb2⟩
          rw [hc]
          have H2 := Bx.mk (H0.out.later hb2)
          clear hb2 H0 k0
          have k5 := H2.out.at.to
          go_wp2_with fail
          go_ret
          exact ⟨rfl, H2.out.below⟩
      | true =>
        have hpp := (placeB_iff _).1 hp
        have hd3 : decide (x.to < 0) = false := decide_eq_false (by omega)
        have hd4 : decide (65535 < x.to) = false := decide_eq_false (by omega)
        clear hp
        rw [if_neg (by simp)]
        cases hn : okN x.n with
        | false =>
          rw [if_pos rfl]
          have k0 := H0.out.at.k
          go_enter Try.func8, Try.ntmps8
          go_wp2_with (refine wpList_load_midP (by rfl) 23 _ rfl B 1 (by rfl) _ _ H0.out.at.c Try.underlying23 rfl (by kernel_rfl) ?_)
          generalize w.alloc (.cells tk 29) = w0 at *
          refine (HC.out w0).mono ?_
          rintro e w2 ⟨rfl, hb2⟩
          rw [hc]
          have H2 := Bx.mk (H0.out.later hb2)
          clear hb2 H0 k0
          have k5 := H2.out.at.to
          go_wp2_with (refine wpList_load_midP (by rfl) 25 _ rfl B 6 (by rfl) _ _ H2.out.at.n Try.underlying25 rfl (by kernel_rfl) ?_)
          refine (HN.out w2).mono ?_
          rintro e w4 ⟨rfl, hb4⟩
          rw [hn]
          have H4 := Bx.mk (H2.out.later hb4)
          clear hb4 H2 k5
          have k8 := H4.out.at.b
          go_wp2
          go_ret
          exact ⟨rfl, H4.out.below⟩
        | true =>
          rw [if_neg (by simp)]
          by_cases hl : 512 < x.b.length
          · rw [if_pos hl]
            have hd : decide ((512 : Int) < (x.b.length : Int)) = true := decide_eq_true (by omega)
            have k0 := H0.out.at.k
            go_enter Try.func8, Try.ntmps8
            go_wp2_with (refine wpList_load_midP (by rfl) 23 _ rfl B 1 (by rfl) _ _ H0.out.at.c Try.underlying23 rfl (by kernel_rfl) ?_)
            generalize w.alloc (.cells tk 29) = w0 at *
            refine (HC.out w0).mono ?_
            rintro e w2 ⟨rfl, hb2⟩
            rw [hc]
            have H2 := Bx.mk (H0.out.later hb2)
            clear hb2 H0 k0
            have k5 := H2.out.at.to
            go_wp2_with (refine wpList_load_midP (by rfl) 25 _ rfl B 6 (by rfl) _ _ H2.out.at.n Try.underlying25 rfl (by kernel_rfl) ?_)
            refine (HN.out w2).mono ?_
            rintro e w4 ⟨rfl, hb4⟩
            rw [hn]
            have H4 := Bx.mk (H2.out.later hb4)
            clear hb4 H2 k5
            have k8 := H4.out.at.b
            go_wp2
            go_ret
            exact ⟨rfl, H4.out.below⟩
          · rw [if_neg hl]
            have hd : decide ((512 : Int) < (x.b.length : Int)) = false := decide_eq_false (by omega)
            obtain ⟨fv, hfv⟩ : ∃ fv : Int, (if plainB x.k = true ∧ x.t ≠ z32P then 3 else 0) = fv := ⟨_, rfl⟩
            rw [hfv]
            have HFV := Bx.mk hfv
            clear hfv
            have k0 := H0.out.at.k
            go_enter Try.func8, Try.ntmps8
            go_wp2_with (refine wpList_load_midP (by rfl) 23 _ rfl B 1 (by rfl) _ _ H0.out.at.c Try.underlying23 rfl (by kernel_rfl) ?_)
            generalize w.alloc (.cells tk 29) = w0 at *
            refine (HC.out w0).mono ?_
            rintro e w2 ⟨rfl, hb2⟩
            rw [hc]
            have H2 := Bx.mk (H0.out.later hb2)
            clear hb2 H0 k0
            have k5 := H2.out.at.to
            go_wp2_with (refine wpList_load_midP (by rfl) 25 _ rfl B 6 (by rfl) _ _ H2.out.at.n Try.underlying25 rfl (by kernel_rfl) ?_)
            refine (HN.out w2).mono ?_
            rintro e w4 ⟨rfl, hb4⟩
            rw [hn]
            have H4 := Bx.mk (H2.out.later hb4)
            clear hb4 H2 k5
            have k8 := H4.out.at.b
            go_wp2
            clear k8
            go_loopw [3] (fun i wr => ∃ k : Nat, k ≤ 32 ∧ i = .int .i64 (k : Int) ∧ wr = w4 ∧ Bx (x.k < 3 → ∀ j, j < k → x.t.getD j 0 = 0)) (fun i _ => 32 - (intOf i).toNat)
            case atStart => exact ⟨0, Nat.zero_le _, rfl, rfl, ⟨fun _ j hj => absurd hj (Nat.not_lt_zero _)⟩⟩
            case round =>
              obtain ⟨k, hk, rfl, rfl, HI⟩ := hrel
              have k0 := H4.out.at.k
              by_cases hlt : k < 32
              · have hk1 : (k : Int) < 32 := by omega
                have hk2 : (0 : Int) ≤ (k : Int) := by omega
                by_cases h3 : x.k < 3
                · have hcell : wr.cell? ⟨B, 9 + k, none⟩ = some (.int .u8 (ub (x.t.getD k 0))) := H4.out.at.t k _ (by rw [Array.getElem?_toList]; exact u8s_get _ _ (by rw [HT.out]; exact hlt))
                  by_cases hz : x.t.getD k 0 = 0
                  · rw [hz] at hcell
                    change wr.cell? ⟨B, 9 + k, none⟩ = some (.int .u8 0) at hcell
                    go_wp2
                    go_roundw
                    case rel => exact ⟨k + 1, by omega, by go_num, by trivial, ⟨fun h j hj => by rcases Nat.lt_succ_iff_lt_or_eq.1 hj with h5 | h5; exact HI.out h j h5; rw [h5]; exact hz⟩⟩
                    case measure => simp [intOf]; omega
                  · have hu : ¬ ub (x.t.getD k 0) = 0 := fun e => hz (ub_inj e)
                    have HF : Bx (plainB x.k = true ∧ x.t ≠ z32P) := Bx.mk ⟨by unfold plainB; simp; omega, fun e => hz (by rw [e]; exact z32_get k)⟩
                    generalize ub (x.t.getD k 0) = tb at *
                    obtain rfl : fv = 3 := by rw [← HFV.out, if_pos HF.out]
                    clear hz HI
                    go_wp2
                    go_ret
                    exact ⟨rfl, H4.out.below⟩
                · go_wp2
                  go_roundw
                  case rel => exact ⟨k + 1, by omega, by go_num, by trivial, ⟨fun h => absurd h h3⟩⟩
                  case measure => simp [intOf]; omega
              · obtain rfl : k = 32 := by omega
                have HF : Bx (¬ (plainB x.k = true ∧ x.t ≠ z32P)) := Bx.mk fun h => h.2 (ext_getD (by rw [HT.out]; rfl) fun i hi => by
                  rw [HI.out (by have := h.1; unfold plainB at this; simp at this; omega) i (by rw [HT.out] at hi; exact hi)]
                  exact (z32_get i).symm)
                obtain rfl : fv = 0 := by rw [← HFV.out, if_neg HF.out]
                clear HI hlt
                go_wp2
                go_ret
                exact ⟨rfl, H4.out.below⟩
end Go.Proofs.Ytaoekfomffebhaa
