/-
  The reader's packet.
-/
import Derived.Test.YtaoekfomffebhaaDoorP16
import Derived.Test.YtaoekfomffebhaaDoorP10
import Derived.Test.YtaoekfomffebhaaDoorP8
namespace Go.Proofs.YtaoekfomffebhaaDoor
open Go Go.ChangeShapes Go.WideShapes Go.ChangeAt Go.RowKit
theorem pk_kindB (k : Int) : Tryd.prog.built 33 [(0, .int .i64 k)] = some (pkC ⟨k, ⟨0, 0, 0, 0⟩, 0, Nn.zero, [], z32P⟩ (.slice none 0 0)) := by kernel_rfl
theorem pk_setC (x : Pk) (v : Value) (c : Cl) : spl (pkC x v) 1 (clC c).toList = pkC { x with c := c } v := rfl
theorem pk_setTo (x : Pk) (v : Value) (n : Int) : (pkC x v).setIfInBounds 5 (.int .i64 n) = pkC { x with to := n } v := rfl
theorem pk_setN (x : Pk) (v : Value) (n : Nn) : spl (pkC x v) 6 (nnC n).toList = pkC { x with n := n } v := rfl
theorem pk_setB (x : Pk) (v u : Value) (b : List UInt8) : (pkC x v).setIfInBounds 8 u = pkC { x with b := b } u := rfl
theorem pk_setT (x : Pk) (u : Value) (sk : List UInt8) (hx : x.t.length = 32) (hs : sk.length = 32) : spl (pkC x u) 9 (u8s sk).toList = pkC { x with t := sk } u := by
  have hsz : (u8s sk).size = 32 := by rw [u8s_size, hs]
  apply Array.ext_getElem?
  intro i
  rw [spl_get, pkC_size x u hx, Array.length_toList, hsz]
  by_cases h9 : i < 9
  · rw [if_neg (by omega)]
    match i, h9 with
    | 0, _ => rfl
    | 1, _ => rfl
    | 2, _ => rfl
    | 3, _ => rfl
    | 4, _ => rfl
    | 5, _ => rfl
    | 6, _ => rfl
    | 7, _ => rfl
    | 8, _ => rfl
  · obtain ⟨j, rfl⟩ : ∃ j, i = j + 9 := ⟨i - 9, by omega⟩
    have e1 : (pkC { x with t := sk } u)[j + 9]? = (u8s sk).toList[j]? := by unfold pkC; rw [List.getElem?_toArray]; rfl
    have e2 : (pkC x u)[j + 9]? = (u8s x.t).toList[j]? := by unfold pkC; rw [List.getElem?_toArray]; rfl
    by_cases h4 : j < 32
    · rw [if_pos (by omega), e1]
      congr 1
    · rw [if_neg (by omega), e1, e2, List.getElem?_eq_none (by rw [Array.length_toList, u8s_size, hx]; omega), List.getElem?_eq_none (by rw [Array.length_toList, u8s_size, hs]; omega)]
theorem nrR_len (p : List UInt8 × Int) : (nrR p).1.length ≤ p.1.length := Nat.le_trans (stepR_len _ _) (stepR_len _ _)
theorem getR4_len (l : List UInt8) (er : Int) : (getR l er 4).2.1.length ≤ l.length := stepR_len (l, er) 4
theorem bytR_len (l : List UInt8) (er z : Int) : (bytR l er z).2.1.length ≤ l.length := by
  unfold bytR
  have h := getR4_len l er
  split
  · split
    · simp
    · exact h
  · exact h
/-- What the next fields are, and the reader behind them. -/
def r1P (p : List UInt8 × Int) := stepR p 0
def r2P (p : List UInt8 × Int) := rdR (r1P p)
def r3P (p : List UInt8 × Int) := stepR (r2P p) 1
def r4P (p : List UInt8 × Int) := nrR (r3P p)
def r5P (p : List UInt8 × Int) := (bytR (r4P p).1 (r4P p).2 512).2
def r6P (p : List UInt8 × Int) := stT (r5P p) 32
def rdX (p : List UInt8 × Int) : Pk := ⟨numR p 0, rdC (r1P p), numR (r2P p) 1, nrC (r3P p), (bytR (r4P p).1 (r4P p).2 512).1, tgT (r5P p) 32⟩
theorem r_lens (p : List UInt8 × Int) : (r1P p).1.length ≤ p.1.length ∧ (r2P p).1.length ≤ p.1.length ∧ (r3P p).1.length ≤ p.1.length ∧ (r4P p).1.length ≤ p.1.length ∧ (r5P p).1.length ≤ p.1.length := by
  have h1 := stepR_len p 0
  have h2 := rdR_len (r1P p)
  have h3 := stepR_len (r2P p) 1
  have h4 := nrR_len (r3P p)
  have h5 := bytR_len (r4P p).1 (r4P p).2 512
  have g1 : (r1P p).1.length ≤ p.1.length := h1
  have g2 : (r2P p).1.length ≤ p.1.length := Nat.le_trans h2 g1
  have g3 : (r3P p).1.length ≤ p.1.length := Nat.le_trans h3 g2
  have g4 : (r4P p).1.length ≤ p.1.length := Nat.le_trans h4 g3
  exact ⟨g1, g2, g3, g4, Nat.le_trans h5 g4⟩
/-- What holds while a packet is read. -/
structure PR (w : World) (B q D : Nat) (zc : Array Value) (x : Pk) (v : Value) (p : List UInt8 × Int) (W : World) : Prop where
  box : W.heap[B]? = some (.cells #[.pointer (some ⟨q, 0, none⟩)] 86 (0, 0))
  res : W.heap[B + 1]? = some (.cells zc 33 (0, 0))
  pk : W.heap[D]? = some (.cells (pkC x v) 33 (0, 0))
  rd : IsR W q p.1 p.2
  gr : w.grownBy W (some q)
  lt : B + 1 < D
  qlt : q < B
  at_ : w.heap.size = B
theorem PR.dlt {w : World} {B q D : Nat} {zc : Array Value} {x : Pk} {v : Value} {p : List UInt8 × Int} {W : World} (h : PR w B q D zc x v p W) : D < W.heap.size := (Array.getElem?_eq_some_iff.1 h.pk).1
theorem PR.read {w : World} {B q D : Nat} {zc : Array Value} {x : Pk} {v : Value} {p p1 : List UInt8 × Int} {W W1 : World} (h : PR w B q D zc x v p W) (h1 : IsR W1 q p1.1 p1.2) (hg : W.grownBy W1 (some q)) : PR w B q D zc x v p1 W1 := by
  have h2 := h.dlt
  have h3 := h.lt
  have h4 := h.qlt
  exact ⟨(hg.block B (by omega) (fun e => by injection e with e; omega)).trans h.box, (hg.block (B + 1) (by omega) (fun e => by injection e with e; omega)).trans h.res, (hg.block D h2 (fun e => by injection e with e; omega)).trans h.pk, h1, kb_trans h.gr hg, h.lt, h.qlt, h.at_⟩
theorem PR.put {w : World} {B q D : Nat} {zc : Array Value} {x y : Pk} {v u : Value} {p : List UInt8 × Int} {W W1 : World} (h : PR w B q D zc x v p W) (hg : W.grownBy W1 (some D)) (hp : W1.heap[D]? = some (.cells (pkC y u) 33 (0, 0))) : PR w B q D zc y u p W1 := by
  have h2 := h.dlt
  have h3 := h.lt
  have h4 := h.qlt
  exact ⟨(hg.block B (by omega) (fun e => by injection e with e; omega)).trans h.box, (hg.block (B + 1) (by omega) (fun e => by injection e with e; omega)).trans h.res, hp, h.rd.asideT h.pk (by decide) hg (by omega), kb_new h.gr hg (by have := h.at_; omega), h.lt, h.qlt, h.at_⟩
theorem PR.ptr {w : World} {B q D : Nat} {zc : Array Value} {x : Pk} {v : Value} {p : List UInt8 × Int} {W : World} (h : PR w B q D zc x v p W) : W.cell? ⟨B, 0, none⟩ = some (.pointer (some ⟨q, 0, none⟩)) := by rw [cell_of_row _ _ _ _ _ _ h.box]; rfl
theorem PR.begin {w w1 w8 : World} {B q D : Nat} {zc yc : Array Value} {x : Pk} {v : Value} {p : List UInt8 × Int} (hg8 : (w1.alloc (.cells zc 33)).grownBy w8 (some D)) (hr8 : w8.heap[D]? = some (.cells yc 33 (0, 0))) (hyc : pkC x v = yc) (h1 : IsR w1 q p.1 p.2 ∧ w.grownBy w1 (some q) ∧ w1.heap[B]? = some (.cells #[.pointer (some ⟨q, 0, none⟩)] 86 (0, 0)) ∧ w1.heap[B + 1]? = some (.cells zc 33 (0, 0)) ∧ B + 1 < w1.heap.size) (hD : w1.heap.size = D) (hq : q < B) (hB : w.heap.size = B) : PR w B q D zc x v p w8 := by
  obtain ⟨a1, a2, a3, a4, a5⟩ := h1
  have hb := below_a (W := w1) (.cells zc 33)
  have hn : (w1.alloc (.cells zc 33)).heap[D]? = some (.cells zc 33 (0, 0)) := hnew _ _ _ hD.symm
  rw [hD] at hb a5
  have hs := hb.size
  exact ⟨(hg8.block B (by omega) (fun e => by injection e with e; omega)).trans ((hb.block B (by omega)).trans a3), (hg8.block (B + 1) (by omega) (fun e => by injection e with e; omega)).trans ((hb.block (B + 1) (by omega)).trans a4), by rw [hyc]; exact hr8, (a1.later (by rw [hD]; exact hb)).asideT hn (by decide) hg8 (by omega), kb_new (kb_trans a2 (kb_below _ (by rw [hD]; exact hb))) hg8 (by omega), a5, hq, hB⟩
set_option maxRecDepth 100000 in
set_option maxHeartbeats 4000000 in
theorem rpacket14 (q : Nat) (p : List UInt8 × Int) (w : World) (h : IsR w q p.1 p.2) (hl : p.1.length ≤ 5000) :
    Calls Tryd.prog 39 #[.agg #[.pointer (some ⟨q, 0, none⟩)]] w fun e w' => ∃ u, e = .returned (pkV (rdX p) u) ∧ OwnB w' w.heap.size u (rdX p).b ∧ IsR w' q (r6P p).1 (r6P p).2 ∧ w.grownBy w' (some q) := by
  obtain ⟨zc, hzc⟩ : ∃ zc, pkC Pk.zero (.slice none 0 0) = zc := ⟨_, rfl⟩
  have hzv : ∀ W : World, (zeroValue 33).run Tryd.prog W = .ok (.agg zc) W := fun W => by rw [← hzc]; exact pk_zeroW W
  have HZ := Bx.mk (show zc.size = 41 by rw [← hzc, pkC_size _ _ rfl])
  obtain ⟨B, hB⟩ : ∃ B, w.heap.size = B := ⟨_, rfl⟩
  have K0 := Bx.mk (((KP.start w B hB).new (.cells #[.pointer (some ⟨q, 0, none⟩)] 86)).new (.cells zc 33))
  rw [alloc_sizeP, hB] at K0
  have HqB : Bx (q < B) := Bx.mk (by rw [← hB]; exact h.lt)
  have HR0 := Bx.mk (h.later (w1 := (w.alloc (.cells #[.pointer (some ⟨q, 0, none⟩)] 86)).alloc (.cells zc 33)) (by rw [hB]; exact K0.out.below))
  obtain ⟨L1, L2, L3, L4, L5⟩ := r_lens p
  have HL := Bx.mk (And.intro hl (And.intro (Nat.le_trans L1 hl) (And.intro (Nat.le_trans L2 hl) (And.intro (Nat.le_trans L3 hl) (And.intro (Nat.le_trans L4 hl) (Nat.le_trans L5 hl))))))
  have HB := Bx.mk hB
  have hc0 : ((w.alloc (.cells #[.pointer (some ⟨q, 0, none⟩)] 86)).alloc (.cells zc 33)).cell? ⟨B, 0, none⟩ = some (.pointer (some ⟨q, 0, none⟩)) := by rw [cell_of_row _ _ _ _ _ _ (K0.out.rows _ (.tail _ (.head _)))]; rfl
  obtain ⟨X, hX⟩ : ∃ X, rdX p = X := ⟨_, rfl⟩
  have HXX := Bx.mk hX
  rw [hX]
  rw [hB]
  clear hzc hl h L1 L2 L3 L4 L5 hX
  go_enter Tryd.func39, Tryd.ntmps39
  go_wp2_with fail
  generalize (w.alloc (.cells #[.pointer (some ⟨q, 0, none⟩)] 86)).alloc (.cells zc 33) = w0 at *
  refine (rnum_any q 0 p.1 p.2 w0 HR0.out HL.out.1 (by omega)).mono ?_
  rintro e w1 ⟨rfl, hr1, hg1⟩
  have H1 : Bx (IsR w1 q (r1P p).1 (r1P p).2 ∧ w.grownBy w1 (some q) ∧ w1.heap[B]? = some (.cells #[.pointer (some ⟨q, 0, none⟩)] 86 (0, 0)) ∧ w1.heap[B + 1]? = some (.cells zc 33 (0, 0)) ∧ B + 1 < w1.heap.size) := Bx.mk (by
    have k1 := K0.out.lt (x := (B + 1, _)) (.head _)
    have k2 := HqB.out
    simp only at k1
    exact ⟨hr1, kb_trans (kb_below _ (by rw [HB.out]; exact K0.out.below)) hg1, (hg1.block B (by omega) (fun e => by injection e with e; omega)).trans (K0.out.rows _ (.tail _ (.head _))), (hg1.block (B + 1) (by omega) (fun e => by injection e with e; omega)).trans (K0.out.rows _ (.head _)), Nat.lt_of_lt_of_le k1 hg1.size⟩)
  obtain ⟨kk, hkk⟩ : ∃ kk, (getR p.1 p.2 0).1.n = kk := ⟨_, rfl⟩
  have HKK : Bx (numR p 0 = kk) := Bx.mk hkk
  rw [hkk]
  clear hr1 hg1 K0 HR0 hc0 hkk
  obtain ⟨D, hD⟩ : ∃ D, w1.heap.size = D := ⟨_, rfl⟩
  obtain ⟨yk, hyk⟩ : ∃ y : Pk, y = ⟨kk, ⟨0, 0, 0, 0⟩, 0, Nn.zero, [], z32P⟩ := ⟨_, rfl⟩
  have HYK := Bx.mk hyk
  have hbk : Tryd.prog.built 33 [(0, .int .i64 kk)] = some (pkC yk (.slice none 0 0)) := by rw [hyk]; exact pk_kindB kk
  have HIk : Bx ((Tryd.prog.info? 33).map (·.size) = some (pkC yk (.slice none 0 0)).size ∧ (pkC yk (.slice none 0 0)).size = zc.size ∧ (pkC yk (.slice none 0 0)).all (·.oneCell') = true) := Bx.mk (by rw [hyk]; exact ⟨pk_infoW _ _ rfl, by rw [HZ.out, pkC_size _ _ rfl], pkC_one _ _ _ _⟩)
  have HnD : Bx ((w1.alloc (.cells zc 33)).heap[D]? = some (.cells zc 33 (0, 0))) := Bx.mk (hnew _ _ _ hD.symm)
  obtain ⟨yc, hyc⟩ : ∃ yc, pkC yk (.slice none 0 0) = yc := ⟨_, rfl⟩
  rw [hyc] at hbk HIk
  go_wp2_with (first | (refine wpList_buildP rfl 33 _ rfl yc (by simp only [List.map_toArray, List.map_cons, List.map_nil]; exact hbk) ?_) | (refine wpList_store_new rfl 33 _ _ rfl D yc zc _ (by rfl) (by rfl) HnD.out HIk.out.2.1 HIk.out.1 HIk.out.2.2 ?_; intro w8 hw8 hr8; have H2 := Bx.mk (PR.begin (kb_ofP hw8) hr8 hyc H1.out hD HqB.out HB.out); have hc0 := H2.out.ptr; clear hw8 hr8))
  clear H1 hD hbk HIk HnD hyc hyk HqB
  skip -- M1
  refine (read_any q (r1P p) w8 H2.out.rd HL.out.2.1).mono ?_
  rintro e w2 ⟨rfl, hr, hg⟩
  have H3 := Bx.mk (H2.out.read (p1 := r2P p) hr hg)
  clear hr hg H2 hc0
  have HT0 : Bx (yk.t.length = 32) := Bx.mk (by rw [HYK.out]; rfl)
  unfold clV
  obtain ⟨cc, hcc⟩ : ∃ cc, rdC (r1P p) = cc := ⟨_, rfl⟩
  have HCC := Bx.mk hcc
  rw [hcc]
  clear hcc
  have HTh := Bx.mk (there_row H3.out.pk 1 (clC cc).size (by rw [pkC_size _ _ (by exact HT0.out)]; show 1 + 4 ≤ 41; decide))
  have HSt : Bx ((w2.setCells D 1 (clC cc).toList).heap[D]? = some (.cells (pkC { yk with c := cc } (.slice none 0 0)) 33 (0, 0))) := Bx.mk (by rw [heap_setCells_same D 33 _ 1 w2 _ H3.out.pk]; rw [pk_setC])
  have H4 : Bx (PR w B q D zc { yk with c := cc } (.slice none 0 0) _ (w2.setCells D 1 (clC cc).toList)) := Bx.mk (H3.out.put (kb_setCells (b := D) _ _ _) HSt.out)
  have hc0 := H4.out.ptr
  obtain ⟨w3, hw3⟩ : ∃ W, w2.setCells D 1 (clC cc).toList = W := ⟨_, rfl⟩
  rw [hw3] at H4 hc0
  go_wp2_with (refine wpList_store_mid rfl 30 _ _ rfl D 1 (clC cc) (by rfl) (by rfl) HTh.out (by kernel_rfl) (by simp [clC, Value.oneCell']) ?_; rw [hw3])
  clear hw3
  clear H3 HTh HSt
  refine (rnum_any q 1 (r2P p).1 (r2P p).2 w3 H4.out.rd HL.out.2.2.1 (by omega)).mono ?_
  rintro e w4 ⟨rfl, hr, hg⟩
  have H5 := Bx.mk (H4.out.read (p1 := r3P p) hr hg)
  obtain ⟨nn, hnn⟩ : ∃ nn, (getR (r2P p).1 (r2P p).2 1).1.n = nn := ⟨_, rfl⟩
  have HNN : Bx (numR (r2P p) 1 = nn) := Bx.mk hnn
  rw [hnn]
  clear hr hg H4 hc0 hnn
  have hfz : w4.frozen? ⟨D, 5, none⟩ = false := frozen_of_row _ _ _ _ _ H5.out.pk
  have hcl := (pk_at H5.out.pk).to
  go_upto_region 4 with fail
  have H6 : Bx (PR w B q D zc { yk with c := cc, to := nn } (.slice none 0 0) (r3P p) (w4.setCell ⟨D, 5, none⟩ (.int .i64 nn))) := Bx.mk (H5.out.put (kb_setCell (b := D) _ _ _) (by rw [heap_setCell_same w4 D 5 _ 33 _ H5.out.pk, pk_setTo]))
  generalize w4.setCell ⟨D, 5, none⟩ (.int .i64 nn) = w5 at *
  clear H5 hfz hcl
  have hc0 := H6.out.ptr
  go_wp2_with fail
  refine (nread_any q (r3P p) w5 H6.out.rd HL.out.2.2.2.1).mono ?_
  rintro e w6 ⟨rfl, hr, hg⟩
  have H7 := Bx.mk (H6.out.read (p1 := r4P p) hr hg)
  clear hr hg H6 hc0
  unfold nv
  obtain ⟨no, hno⟩ : ∃ no, nrC (r3P p) = no := ⟨_, rfl⟩
  have HNO := Bx.mk hno
  rw [hno]
  clear hno
  have HTh := Bx.mk (there_row H7.out.pk 6 (nnC no).size (by rw [pkC_size _ _ (by exact HT0.out)]; show 6 + 2 ≤ 41; decide))
  have HSt : Bx ((w6.setCells D 6 (nnC no).toList).heap[D]? = some (.cells (pkC { yk with c := cc, to := nn, n := no } (.slice none 0 0)) 33 (0, 0))) := Bx.mk (by rw [heap_setCells_same D 33 _ 6 w6 _ H7.out.pk]; rw [pk_setN])
  have H8 : Bx (PR w B q D zc { yk with c := cc, to := nn, n := no } (.slice none 0 0) _ (w6.setCells D 6 (nnC no).toList)) := Bx.mk (H7.out.put (kb_setCells (b := D) _ _ _) HSt.out)
  have hc0 := H8.out.ptr
  obtain ⟨w7, hw7⟩ : ∃ W, w6.setCells D 6 (nnC no).toList = W := ⟨_, rfl⟩
  rw [hw7] at H8 hc0
  go_wp2_with (refine wpList_store_mid rfl 31 _ _ rfl D 6 (nnC no) (by rfl) (by rfl) HTh.out (by kernel_rfl) (by simp [nnC, Value.oneCell']) ?_; rw [hw7])
  clear hw7
  clear H7 HTh HSt
  refine (rbyt_own q 512 (r4P p).1 (r4P p).2 w7 H8.out.rd HL.out.2.2.2.2.1).mono ?_
  rintro e w9 ⟨u9, rfl, ho, hr, hg⟩
  have H9 := Bx.mk (And.intro (H8.out.read (p1 := r5P p) hr hg) (ho.weak (show D + 1 ≤ w7.heap.size from H8.out.dlt)))
  obtain ⟨bb, hbb⟩ : ∃ bb, (bytR (r4P p).1 (r4P p).2 512).1 = bb := ⟨_, rfl⟩
  have HBB := Bx.mk hbb
  rw [hbb] at ho H9
  obtain ⟨a9, c9, hv9⟩ := own_form ho
  subst hv9
  clear ho hr hg H8 hc0 hbb
  have hfz : w9.frozen? ⟨D, 8, none⟩ = false := frozen_of_row _ _ _ _ _ H9.out.1.pk
  have hcl := (pk_at H9.out.1.pk).b
  go_upto_region 6 with fail
  have HA := Bx.mk (And.intro (show PR w B q D zc { yk with c := cc, to := nn, n := no, b := bb } (.slice a9 bb.length c9) (r5P p) (w9.setCell ⟨D, 8, none⟩ (.slice a9 bb.length c9)) from H9.out.1.put (kb_setCell (b := D) _ _ _) (by rw [heap_setCell_same w9 D 8 _ 33 _ H9.out.1.pk, pk_setB _ _ _ bb])) (H9.out.2.kept (kb_setCell (b := D) w9 8 (.slice a9 bb.length c9)) (fun e => by have := (H9.out.2.lt _ e).2; omega)))
  generalize w9.setCell ⟨D, 8, none⟩ (.slice a9 bb.length c9) = wa at *
  clear H9 hfz hcl
  go_wp2_with (refine wpList_load_row rfl 86 _ rfl B (by rfl) _ _ _ _ HA.out.1.box Tryd.underlying86 rfl (by kernel_rfl) ?_)
  refine (rtagB14 q (r5P p) wa HA.out.1.rd HL.out.2.2.2.2.2).mono ?_
  rintro e wb ⟨rfl, hr, hg⟩
  have HBs := Bx.mk (And.intro (HA.out.1.read (p1 := r6P p) hr hg) (HA.out.2.kept hg (fun e => by have := (HA.out.2.lt _ e).2; have h1 := HA.out.1.lt; have h2 := HA.out.1.qlt; omega)))
  clear hr hg HA
  have HTL := Bx.mk (tgT_length (r5P p) 32)
  have HX : Bx (X = { yk with c := cc, to := nn, n := no, b := bb, t := tgT (r5P p) 32 }) := Bx.mk (by rw [← HXX.out, HYK.out]; unfold rdX; rw [HKK.out, HCC.out, HNN.out, HNO.out, HBB.out])
  clear HXX
  generalize tgT (r5P p) 32 = tt at *
  have HTh := Bx.mk (there_row HBs.out.1.pk 9 (u8s tt).size (by rw [pkC_size _ _ (by exact HT0.out), u8s_size, HTL.out]; decide))
  have HSt : Bx ((wb.setCells D 9 (u8s tt).toList).heap[D]? = some (.cells (pkC { yk with c := cc, to := nn, n := no, b := bb, t := tt } (.slice a9 bb.length c9)) 33 (0, 0))) := Bx.mk (by rw [heap_setCells_same D 33 _ 9 wb _ HBs.out.1.pk, pk_setT _ _ _ (by exact HT0.out) HTL.out])
  have HSk : Bx ((Tryd.prog.info? 27).map (·.size) = some (u8s tt).size) := Bx.mk (by rw [u8s_size, HTL.out]; kernel_rfl)
  go_upto_region 7 with (refine wpList_store_mid rfl 27 _ _ rfl D 9 (u8s tt) (by rfl) (by rfl) HTh.out HSk.out (one_u8s _) ?_)
  have HC := Bx.mk (And.intro (HBs.out.1.put (kb_setCells (b := D) _ _ _) HSt.out) (HBs.out.2.kept (kb_setCells (b := D) (u8s tt).toList 9 wb) (fun e => by have := (HBs.out.2.lt _ e).2; omega)))
  generalize wb.setCells D 9 (u8s tt).toList = wc at *
  clear HBs HTh HSt HSk
  have HJ : Bx ((Tryd.prog.info? 33).map (·.size) = some (pkC { yk with c := cc, to := nn, n := no, b := bb, t := tt } (.slice a9 bb.length c9)).size ∧ (pkC { yk with c := cc, to := nn, n := no, b := bb, t := tt } (.slice a9 bb.length c9)).size = zc.size ∧ (pkC { yk with c := cc, to := nn, n := no, b := bb, t := tt } (.slice a9 bb.length c9)).all (·.oneCell') = true) := Bx.mk ⟨pk_infoW _ _ HTL.out, by rw [HZ.out, pkC_size _ _ HTL.out], pkC_one _ _ _ _⟩
  have HYB : Bx (X.b = bb) := Bx.mk (by rw [HX.out])
  rw [← HX.out] at HC HJ
  clear HX HYK HKK HCC HNN HNO HBB HT0 HTL
  obtain ⟨tz, htz⟩ : ∃ tz, pkC X (.slice a9 bb.length c9) = tz := ⟨_, rfl⟩
  have HTZ := Bx.mk htz
  have HPk : Bx (wc.heap[D]? = some (.cells tz 33 (0, 0))) := Bx.mk (by rw [← htz]; exact HC.out.1.pk)
  rw [htz] at HJ
  clear htz
  go_wp2_with (first | (refine wpList_load_row rfl 33 _ rfl D (by rfl) _ _ _ _ HPk.out Tryd.underlying33 rfl HJ.out.1 ?_) | (refine wpList_store_new rfl 33 _ _ rfl (B + 1) tz zc _ (by rfl) (by rfl) HC.out.1.res HJ.out.2.1 HJ.out.1 HJ.out.2.2 ?_; intro wd hw8 hr8; have hg8 := Bx.mk (kb_ofP hw8); have HR8 := Bx.mk hr8; clear hw8 hr8))
  have HE := Bx.mk (And.intro ((HC.out.2.kept hg8.out (fun e => by have := (HC.out.2.lt _ e).2; have := HC.out.1.lt; omega)).weak (show B ≤ D + 1 by have := HC.out.1.lt; omega)) (And.intro (HC.out.1.rd.asideT HC.out.1.res (by decide) hg8.out (by have := HC.out.1.qlt; omega)) (kb_new HC.out.1.gr hg8.out (by have := HB.out; omega))))
  refine bodyPost_ret (results_cell_row rfl _ _ (B + 1) _ tz _ _ rfl HR8.out Tryd.underlying33 rfl HJ.out.1) rfl ?_
  exact ⟨_, by rw [← HTZ.out]; rfl, by rw [HYB.out]; exact HE.out.1, HE.out.2⟩
end Go.Proofs.YtaoekfomffebhaaDoor
namespace Go.Proofs.YtaoekfomffebhaaDoor
open Go Go.ChangeShapes Go.WideShapes Go.ChangeAt Go.RowKit
/-- What Parse tells. -/
def psE14 (b : List UInt8) : Int := if (r6P (b, 0)).2 ≠ 0 then (r6P (b, 0)).2 else if kindB (rdX (b, 0)).k = false then 13 else if chkP (rdX (b, 0)) ≠ 0 then 3 else if 0 < (r6P (b, 0)).1.length then 3 else 0
def psX (b : List UInt8) : Pk := if psE14 b = 0 then rdX (b, 0) else Pk.zero
/-- What holds behind the reading. -/
structure PP (w : World) (B R q D : Nat) (zc : Array Value) (x : Pk) (u : Value) (p : List UInt8 × Int) (W : World) : Prop where
  res : W.heap[B]? = some (.cells zc 33 (0, 0))
  box : W.heap[R]? = some (.cells #[.pointer (some ⟨q, 0, none⟩)] 86 (0, 0))
  pk : W.heap[D]? = some (.cells (pkC x u) 33 (0, 0))
  rd : IsR W q p.1 p.2
  body : OwnB W (B + 1) u x.b
  below : Below B w W
  lt : B < W.heap.size
theorem PP.later {w : World} {B R q D : Nat} {zc : Array Value} {x : Pk} {u : Value} {p : List UInt8 × Int} {W W1 : World} (h : PP w B R q D zc x u p W) (hb : Below W.heap.size W W1) : PP w B R q D zc x u p W1 :=
  ⟨(hb.block B (Array.getElem?_eq_some_iff.1 h.res).1).trans h.res, (hb.block R (Array.getElem?_eq_some_iff.1 h.box).1).trans h.box, (hb.block D (Array.getElem?_eq_some_iff.1 h.pk).1).trans h.pk, h.rd.later hb, h.body.later hb (fun g hg => (h.body.lt g hg).1), h.below.trans (hb.mono (Nat.le_of_lt h.lt)), Nat.lt_of_lt_of_le h.lt hb.size⟩
theorem PP.ptr {w : World} {B R q D : Nat} {zc : Array Value} {x : Pk} {u : Value} {p : List UInt8 × Int} {W : World} (h : PP w B R q D zc x u p W) : W.cell? ⟨R, 0, none⟩ = some (.pointer (some ⟨q, 0, none⟩)) := by rw [cell_of_row _ _ _ _ _ _ h.box]; rfl
/-- The result's cell is set: what the body was stays. -/
theorem PP.fin {w : World} {B R q D : Nat} {zc : Array Value} {x : Pk} {u : Value} {p : List UInt8 × Int} {W W1 : World} (h : PP w B R q D zc x u p W) (hg : W.grownBy W1 (some B)) : OwnB W1 B u x.b ∧ Below B w W1 :=
  ⟨(h.body.kept hg (fun e => by have := (h.body.lt _ e).2; omega)).weak (by omega), h.below.trans (grown_below hg (Nat.le_refl _) (Nat.le_of_lt h.lt))⟩
/-- What is read is put into a block of its own. -/
theorem PP.begin {w w3 w4 w5 : World} {B R q D : Nat} {zc tz : Array Value} {x : Pk} {u : Value} {p : List UInt8 × Int} (h : (w3.heap[B]? = some (.cells zc 33 (0, 0)) ∧ w3.heap[R]? = some (.cells #[.pointer (some ⟨q, 0, none⟩)] 86 (0, 0)) ∧ Below B w w3 ∧ B < q ∧ q < R)) (hr : IsR w4 q p.1 p.2) (hg : w3.grownBy w4 (some q)) (ho : OwnB w4 w3.heap.size u x.b) (hD : w4.heap.size = D) (htz : pkC x u = tz) (hg8 : (w4.alloc (.cells zc 33)).grownBy w5 (some D)) (hr8 : w5.heap[D]? = some (.cells tz 33 (0, 0))) : PP w B R q D zc x u p w5 := by
  obtain ⟨h1, h2, h3, h4, h5⟩ := h
  have hb1 := (Array.getElem?_eq_some_iff.1 h1).1
  have hr1 := (Array.getElem?_eq_some_iff.1 h2).1
  have hb := below_a (W := w4) (.cells zc 33)
  have hs := hg.size
  have hn : (w4.alloc (.cells zc 33)).heap[D]? = some (.cells zc 33 (0, 0)) := hnew _ _ _ hD.symm
  have hs4 : w4.heap.size ≤ (w4.alloc (.cells zc 33)).heap.size := hb.size
  refine ⟨?_, ?_, by rw [htz]; exact hr8, ((hr.later hb).asideT hn (by decide) hg8 (by have := hr.lt; omega)), ?_, ?_, by have := hg8.size; omega⟩
  · rw [hg8.block B (by omega) (fun e => by injection e with e; omega), hb.block B (by omega), hg.block B hb1 (fun e => by injection e with e; omega)]
    exact h1
  · rw [hg8.block R (by omega) (fun e => by injection e with e; omega), hb.block R (by omega), hg.block R hr1 (fun e => by injection e with e; omega)]
    exact h2
  · exact ((own_a ho _).kept hg8 (fun e => by have := (ho.lt _ e).1; omega)).weak (by omega)
  · exact ((h3.trans (grown_below hg (by omega) (by omega))).trans (hb.mono (by omega))).trans (grown_below hg8 (by omega) (by omega))
set_option maxRecDepth 100000 in
set_option maxHeartbeats 4000000 in
theorem parse14 (b : List UInt8) (v : Value) (w : World) (hv : Bytes w v b) (hl : b.length ≤ 1024) :
    Calls Tryd.prog 17 #[v] w fun e w' => ∃ u, e = .returned (.tuple #[pkV (psX b) u, .int .i64 (psE14 b)]) ∧ OwnB w' w.heap.size u (psX b).b ∧ Below w.heap.size w w' := by
  obtain ⟨a0, c0, rfl, -, -⟩ := bytes_form hv
  obtain ⟨zc, hzc⟩ : ∃ zc, pkC Pk.zero (.slice none 0 0) = zc := ⟨_, rfl⟩
  have hzv : ∀ W : World, (zeroValue 33).run Tryd.prog W = .ok (.agg zc) W := fun W => by rw [← hzc]; exact pk_zeroW W
  have hbz : Tryd.prog.built 33 [] = some zc := by rw [← hzc]; exact pk_noneW
  have HI : Bx ((Tryd.prog.info? 33).map (·.size) = some zc.size) := Bx.mk (by rw [← hzc]; exact pk_infoW _ _ rfl)
  have HO : Bx (zc.all (·.oneCell') = true) := Bx.mk (by rw [← hzc]; exact pkC_one _ _ _ _)
  have HZ := Bx.mk (show zc.size = 41 by rw [← hzc, pkC_size _ _ rfl])
  have HZC := Bx.mk hzc
  obtain ⟨B, hB⟩ : ∃ B, w.heap.size = B := ⟨_, rfl⟩
  have K0 := Bx.mk ((KP.start w B hB).new (.cells zc 33))
  rw [hB] at K0
  have HNe := Bx.mk (new_ok b _ (w.alloc (.cells zc 33)) (hv.old hB K0.out.below) hl)
  have HRp := Bx.mk fun (q : Nat) (W : World) (h : IsR W q b 0) => rpacket14 q (b, 0) W h (show b.length ≤ 5000 by omega)
  have HTL := Bx.mk (show (rdX (b, 0)).t.length = 32 from tgT_length _ _)
  obtain ⟨E, hE⟩ : ∃ E, psE14 b = E := ⟨_, rfl⟩
  obtain ⟨Y, hY⟩ : ∃ Y, psX b = Y := ⟨_, rfl⟩
  have HE : Bx (E = if (r6P (b, 0)).2 ≠ 0 then (r6P (b, 0)).2 else if kindB (rdX (b, 0)).k = false then 13 else if chkP (rdX (b, 0)) ≠ 0 then 3 else if 0 < (r6P (b, 0)).1.length then 3 else 0) := Bx.mk hE.symm
  have HY : Bx (Y = if E = 0 then rdX (b, 0) else Pk.zero) := Bx.mk (by rw [← hY, ← hE]; rfl)
  rw [hE, hY, hB]
  generalize rdX (b, 0) = X at *
  generalize r6P (b, 0) = p6 at *
  clear hzc hv hl hE hY
  go_enter Tryd.func17, Tryd.ntmps17
  go_wp2_with fail
  generalize w.alloc (.cells zc 33) = w0 at *
  refine HNe.out.mono ?_
  rintro e w1 ⟨rfl, hr1, hb1⟩
  obtain ⟨q, hq⟩ : ∃ q, w0.heap.size = q := ⟨_, rfl⟩
  have hBq : B < q := by rw [← hq]; exact K0.out.lt (.head _)
  rw [hq] at hr1 ⊢
  have H1 := Bx.mk (And.intro (K0.out.later hb1) (And.intro hr1 hBq))
  clear hr1 hb1 K0 HNe hq hBq
  obtain ⟨R, hR⟩ : ∃ R, w1.heap.size = R := ⟨_, rfl⟩
  have HqR : Bx (q < R) := Bx.mk (by rw [← hR]; exact H1.out.2.1.lt)
  have H3 : Bx (((w1.alloc (.cells #[.pointer (some ⟨q, 0, none⟩)] 86)).heap[B]? = some (.cells zc 33 (0, 0)) ∧ (w1.alloc (.cells #[.pointer (some ⟨q, 0, none⟩)] 86)).heap[R]? = some (.cells #[.pointer (some ⟨q, 0, none⟩)] 86 (0, 0)) ∧ Below B w (w1.alloc (.cells #[.pointer (some ⟨q, 0, none⟩)] 86)) ∧ B < q ∧ q < R) ∧ IsR (w1.alloc (.cells #[.pointer (some ⟨q, 0, none⟩)] 86)) q b 0) := Bx.mk (by
    obtain ⟨k1, k2, k3⟩ := H1.out
    have k4 := k1.new (.cells #[.pointer (some ⟨q, 0, none⟩)] 86)
    rw [hR] at k4
    exact ⟨⟨k4.rows _ (.tail _ (.head _)), k4.rows _ (.head _), k4.below, k3, HqR.out⟩, k2.later (below_a _)⟩)
  clear H1
  go_wp2_with fail
  generalize w1.alloc (.cells #[.pointer (some ⟨q, 0, none⟩)] 86) = w3 at *
  skip -- M1
  refine (HRp.out q w3 H3.out.2).mono ?_
  rintro e w4 ⟨u4, rfl, ho4, hr4, hg4⟩
  obtain ⟨a4, c4, hv4⟩ := own_form ho4
  subst hv4
  obtain ⟨D, hD⟩ : ∃ D, w4.heap.size = D := ⟨_, rfl⟩
  have H4 := Bx.mk fun (W : World) (tz : Array Value) (htz : pkC X (.slice a4 X.b.length c4) = tz) (hg : (w4.alloc (.cells zc 33)).grownBy W (some D)) (hw : W.heap[D]? = some (.cells tz 33 (0, 0))) => PP.begin H3.out.1 hr4 hg4 ho4 hD htz hg hw
  have HnD : Bx ((w4.alloc (.cells zc 33)).heap[D]? = some (.cells zc 33 (0, 0))) := Bx.mk (hnew _ _ _ hD.symm)
  have HJ : Bx ((Tryd.prog.info? 33).map (·.size) = some (pkC X (.slice a4 X.b.length c4)).size ∧ (pkC X (.slice a4 X.b.length c4)).size = zc.size ∧ (pkC X (.slice a4 X.b.length c4)).all (·.oneCell') = true) := Bx.mk ⟨pk_infoW _ _ HTL.out, by rw [HZ.out, pkC_size _ _ HTL.out], pkC_one _ _ _ _⟩
  have HCk : Bx (∀ W, Bytes W (.slice a4 X.b.length c4) X.b → Calls Tryd.prog 42 #[pkV X (.slice a4 X.b.length c4)] W fun e w' => e = .returned (.int .i64 (chkP X)) ∧ Below W.heap.size W w') := Bx.mk fun W h => check14 X _ W HTL.out h
  unfold pkV at HCk
  unfold pkV
  obtain ⟨tz, htz⟩ : ∃ tz, pkC X (.slice a4 X.b.length c4) = tz := ⟨_, rfl⟩
  have HTZ := Bx.mk htz
  rw [htz] at HJ HCk ⊢
  clear hr4 hg4 ho4 H3 HRp HqR hR htz
  go_wp2_with (refine wpList_store_new rfl 33 _ _ rfl D tz zc _ (by rfl) (by rfl) HnD.out HJ.out.2.1 HJ.out.1 HJ.out.2.2 ?_; intro w5 hw8 hr8; have H5 := Bx.mk (H4.out w5 tz HTZ.out (kb_ofP hw8) hr8); have hc0 := H5.out.ptr; clear hw8 hr8)
  clear H4 HnD hD
  skip -- M2
  refine (rerr_any q _ p6.2 w5 H5.out.rd).mono ?_
  rintro e w6 ⟨rfl, rfl⟩
  by_cases he : p6.2 = 0
  · rw [he]
    have k0 := (pk_at H5.out.pk).k
    cases hk : kindB X.k with
    | false =>
      obtain rfl : E = 13 := by rw [HE.out, if_neg (by simp [he]), if_pos hk]
      go_wp2_with fail
      refine (iskind14 X.k _ hk w6).mono ?_
      rintro e w7 ⟨rfl, rfl⟩
      go_wp2_with (first | (refine wpList_buildP rfl 33 _ rfl zc (by exact hbz) ?_) | (refine wpList_store_new rfl 33 _ _ rfl B zc zc _ (by rfl) (by rfl) H5.out.res rfl HI.out HO.out ?_; intro w8 hw8 hr8; have hg8 := Bx.mk (kb_ofP hw8); have HR8 := Bx.mk hr8; clear hw8 hr8))
      obtain rfl : Y = Pk.zero := by rw [HY.out, if_neg (by decide)]
      refine bodyPost_ret (results_pair rfl _ _ _ B _ rfl (run_loadVar_row _ B _ _ _ _ _ HR8.out Tryd.underlying33 rfl HI.out)) rfl ?_
      exact ⟨.slice none 0 0, by rw [← HZC.out]; rfl, OwnB.nil _ _, (H5.out.fin hg8.out).2⟩
    | true =>
      go_wp2_with fail
      refine (iskind14 X.k _ hk w6).mono ?_
      rintro e w7 ⟨rfl, rfl⟩
      clear k0
      have HPk : Bx (w6.heap[D]? = some (.cells tz 33 (0, 0))) := Bx.mk (by rw [← HTZ.out]; exact H5.out.pk)
      go_wp2_with (refine wpList_load_row rfl 33 _ rfl D (by rfl) _ _ _ _ HPk.out Tryd.underlying33 rfl HJ.out.1 ?_)
      refine (HCk.out w6 H5.out.body.bytes).mono ?_
      rintro e w9 ⟨rfl, hb9⟩
      have H9 := Bx.mk (H5.out.later hb9)
      clear hb9 H5 hc0 HPk HCk
      by_cases hc : chkP X = 0
      · rw [hc]
        have hc0 := H9.out.ptr
        go_wp2_with fail
        refine (left_any q p6.1 p6.2 w9 H9.out.rd).mono ?_
        rintro e wa ⟨rfl, rfl⟩
        by_cases hlf : 0 < p6.1.length
        · have hlf1 : (0 : Int) < (p6.1.length : Int) := by omega
          obtain rfl : E = 3 := by rw [HE.out, if_neg (by simp [he]), if_neg (by simp [hk]), if_neg (by simp [hc]), if_pos hlf]
          go_wp2_with (first | (refine wpList_buildP rfl 33 _ rfl zc (by exact hbz) ?_) | (refine wpList_store_new rfl 33 _ _ rfl B zc zc _ (by rfl) (by rfl) H9.out.res rfl HI.out HO.out ?_; intro w8 hw8 hr8; have hg8 := Bx.mk (kb_ofP hw8); have HR8 := Bx.mk hr8; clear hw8 hr8))
          obtain rfl : Y = Pk.zero := by rw [HY.out, if_neg (by decide)]
          refine bodyPost_ret (results_pair rfl _ _ _ B _ rfl (run_loadVar_row _ B _ _ _ _ _ HR8.out Tryd.underlying33 rfl HI.out)) rfl ?_
          exact ⟨.slice none 0 0, by rw [← HZC.out]; rfl, OwnB.nil _ _, (H9.out.fin hg8.out).2⟩
        · have hlf1 : ¬ (0 : Int) < (p6.1.length : Int) := by omega
          obtain rfl : E = 0 := by rw [HE.out, if_neg (by simp [he]), if_neg (by simp [hk]), if_neg (by simp [hc]), if_neg hlf]
          obtain rfl : Y = X := by rw [HY.out, if_pos rfl]
          have HPk : Bx (wa.heap[D]? = some (.cells tz 33 (0, 0))) := Bx.mk (by rw [← HTZ.out]; exact H9.out.pk)
          go_wp2_with (first | (refine wpList_load_row rfl 33 _ rfl D (by rfl) _ _ _ _ HPk.out Tryd.underlying33 rfl HJ.out.1 ?_) | (refine wpList_store_new rfl 33 _ _ rfl B tz zc _ (by rfl) (by rfl) H9.out.res HJ.out.2.1 HJ.out.1 HJ.out.2.2 ?_; intro w8 hw8 hr8; have hg8 := Bx.mk (kb_ofP hw8); have HR8 := Bx.mk hr8; clear hw8 hr8))
          refine bodyPost_ret (results_pair rfl _ _ _ B _ rfl (run_loadVar_row _ B _ _ _ _ _ HR8.out Tryd.underlying33 rfl HJ.out.1)) rfl ?_
          exact ⟨_, by rw [← HTZ.out]; rfl, H9.out.fin hg8.out⟩
      · obtain rfl : E = 3 := by rw [HE.out, if_neg (by simp [he]), if_neg (by simp [hk]), if_pos hc]
        generalize chkP X = ck at *
        go_wp2_with (first | (refine wpList_buildP rfl 33 _ rfl zc (by exact hbz) ?_) | (refine wpList_store_new rfl 33 _ _ rfl B zc zc _ (by rfl) (by rfl) H9.out.res rfl HI.out HO.out ?_; intro w8 hw8 hr8; have hg8 := Bx.mk (kb_ofP hw8); have HR8 := Bx.mk hr8; clear hw8 hr8))
        obtain rfl : Y = Pk.zero := by rw [HY.out, if_neg (by decide)]
        refine bodyPost_ret (results_pair rfl _ _ _ B _ rfl (run_loadVar_row _ B _ _ _ _ _ HR8.out Tryd.underlying33 rfl HI.out)) rfl ?_
        exact ⟨.slice none 0 0, by rw [← HZC.out]; rfl, OwnB.nil _ _, (H9.out.fin hg8.out).2⟩
  · obtain rfl : E = p6.2 := by rw [HE.out, if_pos he]
    have HEn := Bx.mk he
    generalize hpe : p6.2 = er at *
    go_wp2_with (first | (refine wpList_buildP rfl 33 _ rfl zc (by exact hbz) ?_) | (refine wpList_store_new rfl 33 _ _ rfl B zc zc _ (by rfl) (by rfl) H5.out.res rfl HI.out HO.out ?_; intro w8 hw8 hr8; have hg8 := Bx.mk (kb_ofP hw8); have HR8 := Bx.mk hr8; clear hw8 hr8))
    refine (rerr_any q p6.1 er w6 (by have := H5.out.rd; rw [hpe] at this; exact this)).mono ?_
    rintro e w7 ⟨rfl, rfl⟩
    go_wp2_with (first | (refine wpList_buildP rfl 33 _ rfl zc (by exact hbz) ?_) | (refine wpList_store_new rfl 33 _ _ rfl B zc zc _ (by rfl) (by rfl) H5.out.res rfl HI.out HO.out ?_; intro w8 hw8 hr8; have hg8 := Bx.mk (kb_ofP hw8); have HR8 := Bx.mk hr8; clear hw8 hr8))
    obtain rfl : Y = Pk.zero := by rw [HY.out, if_neg (by exact HEn.out)]
    refine bodyPost_ret (results_pair rfl _ _ _ B _ rfl (run_loadVar_row _ B _ _ _ _ _ HR8.out Tryd.underlying33 rfl HI.out)) rfl ?_
    exact ⟨.slice none 0 0, by rw [← HZC.out]; rw [hpe]; rfl, OwnB.nil _ _, (H5.out.fin hg8.out).2⟩
end Go.Proofs.YtaoekfomffebhaaDoor
namespace Go.Proofs.YtaoekfomffebhaaDoor
open Go Go.RowKit
theorem step_cut (p : List UInt8 × Int) (s : Int) (hs : s = 0 ∨ s = 1 ∨ s = 2) (h : (stepR p s).2 = 0) : p.2 = 0 ∧ p.1 = beN (wid s) (numR p s).toNat ++ (stepR p s).1 := by
  obtain ⟨l, e⟩ := p
  by_cases he : e = 0
  · subst he
    by_cases hl : wid s ≤ l.length
    · rw [stepR_long l s hs hl, numR_long l s hs hl, Int.toNat_natCast]
      have hv := beN_val (l.take (wid s))
      rw [show (l.take (wid s)).length = wid s by rw [List.length_take]; omega] at hv
      exact ⟨rfl, by rw [hv, List.take_append_drop]⟩
    · rw [stepR_short l s hs (by omega)] at h
      cases h
  · rw [stepR_bad l e s he] at h
    exact absurd h he
theorem rd_cut (p : List UInt8 × Int) (h : (rdR p).2 = 0) : p.2 = 0 ∧ p.1 = clB (rdN p) ++ (rdR p).1 := by
  have h4 := step_cut (stepR (stepR (stepR p 1) 0) 2) 1 (by omega) h
  have h3 := step_cut (stepR (stepR p 1) 0) 2 (by omega) h4.1
  have h2 := step_cut (stepR p 1) 0 (by omega) h3.1
  have h1 := step_cut p 1 (by omega) h2.1
  refine ⟨h1.1, ?_⟩
  have e : (rdR p).1 = (stepR (stepR (stepR (stepR p 1) 0) 2) 1).1 := rfl
  rw [e]
  unfold clB rdN
  simp only [List.append_assoc]
  conv => lhs; rw [h1.2, h2.2, h3.2, h4.2]
  rfl
theorem nr_cut (p : List UInt8 × Int) (h : (nrR p).2 = 0) : p.2 = 0 ∧ p.1 = nB (nrN p) ++ (nrR p).1 := by
  have h2 := step_cut (stepR p 1) 2 (by omega) h
  have h1 := step_cut p 1 (by omega) h2.1
  refine ⟨h1.1, ?_⟩
  have e : (nrR p).1 = (stepR (stepR p 1) 2).1 := rfl
  rw [e]
  unfold nB nrN
  simp only [List.append_assoc]
  conv => lhs; rw [h1.2, h2.2]
  rfl
theorem byt_cut (p : List UInt8 × Int) (h : (bytR p.1 p.2 512).2.2 = 0) : p.2 = 0 ∧ p.1 = beN 2 (bytR p.1 p.2 512).1.length ++ ((bytR p.1 p.2 512).1 ++ (bytR p.1 p.2 512).2.1) := by
  obtain ⟨l, e⟩ := p
  simp only at h ⊢
  unfold bytR getR at h ⊢
  by_cases he : e = 0
  · subst he
    rw [if_neg (by simp : ¬ (0 : Int) ≠ 0)] at h ⊢
    unfold getF at h ⊢
    rw [if_neg (by omega : ¬ ((4 : Int) < 0 ∨ (4 : Int) < 4)), if_pos rfl] at h ⊢
    by_cases h2 : l.length < 2
    · rw [if_pos h2] at h
      simp [Fd.zero] at h
    · rw [if_neg h2] at h ⊢
      by_cases h5 : 512 < valN (l.take 2)
      · rw [if_pos h5] at h
        simp [Fd.zero] at h
      · rw [if_neg h5] at h ⊢
        by_cases h3 : l.length - 2 < valN (l.take 2)
        · rw [if_pos h3] at h
          simp [Fd.zero] at h
        · rw [if_neg h3] at h ⊢
          have hbl : ((l.drop 2).take (valN (l.take 2))).length = valN (l.take 2) := by rw [List.length_take, List.length_drop]; omega
          simp only at h ⊢
          rw [if_neg (by rw [hbl]; omega)] at ⊢
          simp only
          have hv := beN_val (l.take 2)
          rw [show (l.take 2).length = 2 by rw [List.length_take]; omega] at hv
          exact ⟨by simp, by rw [hbl, hv, List.take_append_drop, List.take_append_drop]⟩
  · rw [if_pos he] at h
    simp [Fd.zero] at h
    exact absurd h he
theorem beN_one (m : Nat) : beN 1 m = [UInt8.ofNat (m % 256)] := by simp [beN]
theorem tg_cut (p : List UInt8 × Int) (k : Nat) (h : (stT p k).2 = 0) : p.2 = 0 ∧ p.1 = (List.range k).map (tgB p) ++ (stT p k).1 := by
  induction k with
  | zero => exact ⟨h, rfl⟩
  | succ k ih =>
    have h1 := step_cut (stT p k) 0 (by omega) h
    have h2 := ih h1.1
    refine ⟨h2.1, ?_⟩
    conv => lhs; rw [h2.2, h1.2]
    rw [List.range_succ, List.map_append, List.append_assoc]
    congr 1
    rw [show wid 0 = 1 from rfl, beN_one]
    rfl
theorem tgT_all (p : List UInt8 × Int) : tgT p 32 = (List.range 32).map (tgB p) := by
  unfold tgT
  apply List.map_congr_left
  intro j hj
  rw [if_pos (List.mem_range.1 hj)]
theorem okC_zero : okC clZ = false := by decide
theorem okN_zero : okN Nn.zero = false := by decide
/-- What is read as a packet has these bytes. -/
theorem parse_cut (b : List UInt8) (h : psE14 b = 0) : chkP (psX b) = 0 ∧ pkB (psX b) = b ∧ (psX b).t.length = 32 := by
  have hX : psX b = rdX (b, 0) := by unfold psX; rw [if_pos h]
  rw [hX]
  unfold psE14 at h
  by_cases he : (r6P (b, 0)).2 = 0
  · rw [if_neg (by simp [he])] at h
    by_cases hk : kindB (rdX (b, 0)).k = false
    · rw [if_pos hk] at h
      cases h
    · rw [if_neg hk] at h
      by_cases hc : chkP (rdX (b, 0)) = 0
      · rw [if_neg (by simp [hc])] at h
        by_cases hl : 0 < (r6P (b, 0)).1.length
        · rw [if_pos hl] at h
          cases h
        · refine ⟨hc, ?_, tgT_length _ _⟩
          obtain ⟨-, g2, -, g4, -, -⟩ := chkP_ok hc
          have hn : (r6P (b, 0)).1 = [] := List.eq_nil_of_length_eq_zero (by omega)
          have h6 := tg_cut (r5P (b, 0)) 32 he
          have h5 := byt_cut (r4P (b, 0)) h6.1
          have h4 := nr_cut (r3P (b, 0)) h5.1
          have h3 := step_cut (r2P (b, 0)) 1 (by omega) h4.1
          have h2 := rd_cut (r1P (b, 0)) h3.1
          have h1 := step_cut (b, 0) 0 (by omega) h2.1
          have ec : rdC (r1P (b, 0)) = rdN (r1P (b, 0)) := by
            have g : okC (rdC (r1P (b, 0))) = true := g2
            unfold rdC at g ⊢
            by_cases hz : rdE (r1P (b, 0)) = 0
            · rw [if_pos hz]
            · rw [if_neg hz, okC_zero] at g
              cases g
          have en : nrC (r3P (b, 0)) = nrN (r3P (b, 0)) := by
            have g : okN (nrC (r3P (b, 0))) = true := g4
            unfold nrC at g ⊢
            by_cases hz : nrE (r3P (b, 0)) = 0
            · rw [if_pos hz]
            · rw [if_neg hz, okN_zero] at g
              cases g
          have hn5 : (stT (r5P (b, 0)) 32).1 = [] := hn
          have f1 : b = beN 1 (numR (b, 0) 0).toNat ++ (r1P (b, 0)).1 := h1.2
          have f2 : (r1P (b, 0)).1 = clB (rdN (r1P (b, 0))) ++ (r2P (b, 0)).1 := h2.2
          have f3 : (r2P (b, 0)).1 = beN 2 (numR (r2P (b, 0)) 1).toNat ++ (r3P (b, 0)).1 := h3.2
          have f4 : (r3P (b, 0)).1 = nB (nrN (r3P (b, 0))) ++ (r4P (b, 0)).1 := h4.2
          have f5 : (r4P (b, 0)).1 = beN 2 (bytR (r4P (b, 0)).1 (r4P (b, 0)).2 512).1.length ++ ((bytR (r4P (b, 0)).1 (r4P (b, 0)).2 512).1 ++ (r5P (b, 0)).1) := h5.2
          have f6 : (r5P (b, 0)).1 = tgT (r5P (b, 0)) 32 := by rw [h6.2, hn5, List.append_nil, tgT_all]
          unfold pkB hdB rdX
          simp only [List.append_assoc]
          rw [ec, en]
          rw [← f6, ← f5, ← f4, ← f3, ← f2, ← f1]
      · rw [if_pos hc] at h
        cases h
  · rw [if_pos he] at h
    exact absurd h he
end Go.Proofs.YtaoekfomffebhaaDoor
namespace Go.Proofs.YtaoekfomffebhaaDoor
open Go Go.RowKit
/-- Bytes, a key and the digest's table beside block M. -/
structure FX (M : Nat) (bs : List (Value × List UInt8)) (vk : Value) (kb : List UInt8) (W : World) : Prop where
  bytes : ∀ x ∈ bs, BytesN W M x.1 x.2
  key : ∃ p s, vk = .pointer (some ⟨p, 0, none⟩) ∧ p ≠ M ∧ W.heap[p]? = some (.cells #[s] 74 (0, 0)) ∧ BytesN W M s kb
  tab : Tab W
  tg : 1 < W.heap.size
  gne : 1 ≠ M
theorem FX.grown {M : Nat} {bs : List (Value × List UInt8)} {vk : Value} {kb : List UInt8} {W W1 : World} (h : FX M bs vk kb W) (hg : W.grownBy W1 (some M)) : FX M bs vk kb W1 := by
  obtain ⟨p, s, h1, h2, h3, h4⟩ := h.key
  have hgb := hg.block _ h.tg (fun e => by injection e with e; exact h.gne e)
  exact ⟨fun x hx => (h.bytes x hx).grown hg, ⟨p, s, h1, h2, (hg.block p (Array.getElem?_eq_some_iff.1 h3).1 (fun e => by injection e with e; exact h2 e)).trans h3, h4.grown hg⟩, fun k hk => (World.cell?_of_block hgb).trans (h.tab k hk), Nat.lt_of_lt_of_le h.tg hg.size, h.gne⟩
theorem FX.later {M : Nat} {bs : List (Value × List UInt8)} {vk : Value} {kb : List UInt8} {W W1 : World} (h : FX M bs vk kb W) (hb : Below W.heap.size W W1) : FX M bs vk kb W1 := h.grown (kb_below (some M) hb)
theorem FX.at0 {M : Nat} {x : Value × List UInt8} {bs : List (Value × List UInt8)} {vk : Value} {kb : List UInt8} {W : World} (h : FX M (x :: bs) vk kb W) : Bytes W x.1 x.2 := (h.bytes x (.head _)).1
theorem FX.at2 {M : Nat} {x y z : Value × List UInt8} {bs : List (Value × List UInt8)} {vk : Value} {kb : List UInt8} {W : World} (h : FX M (x :: y :: z :: bs) vk kb W) : Bytes W z.1 z.2 := (h.bytes z (.tail _ (.tail _ (.head _)))).1
theorem FX.cons {M : Nat} {x : Value × List UInt8} {bs : List (Value × List UInt8)} {vk : Value} {kb : List UInt8} {W : World} (h : FX M bs vk kb W) (hx : BytesN W M x.1 x.2) : FX M (x :: bs) vk kb W :=
  ⟨fun y hy => by rcases List.mem_cons.1 hy with rfl | hy; exact hx; exact h.bytes y hy, h.key, h.tab, h.tg, h.gne⟩
theorem chkP_tag (x : Pk) (t : List UInt8) (h : plainB x.k = false) : chkP { x with t := t } = chkP x := by
  unfold chkP
  simp [h]
theorem plain_kind (x : Pk) (hp : plainB x.k = false) (hc : chkP x = 0) : 2 < x.k := by
  have h := (kindB_iff _).1 (chkP_ok hc).1
  unfold plainB at hp
  simp at hp
  omega
end Go.Proofs.YtaoekfomffebhaaDoor
namespace Go.Proofs.YtaoekfomffebhaaDoor
open Go Go.ChangeShapes Go.WideShapes Go.ChangeAt Go.RowKit
theorem KP.fresh {w : World} {B A : Nat} {rs : List (Nat × Obj)} {W W1 : World} {o o1 : Obj} (h : KP w B rs W) (hA : W.heap.size = A) (hg : (W.alloc o).grownBy W1 (some A)) (hr : W1.heap[A]? = some o1) : KP w B ((A, o1) :: rs) W1 ∧ Below W.heap.size W W1 := by
  have k := h.new o
  rw [hA] at k
  have hle := h.le
  exact ⟨k.set hg hr (by omega) (fun x hx => by have := h.lt hx; omega), (below_a o).trans (grown_below hg (by omega) (by have := (below_a (W := W) o).size; omega))⟩
end Go.Proofs.YtaoekfomffebhaaDoor
