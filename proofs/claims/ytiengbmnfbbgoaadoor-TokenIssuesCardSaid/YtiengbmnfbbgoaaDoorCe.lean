/-
  Claims: the walks of Read and Parse.
-/
import Derived.Test.YtiengbmnfbbgoaaDoorCa
import Derived.Test.YtiengbmnfbbgoaaDoorIy
namespace Go.Proofs.YtiengbmnfbbgoaaDoor
open Go Go.RowKit
/-- Bytes lie in no block of other cells. -/
theorem Bytes.offA {w : World} {D : Nat} {cs : Array Value} {t : TypeId} {fr : Nat × Nat} {v : Value} {l : List UInt8} (h : Bytes w v l) (hr : w.heap[D]? = some (.cells cs t fr)) (hc : ∀ (i : Nat) x, cs[i]? ≠ some (.int .u8 x)) (h0 : 0 < l.length) : v.ownBlock ≠ some D := by
  obtain ⟨ad, cap, rfl, -, -, hr2⟩ := h
  obtain ⟨g, o, rfl, hcell⟩ := hr2 h0
  intro e
  injection e with e
  simp only at e
  subst e
  have h1 := hcell 0 h0
  rw [cell_of_row _ _ _ _ _ _ hr] at h1
  exact hc _ _ h1
theorem IsR.asideA {w w1 : World} {q D : Nat} {cs : Array Value} {t : TypeId} {fr : Nat × Nat} {l : List UInt8} {e : Int} (h : IsR w q l e) (hr : w.heap[D]? = some (.cells cs t fr)) (hc : ∀ (i : Nat) x, cs[i]? ≠ some (.int .u8 x)) (hg : w.grownBy w1 (some D)) (hne : q ≠ D) : IsR w1 q l e := by
  have hq := h.lt
  obtain ⟨v, h1, h2⟩ := h
  exact ⟨v, by rw [hg.block q hq (fun e => hne (by injection e))]; exact h1, (BytesN.grown (p := D) ⟨h2.1, h2.1.offA hr hc⟩ hg).1, h2.2⟩
theorem four_off (a b c d : Int) (i : Nat) (x : Int) : (#[Value.int .i64 a, .int .i64 b, .int .i64 c, .int .i64 d] : Array Value)[i]? ≠ some (.int .u8 x) := by
  intro h
  match i, h with
  | 0, h => simp at h
  | 1, h => simp at h
  | 2, h => simp at h
  | 3, h => simp at h
  | i + 4, h => simp at h
/-- A reader's bytes and error, a field on. -/
def stepR (p : List UInt8 × Int) (s : Int) : List UInt8 × Int := (getR p.1 p.2 s).2
/-- The number that is read. -/
def numR (p : List UInt8 × Int) (s : Int) : Int := (getR p.1 p.2 s).1.n
theorem stepR_len (p : List UInt8 × Int) (s : Int) : (stepR p s).1.length ≤ p.1.length := by
  unfold stepR getR getF
  split
  · exact Nat.le_refl _
  · split
    · simp
    · split
      · split
        · simp
        · split
          · simp
          · split
            · simp
            · simp
      · split
        · simp
        · split
          · simp
          · simp
/-- A reader behind four fields. -/
def rdR (p : List UInt8 × Int) : List UInt8 × Int := stepR (stepR (stepR (stepR p 1) 0) 2) 1
/-- The four numbers that are read. -/
def rdN (p : List UInt8 × Int) : Cl := ⟨numR p 1, numR (stepR p 1) 0, numR (stepR (stepR p 1) 0) 2, numR (stepR (stepR (stepR p 1) 0) 2) 1⟩
/-- The error of Read. -/
def rdE (p : List UInt8 × Int) : Int := if (rdR p).2 ≠ 0 then (rdR p).2 else if okC (rdN p) = true then 0 else 3
/-- No claims. -/
def clZ : Cl := ⟨0, 0, 0, 0⟩
/-- The claims of Read. -/
def rdC (p : List UInt8 × Int) : Cl := if rdE p = 0 then rdN p else clZ
/-- What stays while claims are read. -/
structure RdS (w : World) (q D : Nat) (p : List UInt8 × Int) (W : World) : Prop where
  rd : IsR W q p.1 p.2
  gr : w.grownBy W (some q)
  res : W.heap[D]? = some (.cells #[.int .i64 0, .int .i64 0, .int .i64 0, .int .i64 0] 36 (0, 0))
  at_ : w.heap.size = D
  lt : q < D
theorem RdS.step {w : World} {q D : Nat} {p p1 : List UInt8 × Int} {W W1 : World} (h : RdS w q D p W) (h1 : IsR W1 q p1.1 p1.2) (hg : W.grownBy W1 (some q)) : RdS w q D p1 W1 :=
  ⟨h1, kb_trans h.gr hg, by rw [hg.block D (Array.getElem?_eq_some_iff.1 h.res).1 (fun e => by injection e with e; have := h.lt; omega)]; exact h.res, h.at_, h.lt⟩
theorem RdS.later {w : World} {q D : Nat} {p : List UInt8 × Int} {W W1 : World} (h : RdS w q D p W) (hb : Below W.heap.size W W1) : RdS w q D p W1 :=
  ⟨h.rd.later hb, kb_trans h.gr (kb_below _ hb), by rw [hb.block D (Array.getElem?_eq_some_iff.1 h.res).1]; exact h.res, h.at_, h.lt⟩
set_option maxRecDepth 100000 in
set_option maxHeartbeats 2000000 in
theorem read_any (q : Nat) (p : List UInt8 × Int) (w : World) (h : IsR w q p.1 p.2) (hl : p.1.length ≤ 5000) :
    Calls Tryd.prog 60 #[.pointer (some ⟨q, 0, none⟩)] w fun e w' => e = .returned (.tuple #[clV (rdC p), .int .i64 (rdE p)]) ∧ IsR w' q (rdR p).1 (rdR p).2 ∧ w.grownBy w' (some q) := by
  obtain ⟨D, hD⟩ : ∃ D, w.heap.size = D := ⟨_, rfl⟩
  have HD := Bx.mk hD
  have HL := Bx.mk hl
  have H0 : Bx (RdS w q D p (w.alloc (.cells #[.int .i64 0, .int .i64 0, .int .i64 0, .int .i64 0] 36))) := Bx.mk ⟨h.later (below_a _), kb_below _ (below_a _), hnew _ _ _ hD.symm, hD, by rw [← hD]; exact h.lt⟩
  have HC : Bx (∀ n0 n1 n2 n3, (⟨n0, n1, n2, n3⟩ : Cl) = rdN p → ∀ W, Calls Tryd.prog 53 #[.agg #[.int .i64 n0, .int .i64 n1, .int .i64 n2, .int .i64 n3]] W fun e w' => e = .returned (.int .i64 (if okC (rdN p) = true then 0 else 10)) ∧ Below W.heap.size W w') := Bx.mk (fun n0 n1 n2 n3 hn W => by
    have hk := ccheck_any ⟨n0, n1, n2, n3⟩ W
    rw [hn] at hk
    rw [← hn] at hk ⊢
    exact hk)
  clear h hl
  have S1 := Bx.mk (stepR_len p 1)
  have S2 := Bx.mk (stepR_len (stepR p 1) 0)
  have S3 := Bx.mk (stepR_len (stepR (stepR p 1) 0) 2)
  have HN : Bx (rdN p = ⟨numR p 1, numR (stepR p 1) 0, numR (stepR (stepR p 1) 0) 2, numR (stepR (stepR (stepR p 1) 0) 2) 1⟩) := Bx.mk rfl
  have HR : Bx (rdR p = stepR (stepR (stepR (stepR p 1) 0) 2) 1) := Bx.mk rfl
  obtain ⟨V, hV⟩ : ∃ V, clV (rdC p) = V := ⟨_, rfl⟩
  obtain ⟨E, hE⟩ : ∃ E, rdE p = E := ⟨_, rfl⟩
  have HV := Bx.mk (And.intro hV hE)
  rw [hV, hE]
  clear hV hE
  go_enter Tryd.func60, Tryd.ntmps60
  go_wp2_with fail
  generalize w.alloc (.cells #[.int .i64 0, .int .i64 0, .int .i64 0, .int .i64 0] 36) = w0 at *
  refine (rnum_any q 1 p.1 p.2 w0 H0.out.rd HL.out (by omega)).mono ?_
  rintro e w1 ⟨rfl, hr1, hg1⟩
  have H1 : Bx (RdS w q D (stepR p 1) w1) := Bx.mk (H0.out.step hr1 hg1)
  rw [show (getR p.1 p.2 1).1.n = numR p 1 from rfl]
  clear hr1 hg1 H0
  generalize numR p 1 = n0 at *
  generalize stepR p 1 = p1 at *
  go_wp2_with fail
  refine (rnum_any q 0 p1.1 p1.2 w1 H1.out.rd (by have := HL.out; have := S1.out; omega) (by omega)).mono ?_
  rintro e w2 ⟨rfl, hr1, hg1⟩
  have H2 : Bx (RdS w q D (stepR p1 0) w2) := Bx.mk (H1.out.step hr1 hg1)
  rw [show (getR p1.1 p1.2 0).1.n = numR p1 0 from rfl]
  clear hr1 hg1 H1
  generalize numR p1 0 = n1 at *
  generalize stepR p1 0 = p2 at *
  go_wp2_with fail
  refine (rnum_any q 2 p2.1 p2.2 w2 H2.out.rd (by have := HL.out; have := S1.out; have := S2.out; omega) (by omega)).mono ?_
  rintro e w3 ⟨rfl, hr1, hg1⟩
  have H3 : Bx (RdS w q D (stepR p2 2) w3) := Bx.mk (H2.out.step hr1 hg1)
  rw [show (getR p2.1 p2.2 2).1.n = numR p2 2 from rfl]
  clear hr1 hg1 H2
  generalize numR p2 2 = n2 at *
  generalize stepR p2 2 = p3 at *
  go_wp2_with fail
  refine (rnum_any q 1 p3.1 p3.2 w3 H3.out.rd (by have := HL.out; have := S1.out; have := S2.out; have := S3.out; omega) (by omega)).mono ?_
  rintro e w4 ⟨rfl, hr1, hg1⟩
  have H4 : Bx (RdS w q D (stepR p3 1) w4) := Bx.mk (H3.out.step hr1 hg1)
  rw [show (getR p3.1 p3.2 1).1.n = numR p3 1 from rfl]
  clear hr1 hg1 H3 S1 S2 S3
  generalize numR p3 1 = n3 at *
  rw [← HR.out] at H4
  clear HR
  have H5 : Bx (RdS w q D (rdR p) (w4.alloc (.cells #[.int .i64 n0, .int .i64 n1, .int .i64 n2, .int .i64 n3] 36)) ∧ (w4.alloc (.cells #[.int .i64 n0, .int .i64 n1, .int .i64 n2, .int .i64 n3] 36)).heap[w4.heap.size]? = some (.cells #[.int .i64 n0, .int .i64 n1, .int .i64 n2, .int .i64 n3] 36 (0, 0))) := Bx.mk ⟨H4.out.later (below_a _), hnew _ _ _ rfl⟩
  clear H4
  go_wp2_with fail
  generalize w4.alloc (.cells #[.int .i64 n0, .int .i64 n1, .int .i64 n2, .int .i64 n3] 36) = w5 at *
  generalize w4.heap.size = G at *
  refine (rerr_any q (rdR p).1 (rdR p).2 w5 H5.out.1.rd).mono ?_
  rintro e w6 ⟨rfl, hw6⟩
  rw [hw6]
  clear hw6 w6
  by_cases he : (rdR p).2 = 0
  · rw [he]
    have H5h := H5
    have hc0 : w5.cell? ⟨G, 0, none⟩ = some (.int .i64 n0) := by rw [cell_of_row _ _ _ _ _ _ H5.out.2]; rfl
    have hc1 : w5.cell? ⟨G, 1, none⟩ = some (.int .i64 n1) := by rw [cell_of_row _ _ _ _ _ _ H5.out.2]; rfl
    have hc2 : w5.cell? ⟨G, 2, none⟩ = some (.int .i64 n2) := by rw [cell_of_row _ _ _ _ _ _ H5.out.2]; rfl
    have hc3 : w5.cell? ⟨G, 3, none⟩ = some (.int .i64 n3) := by rw [cell_of_row _ _ _ _ _ _ H5.out.2]; rfl
    go_wp2_with fail
    refine (HC.out n0 n1 n2 n3 HN.out.symm w5).mono ?_
    rintro e w7 ⟨rfl, hb7⟩
    have H7 : Bx (RdS w q D (rdR p) w7 ∧ w7.heap[G]? = some (.cells #[.int .i64 n0, .int .i64 n1, .int .i64 n2, .int .i64 n3] 36 (0, 0))) := Bx.mk ⟨H5.out.1.later hb7, by rw [hb7.block G (Array.getElem?_eq_some_iff.1 H5.out.2).1]; exact H5.out.2⟩
    clear hb7 H5 H5h hc0 hc1 hc2 hc3
    by_cases ho : okC (rdN p) = true
    · rw [if_pos ho]
      have HE : Bx (E = 0 ∧ V = .agg #[.int .i64 n0, .int .i64 n1, .int .i64 n2, .int .i64 n3]) := Bx.mk (by
        have e0 : rdE p = 0 := by unfold rdE; rw [if_neg (by rw [he]; simp), if_pos ho]
        refine ⟨by rw [← HV.out.2, e0], ?_⟩
        rw [← HV.out.1]
        unfold rdC
        rw [if_pos e0, HN.out]
        rfl)
      have hc0 : w7.cell? ⟨G, 0, none⟩ = some (.int .i64 n0) := by rw [cell_of_row _ _ _ _ _ _ H7.out.2]; rfl
      have hc1 : w7.cell? ⟨G, 1, none⟩ = some (.int .i64 n1) := by rw [cell_of_row _ _ _ _ _ _ H7.out.2]; rfl
      have hc2 : w7.cell? ⟨G, 2, none⟩ = some (.int .i64 n2) := by rw [cell_of_row _ _ _ _ _ _ H7.out.2]; rfl
      have hc3 : w7.cell? ⟨G, 3, none⟩ = some (.int .i64 n3) := by rw [cell_of_row _ _ _ _ _ _ H7.out.2]; rfl
      clear HV HN HC
      go_wp2_with (refine wpList_store_new rfl 36 _ _ rfl D #[.int .i64 n0, .int .i64 n1, .int .i64 n2, .int .i64 n3] _ _ (by rfl) (by rfl) H7.out.1.res rfl (by kernel_rfl) (by simp [Value.oneCell']) ?_; intro w8 hw8 hr8; have hg8 : Bx (w7.grownBy w8 (some D)) := Bx.mk (by rw [hw8]; exact kb_setCells _ _ _); have HR8 := Bx.mk hr8; clear hw8 hr8)
      refine bodyPost_ret (results_pair rfl _ _ _ D _ rfl (run_loadVar_row _ D _ _ _ _ _ HR8.out Tryd.underlying36 rfl (by kernel_rfl))) rfl ?_
      exact ⟨by rw [HE.out.1, HE.out.2]; rfl, H7.out.1.rd.asideA H7.out.1.res (four_off _ _ _ _) hg8.out (by have := H7.out.1.lt; omega), kb_new H7.out.1.gr hg8.out (by rw [HD.out]; exact Nat.le_refl _)⟩
    · rw [if_neg ho]
      have HE : Bx (E = 3 ∧ V = .agg #[.int .i64 0, .int .i64 0, .int .i64 0, .int .i64 0]) := Bx.mk (by
        have e0 : rdE p = 3 := by unfold rdE; rw [if_neg (by rw [he]; simp), if_neg ho]
        refine ⟨by rw [← HV.out.2, e0], ?_⟩
        rw [← HV.out.1]
        unfold rdC
        rw [if_neg (by rw [e0]; simp)]
        rfl)
      clear HV HN HC
      go_wp2_with (refine wpList_store_new rfl 36 _ _ rfl D #[.int .i64 0, .int .i64 0, .int .i64 0, .int .i64 0] _ _ (by rfl) (by rfl) H7.out.1.res rfl (by kernel_rfl) (by simp [Value.oneCell']) ?_; intro w8 hw8 hr8; have hg8 : Bx (w7.grownBy w8 (some D)) := Bx.mk (by rw [hw8]; exact kb_setCells _ _ _); have HR8 := Bx.mk hr8; clear hw8 hr8)
      refine bodyPost_ret (results_pair rfl _ _ _ D _ rfl (run_loadVar_row _ D _ _ _ _ _ HR8.out Tryd.underlying36 rfl (by kernel_rfl))) rfl ?_
      exact ⟨by rw [HE.out.1, HE.out.2]; rfl, H7.out.1.rd.asideA H7.out.1.res (four_off _ _ _ _) hg8.out (by have := H7.out.1.lt; omega), kb_new H7.out.1.gr hg8.out (by rw [HD.out]; exact Nat.le_refl _)⟩
  · have HE : Bx (E = (rdR p).2 ∧ V = .agg #[.int .i64 0, .int .i64 0, .int .i64 0, .int .i64 0]) := Bx.mk (by
      have e0 : rdE p = (rdR p).2 := by unfold rdE; rw [if_pos he]
      refine ⟨by rw [← HV.out.2, e0], ?_⟩
      rw [← HV.out.1]
      unfold rdC
      rw [if_neg (by rw [e0]; exact he)]
      rfl)
    obtain ⟨er, hre⟩ : ∃ er, (rdR p).2 = er := ⟨_, rfl⟩
    rw [hre] at HE he ⊢
    have HER := Bx.mk hre
    clear HV HN HC hre
    go_wp2_with (refine wpList_store_new rfl 36 _ _ rfl D #[.int .i64 0, .int .i64 0, .int .i64 0, .int .i64 0] _ _ (by rfl) (by rfl) H5.out.1.res rfl (by kernel_rfl) (by simp [Value.oneCell']) ?_; intro w8 hw8 hr8; have hg8 : Bx (w5.grownBy w8 (some D)) := Bx.mk (by rw [hw8]; exact kb_setCells _ _ _); have HR8 := Bx.mk hr8; clear hw8 hr8)
    refine bodyPost_ret (results_pair rfl _ _ _ D _ rfl (run_loadVar_row _ D _ _ _ _ _ HR8.out Tryd.underlying36 rfl (by kernel_rfl))) rfl ?_
    exact ⟨by rw [HE.out.1, HE.out.2]; rfl, H5.out.1.rd.asideA H5.out.1.res (four_off _ _ _ _) hg8.out (by have := H5.out.1.lt; omega), kb_new H5.out.1.gr hg8.out (by rw [HD.out]; exact Nat.le_refl _)⟩
/-- The error of Parse. -/
def psE (b : List UInt8) : Int := if rdE (b, 0) ≠ 0 then rdE (b, 0) else if 0 < (rdR (b, 0)).1.length then 3 else 0
/-- The claims of Parse. -/
def psC (b : List UInt8) : Cl := if psE b = 0 then rdN (b, 0) else clZ
theorem rdE_zero {p : List UInt8 × Int} (h : rdE p = 0) : (rdR p).2 = 0 ∧ okC (rdN p) = true := by
  unfold rdE at h
  by_cases h1 : (rdR p).2 = 0
  · rw [if_neg (by rw [h1]; simp)] at h
    by_cases h2 : okC (rdN p) = true
    · exact ⟨h1, h2⟩
    · rw [if_neg h2] at h
      omega
  · rw [if_pos h1] at h
    exact absurd h h1
theorem rdR_len (p : List UInt8 × Int) : (rdR p).1.length ≤ p.1.length := Nat.le_trans (stepR_len _ _) (Nat.le_trans (stepR_len _ _) (Nat.le_trans (stepR_len _ _) (stepR_len _ _)))
set_option maxRecDepth 100000 in
set_option maxHeartbeats 2000000 in
theorem parse_any (b : List UInt8) (v : Value) (w : World) (hv : Bytes w v b) (hl : b.length ≤ 1024) :
    Calls Tryd.prog 41 #[v] w fun e w' => e = .returned (.tuple #[clV (psC b), .int .i64 (psE b)]) ∧ Below w.heap.size w w' := by
  obtain ⟨D, hD⟩ : ∃ D, w.heap.size = D := ⟨_, rfl⟩
  have HD := Bx.mk hD
  have HL := Bx.mk hl
  have H0 : Bx (Bytes (w.alloc (.cells #[.int .i64 0, .int .i64 0, .int .i64 0, .int .i64 0] 36)) v b ∧ Below D w (w.alloc (.cells #[.int .i64 0, .int .i64 0, .int .i64 0, .int .i64 0] 36)) ∧ (w.alloc (.cells #[.int .i64 0, .int .i64 0, .int .i64 0, .int .i64 0] 36)).heap[D]? = some (.cells #[.int .i64 0, .int .i64 0, .int .i64 0, .int .i64 0] 36 (0, 0)) ∧ (w.alloc (.cells #[.int .i64 0, .int .i64 0, .int .i64 0, .int .i64 0] 36)).heap.size = D + 1) := Bx.mk ⟨hv.later (below_a _), by rw [← hD]; exact below_a _, hnew _ _ _ hD.symm, by simp [hD]⟩
  obtain ⟨av, cv, hvv, -⟩ := hv
  subst hvv
  obtain ⟨L, hL⟩ : ∃ L, b.length = L := ⟨_, rfl⟩
  rw [hL] at H0 ⊢
  clear hl hL
  obtain ⟨V, hV⟩ : ∃ V, clV (psC b) = V := ⟨_, rfl⟩
  obtain ⟨E, hE⟩ : ∃ E, psE b = E := ⟨_, rfl⟩
  have HV := Bx.mk (And.intro hV hE)
  rw [hV, hE, hD]
  clear hV hE
  go_enter Tryd.func41, Tryd.ntmps41
  go_wp2_with fail
  generalize w.alloc (.cells #[.int .i64 0, .int .i64 0, .int .i64 0, .int .i64 0] 36) = w0 at *
  refine (new_ok b _ w0 H0.out.1 HL.out).mono ?_
  rintro e w1 ⟨rfl, hr1, hb1⟩
  have H1 : Bx (Below D w w1 ∧ w1.heap[D]? = some (.cells #[.int .i64 0, .int .i64 0, .int .i64 0, .int .i64 0] 36 (0, 0)) ∧ IsR w1 (D + 1) b 0) := Bx.mk ⟨H0.out.2.1.trans (hb1.mono (by have := H0.out.2.2.2; omega)), by rw [hb1.block D (by have := H0.out.2.2.2; omega)]; exact H0.out.2.2.1, by rw [← H0.out.2.2.2]; exact hr1⟩
  rw [H0.out.2.2.2]
  clear hr1 hb1 H0
  go_wp2_with fail
  refine (read_any (D + 1) (b, 0) w1 H1.out.2.2 (by have := HL.out; show b.length ≤ 5000; omega)).mono ?_
  rintro e w2 ⟨rfl, hr2, hg2⟩
  have H2 : Bx (Below D w w2 ∧ w2.heap[D]? = some (.cells #[.int .i64 0, .int .i64 0, .int .i64 0, .int .i64 0] 36 (0, 0)) ∧ IsR w2 (D + 1) (rdR (b, 0)).1 (rdR (b, 0)).2) := Bx.mk ⟨H1.out.1.trans (grown_below hg2 (by omega) (Nat.le_of_lt (Array.getElem?_eq_some_iff.1 H1.out.2.1).1)), by rw [hg2.block D (Array.getElem?_eq_some_iff.1 H1.out.2.1).1 (fun e => by injection e with e; omega)]; exact H1.out.2.1, hr2⟩
  clear hr2 hg2 H1
  have HRL := Bx.mk (rdR_len (b, 0))
  by_cases he : rdE (b, 0) = 0
  · have hz := rdE_zero he
    have HC : Bx (rdC (b, 0) = rdN (b, 0)) := Bx.mk (by unfold rdC; rw [if_pos he])
    rw [he, HC.out]
    rw [hz.1] at H2
    obtain ⟨n0, n1, n2, n3, hn⟩ : ∃ n0 n1 n2 n3, rdN (b, 0) = ⟨n0, n1, n2, n3⟩ := ⟨_, _, _, _, rfl⟩
    have HN := Bx.mk hn
    rw [hn]
    unfold clV
    simp only
    have H3 : Bx (Below D w (w2.alloc (.cells #[.int .i64 n0, .int .i64 n1, .int .i64 n2, .int .i64 n3] 36)) ∧ (w2.alloc (.cells #[.int .i64 n0, .int .i64 n1, .int .i64 n2, .int .i64 n3] 36)).heap[D]? = some (.cells #[.int .i64 0, .int .i64 0, .int .i64 0, .int .i64 0] 36 (0, 0)) ∧ IsR (w2.alloc (.cells #[.int .i64 n0, .int .i64 n1, .int .i64 n2, .int .i64 n3] 36)) (D + 1) (rdR (b, 0)).1 0 ∧ (w2.alloc (.cells #[.int .i64 n0, .int .i64 n1, .int .i64 n2, .int .i64 n3] 36)).heap[w2.heap.size]? = some (.cells #[.int .i64 n0, .int .i64 n1, .int .i64 n2, .int .i64 n3] 36 (0, 0))) := Bx.mk ⟨H2.out.1.alloc (Nat.le_of_lt (Array.getElem?_eq_some_iff.1 H2.out.2.1).1) _, by rw [hold _ _ _ (Array.getElem?_eq_some_iff.1 H2.out.2.1).1]; exact H2.out.2.1, H2.out.2.2.later (below_a _), hnew _ _ _ rfl⟩
    clear H2 hz hn HC
    go_wp2_with fail
    generalize w2.alloc (.cells #[.int .i64 n0, .int .i64 n1, .int .i64 n2, .int .i64 n3] 36) = w3 at *
    generalize w2.heap.size = G at *
    refine (rend_any (D + 1) (rdR (b, 0)).1 0 w3 H3.out.2.2.1 (by have h1 := HL.out; have h2 : (rdR (b, 0)).1.length ≤ b.length := HRL.out; omega)).mono ?_
    rintro e w4 ⟨rfl, hw4⟩
    rw [hw4, if_neg (by simp)]
    clear hw4 w4
    by_cases hlen : 0 < (rdR (b, 0)).1.length
    · rw [if_pos hlen]
      have HE : Bx (E = 3 ∧ V = .agg #[.int .i64 0, .int .i64 0, .int .i64 0, .int .i64 0]) := Bx.mk (by
        have e0 : psE b = 3 := by unfold psE; rw [if_neg (by rw [he]; simp), if_pos hlen]
        refine ⟨by rw [← HV.out.2, e0], ?_⟩
        rw [← HV.out.1]
        unfold psC
        rw [if_neg (by rw [e0]; simp)]
        rfl)
      clear HV HN
      go_wp2_with (refine wpList_store_new rfl 36 _ _ rfl D #[.int .i64 0, .int .i64 0, .int .i64 0, .int .i64 0] _ _ (by rfl) (by rfl) H3.out.2.1 rfl (by kernel_rfl) (by simp [Value.oneCell']) ?_; intro w8 hw8 hr8; have hg8 : Bx (w3.grownBy w8 (some D)) := Bx.mk (by rw [hw8]; exact kb_setCells _ _ _); have HR8 := Bx.mk hr8; clear hw8 hr8)
      refine bodyPost_ret (results_pair rfl _ _ _ D _ rfl (run_loadVar_row _ D _ _ _ _ _ HR8.out Tryd.underlying36 rfl (by kernel_rfl))) rfl ?_
      exact ⟨by rw [HE.out.1, HE.out.2]; rfl, H3.out.1.trans (grown_below hg8.out (Nat.le_refl _) (Nat.le_of_lt (Array.getElem?_eq_some_iff.1 H3.out.2.1).1))⟩
    · rw [if_neg hlen]
      have HE : Bx (E = 0 ∧ V = .agg #[.int .i64 n0, .int .i64 n1, .int .i64 n2, .int .i64 n3]) := Bx.mk (by
        have e0 : psE b = 0 := by unfold psE; rw [if_neg (by rw [he]; simp), if_neg hlen]
        refine ⟨by rw [← HV.out.2, e0], ?_⟩
        rw [← HV.out.1]
        unfold psC
        rw [if_pos e0, HN.out]
        rfl)
      have hc0 : w3.cell? ⟨G, 0, none⟩ = some (.int .i64 n0) := by rw [cell_of_row _ _ _ _ _ _ H3.out.2.2.2]; rfl
      have hc1 : w3.cell? ⟨G, 1, none⟩ = some (.int .i64 n1) := by rw [cell_of_row _ _ _ _ _ _ H3.out.2.2.2]; rfl
      have hc2 : w3.cell? ⟨G, 2, none⟩ = some (.int .i64 n2) := by rw [cell_of_row _ _ _ _ _ _ H3.out.2.2.2]; rfl
      have hc3 : w3.cell? ⟨G, 3, none⟩ = some (.int .i64 n3) := by rw [cell_of_row _ _ _ _ _ _ H3.out.2.2.2]; rfl
      clear HV HN
      go_wp2_with (refine wpList_store_new rfl 36 _ _ rfl D #[.int .i64 n0, .int .i64 n1, .int .i64 n2, .int .i64 n3] _ _ (by rfl) (by rfl) H3.out.2.1 rfl (by kernel_rfl) (by simp [Value.oneCell']) ?_; intro w8 hw8 hr8; have hg8 : Bx (w3.grownBy w8 (some D)) := Bx.mk (by rw [hw8]; exact kb_setCells _ _ _); have HR8 := Bx.mk hr8; clear hw8 hr8)
      refine bodyPost_ret (results_pair rfl _ _ _ D _ rfl (run_loadVar_row _ D _ _ _ _ _ HR8.out Tryd.underlying36 rfl (by kernel_rfl))) rfl ?_
      exact ⟨by rw [HE.out.1, HE.out.2]; rfl, H3.out.1.trans (grown_below hg8.out (Nat.le_refl _) (Nat.le_of_lt (Array.getElem?_eq_some_iff.1 H3.out.2.1).1))⟩
  · have HC : Bx (rdC (b, 0) = clZ) := Bx.mk (by unfold rdC; rw [if_neg he])
    have HE : Bx (E = rdE (b, 0) ∧ V = .agg #[.int .i64 0, .int .i64 0, .int .i64 0, .int .i64 0]) := Bx.mk (by
      have e0 : psE b = rdE (b, 0) := by unfold psE; rw [if_pos he]
      refine ⟨by rw [← HV.out.2, e0], ?_⟩
      rw [← HV.out.1]
      unfold psC
      rw [if_neg (by rw [e0]; exact he)]
      rfl)
    rw [HC.out]
    unfold clV clZ
    simp only
    have H3 : Bx (Below D w (w2.alloc (.cells #[.int .i64 0, .int .i64 0, .int .i64 0, .int .i64 0] 36)) ∧ (w2.alloc (.cells #[.int .i64 0, .int .i64 0, .int .i64 0, .int .i64 0] 36)).heap[D]? = some (.cells #[.int .i64 0, .int .i64 0, .int .i64 0, .int .i64 0] 36 (0, 0))) := Bx.mk ⟨H2.out.1.alloc (Nat.le_of_lt (Array.getElem?_eq_some_iff.1 H2.out.2.1).1) _, by rw [hold _ _ _ (Array.getElem?_eq_some_iff.1 H2.out.2.1).1]; exact H2.out.2.1⟩
    clear H2 HC HV
    generalize rdE (b, 0) = er at *
    go_wp2_with (refine wpList_store_new rfl 36 _ _ rfl D #[.int .i64 0, .int .i64 0, .int .i64 0, .int .i64 0] _ _ (by rfl) (by rfl) H3.out.2 rfl (by kernel_rfl) (by simp [Value.oneCell']) ?_; intro w8 hw8 hr8; have hg8 : Bx ((w2.alloc (.cells #[.int .i64 0, .int .i64 0, .int .i64 0, .int .i64 0] 36)).grownBy w8 (some D)) := Bx.mk (by rw [hw8]; exact kb_setCells _ _ _); have HR8 := Bx.mk hr8; clear hw8 hr8)
    refine bodyPost_ret (results_pair rfl _ _ _ D _ rfl (run_loadVar_row _ D _ _ _ _ _ HR8.out Tryd.underlying36 rfl (by kernel_rfl))) rfl ?_
    exact ⟨by rw [HE.out.1, HE.out.2]; rfl, H3.out.1.trans (grown_below hg8.out (Nat.le_refl _) (Nat.le_of_lt (Array.getElem?_eq_some_iff.1 H3.out.2).1))⟩
end Go.Proofs.YtiengbmnfbbgoaaDoor
