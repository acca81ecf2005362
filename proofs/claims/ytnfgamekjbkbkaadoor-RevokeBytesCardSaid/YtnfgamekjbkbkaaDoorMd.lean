/-
  Revocations: a delta that is parsed.
-/
import Derived.Test.YtnfgamekjbkbkaaDoorMa
import Derived.Test.YtnfgamekjbkbkaaDoorShl
namespace Go.Proofs.YtnfgamekjbkbkaaDoor
open Go Go.RowKit
theorem takeR_len : ∀ (m : Nat) (p : List UInt8 × Int) (l : List Int), 2 * (takeR m p l).1.length ≤ 2 * l.length + p.1.length + 2 ∧ (takeR m p l).2.1.length ≤ p.1.length ∧ ((takeR m p l).2.2 = 0 → 2 * (takeR m p l).1.length ≤ 2 * l.length + p.1.length) := by
  intro m
  induction m with
  | zero => intro p l; unfold takeR; exact ⟨by simp only; omega, Nat.le_refl _, fun _ => by simp only; omega⟩
  | succ m ih =>
    intro p l
    unfold takeR
    by_cases h : p.2 = 0
    · rw [if_pos h]
      have h1 := ih (stepR p 1) (l ++ [numR p 1])
      have h2 := stepR_two p
      simp only [List.length_append, List.length_singleton] at h1
      by_cases h3 : (stepR p 1).2 = 0
      · have h4 := h2.1 h h3
        exact ⟨by omega, by omega, fun h5 => by have := h1.2.2 h5; omega⟩
      · have h6 : takeR m (stepR p 1) (l ++ [numR p 1]) = (l ++ [numR p 1], stepR p 1) := by
          cases m with
          | zero => rfl
          | succ m => unfold takeR; rw [if_neg h3]
        rw [h6]
        refine ⟨by simp; omega, h2.2, fun h5 => absurd h5 h3⟩
    · rw [if_neg h]
      exact ⟨by simp only; omega, Nat.le_refl _, fun h5 => absurd h5 h⟩
theorem logR_len (p : List UInt8 × Int) : 2 * (logR p).1.length ≤ p.1.length + 2 ∧ (logR p).2.1.length ≤ p.1.length := by
  have h := takeR_len (numR p 1).toNat (stepR p 1) []
  have h1 := stepR_len p 1
  unfold logR
  exact ⟨by have := h.1; simp at this; omega, by have := h.2.1; omega⟩
/-- What is read of bytes: versions, logs, and the state behind them. -/
def nx8 (p : List UInt8 × Int) : List UInt8 × Int := (logR (stepR p 1)).2
def dlV (p : List UInt8 × Int) : V4 := ⟨numR p 1, numR (nx8 p) 1, numR (nx8 (nx8 p)) 1, numR (nx8 (nx8 (nx8 p))) 1⟩
def dlL (p : List UInt8 × Int) : L4 := ⟨(logR (stepR p 1)).1, (logR (stepR (nx8 p) 1)).1, (logR (stepR (nx8 (nx8 p)) 1)).1, (logR (stepR (nx8 (nx8 (nx8 p))) 1)).1⟩
def dlS (p : List UInt8 × Int) : List UInt8 × Int := nx8 (nx8 (nx8 (nx8 p)))
def endE (p : List UInt8 × Int) : Int := if p.2 ≠ 0 then p.2 else if 0 < p.1.length then 3 else 0
/-- What Parse gives. -/
def paE (b : List UInt8) : Int := if endE (dlS (b, 0)) ≠ 0 then endE (dlS (b, 0)) else if withinB (dlV (b, 0)) (dlL (b, 0)) = true then 0 else 3
def paV (b : List UInt8) : V4 := if paE b = 0 then dlV (b, 0) else V4.zero
def paL (b : List UInt8) : L4 := if paE b = 0 then dlL (b, 0) else L4.nil
set_option maxRecDepth 100000 in
theorem long_one (a : Option Addr) (n c : Nat) (hn : n ≤ 9223372036854775807) (w : World) : Calls Tryd.prog 54 #[.slice a n c] w fun e w' => e = .returned (.bool (decide (256 < n))) ∧ w' = w := by
  have h1 : (n : Int) ≤ 9223372036854775807 := by omega
  have h0 : (0 : Int) ≤ (n : Int) := by omega
  go_enter Tryd.func54, Tryd.ntmps54
  go_wp2
  go_ret
  refine ⟨?_, rfl⟩
  refine ret_bool ?_
  simp
  omega
/-- No log has more than there may be. -/
theorem long_none (D : Nat) (o1 o2 o3 o4 : Option Addr) (n1 n2 n3 n4 c1 c2 c3 c4 : Nat) (W : World) (h1 : n1 ≤ 256) (h2 : n2 ≤ 256) (h3 : n3 ≤ 256) (h4 : n4 ≤ 256) (a b c d : Int) (hr : W.heap[D]? = some (.cells #[.int .i64 a, .int .i64 b, .int .i64 c, .int .i64 d, .slice o1 n1 c1, .slice o2 n2 c2, .slice o3 n3 c3, .slice o4 n4 c4] 30 (0, 0))) :
    Calls Tryd.prog 53 #[.slice (some ⟨D, 4, none⟩) 4 4, .func (.func 54) #[] #[]] W fun e w' => e = .returned (.bool false) ∧ Below W.heap.size W w' := by
  refine (Tryd.slices_ContainsFunc_f53 (α := Option Addr × Nat × Nat) (fun x => .slice x.1 (min x.2.1 256) x.2.2) (fun _ => false) 54 #[] (fun args w => by kernel_rfl) D 4 4 4 [(o1, n1, c1), (o2, n2, c2), (o3, n3, c3), (o4, n4, c4)] W ?_ (by simp) (by omega) ?_).mono ?_
  · intro W' x hb
    obtain ⟨o, n, c⟩ := x
    refine (long_one o (min n 256) c (by omega) W').mono ?_
    rintro e w1 ⟨rfl, rfl⟩
    refine ⟨?_, 0, rfl⟩
    congr 2
    simp
    omega
  · intro j hj
    rw [cell_of_row _ _ _ _ _ _ hr]
    match j, hj with
    | 0, _ => simp; omega
    | 1, _ => simp; omega
    | 2, _ => simp; omega
    | 3, _ => simp; omega
    | j + 4, hj => exact absurd hj (by simp)
  · rintro e w1 ⟨rfl, q, rfl⟩
    exact ⟨by simp, drewN_below (Below.refl _ _) q⟩
set_option maxRecDepth 100000 in
set_option maxHeartbeats 4000000 in
theorem parse8_any (b : List UInt8) (v : Value) (w : World) (hv : Bytes w v b) (hl : b.length ≤ 400) (hF : Full w) (hg : 0 < w.heap.size) :
    Calls Tryd.prog 12 #[v] w fun e w' => ∃ u, e = .returned (.tuple #[.agg (dC (paV b) u), .int .i64 (paE b)]) ∧ Rows4 w' u (paL b) ∧ Below w.heap.size w w' := by
  obtain ⟨a0, c0, rfl⟩ : ∃ a c, v = .slice a b.length c := by obtain ⟨a, c, hv', _⟩ := hv; exact ⟨a, c, hv'⟩
  obtain ⟨E, hE⟩ : ∃ E, w.heap.size = E := ⟨_, rfl⟩
  have HF : Bx (∀ W, Below E w W → Full W ∧ 0 < W.heap.size) := ⟨fun W h => ⟨hF.later (by rw [hE]; exact h) hg, by have := h.size; omega⟩⟩
  have HV : Bx (∃ R, R = (paV b, paL b, paE b)) := ⟨_, rfl⟩
  obtain ⟨p, hp⟩ : ∃ p, (b, (0 : Int)) = p := ⟨_, rfl⟩
  have HE := Bx.mk (show paE b = (if endE (dlS p) ≠ 0 then endE (dlS p) else if withinB (dlV p) (dlL p) = true then 0 else 3) by rw [← hp]; rfl)
  have HA := Bx.mk (show paV b = (if paE b = 0 then dlV p else V4.zero) by rw [← hp]; rfl)
  have HB := Bx.mk (show paL b = (if paE b = 0 then dlL p else L4.nil) by rw [← hp]; rfl)
  have HDV : Bx (dlV p = ⟨numR p 1, numR (logR (stepR p 1)).2 1, numR (logR (stepR (logR (stepR p 1)).2 1)).2 1, numR (logR (stepR (logR (stepR (logR (stepR p 1)).2 1)).2 1)).2 1⟩) := ⟨rfl⟩
  have HDL : Bx (dlL p = ⟨(logR (stepR p 1)).1, (logR (stepR (logR (stepR p 1)).2 1)).1, (logR (stepR (logR (stepR (logR (stepR p 1)).2 1)).2 1)).1, (logR (stepR (logR (stepR (logR (stepR (logR (stepR p 1)).2 1)).2 1)).2 1)).1⟩) := ⟨rfl⟩
  have HDS : Bx (dlS p = (logR (stepR (logR (stepR (logR (stepR (logR (stepR p 1)).2 1)).2 1)).2 1)).2) := ⟨rfl⟩
  have HL0 : Bx (p.1.length ≤ 400) := ⟨by rw [← hp]; exact hl⟩
  have HS0 := Bx.mk (stepR_len p 1)
  have HG0 := Bx.mk (logR_len (stepR p 1))
  have HS1 := Bx.mk (stepR_len (logR (stepR p 1)).2 1)
  have HG1 := Bx.mk (logR_len (stepR (logR (stepR p 1)).2 1))
  have HS2 := Bx.mk (stepR_len (logR (stepR (logR (stepR p 1)).2 1)).2 1)
  have HG2 := Bx.mk (logR_len (stepR (logR (stepR (logR (stepR p 1)).2 1)).2 1))
  have HS3 := Bx.mk (stepR_len (logR (stepR (logR (stepR (logR (stepR p 1)).2 1)).2 1)).2 1)
  have HG3 := Bx.mk (logR_len (stepR (logR (stepR (logR (stepR (logR (stepR p 1)).2 1)).2 1)).2 1))
  have H0 : Bx (KR w E [(E + 1, (.cells #[.int .i64 0, .int .i64 0, .int .i64 0, .int .i64 0, .slice none 0 0, .slice none 0 0, .slice none 0 0, .slice none 0 0] 30)), (E, (.cells #[.int .i64 0, .int .i64 0, .int .i64 0, .int .i64 0, .slice none 0 0, .slice none 0 0, .slice none 0 0, .slice none 0 0] 30))] ((w.alloc (.cells #[.int .i64 0, .int .i64 0, .int .i64 0, .int .i64 0, .slice none 0 0, .slice none 0 0, .slice none 0 0, .slice none 0 0] 30)).alloc (.cells #[.int .i64 0, .int .i64 0, .int .i64 0, .int .i64 0, .slice none 0 0, .slice none 0 0, .slice none 0 0, .slice none 0 0] 30))) := Bx.mk (by
    subst hE
    have h := ((KR.start w).new (.cells #[.int .i64 0, .int .i64 0, .int .i64 0, .int .i64 0, .slice none 0 0, .slice none 0 0, .slice none 0 0, .slice none 0 0] 30)).new (.cells #[.int .i64 0, .int .i64 0, .int .i64 0, .int .i64 0, .slice none 0 0, .slice none 0 0, .slice none 0 0, .slice none 0 0] 30)
    simpa using h)
  have HN : Bx (Calls Tryd.prog 16 #[.slice a0 b.length c0] ((w.alloc (.cells #[.int .i64 0, .int .i64 0, .int .i64 0, .int .i64 0, .slice none 0 0, .slice none 0 0, .slice none 0 0, .slice none 0 0] 30)).alloc (.cells #[.int .i64 0, .int .i64 0, .int .i64 0, .int .i64 0, .slice none 0 0, .slice none 0 0, .slice none 0 0, .slice none 0 0] 30)) fun e w' => ∃ q, E + 1 < q ∧ e = .returned (.pointer (some ⟨q, 0, none⟩)) ∧ IsR w' q p.1 p.2 ∧ Below ((w.alloc (.cells #[.int .i64 0, .int .i64 0, .int .i64 0, .int .i64 0, .slice none 0 0, .slice none 0 0, .slice none 0 0, .slice none 0 0] 30)).alloc (.cells #[.int .i64 0, .int .i64 0, .int .i64 0, .int .i64 0, .slice none 0 0, .slice none 0 0, .slice none 0 0, .slice none 0 0] 30)).heap.size ((w.alloc (.cells #[.int .i64 0, .int .i64 0, .int .i64 0, .int .i64 0, .slice none 0 0, .slice none 0 0, .slice none 0 0, .slice none 0 0] 30)).alloc (.cells #[.int .i64 0, .int .i64 0, .int .i64 0, .int .i64 0, .slice none 0 0, .slice none 0 0, .slice none 0 0, .slice none 0 0] 30)) w') := ⟨by
    refine (new_ok b _ _ (hv.later (H0.out.below.mono (by rw [hE]; exact Nat.le_refl _))) (by omega)).mono ?_
    rintro e w' ⟨rfl, hr, hb⟩
    exact ⟨_, H0.out.lt (.head _), rfl, by rw [← hp]; exact hr, hb⟩⟩
  rw [hE]
  clear hv hl hF hg hp HV
  generalize paE b = re at *
  generalize paV b = rv at *
  generalize paL b = rl at *
  have hbd := build_delta
  go_enter Tryd.func12, Tryd.ntmps12
  go_wp2_with fail
  generalize (w.alloc (.cells #[.int .i64 0, .int .i64 0, .int .i64 0, .int .i64 0, .slice none 0 0, .slice none 0 0, .slice none 0 0, .slice none 0 0] 30)).alloc (.cells #[.int .i64 0, .int .i64 0, .int .i64 0, .int .i64 0, .slice none 0 0, .slice none 0 0, .slice none 0 0, .slice none 0 0] 30) = w0 at *
  refine HN.out.mono ?_
  rintro e w1 ⟨q, hq, rfl, hr, hb⟩
  have R0 : Bx (PD w E q #[.int .i64 0, .int .i64 0, .int .i64 0, .int .i64 0, .slice none 0 0, .slice none 0 0, .slice none 0 0, .slice none 0 0] [] p w1) := ⟨⟨H0.out.later hb, hr, fun _ h => (List.not_mem_nil h).elim, hq⟩⟩
  clear hr hb hq HN H0
  go_wp2_with fail
  refine wp_loop_rounds 5 ?_
  rw [rounds_succ]
  go_wp2_with fail
  refine (rnum_any q 1 p.1 p.2 w1 R0.out.rd (by have := HL0.out; omega) (by omega)).mono ?_
  rw [show (getR p.1 p.2 1).1.n = numR p 1 from rfl, show (getR p.1 p.2 1).2 = stepR p 1 from rfl]
  generalize numR p 1 = n0 at *
  generalize stepR p 1 = q0 at *
  rintro e w2 ⟨rfl, hr, hg⟩
  have R1 := Bx.mk (R0.out.read hg hr)
  clear hr hg R0
  go_wp2_with (refine wpList_cellI rfl _ _ rfl (E + 1) 0 n0 #[.int .i64 0, .int .i64 0, .int .i64 0, .int .i64 0, .slice none 0 0, .slice none 0 0, .slice none 0 0, .slice none 0 0] #[.int .i64 n0, .int .i64 0, .int .i64 0, .int .i64 0, .slice none 0 0, .slice none 0 0, .slice none 0 0, .slice none 0 0] 30 (by rfl) (by rfl) (R1.out.kr.rows _ (.head _)) (by simp) rfl ?_; intro w3 hg hr; have R2 := Bx.mk (R1.out.put hg hr (no8_delta 0 0 0 0 none none none none 0 0 0 0 0 0 0 0)); clear hg hr R1)
  refine (getLog_any q q0 w3 R2.out.rd (by have := HL0.out; have := HS0.out; omega)).mono ?_
  generalize logR q0 = g0 at *
  rintro e w4 ⟨u, rfl, ho, hr, hg⟩
  obtain ⟨a1, c1, rfl⟩ := ho.own.form
  have R3 := Bx.mk (R2.out.log hg hr ho)
  clear ho hr hg R2
  go_wp2_with (refine wpList_cellS rfl _ _ rfl (E + 1) 4 a1 g0.1.length c1 #[.int .i64 n0, .int .i64 0, .int .i64 0, .int .i64 0, .slice none 0 0, .slice none 0 0, .slice none 0 0, .slice none 0 0] #[.int .i64 n0, .int .i64 0, .int .i64 0, .int .i64 0, .slice a1 g0.1.length c1, .slice none 0 0, .slice none 0 0, .slice none 0 0] 30 (by rfl) (by rfl) (R3.out.kr.rows _ (.head _)) (by simp) rfl ?_; intro w5 hg hr; have R4 := Bx.mk (R3.out.put hg hr (no8_delta n0 0 0 0 none none none none 0 0 0 0 0 0 0 0)); clear hg hr R3)
  rw [rounds_succ]
  go_wp2_with fail
  refine (rnum_any q 1 g0.2.1 g0.2.2 w5 R4.out.rd (by have := HL0.out; have := HS0.out; have := HG0.out.2; omega) (by omega)).mono ?_
  rw [show (getR g0.2.1 g0.2.2 1).1.n = numR g0.2 1 from rfl, show (getR g0.2.1 g0.2.2 1).2 = stepR g0.2 1 from rfl]
  generalize numR g0.2 1 = n1 at *
  generalize stepR g0.2 1 = q1 at *
  rintro e w6 ⟨rfl, hr, hg⟩
  have R5 := Bx.mk (R4.out.read hg hr)
  clear hr hg R4
  go_wp2_with (refine wpList_cellI rfl _ _ rfl (E + 1) 1 n1 #[.int .i64 n0, .int .i64 0, .int .i64 0, .int .i64 0, .slice a1 g0.1.length c1, .slice none 0 0, .slice none 0 0, .slice none 0 0] #[.int .i64 n0, .int .i64 n1, .int .i64 0, .int .i64 0, .slice a1 g0.1.length c1, .slice none 0 0, .slice none 0 0, .slice none 0 0] 30 (by rfl) (by rfl) (R5.out.kr.rows _ (.head _)) (by simp) rfl ?_; intro w7 hg hr; have R6 := Bx.mk (R5.out.put hg hr (no8_delta n0 0 0 0 a1 none none none g0.1.length 0 0 0 c1 0 0 0)); clear hg hr R5)
  refine (getLog_any q q1 w7 R6.out.rd (by have := HL0.out; have := HS0.out; have := HG0.out.2; have := HS1.out; omega)).mono ?_
  generalize logR q1 = g1 at *
  rintro e w8 ⟨u, rfl, ho, hr, hg⟩
  obtain ⟨a2, c2, rfl⟩ := ho.own.form
  have R7 := Bx.mk (R6.out.log hg hr ho)
  clear ho hr hg R6
  go_wp2_with (refine wpList_cellS rfl _ _ rfl (E + 1) 5 a2 g1.1.length c2 #[.int .i64 n0, .int .i64 n1, .int .i64 0, .int .i64 0, .slice a1 g0.1.length c1, .slice none 0 0, .slice none 0 0, .slice none 0 0] #[.int .i64 n0, .int .i64 n1, .int .i64 0, .int .i64 0, .slice a1 g0.1.length c1, .slice a2 g1.1.length c2, .slice none 0 0, .slice none 0 0] 30 (by rfl) (by rfl) (R7.out.kr.rows _ (.head _)) (by simp) rfl ?_; intro w9 hg hr; have R8 := Bx.mk (R7.out.put hg hr (no8_delta n0 n1 0 0 a1 none none none g0.1.length 0 0 0 c1 0 0 0)); clear hg hr R7)
  rw [rounds_succ]
  go_wp2_with fail
  refine (rnum_any q 1 g1.2.1 g1.2.2 w9 R8.out.rd (by have := HL0.out; have := HS0.out; have := HG0.out.2; have := HS1.out; have := HG1.out.2; omega) (by omega)).mono ?_
  rw [show (getR g1.2.1 g1.2.2 1).1.n = numR g1.2 1 from rfl, show (getR g1.2.1 g1.2.2 1).2 = stepR g1.2 1 from rfl]
  generalize numR g1.2 1 = n2 at *
  generalize stepR g1.2 1 = q2 at *
  rintro e w10 ⟨rfl, hr, hg⟩
  have R9 := Bx.mk (R8.out.read hg hr)
  clear hr hg R8
  go_wp2_with (refine wpList_cellI rfl _ _ rfl (E + 1) 2 n2 #[.int .i64 n0, .int .i64 n1, .int .i64 0, .int .i64 0, .slice a1 g0.1.length c1, .slice a2 g1.1.length c2, .slice none 0 0, .slice none 0 0] #[.int .i64 n0, .int .i64 n1, .int .i64 n2, .int .i64 0, .slice a1 g0.1.length c1, .slice a2 g1.1.length c2, .slice none 0 0, .slice none 0 0] 30 (by rfl) (by rfl) (R9.out.kr.rows _ (.head _)) (by simp) rfl ?_; intro w11 hg hr; have R10 := Bx.mk (R9.out.put hg hr (no8_delta n0 n1 0 0 a1 a2 none none g0.1.length g1.1.length 0 0 c1 c2 0 0)); clear hg hr R9)
  refine (getLog_any q q2 w11 R10.out.rd (by have := HL0.out; have := HS0.out; have := HG0.out.2; have := HS1.out; have := HG1.out.2; have := HS2.out; omega)).mono ?_
  generalize logR q2 = g2 at *
  rintro e w12 ⟨u, rfl, ho, hr, hg⟩
  obtain ⟨a3, c3, rfl⟩ := ho.own.form
  have R11 := Bx.mk (R10.out.log hg hr ho)
  clear ho hr hg R10
  go_wp2_with (refine wpList_cellS rfl _ _ rfl (E + 1) 6 a3 g2.1.length c3 #[.int .i64 n0, .int .i64 n1, .int .i64 n2, .int .i64 0, .slice a1 g0.1.length c1, .slice a2 g1.1.length c2, .slice none 0 0, .slice none 0 0] #[.int .i64 n0, .int .i64 n1, .int .i64 n2, .int .i64 0, .slice a1 g0.1.length c1, .slice a2 g1.1.length c2, .slice a3 g2.1.length c3, .slice none 0 0] 30 (by rfl) (by rfl) (R11.out.kr.rows _ (.head _)) (by simp) rfl ?_; intro w13 hg hr; have R12 := Bx.mk (R11.out.put hg hr (no8_delta n0 n1 n2 0 a1 a2 none none g0.1.length g1.1.length 0 0 c1 c2 0 0)); clear hg hr R11)
  rw [rounds_succ]
  go_wp2_with fail
  refine (rnum_any q 1 g2.2.1 g2.2.2 w13 R12.out.rd (by have := HL0.out; have := HS0.out; have := HG0.out.2; have := HS1.out; have := HG1.out.2; have := HS2.out; have := HG2.out.2; omega) (by omega)).mono ?_
  rw [show (getR g2.2.1 g2.2.2 1).1.n = numR g2.2 1 from rfl, show (getR g2.2.1 g2.2.2 1).2 = stepR g2.2 1 from rfl]
  generalize numR g2.2 1 = n3 at *
  generalize stepR g2.2 1 = q3 at *
  rintro e w14 ⟨rfl, hr, hg⟩
  have R13 := Bx.mk (R12.out.read hg hr)
  clear hr hg R12
  go_wp2_with (refine wpList_cellI rfl _ _ rfl (E + 1) 3 n3 #[.int .i64 n0, .int .i64 n1, .int .i64 n2, .int .i64 0, .slice a1 g0.1.length c1, .slice a2 g1.1.length c2, .slice a3 g2.1.length c3, .slice none 0 0] #[.int .i64 n0, .int .i64 n1, .int .i64 n2, .int .i64 n3, .slice a1 g0.1.length c1, .slice a2 g1.1.length c2, .slice a3 g2.1.length c3, .slice none 0 0] 30 (by rfl) (by rfl) (R13.out.kr.rows _ (.head _)) (by simp) rfl ?_; intro w15 hg hr; have R14 := Bx.mk (R13.out.put hg hr (no8_delta n0 n1 n2 0 a1 a2 a3 none g0.1.length g1.1.length g2.1.length 0 c1 c2 c3 0)); clear hg hr R13)
  refine (getLog_any q q3 w15 R14.out.rd (by have := HL0.out; have := HS0.out; have := HG0.out.2; have := HS1.out; have := HG1.out.2; have := HS2.out; have := HG2.out.2; have := HS3.out; omega)).mono ?_
  generalize logR q3 = g3 at *
  rintro e w16 ⟨u, rfl, ho, hr, hg⟩
  obtain ⟨a4, c4, rfl⟩ := ho.own.form
  have R15 := Bx.mk (R14.out.log hg hr ho)
  clear ho hr hg R14
  go_wp2_with (refine wpList_cellS rfl _ _ rfl (E + 1) 7 a4 g3.1.length c4 #[.int .i64 n0, .int .i64 n1, .int .i64 n2, .int .i64 n3, .slice a1 g0.1.length c1, .slice a2 g1.1.length c2, .slice a3 g2.1.length c3, .slice none 0 0] #[.int .i64 n0, .int .i64 n1, .int .i64 n2, .int .i64 n3, .slice a1 g0.1.length c1, .slice a2 g1.1.length c2, .slice a3 g2.1.length c3, .slice a4 g3.1.length c4] 30 (by rfl) (by rfl) (R15.out.kr.rows _ (.head _)) (by simp) rfl ?_; intro w17 hg hr; have R16 := Bx.mk (R15.out.put hg hr (no8_delta n0 n1 n2 n3 a1 a2 a3 none g0.1.length g1.1.length g2.1.length 0 c1 c2 c3 0)); clear hg hr R15)
  have HRW : Bx (∀ W, Below w17.heap.size w17 W → Rows4 W ⟨.slice a1 g0.1.length c1, .slice a2 g1.1.length c2, .slice a3 g2.1.length c3, .slice a4 g3.1.length c4⟩ ⟨g0.1, g1.1, g2.1, g3.1⟩) := ⟨fun W h => ⟨(R16.out.own (_, g0.1) (by simp)).own.isL.later h, (R16.out.own (_, g1.1) (by simp)).own.isL.later h, (R16.out.own (_, g2.1) (by simp)).own.isL.later h, (R16.out.own (_, g3.1) (by simp)).own.isL.later h⟩⟩
  have HRO : Bx (∀ W W', Below w17.heap.size w17 W → (∀ g, g ≠ E → W'.heap[g]? = W.heap[g]?) → Rows4 W' ⟨.slice a1 g0.1.length c1, .slice a2 g1.1.length c2, .slice a3 g2.1.length c3, .slice a4 g3.1.length c4⟩ ⟨g0.1, g1.1, g2.1, g3.1⟩) := ⟨fun W W' h h' => by
    have hk : ∀ v l, OwnZ w17 (q + 1) v l → IsL W' v l := fun v l ho => (ho.later (fun g hg => (h' g (by have := (ho.lt g hg).2; have := R16.out.lt; omega)).trans (h.block g (ho.lt g hg).1))).own.isL
    exact ⟨hk _ _ (R16.out.own (_, g0.1) (by simp)), hk _ _ (R16.out.own (_, g1.1) (by simp)), hk _ _ (R16.out.own (_, g2.1) (by simp)), hk _ _ (R16.out.own (_, g3.1) (by simp))⟩⟩
  have HM : Bx (Most ⟨g0.1, g1.1, g2.1, g3.1⟩ 256) := ⟨⟨by have := HL0.out; have := HS0.out; have := HG0.out.2; have := HS1.out; have := HG1.out.2; have := HS2.out; have := HG2.out.2; have := HS3.out; have := HG3.out.2; have := HG0.out.1; simp only; omega, by have := HL0.out; have := HS0.out; have := HG0.out.2; have := HS1.out; have := HG1.out.2; have := HS2.out; have := HG2.out.2; have := HS3.out; have := HG3.out.2; have := HG1.out.1; simp only; omega, by have := HL0.out; have := HS0.out; have := HG0.out.2; have := HS1.out; have := HG1.out.2; have := HS2.out; have := HG2.out.2; have := HS3.out; have := HG3.out.2; have := HG2.out.1; simp only; omega, by have := HL0.out; have := HS0.out; have := HG0.out.2; have := HS1.out; have := HG1.out.2; have := HS2.out; have := HG2.out.2; have := HS3.out; have := HG3.out.2; have := HG3.out.1; simp only; omega⟩⟩
  have HZ : Bx (g3.2.1.length ≤ 400) := ⟨by have := HL0.out; have := HS0.out; have := HG0.out.2; have := HS1.out; have := HG1.out.2; have := HS2.out; have := HG2.out.2; have := HS3.out; have := HG3.out.2; omega⟩
  rw [rounds_succ]
  go_wp2_with fail
  have HEnd := Bx.mk (rend_any q g3.2.1 g3.2.2 w17 R16.out.rd (by have := HZ.out; omega))
  rw [show (if g3.2.2 ≠ 0 then g3.2.2 else if 0 < g3.2.1.length then 3 else 0) = endE g3.2 from rfl] at HEnd
  rw [HDS.out, HDV.out, HDL.out] at HE
  rw [HDV.out] at HA
  rw [HDL.out] at HB
  clear HDS HDV HDL HS0 HG0 HS1 HG1 HS2 HG2 HS3 HG3 HL0 HZ
  generalize endE g3.2 = en at *
  refine HEnd.out.mono ?_
  rintro e w18 ⟨rfl, hw⟩
  rw [hw]
  clear hw w18 HEnd
  have HRR := Bx.mk (R16.out.kr)
  by_cases hen : en = 0
  · subst hen
    rw [if_neg (by simp)] at HE
    have HWi := Bx.mk (within_any ⟨n0, n1, n2, n3⟩ ⟨.slice a1 g0.1.length c1, .slice a2 g1.1.length c2, .slice a3 g2.1.length c3, .slice a4 g3.1.length c4⟩ ⟨g0.1, g1.1, g2.1, g3.1⟩ w17 (HRW.out _ (Below.refl _ _)) ⟨by have := HM.out.a; simp only at this ⊢; omega, by have := HM.out.b; simp only at this ⊢; omega, by have := HM.out.c; simp only at this ⊢; omega, by have := HM.out.d; simp only at this ⊢; omega⟩ (HF.out _ R16.out.kr.below).1 (HF.out _ R16.out.kr.below).2)
    unfold dC at HWi
    simp only at HWi
    generalize withinB ⟨n0, n1, n2, n3⟩ ⟨g0.1, g1.1, g2.1, g3.1⟩ = wi at *
    go_wp2_with (refine wpList_load_row rfl 30 _ rfl (E + 1) (by rfl) _ #[.int .i64 n0, .int .i64 n1, .int .i64 n2, .int .i64 n3, .slice a1 g0.1.length c1, .slice a2 g1.1.length c2, .slice a3 g2.1.length c3, .slice a4 g3.1.length c4] (0, 0) _ (HRR.out.rows _ (.head _)) Tryd.underlying30 rfl (by kernel_rfl) ?_)
    refine HWi.out.mono ?_
    rintro e w19 ⟨rfl, hb⟩
    have K1 := Bx.mk (HRR.out.later hb)
    have HB1 := Bx.mk hb
    clear hb HWi HRR
    cases wi with
    | false =>
      rw [if_neg (by simp)] at HE
      have hre : re = 3 := HE.out
      subst hre
      rw [if_neg (by decide)] at HA HB
      have hrv : rv = V4.zero := HA.out
      have hrl : rl = L4.nil := HB.out
      subst hrv hrl
      go_wp2_with (refine wpList_store_new rfl 30 _ _ rfl E #[.int .i64 0, .int .i64 0, .int .i64 0, .int .i64 0, .slice none 0 0, .slice none 0 0, .slice none 0 0, .slice none 0 0] _ _ (by rfl) (by rfl) (K1.out.rows _ (.tail _ (.head _))) rfl (by kernel_rfl) (by simp [Value.oneCell']) ?_; intro w9 hw9 hr9; have HR := Bx.mk hr9; have HG := Bx.mk hw9; clear hw9 hr9)
      refine bodyPost_ret (results_pair rfl _ _ _ E _ rfl (run_loadVar_row _ _ _ _ _ _ _ HR.out Tryd.underlying30 rfl (by kernel_rfl))) rfl ?_
      exact ⟨VV.nil, rfl, Rows4.nil _, by rw [HG.out]; exact below_setCells (by omega) _ _ _ _ K1.out.below⟩
    | true =>
      rw [if_pos rfl] at HE
      have hre : re = 0 := HE.out
      subst hre
      rw [if_pos rfl] at HA HB
      have hrv : rv = ⟨n0, n1, n2, n3⟩ := HA.out
      have hrl : rl = ⟨g0.1, g1.1, g2.1, g3.1⟩ := HB.out
      subst hrv hrl
      have HCo := Bx.mk (long_none (E + 1) a1 a2 a3 a4 g0.1.length g1.1.length g2.1.length g3.1.length c1 c2 c3 c4 w19 HM.out.a HM.out.b HM.out.c HM.out.d n0 n1 n2 n3 (K1.out.rows _ (.head _)))
      go_wp2_with fail
      refine HCo.out.mono ?_
      rintro e w20 ⟨rfl, hb⟩
      have K2 := Bx.mk (K1.out.later hb)
      have HB2 := Bx.mk (HB1.out.trans (hb.mono HB1.out.size))
      clear hb HCo K1 HB1
      go_wp2_with (first | (refine wpList_load_row rfl 30 _ rfl (E + 1) (by rfl) _ #[.int .i64 n0, .int .i64 n1, .int .i64 n2, .int .i64 n3, .slice a1 g0.1.length c1, .slice a2 g1.1.length c2, .slice a3 g2.1.length c3, .slice a4 g3.1.length c4] (0, 0) _ (K2.out.rows _ (.head _)) Tryd.underlying30 rfl (by kernel_rfl) ?_) | (refine wpList_store_new rfl 30 _ _ rfl E #[.int .i64 n0, .int .i64 n1, .int .i64 n2, .int .i64 n3, .slice a1 g0.1.length c1, .slice a2 g1.1.length c2, .slice a3 g2.1.length c3, .slice a4 g3.1.length c4] _ _ (by rfl) (by rfl) (K2.out.rows _ (.tail _ (.head _))) rfl (by kernel_rfl) (by simp [Value.oneCell']) ?_; intro w9 hw9 hr9; have HR := Bx.mk hr9; have HG := Bx.mk hw9; clear hw9 hr9))
      refine bodyPost_ret (results_pair rfl _ _ _ E _ rfl (run_loadVar_row _ _ _ _ _ _ _ HR.out Tryd.underlying30 rfl (by kernel_rfl))) rfl ?_
      refine ⟨⟨.slice a1 g0.1.length c1, .slice a2 g1.1.length c2, .slice a3 g2.1.length c3, .slice a4 g3.1.length c4⟩, rfl, HRO.out _ _ HB2.out (fun g hg => by rw [HG.out]; exact heap_setCells_other _ _ hg _ _ _), by rw [HG.out]; exact below_setCells (by omega) _ _ _ _ K2.out.below⟩
  · rw [if_pos hen] at HE
    have hre : re = en := HE.out
    subst hre
    rw [if_neg hen] at HA HB
    have hrv : rv = V4.zero := HA.out
    have hrl : rl = L4.nil := HB.out
    subst hrv hrl
    go_wp2_with (refine wpList_store_new rfl 30 _ _ rfl E #[.int .i64 0, .int .i64 0, .int .i64 0, .int .i64 0, .slice none 0 0, .slice none 0 0, .slice none 0 0, .slice none 0 0] _ _ (by rfl) (by rfl) (HRR.out.rows _ (.tail _ (.head _))) rfl (by kernel_rfl) (by simp [Value.oneCell']) ?_; intro w9 hw9 hr9; have HR := Bx.mk hr9; have HG := Bx.mk hw9; clear hw9 hr9)
    refine bodyPost_ret (results_pair rfl _ _ _ E _ rfl (run_loadVar_row _ _ _ _ _ _ _ HR.out Tryd.underlying30 rfl (by kernel_rfl))) rfl ?_
    exact ⟨VV.nil, rfl, Rows4.nil _, by rw [HG.out]; exact below_setCells (by omega) _ _ _ _ HRR.out.below⟩
end Go.Proofs.YtnfgamekjbkbkaaDoor
