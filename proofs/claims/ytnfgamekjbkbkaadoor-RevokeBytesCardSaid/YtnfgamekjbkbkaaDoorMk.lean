/-
  RevokeBytes' walk.
-/
import Derived.Test.YtnfgamekjbkbkaaDoorMi
import Derived.Test.YtnfgamekjbkbkaaDoorJb
import Derived.Test.YtnfgamekjbkbkaaDoorEq
namespace Go.Proofs.YtnfgamekjbkbkaaDoor
open Go Go.RowKit
/-- What stays in the law: blocks, and the rows of the delta. -/
structure BK (w : World) (E : Nat) (rs : List (Nat × Obj)) (u : VV) (l : L4) (W : World) : Prop where
  k : KR w E rs W
  r : Rows4 W u l
theorem BK.later {w : World} {E : Nat} {rs : List (Nat × Obj)} {u : VV} {l : L4} {W W1 : World} (h : BK w E rs u l W) (hb : Below W.heap.size W W1) : BK w E rs u l W1 := ⟨h.k.later hb, h.r.later hb⟩
theorem BK.var {w : World} {E : Nat} {rs : List (Nat × Obj)} {u : VV} {l : L4} {W W1 : World} {o : Obj} {X : Nat} (h : BK w E rs u l W) (_ : W.heap.size = X) (hb : Below W.heap.size W W1) (hr : W1.heap[X]? = some o) : BK w E ((X, o) :: rs) u l W1 := by
  have h1 := h.later hb
  refine ⟨⟨fun z hz => ?_, h1.k.below, h1.k.le⟩, h1.r⟩
  rcases List.mem_cons.1 hz with rfl | hz
  · exact hr
  · exact h1.k.rows z hz
theorem wpList_store_vx {P : Program} {ops : Array Oper} {rest : List Oper} {op : Oper} {a : Act} {w : World} {Q : Exit → Act → World → Prop} (hgd : op.guard = none) (ty : TypeId) (x y : Operand) (ho : op.op = .store ty x y)
    (W : World) (X : Nat) (hX : W.heap.size = X) (ds : Array Value) (t : TypeId) (hw : w = W.alloc (.cells ds t (0, 0))) (hx : a.eval x = .pointer (some ⟨X, 0, none⟩)) (cs : Array Value) (hy : a.eval y = .agg cs) (hs : cs.size = ds.size)
    (hi : (P.info? ty).map (·.size) = some cs.size) (h1 : cs.all (·.oneCell') = true)
    (k : ∀ w', Below W.heap.size W w' → w'.heap[X]? = some (.cells cs t (0, 0)) → X < w'.heap.size → wpList P ops Q rest (a.put op.dst undef) w') : wpList P ops Q (op :: rest) a w := by
  subst hX
  exact wpList_store_var hgd ty x y ho W ds t hw hx cs hy hs hi h1 k
theorem nx8_stuck (p : List UInt8 × Int) (h : p.2 ≠ 0) : nx8 p = p := by
  have hs : stepR p 1 = p := stepR_bad p.1 p.2 1 h
  unfold nx8
  rw [hs]
  exact logR_stuck p h
theorem nx8_len (p : List UInt8 × Int) : (nx8 p).1.length ≤ p.1.length := Nat.le_trans (logR_len _).2 (stepR_len p 1)
theorem endE_zero {p : List UInt8 × Int} (h : endE p = 0) : p.2 = 0 := by
  unfold endE at h
  rcases Decidable.em (p.2 = 0) with h1 | h1
  · exact h1
  · rw [if_pos h1] at h
    exact absurd h h1
/-- What the law reads is what is read. -/
theorem law_reads (p : List UInt8 × Int) : (⟨numR p 1, numR (logW (stepR p 1)).2 1, numR (logW (stepR (logW (stepR p 1)).2 1)).2 1, numR (logW (stepR (logW (stepR (logW (stepR p 1)).2 1)).2 1)).2 1⟩ : V4) = dlV p ∧ (logW (stepR (logW (stepR (logW (stepR (logW (stepR p 1)).2 1)).2 1)).2 1)).2 = dlS p ∧ (endE (dlS p) = 0 → (⟨(logW (stepR p 1)).1, (logW (stepR (logW (stepR p 1)).2 1)).1, (logW (stepR (logW (stepR (logW (stepR p 1)).2 1)).2 1)).1, (logW (stepR (logW (stepR (logW (stepR (logW (stepR p 1)).2 1)).2 1)).2 1)).1⟩ : L4) = dlL p) ∧ (dlS p).1.length ≤ p.1.length := by
  simp only [logW_state]
  refine ⟨rfl, rfl, fun h => ?_, Nat.le_trans (nx8_len _) (Nat.le_trans (nx8_len _) (Nat.le_trans (nx8_len _) (nx8_len _)))⟩
  have h4 : (nx8 (nx8 (nx8 (nx8 p)))).2 = 0 := endE_zero h
  have h3 : (nx8 (nx8 (nx8 p))).2 = 0 := Decidable.byContradiction fun e => by rw [nx8_stuck _ e] at h4; exact e h4
  have h2 : (nx8 (nx8 p)).2 = 0 := Decidable.byContradiction fun e => by rw [nx8_stuck _ e] at h3; exact e h3
  have h1 : (nx8 p).2 = 0 := Decidable.byContradiction fun e => by rw [nx8_stuck _ e] at h2; exact e h2
  unfold dlL
  rw [logW_same (stepR p 1) h1, show (logR (stepR p 1)).2 = nx8 p from rfl, logW_same (stepR (nx8 p) 1) h2, show (logR (stepR (nx8 p) 1)).2 = nx8 (nx8 p) from rfl, logW_same (stepR (nx8 (nx8 p)) 1) h3, show (logR (stepR (nx8 (nx8 p)) 1)).2 = nx8 (nx8 (nx8 p)) from rfl, logW_same (stepR (nx8 (nx8 (nx8 p))) 1) h4]
theorem same_zero (pv : V4) (u : VV) (pl : L4) (W : World) (h2 : pv = V4.zero) (h3 : pl = L4.nil) (hr : Rows4 W u pl) : Calls Tryd.prog 15 #[.agg (dC pv u), .agg #[.int .i64 0, .int .i64 0, .int .i64 0, .int .i64 0, .slice none 0 0, .slice none 0 0, .slice none 0 0, .slice none 0 0]] W fun e w' => e = .returned (.bool true) ∧ Below W.heap.size W w' := by
  subst h2 h3
  exact same8 V4.zero u VV.nil L4.nil W hr (Rows4.nil _) ⟨by simp [L4.nil], by simp [L4.nil], by simp [L4.nil], by simp [L4.nil]⟩
theorem build_rd (W : World) : (Instr.build 26 #[]).run Tryd.prog W = .ok (.agg #[.int .i64 0, .int .i64 0, .int .i64 0, .int .i64 0, .slice none 0 0, .slice none 0 0, .slice none 0 0, .slice none 0 0]) W := by kernel_rfl
theorem dlL_most (p : List UInt8 × Int) (h : p.1.length ≤ 400) : Most (dlL p) 256 := by
  have h1 := nx8_len p
  have h2 := nx8_len (nx8 p)
  have h3 := nx8_len (nx8 (nx8 p))
  have g0 := (logR_len (stepR p 1)).1
  have g1 := (logR_len (stepR (nx8 p) 1)).1
  have g2 := (logR_len (stepR (nx8 (nx8 p)) 1)).1
  have g3 := (logR_len (stepR (nx8 (nx8 (nx8 p))) 1)).1
  have s0 := stepR_len p 1
  have s1 := stepR_len (nx8 p) 1
  have s2 := stepR_len (nx8 (nx8 p)) 1
  have s3 := stepR_len (nx8 (nx8 (nx8 p))) 1
  unfold dlL
  exact ⟨by simp only; omega, by simp only; omega, by simp only; omega, by simp only; omega⟩
theorem same_self (xs : List UInt8) (va vb : Value) (w : World) (ha : Bytes w va xs) (hb : Bytes w vb xs) (hl : xs.length ≤ 400) : Calls Tryd.prog 13 #[va, vb] w fun e w' => e = .returned (.bool true) ∧ Below w.heap.size w w' :=
  (same_any xs xs va vb w ha hb (by omega) (by omega)).mono fun e w' ⟨he, n, hn⟩ => ⟨by simpa using he, by subst hn; exact drewN_below (Below.refl _ _) n⟩
end Go.Proofs.YtnfgamekjbkbkaaDoor
