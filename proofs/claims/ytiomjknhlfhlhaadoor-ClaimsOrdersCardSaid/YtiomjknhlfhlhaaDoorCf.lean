/-
  Claims: the document's claims, whether they are right, their bytes.
-/
import Derived.Test.YtiomjknhlfhlhaaDoorCb
import Derived.Test.YtiomjknhlfhlhaaDoorIe
namespace Go.Proofs.YtiomjknhlfhlhaaDoor
open Go Go.RowKit
set_option maxRecDepth 100000 in
theorem cto_any (c : Cl) (w : World) : Calls Tryd.prog 4 #[clV c] w fun e w' => e = .returned (clV c) ∧ Below w.heap.size w w' := by
  obtain ⟨i, r, x, s⟩ := c
  unfold clV
  simp only
  go_enter Tryd.func4, Tryd.ntmps4
  go_wp2
  refine bodyPost_ret (results_cell_row rfl _ _ (w.heap.size + 1) _ _ _ _ rfl (hnew _ _ _ (by simp)) Tryd.underlying24 rfl (by kernel_rfl)) rfl ?_
  exact ⟨rfl, (below_a _).trans ((below_a _).mono (by simp))⟩
theorem chk_num2 (s n : Int) (h0 : 0 ≤ s) (h3 : s ≤ 3) (h1 : 0 ≤ n) (h2 : n ≤ most s) : chk (fNum s n) = 0 := by
  unfold chk fNum
  simp only
  rw [if_neg (by omega), if_neg (by omega), if_neg (by simp; omega)]
theorem enc_num2 (s n : Int) (h3 : s ≤ 3) : enc (fNum s n) = beN (wid s) n.toNat := by unfold enc fNum; simp only; rw [if_neg (by omega)]
/-- What stays while the document's bytes are written. -/
structure DB (w : World) (B : Nat) (c : Cl) (W : World) : Prop where
  box : W.heap[B]? = some (.cells (clC c) 23 (0, 0))
  below : Below B w W
theorem DB.later {w : World} {B : Nat} {c : Cl} {W W1 : World} (h : DB w B c W) {K : Nat} (hb : Below K W W1) (hK : B < K) : DB w B c W1 :=
  ⟨by rw [hb.block B hK]; exact h.box, h.below.trans (hb.mono (Nat.le_of_lt hK))⟩
theorem DB.lt {w : World} {B : Nat} {c : Cl} {W : World} (h : DB w B c W) : B < W.heap.size := (Array.getElem?_eq_some_iff.1 h.box).1
theorem DB.cell {w : World} {B : Nat} {c : Cl} {W : World} (h : DB w B c W) (k : Nat) (v : Value) (hv : (clC c)[k]? = some v) : W.cell? ⟨B, k, none⟩ = some v := by rw [cell_of_row _ _ _ _ _ _ h.box]; exact hv
end Go.Proofs.YtiomjknhlfhlhaaDoor
