/-
  Pieces of a great function: the loops of its code, and frames that are known at some slots alone.
-/
import Derived.Control
import Derived.WalkKit
import Derived.Deep.LoopGhost
namespace Go.Proofs.YtkfgpnigeknhmaaDoor
open Go Go.RowKit
/-- The loops' bodies of a code, in the order of its text. -/
def loopsOf : Code → List Code
  | .loop c => c :: loopsOf c
  | .seq a b => loopsOf a ++ loopsOf b
  | .block _ c => loopsOf c
  | .scope c => loopsOf c
  | .cond _ a b => loopsOf a ++ loopsOf b
  | _ => []
def loopAt (c : Option Code) (k : Nat) : Code := ((c.map loopsOf).getD []).getD k .skip
/-- The region of a number. -/
def regAt (n : Nat) : Code → Option Code
  | .region id ops d => if id == n then some (.region id ops d) else none
  | .seq a b => match regAt n a with
    | some c => some c
    | none => regAt n b
  | .cond _ a b => match regAt n a with
    | some c => some c
    | none => regAt n b
  | .loop c => regAt n c
  | .block _ c => regAt n c
  | .scope c => regAt n c
  | _ => none
def regionAt (c : Option Code) (n : Nat) : Code := (c.bind (regAt n)).getD .skip
/-- A frame of n slots, with nothing deferred. -/
structure Fr (n : Nat) (a : Act) : Prop where
  none : a.defers = []
  size : a.tmps.size = n
theorem list_range {α : Type} (l : List α) (d : α) : l = (List.range l.length).map fun i => l.getD i d := by
  apply List.ext_getElem
  · simp
  · intro i h1 h2; simp [h1]
theorem Fr.form {n : Nat} {a : Act} (h : Fr n a) : a = ⟨((List.range n).map fun i => a.tmps.getD i undef).toArray, []⟩ := by
  obtain ⟨⟨l⟩, d⟩ := a
  obtain ⟨h1, h2⟩ := h
  simp only at h1 h2
  have h3 : l.length = n := by simpa using h2
  subst h1 h3
  show (⟨⟨l⟩, []⟩ : Act) = ⟨((List.range l.length).map fun i => (⟨l⟩ : Array Value).getD i undef).toArray, []⟩
  have : (fun i => (⟨l⟩ : Array Value).getD i undef) = fun i => l.getD i undef := by
    funext i; simp [Array.getD_eq_getD_getElem?, List.getD_eq_getElem?_getD]
  rw [this, ← list_range]
/-- A loop that counts from k0 up to n. -/
theorem wp_count {P : Program} {Q : Exit → Act → World → Prop} {a : Act} {w : World} {c : Code} (n : Nat) (I : Nat → Act → World → Prop) (k0 : Nat) (hk : k0 ≤ n) (h0 : I k0 a w)
    (round : ∀ k a w, k < n → I k a w → c.wp P (Exit.then (fun a' w' => I (k + 1) a' w') Q) a w) (last : ∀ a w, I n a w → c.wp P (Exit.then (fun _ _ => False) Q) a w) : (Code.loop c).wp P Q a w := by
  refine wp_loop_ghost (fun m a w => ∃ k, k ≤ n ∧ m = n - k ∧ I k a w) (n - k0) ⟨k0, hk, rfl, h0⟩ ?_
  rintro m a w ⟨k, hk, rfl, hI⟩
  by_cases hlt : k < n
  · refine wp_mono (round k a w hlt hI) ?_
    rintro (_ | _ | _ | _ | _ | _) a' w' hq'
    case normal => exact ⟨n - (k + 1), by omega, k + 1, by omega, rfl, hq'⟩
    all_goals exact hq'
  · obtain rfl : k = n := by omega
    refine wp_mono (last a w hI) ?_
    rintro (_ | _ | _ | _ | _ | _) a' w' hq'
    case normal => exact absurd hq' id
    all_goals exact hq'
end Go.Proofs.YtkfgpnigeknhmaaDoor
