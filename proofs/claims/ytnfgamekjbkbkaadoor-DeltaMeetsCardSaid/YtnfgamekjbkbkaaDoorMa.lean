/-
  A row of ints of this call's own whose spare cells are ints too: so what is read from bytes stays, wherever those lie.
  Revocations: a log that is read.
  Revocations: a delta's size; what stays while a delta is read.
-/
import Derived.Test.YtnfgamekjbkbkaaDoorEo
import Derived.Test.YtnfgamekjbkbkaaDoorIp
import Derived.Lib.AppendZeros
namespace Go.Proofs.YtnfgamekjbkbkaaDoor
open Go Go.RowKit
/-- An own row: its block holds ints alone, the spare cells too. -/
def OwnZ (w : World) (base : Nat) (v : Value) (l : List Int) : Prop :=
  (v = .slice none 0 0 ∧ l = []) ∨ ∃ D cap zs, v = .slice (some ⟨D, 0, none⟩) l.length cap ∧ base ≤ D ∧ cap ≤ maxLen ∧ l.length + zs.length = cap ∧ w.heap[D]? = some (.cells (i64s (l ++ zs)).toArray 3 (0, 0))
theorem OwnZ.nil (w : World) (base : Nat) : OwnZ w base (.slice none 0 0) [] := .inl ⟨rfl, rfl⟩
theorem OwnZ.own {w : World} {base : Nat} {v : Value} {l : List Int} (h : OwnZ w base v l) : OwnI w base v l := by
  rcases h with ⟨rfl, rfl⟩ | ⟨D, cap, zs, rfl, hb, hm, hc, hr⟩
  · exact OwnI.nil w base
  · refine ⟨by rw [i64s_len]; omega, .inr ⟨D, cap, _, rfl, hb, hr, by omega, hm, ?_, ?_⟩⟩
    · simp [i64s]; omega
    · simp [i64s]
theorem OwnZ.lt {w : World} {base : Nat} {v : Value} {l : List Int} (h : OwnZ w base v l) : ∀ g, v.ownBlock = some g → g < w.heap.size ∧ base ≤ g := h.own.lt
theorem OwnZ.later {w w1 : World} {base : Nat} {v : Value} {l : List Int} (h : OwnZ w base v l) (hb : ∀ g, v.ownBlock = some g → w1.heap[g]? = w.heap[g]?) : OwnZ w1 base v l := by
  rcases h with h | ⟨D, cap, zs, rfl, hb', hm, hc, hr⟩
  · exact .inl h
  · exact .inr ⟨D, cap, zs, rfl, hb', hm, hc, by rw [hb D rfl]; exact hr⟩
end Go.Proofs.YtnfgamekjbkbkaaDoor
namespace Go.Proofs.YtnfgamekjbkbkaaDoor
open Go Go.RowKit
end Go.Proofs.YtnfgamekjbkbkaaDoor
namespace Go.Proofs.YtnfgamekjbkbkaaDoor
open Go Go.RowKit
theorem OwnZ.weak {w : World} {base base' : Nat} {v : Value} {l : List Int} (h : OwnZ w base v l) (hb : base' ≤ base) : OwnZ w base' v l := by
  rcases h with h | ⟨D, cap, zs, rfl, hb', hr⟩
  · exact .inl h
  · exact .inr ⟨D, cap, zs, rfl, Nat.le_trans hb hb', hr⟩
def No8 (cs : Array Value) : Prop := ∀ (i : Nat) x, cs[i]? ≠ some (.int .u8 x)
/-- What stays while a delta is read: its block and the answer's, the reader, the rows read. -/
structure PD (w : World) (E q : Nat) (cs : Array Value) (rs : List (Value × List Int)) (p : List UInt8 × Int) (W : World) : Prop where
  kr : KR w E [(E + 1, (.cells cs 30)), (E, (.cells #[.int .i64 0, .int .i64 0, .int .i64 0, .int .i64 0, .slice none 0 0, .slice none 0 0, .slice none 0 0, .slice none 0 0] 30))] W
  rd : IsR W q p.1 p.2
  own : ∀ r ∈ rs, OwnZ W (q + 1) r.1 r.2
  lt : E + 1 < q
theorem PD.later {w : World} {E q : Nat} {cs : Array Value} {rs : List (Value × List Int)} {p : List UInt8 × Int} {W W1 : World} (h : PD w E q cs rs p W) (hb : Below W.heap.size W W1) : PD w E q cs rs p W1 :=
  ⟨h.kr.later hb, h.rd.later hb, fun r hr => (h.own r hr).later fun g hg => hb.block g ((h.own r hr).lt g hg).1, h.lt⟩
theorem PD.put {w : World} {E q : Nat} {cs ds : Array Value} {rs : List (Value × List Int)} {p : List UInt8 × Int} {W W1 : World} (h : PD w E q cs rs p W) (hg : W.grownBy W1 (some (E + 1))) (hr : W1.heap[E + 1]? = some (.cells ds 30 (0, 0))) (h8 : No8 cs) : PD w E q ds rs p W1 :=
  ⟨h.kr.set hg hr (by omega) (by simp), h.rd.asideA (h.kr.rows _ (.head _)) h8 hg (by have := h.lt; omega), fun r hr => (h.own r hr).later fun g hgg => hg.block g ((h.own r hr).lt g hgg).1 (fun e => by injection e with e; have := ((h.own r hr).lt g hgg).2; have := h.lt; omega), h.lt⟩
end Go.Proofs.YtnfgamekjbkbkaaDoor
