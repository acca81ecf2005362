/-
  The walks of a reader's numbers and bytes, and of its end.
-/
import Derived.Test.YtiengbmnfbbgoaaDoorIx
namespace Go.Proofs.YtiengbmnfbbgoaaDoor
open Go Go.RowKit
theorem fld1g (a b : Int) (x : Option Addr) (n c : Nat) (W : World) : (Instr.field 141 (.agg #[.int .i64 a, .int .i64 b, .slice x n c]) 1).run Tryd.prog W = .ok (.int .i64 b) W := by kernel_rfl
theorem fld2g (a b : Int) (x : Option Addr) (n c : Nat) (W : World) : (Instr.field 141 (.agg #[.int .i64 a, .int .i64 b, .slice x n c]) 2).run Tryd.prog W = .ok (.slice x n c) W := by kernel_rfl
/-- What a reader's Get does: nothing behind an error. -/
def getR (l : List UInt8) (er s : Int) : Fd × List UInt8 × Int := if er ≠ 0 then (Fd.zero, l, er) else getF l s
theorem get_all (q : Nat) (s : Int) (l : List UInt8) (er : Int) (w : World) (h : IsR w q l er) (hl : l.length ≤ 5000) (hk : 0 ≤ s ∧ s ≤ 4) :
    Calls Tryd.prog 86 #[.pointer (some ⟨q, 0, none⟩), .int .i64 s] w fun e w' => ∃ v', e = .returned v' ∧ IsF w' v' (getR l er s).1 ∧ IsR w' q (getR l er s).2.1 (getR l er s).2.2 ∧ w.grownBy w' (some q) := by
  unfold getR
  by_cases he : er = 0
  · subst he
    rw [if_neg (by simp)]
    exact get_any q s l w h hl hk
  · rw [if_pos he]
    exact (get_bad q l er s w h he).mono fun e w' ⟨he, hb⟩ => ⟨_, he, zero_isF _, h.later hb, kb_below _ hb⟩
set_option maxRecDepth 100000 in
theorem rnum_any (q : Nat) (s : Int) (l : List UInt8) (er : Int) (w : World) (h : IsR w q l er) (hl : l.length ≤ 5000) (hk : 0 ≤ s ∧ s ≤ 3) :
    Calls Tryd.prog 77 #[.pointer (some ⟨q, 0, none⟩), .int .i64 s] w fun e w' => e = .returned (.int .i64 (getR l er s).1.n) ∧ IsR w' q (getR l er s).2.1 (getR l er s).2.2 ∧ w.grownBy w' (some q) := by
  have HG := Bx.mk (get_all q s l er w h hl ⟨hk.1, by omega⟩)
  have hs4 : (s == 4) = false := by simp; omega
  clear h hl hk
  generalize getR l er s = g at *
  obtain ⟨⟨fs, fn, fb⟩, l', er'⟩ := g
  simp only at HG ⊢
  have hf := fld1g
  go_enter Tryd.func77, Tryd.ntmps77
  go_wp2_with fail
  refine HG.out.mono ?_
  rintro e w1 ⟨v1, rfl, ⟨vb, rfl, hb1⟩, hr1, hg1⟩
  have H1 := Bx.mk (And.intro hr1 hg1)
  obtain ⟨ab, cb, rfl, -⟩ := hb1
  clear hr1 hg1 HG
  generalize (Fd.mk fs fn fb).b.length = L at *
  go_wp2
  go_ret
  exact ⟨rfl, H1.out⟩
/-- What a reader's Bytes does. -/
def bytR (l : List UInt8) (er longest : Int) : List UInt8 × List UInt8 × Int :=
  if longest < ((getR l er 4).1.b.length : Int) then ([], if (getR l er 4).2.2 = 0 then ([], 3) else ((getR l er 4).2.1, (getR l er 4).2.2)) else ((getR l er 4).1.b, (getR l er 4).2)
theorem fail_bad (q : Nat) (l : List UInt8) (er c : Int) (w : World) (h : IsR w q l er) (he : er ≠ 0) : Calls Tryd.prog 76 #[.pointer (some ⟨q, 0, none⟩), .int .i64 c] w fun e w' => (∃ v, e = .returned v) ∧ w' = w := by
  have H := Bx.mk h
  have he1 : (er == 0) = false := by simp; exact he
  go_enter Tryd.func76, Tryd.ntmps76
  go_wp2_with fail
  refine (rerr_any q l er w H.out).mono ?_
  rintro e w1 ⟨rfl, rfl⟩
  go_wp2
  go_end0
  exact ⟨⟨_, rfl⟩, rfl⟩
theorem fail_any (q : Nat) (l : List UInt8) (er c : Int) (w : World) (h : IsR w q l er) : Calls Tryd.prog 76 #[.pointer (some ⟨q, 0, none⟩), .int .i64 c] w fun e w' => (∃ v, e = .returned v) ∧ IsR w' q (if er = 0 then ([], c) else (l, er)).1 (if er = 0 then ([], c) else (l, er)).2 ∧ w.grownBy w' (some q) := by
  by_cases he : er = 0
  · subst he
    rw [if_pos rfl]
    exact fail_ok q l c w h
  · rw [if_neg he]
    exact (fail_bad q l er c w h he).mono fun e w' ⟨hv, hw⟩ => ⟨hv, by rw [hw]; exact h, by rw [hw]; exact kb_refl _ _⟩
theorem rend_any (q : Nat) (l : List UInt8) (er : Int) (w : World) (h : IsR w q l er) (hl : l.length ≤ 5000) : Calls Tryd.prog 61 #[.pointer (some ⟨q, 0, none⟩)] w fun e w' => e = .returned (.int .i64 (if er ≠ 0 then er else if 0 < l.length then 3 else 0)) ∧ w' = w := by
  have H := Bx.mk h
  obtain ⟨L, hL⟩ : ∃ n, l.length = n := ⟨_, rfl⟩
  have HL := Bx.mk hL
  rw [hL] at hl ⊢
  clear h hL
  have hl1 : (L : Int) ≤ 5000 := by omega
  obtain ⟨R, hR⟩ : ∃ R, (if er ≠ 0 then er else if 0 < L then 3 else 0) = R := ⟨_, rfl⟩
  have HR := Bx.mk hR
  rw [hR]
  clear hR
  by_cases he : er = 0
  · subst he
    by_cases h0 : 0 < L
    · have h1 : (0 : Int) < (L : Int) := by omega
      go_enter Tryd.func61, Tryd.ntmps61
      go_wp2_with fail
      refine (rerr_any q l 0 w H.out).mono ?_
      rintro e w1 ⟨rfl, rfl⟩
      go_wp2_with fail
      refine (left_any q l 0 _ H.out).mono ?_
      rintro e w1 ⟨rfl, rfl⟩
      rw [HL.out]
      go_wp2
      go_ret
      exact ⟨by rw [← HR.out, if_neg (by simp), if_pos h0]; rfl, rfl⟩
    · obtain rfl : L = 0 := by omega
      go_enter Tryd.func61, Tryd.ntmps61
      go_wp2_with fail
      refine (rerr_any q l 0 w H.out).mono ?_
      rintro e w1 ⟨rfl, rfl⟩
      go_wp2_with fail
      refine (left_any q l 0 _ H.out).mono ?_
      rintro e w1 ⟨rfl, rfl⟩
      rw [HL.out]
      go_wp2
      go_ret
      exact ⟨by rw [← HR.out, if_neg (by simp), if_neg h0]; rfl, rfl⟩
  · have he1 : (er != 0) = true := by simp; exact he
    go_enter Tryd.func61, Tryd.ntmps61
    go_wp2_with fail
    refine (rerr_any q l er w H.out).mono ?_
    rintro e w1 ⟨rfl, rfl⟩
    go_wp2
    go_ret
    exact ⟨by rw [← HR.out, if_pos he]; rfl, rfl⟩
end Go.Proofs.YtiengbmnfbbgoaaDoor
