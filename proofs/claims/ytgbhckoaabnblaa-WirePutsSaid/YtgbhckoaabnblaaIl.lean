/-
  The walks of fields that are the same.
-/
import Derived.Test.YtgbhckoaabnblaaIb
namespace Go.Proofs.Ytgbhckoaabnblaa
open Go Go.RowKit
theorem bequal_same (l : List UInt8) (va vb : Value) (w : World) (ha : Bytes w va l) (hb : Bytes w vb l) : Calls Try.prog 30 #[va, vb] w fun e w' => e = .returned (.bool true) ∧ w' = w := by
  have h1 := run_str w va l ha
  have h2 := run_str w vb l hb
  obtain ⟨aa, ca, rfl, -⟩ := ha
  obtain ⟨ab, cb, rfl, -⟩ := hb
  generalize l.length = L at *
  go_enter Try.func30, Try.ntmps30
  go_wp2
  go_ret
  exact ⟨by simp, rfl⟩
set_option maxRecDepth 100000 in
set_option maxHeartbeats 1000000 in
theorem wsame_eq (f : Fd) (va vb : Value) (w : World) (ha : IsF w va f) (hb : IsF w vb f) : Calls Try.prog 12 #[va, vb] w fun e w' => e = .returned (.bool true) ∧ Below w.heap.size w w' := by
  obtain ⟨xa, rfl, ha⟩ := ha
  obtain ⟨xb, rfl, hb⟩ := hb
  obtain ⟨s, n, l⟩ := f
  simp only at ha hb ⊢
  have HA := Bx.mk (And.intro ha hb)
  obtain ⟨aa, ca, rfl, -⟩ := ha
  obtain ⟨ab, cb, rfl, -⟩ := hb
  generalize l.length = L at *
  have HB : Bx (Below w.heap.size w ((w.alloc (.cells #[.int .i64 s, .int .i64 n, .slice aa L ca] 40)).alloc (.cells #[.int .i64 s, .int .i64 n, .slice ab L cb] 40))) := Bx.mk ((below_a _).trans ((below_a _).mono (by simp)))
  have HE := Bx.mk (bequal_same l _ _ _ (HA.out.1.later HB.out) (HA.out.2.later HB.out))
  go_enter Try.func12, Try.ntmps12
  go_wp2_with fail
  refine HE.out.mono ?_
  rintro e w1 ⟨rfl, rfl⟩
  go_wp2
  go_ret
  exact ⟨rfl, HB.out⟩
end Go.Proofs.Ytgbhckoaabnblaa
