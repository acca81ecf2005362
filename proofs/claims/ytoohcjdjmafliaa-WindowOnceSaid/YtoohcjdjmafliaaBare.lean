/-
  WindowOnce, whole.
-/
import Derived.Test.YtoohcjdjmafliaaW17
import Derived.Test.YtoohcjdjmafliaaW2
namespace Go.Proofs.Ytoohcjdjmafliaa
open Go Go.RowKit
theorem roundO (w : World) (l : List Nn) (q1 q2 L : Nat) (v0 : Value) (hv : NnsF w v0 l) (hn : l.length ≤ 9223372036854775807)
    (Q : Exit → Act → World → Prop) (k : Nat) (a : Act) (wr : World) (hk : k < l.length) (hk6 : k < 60) (h : IOo w q1 q2 L v0 k a wr) :
    Code.wp Try.prog (loopAt (Try.f4.body) 0) (Exit.then (fun a' w' => IOo w q1 q2 L v0 (k + 1) a' w') Q) a wr := by
  obtain ⟨hf, s7, vt, s1, s2, m, m2, y, s5, hB, hm⟩ := h
  by_cases hz : lookW s1 (l.getD k Nn.zero) = 0
  · exact roundO_yes w l q1 q2 L v0 hv hn Q k a wr hk hk6 hf s7 vt s1 s2 m m2 y s5 hB hm hz
  · exact roundO_no w l q1 q2 L v0 hv hn Q k a wr hk hk6 hf s7 vt s1 s2 m m2 y s5 hB hm hz
set_option maxRecDepth 100000 in
set_option maxHeartbeats 4000000 in
theorem lastO (w : World) (l : List Nn) (q1 q2 L : Nat) (v0 : Value) (hv : NnsF w v0 l) (hn : l.length ≤ 9223372036854775807) (k : Nat) (hk : k ≤ l.length) (hk6 : k ≤ 60) (hend : l.length ≤ k ∨ k = 60)
    (Q : Exit → Act → World → Prop) (N : Act → World → Prop) (hq : ∀ a' w', Fr 89 a' → Below w.heap.size w w' → Q (.exit 0) a' w') (a : Act) (wr : World) (h : IOo w q1 q2 L v0 k a wr) :
    Code.wp Try.prog (loopAt (Try.f4.body) 0) (Exit.then N Q) a wr := by
  obtain ⟨hf, s7, vt, s1, s2, m, m2, y, s5, hB, hm⟩ := h
  have HB := Bx.mk hB.a.below
  have HQ := Bx.mk hq
  obtain ⟨a0, cap, rfl⟩ := hv.1.form
  obtain ⟨na, hna⟩ : ∃ m, l.length = m := ⟨_, rfl⟩
  rw [hna] at hk hn hf hend
  have k0 : (0 : Int) ≤ (k : Int) := by omega
  have m1 : (na : Int) ≤ 9223372036854775807 := by omega
  obtain ⟨z, rfl, hy⟩ := open89 hf.fr
  have e0 := (hy 0).symm.trans hf.s0
  have e3 := (hy 3).symm.trans hf.s3
  have e4 := (hy 4).symm.trans hf.s4
  have e5 := (hy 5).symm.trans s5
  have e6 := (hy 6).symm.trans hf.s6
  have e7 := (hy 7).symm.trans s7
  clear hf hy s5 s7 hB hm hq hv hna
  rw [e0, e3, e4, e5, e6, e7]
  clear e0 e3 e4 e5 e6 e7
  conv => arg 2; whnf
  by_cases hlt : k < na
  · have h1 : (k : Int) < (na : Int) := by omega
    have h2 : ¬ (k : Int) < 60 := by omega
    clear hend hlt hk hk6 hn
    go_wp2
    exact HQ.out _ _ ⟨rfl, rfl⟩ HB.out
  · have h1 : ¬ (k : Int) < (na : Int) := by omega
    clear hend hlt hk hk6 hn
    go_wp2
    exact HQ.out _ _ ⟨rfl, rfl⟩ HB.out
theorem loopO (w : World) (l : List Nn) (q1 q2 L : Nat) (v0 : Value) (hv : NnsF w v0 l) (hn : l.length ≤ 9223372036854775807)
    (Q : Exit → Act → World → Prop) (a : Act) (wr : World) (h : IOo w q1 q2 L v0 0 a wr) (hq : ∀ a' w', Fr 89 a' → Below w.heap.size w w' → Q (.exit 0) a' w') :
    Code.wp Try.prog (.loop (loopAt (Try.f4.body) 0)) Q a wr :=
  wp_count (min l.length 60) (fun k a w' => IOo w q1 q2 L v0 k a w') 0 (Nat.zero_le _) h (fun k a w' hk hI => roundO w l q1 q2 L v0 hv hn Q k a w' (by omega) (by omega) hI) (fun a w' hI => lastO w l q1 q2 L v0 hv hn _ (by omega) (by omega) (by omega) Q _ hq a w' hI)
set_option maxRecDepth 100000 in
set_option maxHeartbeats 4000000 in
theorem wonce_all (l : List Nn) (v0 : Value) (w : World) (h0 : NnsF w v0 l) (h0n : l.length ≤ 9223372036854775807) :
    Calls Try.prog 4 #[v0] w fun e w' => e = .returned (.bool true) ∧ Below w.heap.size w w' := by
  have HO := Bx.mk fun (q1 q2 L : Nat) (Q : Exit → Act → World → Prop) (a : Act) (wr : World) => loopO w l q1 q2 L v0 h0 h0n Q a wr
  have HKn := Bx.mk fun (W : World) => known12_any W
  have R0 : Bx (BO w w.heap.size (w.heap.size + 1) (w.heap.size + 1 + 1) Ws.zero Ws.zero (.slice none 0 0) [] [] Nn.zero (((w.alloc (.cells #[.int .i64 0, .int .i64 0, .int .u64 0] 27)).alloc (.cells #[.int .i64 0, .int .i64 0, .int .u64 0] 27)).alloc (.cells #[.int .i64 0, .int .i64 0] 29))) := Bx.mk (by
    have h1 := WP.start w
    have h2 := winB_new (w.alloc (.cells #[.int .i64 0, .int .i64 0, .int .u64 0] 27))
    have hs : (w.alloc (.cells #[.int .i64 0, .int .i64 0, .int .u64 0] 27)).heap.size = w.heap.size + 1 := by simp
    rw [hs] at h2
    refine ⟨(h1.later (below_a _)).later (below_a _), ⟨?_, ?_, by omega, zero_ok⟩, hnew _ _ _ (by simp), OwnN.nil _ _ _, by omega, by omega, by omega, by omega, RelW.start, RelW.start, rfl⟩
    · exact ((below_a _).trans ((below_a _).mono (by simp))).trans ((below_a _).mono (by simp; omega))
    · exact h2.later (below_a _))
  clear h0 h0n
  go_enter Try.func4, Try.ntmps4
  go_wp2
  skip -- M1
  refine HO.out w.heap.size (w.heap.size + 1) (w.heap.size + 1 + 1) _ _ _ ⟨⟨⟨rfl, rfl⟩, rfl, rfl, rfl, rfl⟩, rfl, _, _, _, [], [], _, rfl, R0.out, by simp⟩ ?_
  intro a6 w6 hf hb
  have HB := Bx.mk hb
  clear hb HO R0
  obtain ⟨y, rfl, hx⟩ := open89 hf
  clear hf hx
  go_wp2_with fail
  refine (HKn.out w6).mono ?_
  rintro e w7 ⟨rfl, hb⟩
  have HB7 := Bx.mk (HB.out.trans (hb.mono HB.out.size))
  clear hb HB
  go_wp2
  go_ret
  exact ⟨rfl, HB7.out⟩
end Go.Proofs.Ytoohcjdjmafliaa
namespace Go.Proofs.Ytoohcjdjmafliaa
open Go
/-- A world to begin with. -/
noncomputable def laidWorld (os : Os) : World := World.holding Try.prog os ⟨#[], #[], []⟩
end Go.Proofs.Ytoohcjdjmafliaa
