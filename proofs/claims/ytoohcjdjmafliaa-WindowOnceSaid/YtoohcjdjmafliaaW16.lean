/-
  What a window and the list of what was taken hold alike.
-/
import Derived.Test.YtoohcjdjmafliaaW7
namespace Go.Proofs.Ytoohcjdjmafliaa
open Go Go.RowKit
theorem lessN_iff (a b : Nn) : lessN a b = true ↔ a.b < b.b ∨ a.b = b.b ∧ a.c < b.c := by
  unfold lessN
  exact decide_eq_true_iff
theorem lessN_irrefl (a : Nn) : lessN a a = false := by
  cases h : lessN a a
  · rfl
  · have := (lessN_iff a a).1 h; omega
theorem lessN_trans {a b c : Nn} (h1 : lessN a b = true) (h2 : lessN b c = true) : lessN a c = true := by
  rw [lessN_iff] at *
  omega
/-- None is greater than the latest. -/
theorem latN_max (m : List Nn) : ∀ x ∈ m, lessN (latN m) x = false := by
  have key : ∀ k, k ≤ m.length → ∀ x ∈ m.take k, lessN (latN (m.take k)) x = false := by
    intro k
    induction k with
    | zero => intro _ x hx; simp at hx
    | succ k ih =>
      intro hk x hx
      rw [takeN_succ m k (by omega)] at hx
      rw [latN_succ m k (by omega)]
      generalize m.getD k Nn.zero = y at *
      cases hl : lessN (latN (m.take k)) y with
      | true =>
        rw [if_pos rfl]
        rcases List.mem_append.1 hx with hx | hx
        · have h1 := ih (by omega) x hx
          cases h2 : lessN y x
          · rfl
          · rw [lessN_trans hl h2] at h1; cases h1
        · rw [List.mem_singleton.1 hx]; exact lessN_irrefl y
      | false =>
        rw [if_neg (by simp)]
        rcases List.mem_append.1 hx with hx | hx
        · exact ih (by omega) x hx
        · rw [List.mem_singleton.1 hx]; exact hl
  have := key m.length (Nat.le_refl _)
  rwa [List.take_length] at this
/-- What a window and a list of nonces hold alike. -/
structure RelW (m : List Nn) (s : Ws) : Prop where
  lat : s.n = latN m
  ok : ∀ x ∈ m, okN x = true
  bits : ∀ d : Nat, d < 64 → s.t.getLsbD d = decide ((⟨s.n.b, s.n.c - (d : Int)⟩ : Nn) ∈ m)
theorem RelW.start : RelW [] Ws.zero := ⟨rfl, fun x hx => by simp at hx, fun d hd => by simp [Ws.zero]⟩
theorem RelW.none {m : List Nn} {s : Ws} (h : RelW m s) {x : Nn} (hx : s.n.b < x.b ∨ s.n.b = x.b ∧ s.n.c < x.c) : x ∉ m := fun hm => by
  have h1 := latN_max m x hm
  rw [← h.lat, (lessN_iff _ _).2 hx] at h1
  cases h1
theorem and_bit (t : BitVec 64) (d : Nat) (hd : d < 64) : (t &&& (1#64 <<< d) = 0#64) ↔ t.getLsbD d = false := by
  constructor
  · intro h
    have h1 : (t &&& (1#64 <<< d)).getLsbD d = false := by rw [h]; simp
    rw [BitVec.getLsbD_and, BitVec.getLsbD_shiftLeft] at h1
    simpa [hd] using h1
  · intro h
    apply BitVec.eq_of_getLsbD_eq
    intro i hi
    rw [BitVec.getLsbD_and, BitVec.getLsbD_shiftLeft]
    by_cases e : i = d
    · subst e; rw [h]; simp
    · by_cases e2 : i < d
      · simp [e2]
      · have : (1#64).getLsbD (i - d) = false := by
          rw [BitVec.getLsbD_one]
          simp
          omega
        rw [this]; simp
theorem RelW.look {m : List Nn} {s : Ws} (h : RelW m s) (n : Nn) : lookW s n = dlookN m n := by
  unfold lookW dlookN
  cases hok : okN n with
  | false => rw [if_pos rfl, if_pos rfl]
  | true =>
    rw [if_neg (show ¬ (true = false) by simp), if_neg (show ¬ (true = false) by simp), ← h.lat]
    obtain ⟨n1, n2, n3, n4⟩ := (okN_iff n).1 hok
    by_cases hf : n.b < s.n.b ∨ n.b = s.n.b ∧ n.c ≤ s.n.c - 64
    · rw [if_pos hf, if_pos]
      unfold forgW
      exact decide_eq_true (by omega)
    · rw [if_neg hf, if_neg (by unfold forgW; rw [decide_eq_false (by omega)]; simp)]
      unfold bitW
      by_cases hb : n.b = s.n.b ∧ n.c ≤ s.n.c
      · rw [if_pos hb]
        obtain ⟨d, hd⟩ : ∃ d : Nat, s.n.c - n.c = (d : Int) := ⟨(s.n.c - n.c).toNat, by omega⟩
        rw [hd, Int.toNat_natCast]
        have hd64 : d < 64 := by omega
        have hn : (⟨s.n.b, s.n.c - (d : Int)⟩ : Nn) = n := Nn.ext' hb.1.symm (by show s.n.c - (d : Int) = n.c; omega)
        have hbit := h.bits d hd64
        rw [hn] at hbit
        by_cases hm : n ∈ m
        · rw [if_pos hm, if_neg]
          rw [and_bit _ _ hd64, hbit, decide_eq_true hm]
          simp
        · rw [if_neg hm, if_pos]
          rw [and_bit _ _ hd64, hbit, decide_eq_false hm]
      · rw [if_neg hb, if_neg (h.none (by omega)), if_pos (by simp)]
theorem RelW.take {m : List Nn} {s : Ws} (h : RelW m s) {n : Nn} (h0 : lookW s n = 0) : RelW (m ++ [n]) (takeW s n) := by
  have hok : okN n = true := by
    unfold lookW at h0
    split at h0
    · omega
    · rename_i h1; simpa using h1
  have hfo : forgW s n = false := by
    unfold lookW at h0
    rw [if_neg (by rw [hok]; simp)] at h0
    split at h0
    · omega
    · rename_i h1; simpa using h1
  obtain ⟨n1, n2, n3, n4⟩ := (okN_iff n).1 hok
  have hf : ¬ (n.b < s.n.b ∨ n.b = s.n.b ∧ 64 ≤ s.n.c - n.c) := by unfold forgW at hfo; exact of_decide_eq_false hfo
  have hmem : ∀ x : Nn, decide (x ∈ m ++ [n]) = (decide (x ∈ m) || decide (x = n)) := fun x => by
    by_cases h1 : x ∈ m <;> by_cases h2 : x = n <;> simp [h1, h2]
  have hok' : ∀ x ∈ m ++ [n], okN x = true := fun x hx => by
    rcases List.mem_append.1 hx with hx | hx
    · exact h.ok x hx
    · rw [List.mem_singleton.1 hx]; exact hok
  unfold takeW
  rw [if_pos h0]
  cases hl : lessN s.n n with
  | true =>
    rw [if_pos rfl]
    have hl' := (lessN_iff _ _).1 hl
    refine ⟨?_, hok', ?_⟩
    · show n = _
      rw [latN_snoc, ← h.lat, hl, if_pos rfl]
    · intro d hd
      show ((riseW s n).t ||| bitW (riseW s n) n).getLsbD d = decide ((⟨n.b, n.c - (d : Int)⟩ : Nn) ∈ m ++ [n])
      have e1 : bitW (riseW s n) n = 1#64 := by
        unfold bitW
        rw [if_pos ⟨rfl, Int.le_refl _⟩, show (riseW s n).n.c - n.c = 0 from Int.sub_self _]
        rfl
      rw [e1, BitVec.getLsbD_or, hmem]
      have e2 : (1#64).getLsbD d = decide ((⟨n.b, n.c - (d : Int)⟩ : Nn) = n) := by
        rw [BitVec.getLsbD_one]
        by_cases hd0 : d = 0
        · subst hd0
          have e0 : (⟨n.b, n.c - ((0 : Nat) : Int)⟩ : Nn) = n := Nn.ext' rfl (by show n.c - ((0 : Nat) : Int) = n.c; omega)
          rw [e0]
          simp
        · have e0 : ¬ (⟨n.b, n.c - (d : Int)⟩ : Nn) = n := fun e => by have := ((Nn.eq_iff _ _).1 e).2; simp only at this; omega
          rw [decide_eq_false e0]
          simp [hd0]
      rw [e2]
      congr 1
      unfold riseW
      by_cases hb : n.b = s.n.b
      · show (if n.b = s.n.b then s.t <<< (n.c - s.n.c).toNat else 0#64).getLsbD d = _
        rw [if_pos hb]
        obtain ⟨k, hk⟩ : ∃ k : Nat, n.c - s.n.c = (k : Int) := ⟨(n.c - s.n.c).toNat, by omega⟩
        rw [hk, Int.toNat_natCast, BitVec.getLsbD_shiftLeft]
        by_cases hdk : d < k
        · have e0 : (⟨n.b, n.c - (d : Int)⟩ : Nn) ∉ m := h.none (.inr ⟨hb.symm, by show s.n.c < n.c - (d : Int); omega⟩)
          rw [decide_eq_false e0]
          simp [hdk]
        · have hb2 := h.bits (d - k) (by omega)
          rw [hb2, hb]
          have e3 : s.n.c - ((d - k : Nat) : Int) = n.c - (d : Int) := by omega
          rw [e3]
          simp [hd, hdk]
      · show (if n.b = s.n.b then s.t <<< (n.c - s.n.c).toNat else 0#64).getLsbD d = _
        have e0 : (⟨n.b, n.c - (d : Int)⟩ : Nn) ∉ m := h.none (.inl (by show s.n.b < n.b; omega))
        rw [if_neg hb, decide_eq_false e0]
        simp
  | false =>
    rw [if_neg (by simp)]
    have hl' : ¬ (s.n.b < n.b ∨ s.n.b = n.b ∧ s.n.c < n.c) := fun e => by rw [(lessN_iff _ _).2 e] at hl; cases hl
    have hb : n.b = s.n.b := by omega
    refine ⟨?_, hok', ?_⟩
    · show s.n = _
      rw [latN_snoc, ← h.lat, hl, if_neg (by simp)]
    · intro d hd
      show (s.t ||| bitW s n).getLsbD d = decide ((⟨s.n.b, s.n.c - (d : Int)⟩ : Nn) ∈ m ++ [n])
      rw [BitVec.getLsbD_or, hmem, h.bits d hd]
      congr 1
      unfold bitW
      rw [if_pos ⟨hb, by omega⟩]
      obtain ⟨k, hk⟩ : ∃ k : Nat, s.n.c - n.c = (k : Int) := ⟨(s.n.c - n.c).toNat, by omega⟩
      rw [hk, Int.toNat_natCast, BitVec.getLsbD_shiftLeft, BitVec.getLsbD_one]
      by_cases e : d = k
      · subst e
        have e0 : (⟨s.n.b, s.n.c - (d : Int)⟩ : Nn) = n := Nn.ext' hb.symm (by show s.n.c - (d : Int) = n.c; omega)
        rw [decide_eq_true e0]
        simp [hd]
      · have e0 : ¬ (⟨s.n.b, s.n.c - (d : Int)⟩ : Nn) = n := fun e' => by have := ((Nn.eq_iff _ _).1 e').2; simp only at this; omega
        rw [decide_eq_false e0]
        by_cases h2 : d < k
        · simp [h2]
        · have : d - k ≠ 0 := by omega
          simp [this]
theorem RelW.keep {m : List Nn} {s : Ws} (h : RelW m s) {n : Nn} (h0 : lookW s n ≠ 0) : takeW s n = s := by unfold takeW; rw [if_neg h0]
/-- A greater nonce may be taken. -/
theorem RelW.up {m : List Nn} {s : Ws} (h : RelW m s) {n : Nn} (hok : okN n = true) (hl : lessN s.n n = true) : lookW s n = 0 := by
  have hl' := (lessN_iff _ _).1 hl
  rw [h.look]
  unfold dlookN
  rw [if_neg (by rw [hok]; simp), ← h.lat, if_neg (by omega), if_neg (h.none hl')]
end Go.Proofs.Ytoohcjdjmafliaa
namespace Go.Proofs.Ytoohcjdjmafliaa
open Go Go.RowKit
/-- A counter in its block. -/
def CouB (W : World) (p : Nat) (n : Nn) : Prop := W.heap[p]? = some (.cells #[.int .i64 n.b, .int .i64 n.c] 70 (0, 0))
theorem CouB.lt {W : World} {p : Nat} {n : Nn} (h : CouB W p n) : p < W.heap.size := (Array.getElem?_eq_some_iff.1 h).1
theorem CouB.later {W W1 : World} {p : Nat} {n : Nn} (h : CouB W p n) (hb : Below W.heap.size W W1) : CouB W1 p n := (hb.block p h.lt).trans h
theorem CouB.aside {W W1 : World} {p q : Nat} {n : Nn} (h : CouB W p n) (hg : W.grownBy W1 (some q)) (hne : p ≠ q) : CouB W1 p n := (hg.block p h.lt (fun e => hne (by injection e))).trans h
theorem CouB.cells {W : World} {p : Nat} {n : Nn} (h : CouB W p n) : W.cell? ⟨p, 0, none⟩ = some (.int .i64 n.b) ∧ W.cell? ⟨p, 1, none⟩ = some (.int .i64 n.c) :=
  ⟨by rw [cell_of_row _ _ _ _ _ _ h]; rfl, by rw [cell_of_row _ _ _ _ _ _ h]; rfl⟩
theorem CouB.frozen {W : World} {p : Nat} {n : Nn} (h : CouB W p n) (i : Nat) : W.frozen? ⟨p, i, none⟩ = false := frozen_of_row _ _ _ _ _ h
end Go.Proofs.Ytoohcjdjmafliaa
namespace Go.Proofs.Ytoohcjdjmafliaa
open Go Go.RowKit
set_option maxRecDepth 100000 in
set_option maxHeartbeats 4000000 in
theorem latest_any (q : Nat) (s : Ws) (w : World) (h : WinB w q s) : Calls Try.prog 14 #[.pointer (some ⟨q, 0, none⟩)] w fun e w' => e = .returned (nv s.n) ∧ Below w.heap.size w w' := by
  have hq := h.lt
  have hne : q ≠ w.heap.size := by omega
  have hL := h.later (below_a (.cells #[.int .i64 0, .int .i64 0] 24))
  obtain ⟨c0, c1, c2⟩ := hL.cells
  obtain ⟨⟨b, c⟩, T⟩ := s
  simp only at c0 c1 c2
  unfold nv
  clear h hL hq c2
  go_enter Try.func14, Try.ntmps14
  go_wp2
  skip -- M2
  refine bodyPost_ret (results_cell_row rfl _ _ w.heap.size _ _ _ _ rfl (hnew _ _ _ rfl) Try.underlying24 rfl (by kernel_rfl)) rfl ?_
  exact ⟨rfl, below_a _⟩
end Go.Proofs.Ytoohcjdjmafliaa
namespace Go.Proofs.Ytoohcjdjmafliaa
open Go Go.RowKit
/-- A window that was made behind a world. -/
structure WP (w : World) (q : Nat) (s : Ws) (W : World) : Prop where
  below : Below w.heap.size w W
  win : WinB W q s
  ge : w.heap.size ≤ q
  ok : s.ok
theorem WP.later {w : World} {q : Nat} {s : Ws} {W W1 : World} (h : WP w q s W) (hb : Below W.heap.size W W1) : WP w q s W1 := ⟨h.below.trans (hb.mono h.below.size), h.win.later hb, h.ge, h.ok⟩
theorem WP.aside {w : World} {q p : Nat} {s : Ws} {W W1 : World} (h : WP w q s W) (hg : W.grownBy W1 (some p)) (hp : w.heap.size ≤ p) (hne : q ≠ p) : WP w q s W1 := ⟨h.below.trans (grown_belowW hg hp h.below.size), h.win.aside hg hne, h.ge, h.ok⟩
theorem WP.row {w : World} {q : Nat} {s : Ws} {W W1 : World} {T : TypeId} {v : Value} {l : List Nn} (h : WP w q s W) (hT : T ≠ 27) (ho : OwnN T W w.heap.size v l) (hg : W.grownBy W1 v.ownBlock) : WP w q s W1 := ⟨h.below.trans (ownN_below ho hg h.below.size), h.win.row hT ho hg, h.ge, h.ok⟩
theorem WP.start (w : World) : WP w w.heap.size Ws.zero (w.alloc (.cells #[.int .i64 0, .int .i64 0, .int .u64 0] 27)) := ⟨below_a _, winB_new w, Nat.le_refl _, zero_ok⟩
theorem WP.take {w : World} {q : Nat} {s : Ws} {W : World} (h : WP w q s W) (n : Nn) : Calls Try.prog 12 #[.pointer (some ⟨q, 0, none⟩), nv n] W fun e W' => e = .returned (.int .i64 (lookW s n)) ∧ WP w q (takeW s n) W' ∧ W.grownBy W' (some q) := by
  refine (take_any12 q s n W h.win h.ok).mono ?_
  rintro e W' ⟨h1, h2, h3⟩
  exact ⟨h1, ⟨h.below.trans (grown_belowW h3 h.ge h.below.size), h2, h.ge, takeW_ok h.ok⟩, h3⟩
theorem WP.look {w : World} {q : Nat} {s : Ws} {W : World} (h : WP w q s W) (n : Nn) : Calls Try.prog 10 #[.pointer (some ⟨q, 0, none⟩), nv n] W fun e W' => e = .returned (.int .i64 (lookW s n)) ∧ WP w q s W' ∧ Below W.heap.size W W' := by
  refine (look_any q s n W h.win h.ok).mono ?_
  rintro e W' ⟨h1, h2⟩
  exact ⟨h1, h.later h2, h2⟩
theorem known12_facts : lookW Ws.zero ⟨1, 5⟩ = 0 ∧ lookW (takeW Ws.zero ⟨1, 5⟩) ⟨1, 3⟩ = 0 ∧ lookW (takeW (takeW Ws.zero ⟨1, 5⟩) ⟨1, 3⟩) ⟨1, 5⟩ = 8 ∧ lookW (takeW (takeW (takeW Ws.zero ⟨1, 5⟩) ⟨1, 3⟩) ⟨1, 5⟩) ⟨1, 70⟩ = 0 ∧ lookW (takeW (takeW (takeW (takeW Ws.zero ⟨1, 5⟩) ⟨1, 3⟩) ⟨1, 5⟩) ⟨1, 70⟩) ⟨1, 6⟩ = 9 := by decide +kernel
set_option maxRecDepth 100000 in
set_option maxHeartbeats 4000000 in
theorem known12_any (w : World) : Calls Try.prog 16 #[] w fun e w' => e = .returned (.bool true) ∧ Below w.heap.size w w' := by
  have HK := Bx.mk known12_facts
  have R0 := Bx.mk (WP.start w)
  go_enter Try.func16, Try.ntmps16
  go_wp2_with fail
  have T0 := R0.out.take ⟨1, 5⟩
  rw [HK.out.1] at T0
  refine T0.mono ?_
  rintro e w1 ⟨rfl, hw, -⟩
  have R1 := Bx.mk hw
  clear hw T0 R0
  go_wp2_with fail
  have T1 := R1.out.take ⟨1, 3⟩
  rw [HK.out.2.1] at T1
  refine T1.mono ?_
  rintro e w2 ⟨rfl, hw, -⟩
  have R2 := Bx.mk hw
  clear hw T1 R1
  go_wp2_with fail
  have T2 := R2.out.take ⟨1, 5⟩
  rw [HK.out.2.2.1] at T2
  refine T2.mono ?_
  rintro e w3 ⟨rfl, hw, -⟩
  have R3 := Bx.mk hw
  clear hw T2 R2
  go_wp2_with fail
  have T3 := R3.out.take ⟨1, 70⟩
  rw [HK.out.2.2.2.1] at T3
  refine T3.mono ?_
  rintro e w4 ⟨rfl, hw, -⟩
  have R4 := Bx.mk hw
  clear hw T3 R3
  go_wp2_with fail
  have T4 := R4.out.take ⟨1, 6⟩
  rw [HK.out.2.2.2.2] at T4
  refine T4.mono ?_
  rintro e w5 ⟨rfl, hw, -⟩
  have R5 := Bx.mk hw
  clear hw T4 R4
  go_wp2
  go_ret
  exact ⟨rfl, R5.out.below⟩
end Go.Proofs.Ytoohcjdjmafliaa
namespace Go.Proofs.Ytoohcjdjmafliaa
open Go Go.RowKit
set_option maxRecDepth 100000 in
theorem open89 {a : Act} (h : Fr 89 a) : ∃ x : Nat → Value, a = ⟨List.toArray (x 0 :: x 1 :: x 2 :: x 3 :: x 4 :: x 5 :: x 6 :: x 7 :: x 8 :: x 9 :: x 10 :: x 11 :: x 12 :: x 13 :: x 14 :: x 15 :: x 16 :: x 17 :: x 18 :: x 19 :: x 20 :: x 21 :: x 22 :: x 23 :: x 24 :: x 25 :: x 26 :: x 27 :: x 28 :: x 29 :: x 30 :: x 31 :: x 32 :: x 33 :: x 34 :: x 35 :: x 36 :: x 37 :: x 38 :: x 39 :: x 40 :: x 41 :: x 42 :: x 43 :: x 44 :: x 45 :: x 46 :: x 47 :: x 48 :: x 49 :: x 50 :: x 51 :: x 52 :: x 53 :: x 54 :: x 55 :: x 56 :: x 57 :: x 58 :: x 59 :: x 60 :: x 61 :: x 62 :: x 63 :: x 64 :: x 65 :: x 66 :: x 67 :: x 68 :: x 69 :: x 70 :: x 71 :: x 72 :: x 73 :: x 74 :: x 75 :: x 76 :: x 77 :: x 78 :: x 79 :: x 80 :: x 81 :: x 82 :: x 83 :: x 84 :: x 85 :: x 86 :: x 87 :: x 88 :: []), []⟩ ∧ ∀ i, a.eval (.tmp i) = x i := ⟨fun i => a.tmps.getD i undef, h.form, fun _ => rfl⟩
/-- What stays in the frame of the inner loop. -/
structure FOn (v0 v3 v4 v5 v6 v7 v8 : Value) (a : Act) : Prop where
  fr : Fr 89 a
  s0 : a.eval (.tmp 0) = v0
  s3 : a.eval (.tmp 3) = v3
  s4 : a.eval (.tmp 4) = v4
  s5 : a.eval (.tmp 5) = v5
  s6 : a.eval (.tmp 6) = v6
  s7 : a.eval (.tmp 7) = v7
  s8 : a.eval (.tmp 8) = v8
/-- Between two rounds of the inner loop. -/
structure IJn (wf : World) (v0 v3 v4 v5 v6 v7 v8 : Value) (j : Nat) (a : Act) (W : World) : Prop where
  fo : FOn v0 v3 v4 v5 v6 v7 v8 a
  s9 : a.eval (.tmp 9) = .int .i64 (j : Int)
  bel : Below wf.heap.size wf W
set_option maxRecDepth 100000 in
set_option maxHeartbeats 4000000 in
theorem roundJn_err (wf : World) (v3 v4 v5 v6 : Value) (b o n cap k : Nat) (z : Int) (x : Nn) (m : List Nn) (hm : NnsR wf v5 m) (hm2 : m.length ≤ 1000) (c0 : wf.cell? ⟨b, o + k * 2, none⟩ = some (.int .i64 x.b)) (c1 : wf.cell? ⟨b, o + k * 2 + 1, none⟩ = some (.int .i64 x.c)) (hkn : k < n) (hk60 : k < 60) (hz : z ≠ 0)
    (Q : Exit → Act → World → Prop) (j : Nat) (a : Act) (wr : World) (hj : j < m.length) (h : IJn wf (.slice (some ⟨b, o, none⟩) n cap) v3 v4 v5 v6 (.int .i64 (k : Int)) (.int .i64 z) j a wr) :
    Code.wp Try.prog (loopAt (Try.f4.body) 1) (Exit.then (fun a' w' => IJn wf (.slice (some ⟨b, o, none⟩) n cap) v3 v4 v5 v6 (.int .i64 (k : Int)) (.int .i64 z) (j + 1) a' w') Q) a wr := by
  obtain ⟨hf, s9, hbel⟩ := h
  have HBel := Bx.mk hbel
  obtain ⟨g, og, cg, rfl⟩ := hm.start (by omega)
  obtain ⟨p0, p1⟩ := hm.cells j hj
  have d0 := (hbel.cell (p := ⟨b, o + k * 2, none⟩) (World.block_lt_of_cell? _ _ c0)).trans c0
  have d1 := (hbel.cell (p := ⟨b, o + k * 2 + 1, none⟩) (World.block_lt_of_cell? _ _ c1)).trans c1
  have y0 := (hbel.cell (p := ⟨g, og + j * 2, none⟩) (World.block_lt_of_cell? _ _ p0)).trans p0
  have y1 := (hbel.cell (p := ⟨g, og + j * 2 + 1, none⟩) (World.block_lt_of_cell? _ _ p1)).trans p1
  obtain ⟨mn, hmn⟩ : ∃ mn, m.length = mn := ⟨_, rfl⟩
  rw [hmn] at hj hm2 hf ⊢
  generalize m.getD j Nn.zero = u at *
  obtain ⟨xb, xc⟩ := x
  obtain ⟨ub, uc⟩ := u
  simp only at d0 d1 y0 y1
  have t1 : (j : Int) < (mn : Int) := by omega
  have t0 : (0 : Int) ≤ (j : Int) := by omega
  have t2 : (mn : Int) ≤ 1000 := by omega
  have t3 : (k : Int) < (n : Int) := by omega
  have t4 : (0 : Int) ≤ (k : Int) := by omega
  have hwj : IntKind.i64.wrap ((j : Int) + 1) = (j : Int) + 1 := by simp [IntKind.wrap_i64]; omega
  obtain ⟨y, rfl, hy⟩ := open89 hf.fr
  have e0 := (hy 0).symm.trans hf.s0
  have e3 := (hy 3).symm.trans hf.s3
  have e4 := (hy 4).symm.trans hf.s4
  have e5 := (hy 5).symm.trans hf.s5
  have e6 := (hy 6).symm.trans hf.s6
  have e7 := (hy 7).symm.trans hf.s7
  have e8 := (hy 8).symm.trans hf.s8
  have e9 := (hy 9).symm.trans s9
  clear hf hy s9 hbel hj hm2 hmn hm p0 p1 c0 c1 hkn hk60
  rw [e0, e3, e4, e5, e6, e7, e8, e9]
  clear e0 e3 e4 e5 e6 e7 e8 e9
  have hd : decide (z = 0) = false := decide_eq_false hz
  conv => arg 2; whnf
  go_wp2
  go_quiet (fail)
  have HB4 := Bx.mk (below_drewN HBel.out nq)
  clear d0 d1 y0 y1
  generalize wr.drewN nq = w4 at *
  go_wp2
  exact ⟨⟨⟨rfl, rfl⟩, rfl, rfl, rfl, rfl, rfl, rfl, rfl⟩, by first | rfl | go_num, HB4.out⟩
set_option maxRecDepth 100000 in
set_option maxHeartbeats 4000000 in
theorem roundJn_new (wf : World) (v3 v4 v5 v6 : Value) (b o n cap k : Nat) (z : Int) (x : Nn) (m : List Nn) (hm : NnsR wf v5 m) (hm2 : m.length ≤ 1000) (c0 : wf.cell? ⟨b, o + k * 2, none⟩ = some (.int .i64 x.b)) (c1 : wf.cell? ⟨b, o + k * 2 + 1, none⟩ = some (.int .i64 x.c)) (hkn : k < n) (hk60 : k < 60) (hz : z = 0) (hx : x ∉ m)
    (Q : Exit → Act → World → Prop) (j : Nat) (a : Act) (wr : World) (hj : j < m.length) (h : IJn wf (.slice (some ⟨b, o, none⟩) n cap) v3 v4 v5 v6 (.int .i64 (k : Int)) (.int .i64 z) j a wr) :
    Code.wp Try.prog (loopAt (Try.f4.body) 1) (Exit.then (fun a' w' => IJn wf (.slice (some ⟨b, o, none⟩) n cap) v3 v4 v5 v6 (.int .i64 (k : Int)) (.int .i64 z) (j + 1) a' w') Q) a wr := by
  obtain ⟨hf, s9, hbel⟩ := h
  have HBel := Bx.mk hbel
  obtain ⟨g, og, cg, rfl⟩ := hm.start (by omega)
  obtain ⟨p0, p1⟩ := hm.cells j hj
  have d0 := (hbel.cell (p := ⟨b, o + k * 2, none⟩) (World.block_lt_of_cell? _ _ c0)).trans c0
  have d1 := (hbel.cell (p := ⟨b, o + k * 2 + 1, none⟩) (World.block_lt_of_cell? _ _ c1)).trans c1
  have y0 := (hbel.cell (p := ⟨g, og + j * 2, none⟩) (World.block_lt_of_cell? _ _ p0)).trans p0
  have y1 := (hbel.cell (p := ⟨g, og + j * 2 + 1, none⟩) (World.block_lt_of_cell? _ _ p1)).trans p1
  obtain ⟨mn, hmn⟩ : ∃ mn, m.length = mn := ⟨_, rfl⟩
  rw [hmn] at hj hm2 hf ⊢
  have hne : m.getD j Nn.zero ≠ x := fun e => hx (by
    rw [← e, List.getD_eq_getElem?_getD, List.getElem?_eq_getElem (by omega)]
    exact List.getElem_mem _)
  clear hx
  generalize m.getD j Nn.zero = u at *
  obtain ⟨xb, xc⟩ := x
  obtain ⟨ub, uc⟩ := u
  simp only at d0 d1 y0 y1
  have t1 : (j : Int) < (mn : Int) := by omega
  have t0 : (0 : Int) ≤ (j : Int) := by omega
  have t2 : (mn : Int) ≤ 1000 := by omega
  have t3 : (k : Int) < (n : Int) := by omega
  have t4 : (0 : Int) ≤ (k : Int) := by omega
  have hwj : IntKind.i64.wrap ((j : Int) + 1) = (j : Int) + 1 := by simp [IntKind.wrap_i64]; omega
  obtain ⟨y, rfl, hy⟩ := open89 hf.fr
  have e0 := (hy 0).symm.trans hf.s0
  have e3 := (hy 3).symm.trans hf.s3
  have e4 := (hy 4).symm.trans hf.s4
  have e5 := (hy 5).symm.trans hf.s5
  have e6 := (hy 6).symm.trans hf.s6
  have e7 := (hy 7).symm.trans hf.s7
  have e8 := (hy 8).symm.trans hf.s8
  have e9 := (hy 9).symm.trans s9
  clear hf hy s9 hbel hj hm2 hmn hm p0 p1 c0 c1 hkn hk60
  rw [e0, e3, e4, e5, e6, e7, e8, e9]
  clear e0 e3 e4 e5 e6 e7 e8 e9
  subst hz
  by_cases hb : ub = xb
  · subst hb
    have hc : ¬ uc = xc := fun e => hne (by rw [e])
    clear hne
    conv => arg 2; whnf
    go_wp2
    go_quiet (fail)
    have HB4 := Bx.mk (below_drewN HBel.out nq)
    clear d0 d1 y0 y1
    generalize wr.drewN nq = w4 at *
    go_wp2
    exact ⟨⟨⟨rfl, rfl⟩, rfl, rfl, rfl, rfl, rfl, rfl, rfl⟩, by first | rfl | go_num, HB4.out⟩
  · clear hne
    conv => arg 2; whnf
    go_wp2
    go_quiet (fail)
    have HB4 := Bx.mk (below_drewN HBel.out nq)
    clear d0 d1 y0 y1
    generalize wr.drewN nq = w4 at *
    go_wp2
    exact ⟨⟨⟨rfl, rfl⟩, rfl, rfl, rfl, rfl, rfl, rfl, rfl⟩, by first | rfl | go_num, HB4.out⟩
set_option maxRecDepth 100000 in
set_option maxHeartbeats 4000000 in
theorem lastJn (wf : World) (v0 v3 v4 v5 v6 v7 v8 : Value) (m : List Nn) (hm : NnsR wf v5 m) (hm2 : m.length ≤ 1000)
    (Q : Exit → Act → World → Prop) (N : Act → World → Prop) (hq : ∀ a' w', FOn v0 v3 v4 v5 v6 v7 v8 a' → Below wf.heap.size wf w' → Q (.exit 2) a' w') (a : Act) (wr : World) (h : IJn wf v0 v3 v4 v5 v6 v7 v8 m.length a wr) :
    Code.wp Try.prog (loopAt (Try.f4.body) 1) (Exit.then N Q) a wr := by
  obtain ⟨hf, s9, hbel⟩ := h
  have HBel := Bx.mk hbel
  have HQ := Bx.mk hq
  obtain ⟨a5, c5, rfl⟩ := hm.form
  obtain ⟨mn, hmn⟩ : ∃ mn, m.length = mn := ⟨_, rfl⟩
  rw [hmn] at s9 hm2 hf HQ
  have t2 : (mn : Int) ≤ 1000 := by omega
  obtain ⟨y, rfl, hy⟩ := open89 hf.fr
  have e0 := (hy 0).symm.trans hf.s0
  have e3 := (hy 3).symm.trans hf.s3
  have e4 := (hy 4).symm.trans hf.s4
  have e5 := (hy 5).symm.trans hf.s5
  have e6 := (hy 6).symm.trans hf.s6
  have e7 := (hy 7).symm.trans hf.s7
  have e8 := (hy 8).symm.trans hf.s8
  have e9 := (hy 9).symm.trans s9
  clear hf hy s9 hbel hm2 hmn hm hq
  rw [e0, e3, e4, e5, e6, e7, e8, e9]
  clear e0 e3 e4 e5 e6 e7 e8 e9
  conv => arg 2; whnf
  go_wp2
  exact HQ.out _ _ ⟨⟨rfl, rfl⟩, rfl, rfl, rfl, rfl, rfl, rfl, rfl⟩ HBel.out
theorem loopJn (wf : World) (v3 v4 v5 v6 : Value) (b o n cap k : Nat) (z : Int) (x : Nn) (m : List Nn) (hm : NnsR wf v5 m) (hm2 : m.length ≤ 1000) (c0 : wf.cell? ⟨b, o + k * 2, none⟩ = some (.int .i64 x.b)) (c1 : wf.cell? ⟨b, o + k * 2 + 1, none⟩ = some (.int .i64 x.c)) (hkn : k < n) (hk60 : k < 60) (hz : z = 0 → x ∉ m)
    (Q : Exit → Act → World → Prop) (a : Act) (wr : World) (h : IJn wf (.slice (some ⟨b, o, none⟩) n cap) v3 v4 v5 v6 (.int .i64 (k : Int)) (.int .i64 z) 0 a wr)
    (hq : ∀ a' w', FOn (.slice (some ⟨b, o, none⟩) n cap) v3 v4 v5 v6 (.int .i64 (k : Int)) (.int .i64 z) a' → Below wf.heap.size wf w' → Q (.exit 2) a' w') :
    Code.wp Try.prog (.loop (loopAt (Try.f4.body) 1)) Q a wr :=
  wp_count m.length (fun j a w' => IJn wf (.slice (some ⟨b, o, none⟩) n cap) v3 v4 v5 v6 (.int .i64 (k : Int)) (.int .i64 z) j a w') 0 (Nat.zero_le _) h (fun j a w' hj hI => by
    by_cases h0 : z = 0
    · exact roundJn_new wf v3 v4 v5 v6 b o n cap k z x m hm hm2 c0 c1 hkn hk60 h0 (hz h0) Q j a w' hj hI
    · exact roundJn_err wf v3 v4 v5 v6 b o n cap k z x m hm hm2 c0 c1 hkn hk60 h0 Q j a w' hj hI) (fun a w' hI => lastJn wf _ v3 v4 v5 v6 _ _ m hm hm2 Q _ hq a w' hI)
end Go.Proofs.Ytoohcjdjmafliaa
