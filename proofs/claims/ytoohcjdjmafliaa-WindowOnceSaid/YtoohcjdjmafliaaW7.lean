/-
  Windows: forgot, bit, rise, as plain functions, and their walks.
-/
import Derived.Test.YtoohcjdjmafliaaW2
namespace Go.Proofs.Ytoohcjdjmafliaa
open Go Go.RowKit
/-- Is a nonce old? -/
def forgW (s : Ws) (n : Nn) : Bool := decide (n.b < s.n.b ∨ n.b = s.n.b ∧ 64 ≤ s.n.c - n.c)
/-- A nonce's bit. -/
def bitW (s : Ws) (n : Nn) : BitVec 64 := if n.b = s.n.b ∧ n.c ≤ s.n.c then 1#64 <<< (s.n.c - n.c).toNat else 0#64
/-- A greater nonce is the latest. -/
def riseW (s : Ws) (n : Nn) : Ws := ⟨n, if n.b = s.n.b then s.t <<< (n.c - s.n.c).toNat else 0#64⟩
/-- The latest of a window is a nonce, or the zero one. -/
def Ws.ok (s : Ws) : Prop := 0 ≤ s.n.b ∧ s.n.b ≤ 65535 ∧ 0 ≤ s.n.c ∧ s.n.c ≤ 2147483647
theorem tv_shl (x : BitVec 64) (k : Nat) : IntKind.u64.wrap (tv x * 2 ^ k) = tv (x <<< k) := by
  unfold tv
  rw [IntKind.wrap_u64, BitVec.toNat_shiftLeft, Nat.shiftLeft_eq]
  simp
theorem tv_one (k : Nat) (h : k < 64) : (2 : Int) ^ k = tv (1#64 <<< k) := by
  unfold tv
  rw [BitVec.toNat_shiftLeft, Nat.shiftLeft_eq, BitVec.toNat_ofNat, Nat.mod_eq_of_lt (by decide : 1 < 2 ^ 64), Nat.one_mul, Nat.mod_eq_of_lt (Nat.pow_lt_pow_right (by decide) h)]
  simp
theorem tv_wrap (x : BitVec 64) : IntKind.u64.wrap (tv x) = tv x := by
  unfold tv
  have := x.isLt
  rw [IntKind.wrap_u64]
  omega
/-- A nonce in its own block. -/
def BoxN (T : TypeId) (X : Nat) (n : Nn) (W : World) : Prop := W.heap[X]? = some (.cells #[.int .i64 n.b, .int .i64 n.c] T (0, 0))
theorem BoxN.lt {T : TypeId} {X : Nat} {n : Nn} {W : World} (h : BoxN T X n W) : X < W.heap.size := (Array.getElem?_eq_some_iff.1 h).1
theorem BoxN.later {T : TypeId} {X : Nat} {n : Nn} {W W1 : World} (h : BoxN T X n W) (hb : Below W.heap.size W W1) : BoxN T X n W1 := (hb.block X h.lt).trans h
theorem BoxN.aside {T : TypeId} {X p : Nat} {n : Nn} {W W1 : World} (h : BoxN T X n W) (hg : W.grownBy W1 (some p)) (hne : X ≠ p) : BoxN T X n W1 := (hg.block X h.lt (fun e => hne (by injection e))).trans h
theorem BoxN.cells {T : TypeId} {X : Nat} {n : Nn} {W : World} (h : BoxN T X n W) : W.cell? ⟨X, 0, none⟩ = some (.int .i64 n.b) ∧ W.cell? ⟨X, 1, none⟩ = some (.int .i64 n.c) :=
  ⟨by rw [cell_of_row _ _ _ _ _ _ h]; rfl, by rw [cell_of_row _ _ _ _ _ _ h]; rfl⟩
theorem BoxN.range {T : TypeId} {X : Nat} {n : Nn} {W : World} (h : BoxN T X n W) : W.rangeAt X 0 [.int .i64 n.b, .int .i64 n.c] := fun j u hj => by
  rw [cell_of_row _ _ _ _ _ _ h, Nat.zero_add, ← Array.getElem?_toList]
  exact hj
theorem WinB.range {W : World} {q : Nat} {s : Ws} (h : WinB W q s) : W.rangeAt q 0 [.int .i64 s.n.b, .int .i64 s.n.c] := fun j u hj => by
  have hj2 : j < 2 := (List.getElem?_eq_some_iff.1 hj).1
  rw [cell_of_row _ _ _ _ _ _ h, Nat.zero_add, ← Array.getElem?_toList]
  match j, hj2 with
  | 0, _ => exact hj
  | 1, _ => exact hj
set_option maxRecDepth 100000 in
set_option maxHeartbeats 4000000 in
theorem forgot_any (q : Nat) (s : Ws) (n : Nn) (w : World) (h : WinB w q s) (hs : s.ok) (hn : okN n = true) : Calls Try.prog 31 #[.pointer (some ⟨q, 0, none⟩), nv n] w fun e w' => e = .returned (.bool (forgW s n)) ∧ Below w.heap.size w w' := by
  obtain ⟨c0, c1, c2⟩ := (h.later (below_a (.cells #[.int .i64 n.b, .int .i64 n.c] 24))).cells
  have HBl : Bx (Below w.heap.size w (w.alloc (.cells #[.int .i64 n.b, .int .i64 n.c] 24))) := Bx.mk (below_a _)
  obtain ⟨n1, n2, n3, n4⟩ := (okN_iff n).1 hn
  obtain ⟨s1, s2, s3, s4⟩ := hs
  have hq := h.lt
  have hne : q ≠ w.heap.size := by omega
  obtain ⟨b, c⟩ := n
  obtain ⟨⟨B, C⟩, T⟩ := s
  simp only at c0 c1 c2 n1 n2 n3 n4 s1 s2 s3 s4 HBl
  unfold forgW nv
  simp only
  have e1 : IntKind.i64.wrap (C - c) = C - c := by simp [IntKind.wrap_i64]; omega
  have e2 : wrap64 (C - c) = C - c := by unfold wrap64; omega
  clear h hn hq n1 n2 n3 n4 s1 s2 s3 s4 c2
  by_cases h1 : b < B
  · rw [decide_eq_true (.inl h1)]
    have d1 : decide (b < B) = true := decide_eq_true h1
    go_enter Try.func31, Try.ntmps31
    go_wp2
    skip -- M1
    go_quiet (fail)
    skip -- M2
    go_wp2
    go_ret
    exact ⟨rfl, below_drewN HBl.out _⟩
  · have d1 : decide (b < B) = false := decide_eq_false h1
    by_cases h2 : b = B
    · subst h2
      have d2 : decide (b = b) = true := decide_eq_true rfl
      by_cases h3 : 64 ≤ C - c
      · rw [decide_eq_true (.inr ⟨rfl, h3⟩)]
        go_enter Try.func31, Try.ntmps31
        go_wp2
        go_quiet (fail)
        go_wp2
        go_ret
        exact ⟨rfl, below_drewN HBl.out _⟩
      · rw [decide_eq_false (fun h => h3 (by omega))]
        have d3 : decide (64 ≤ C - c) = false := decide_eq_false h3
        go_enter Try.func31, Try.ntmps31
        go_wp2
        go_quiet (fail)
        go_wp2
        go_ret
        exact ⟨rfl, below_drewN HBl.out _⟩
    · have d2 : decide (b = B) = false := decide_eq_false h2
      rw [decide_eq_false (fun h => by omega)]
      go_enter Try.func31, Try.ntmps31
      go_wp2
      go_quiet (fail)
      go_wp2
      go_ret
      exact ⟨rfl, below_drewN HBl.out _⟩
set_option maxRecDepth 100000 in
set_option maxHeartbeats 4000000 in
theorem bit_any12 (q : Nat) (s : Ws) (n : Nn) (w : World) (h : WinB w q s) (hs : s.ok) (hn : okN n = true) (hk : n.b = s.n.b → s.n.c - n.c < 64) : Calls Try.prog 32 #[.pointer (some ⟨q, 0, none⟩), nv n] w fun e w' => e = .returned (.int .u64 (tv (bitW s n))) ∧ Below w.heap.size w w' := by
  obtain ⟨c0, c1, c2⟩ := (h.later (below_a (.cells #[.int .i64 n.b, .int .i64 n.c] 24))).cells
  have HBl : Bx (Below w.heap.size w (w.alloc (.cells #[.int .i64 n.b, .int .i64 n.c] 24))) := Bx.mk (below_a _)
  obtain ⟨n1, n2, n3, n4⟩ := (okN_iff n).1 hn
  obtain ⟨s1, s2, s3, s4⟩ := hs
  have hq := h.lt
  have hne : q ≠ w.heap.size := by omega
  obtain ⟨b, c⟩ := n
  obtain ⟨⟨B, C⟩, T⟩ := s
  simp only at c0 c1 c2 n1 n2 n3 n4 s1 s2 s3 s4 HBl hk
  unfold bitW nv
  simp only
  have e1 : IntKind.i64.wrap (C - c) = C - c := by simp [IntKind.wrap_i64]; omega
  clear h hn hq n1 n2 n3 n4 s1 s2 s3 s4 c2
  by_cases h1 : b = B
  · subst h1
    have d1 : decide (b = b) = true := decide_eq_true rfl
    have hk := hk rfl
    by_cases h2 : C < c
    · rw [if_neg (fun h => by omega)]
      have d2 : decide (C < c) = true := decide_eq_true h2
      clear hk
      go_enter Try.func32, Try.ntmps32
      go_wp2
      go_quiet (fail)
      go_wp2
      go_ret
      exact ⟨rfl, below_drewN HBl.out _⟩
    · rw [if_pos ⟨rfl, by omega⟩]
      have d2 : decide (C < c) = false := decide_eq_false h2
      obtain ⟨k, hkk⟩ : ∃ k : Nat, C - c = (k : Int) := ⟨(C - c).toNat, by omega⟩
      have hp := tv_one k (by omega)
      rw [hkk, Int.toNat_natCast]
      have e3 : IntKind.i64.wrap (C - c) = (k : Int) := by rw [e1, hkk]
      have e5 := tv_wrap (1#64 <<< k)
      have hk64 : (k : Int) < 64 := by omega
      have hk0 : (0 : Int) ≤ (k : Int) := by omega
      clear hk e1 h2
      go_enter Try.func32, Try.ntmps32
      go_wp2
      go_quiet (fail)
      go_wp2
      skip -- M3
      go_quiet (fail)
      skip -- M4
      go_wp2
      go_ret
      exact ⟨rfl, below_drewN (below_drewN HBl.out _) _⟩
  · rw [if_neg (fun h => h1 h.1)]
    have d1 : decide (b = B) = false := decide_eq_false h1
    go_enter Try.func32, Try.ntmps32
    go_wp2
    go_quiet (fail)
    go_wp2
    go_ret
    exact ⟨rfl, below_drewN HBl.out _⟩
theorem WinB.setT {W : World} {q : Nat} {s : Ws} (h : WinB W q s) (t : BitVec 64) : WinB (W.setCell ⟨q, 2, none⟩ (.int .u64 (tv t))) q ⟨s.n, t⟩ := by
  have := heap_setCells_same q _ [.int .u64 (tv t)] 2 W _ h
  exact this
theorem WinB.setN {W : World} {q : Nat} {s : Ws} (h : WinB W q s) (n : Nn) : WinB (W.setCells q 0 [.int .i64 n.b, .int .i64 n.c]) q ⟨n, s.t⟩ := by
  have := heap_setCells_same q _ [.int .i64 n.b, .int .i64 n.c] 0 W _ h
  exact this
theorem WinB.frozen {W : World} {q : Nat} {s : Ws} (h : WinB W q s) (i : Nat) : W.frozen? ⟨q, i, none⟩ = false := frozen_of_row _ _ _ _ _ h
theorem tv_shlm (x : BitVec 64) (k : Nat) : IntKind.u64.wrap (tv x * 2 ^ min k 64) = tv (x <<< k) := by
  rw [tv_shl]
  by_cases h : k ≤ 64
  · rw [Nat.min_eq_left h]
  · rw [Nat.min_eq_right (by omega), BitVec.shiftLeft_eq_zero (by omega), BitVec.shiftLeft_eq_zero (by omega)]
set_option maxRecDepth 100000 in
set_option maxHeartbeats 4000000 in
theorem rise_same (q : Nat) (s : Ws) (n : Nn) (w : World) (h : WinB w q s) (hs : s.ok) (hn : okN n = true) (hb : n.b = s.n.b) (hl : s.n.c < n.c) : Calls Try.prog 33 #[.pointer (some ⟨q, 0, none⟩), nv n] w fun e w' => e = .returned (.tuple #[]) ∧ WinB w' q (riseW s n) ∧ w.grownBy w' (some q) := by
  obtain ⟨c0, c1, c2⟩ := (h.later (below_a (.cells #[.int .i64 n.b, .int .i64 n.c] 24))).cells
  have HW := Bx.mk (h.later (below_a (.cells #[.int .i64 n.b, .int .i64 n.c] 24)))
  have HX : Bx (BoxN 24 w.heap.size n (w.alloc (.cells #[.int .i64 n.b, .int .i64 n.c] 24))) := Bx.mk (hnew _ _ _ rfl)
  have HG : Bx (w.grownBy (w.alloc (.cells #[.int .i64 n.b, .int .i64 n.c] 24)) (some q)) := Bx.mk (kb_below _ (below_a _))
  obtain ⟨n1, n2, n3, n4⟩ := (okN_iff n).1 hn
  obtain ⟨s1, s2, s3, s4⟩ := hs
  have hq := h.lt
  have hne : q ≠ w.heap.size := by omega
  have hne' : w.heap.size ≠ q := by omega
  clear hq h hn
  obtain ⟨b, c⟩ := n
  obtain ⟨⟨B, C⟩, T⟩ := s
  simp only at c0 c1 c2 n1 n2 n3 n4 s1 s2 s3 s4 HX HG HW hb hl
  subst hb
  unfold riseW nv
  simp only [if_true]
  obtain ⟨k, hk⟩ : ∃ k : Nat, c - C = (k : Int) := ⟨(c - C).toNat, by omega⟩
  rw [hk, Int.toNat_natCast]
  have e1 : IntKind.i64.wrap (c - C) = (k : Int) := by rw [← hk]; simp [IntKind.wrap_i64]; omega
  have e2 := tv_shlm T k
  have e3 : IntKind.u64.wrap (k : Int) = (k : Int) := by rw [IntKind.wrap_u64]; omega
  have f2 := HW.out.frozen 2
  have d1 : decide (b = b) = true := decide_eq_true rfl
  have hk0 : (0 : Int) ≤ (k : Int) := by omega
  have hk1 : (k : Int) ≤ 2147483647 := by omega
  clear hk hl n1 n2 n3 n4 s1 s2 s3 s4
  go_enter Try.func33, Try.ntmps33
  go_wp2
  go_quiet (fail)
  go_wp2
  skip -- M5
  go_region
  have HW2 : Bx (WinB (((w.alloc (.cells #[.int .i64 b, .int .i64 c] 24)).drewN (nq + 1)).setCell ⟨q, 2, none⟩ (.int .u64 (tv (T <<< k)))) q ⟨⟨b, C⟩, T <<< k⟩ ∧ BoxN 24 w.heap.size ⟨b, c⟩ (((w.alloc (.cells #[.int .i64 b, .int .i64 c] 24)).drewN (nq + 1)).setCell ⟨q, 2, none⟩ (.int .u64 (tv (T <<< k)))) ∧ w.grownBy (((w.alloc (.cells #[.int .i64 b, .int .i64 c] 24)).drewN (nq + 1)).setCell ⟨q, 2, none⟩ (.int .u64 (tv (T <<< k)))) (some q)) := Bx.mk (by
    have h1 := HW.out.later (below_drewN (Below.refl _ _) (nq + 1))
    have h2 := HX.out.later (below_drewN (Below.refl _ _) (nq + 1))
    exact ⟨h1.setT (T <<< k), h2.aside (kb_setCell _ 2 _) hne', kb_trans (kb_trans HG.out (kb_drewN _ _ _)) (kb_setCell _ 2 _)⟩)
  generalize (((w.alloc (.cells #[.int .i64 b, .int .i64 c] 24)).drewN (nq + 1)).setCell ⟨q, 2, none⟩ (.int .u64 (tv (T <<< k)))) = w2 at *
  clear c0 c1 c2 f2 HW HX HG
  have f0 := HW2.out.1.frozen 0
  have f1 := HW2.out.1.frozen 1
  obtain ⟨c0, c1, c2⟩ := HW2.out.1.cells
  obtain ⟨x0, x1⟩ := HW2.out.2.1.cells
  go_wp2
  go_end0
  exact ⟨rfl, HW2.out.1.setN ⟨b, c⟩, kb_trans HW2.out.2.2 (kb_trans (kb_setCell _ 0 _) (kb_setCell _ 1 _))⟩
set_option maxRecDepth 100000 in
set_option maxHeartbeats 4000000 in
theorem rise_other (q : Nat) (s : Ws) (n : Nn) (w : World) (h : WinB w q s) (hs : s.ok) (hn : okN n = true) (hb : n.b ≠ s.n.b) : Calls Try.prog 33 #[.pointer (some ⟨q, 0, none⟩), nv n] w fun e w' => e = .returned (.tuple #[]) ∧ WinB w' q (riseW s n) ∧ w.grownBy w' (some q) := by
  obtain ⟨c0, c1, c2⟩ := (h.later (below_a (.cells #[.int .i64 n.b, .int .i64 n.c] 24))).cells
  have HW := Bx.mk (h.later (below_a (.cells #[.int .i64 n.b, .int .i64 n.c] 24)))
  have HX : Bx (BoxN 24 w.heap.size n (w.alloc (.cells #[.int .i64 n.b, .int .i64 n.c] 24))) := Bx.mk (hnew _ _ _ rfl)
  have HG : Bx (w.grownBy (w.alloc (.cells #[.int .i64 n.b, .int .i64 n.c] 24)) (some q)) := Bx.mk (kb_below _ (below_a _))
  obtain ⟨n1, n2, n3, n4⟩ := (okN_iff n).1 hn
  obtain ⟨s1, s2, s3, s4⟩ := hs
  have hq := h.lt
  have hne : q ≠ w.heap.size := by omega
  have hne' : w.heap.size ≠ q := by omega
  clear hq h hn
  obtain ⟨b, c⟩ := n
  obtain ⟨⟨B, C⟩, T⟩ := s
  simp only at c0 c1 c2 n1 n2 n3 n4 s1 s2 s3 s4 HX HG HW hb
  unfold riseW nv
  simp only
  rw [if_neg hb]
  have d1 : decide (b = B) = false := decide_eq_false hb
  have f2 := HW.out.frozen 2
  have hb' : ¬ b = B := hb
  clear hb n1 n2 n3 n4 s1 s2 s3 s4
  go_enter Try.func33, Try.ntmps33
  go_wp2
  go_quiet (fail)
  have HW1 : Bx (WinB ((w.alloc (.cells #[.int .i64 b, .int .i64 c] 24)).drewN nq) q ⟨⟨B, C⟩, T⟩ ∧ BoxN 24 w.heap.size ⟨b, c⟩ ((w.alloc (.cells #[.int .i64 b, .int .i64 c] 24)).drewN nq) ∧ w.grownBy ((w.alloc (.cells #[.int .i64 b, .int .i64 c] 24)).drewN nq) (some q)) := Bx.mk (by
    have h1 := HW.out.later (below_drewN (Below.refl _ _) nq)
    have h2 := HX.out.later (below_drewN (Below.refl _ _) nq)
    exact ⟨h1, h2, kb_trans HG.out (kb_drewN _ _ _)⟩)
  generalize (w.alloc (.cells #[.int .i64 b, .int .i64 c] 24)).drewN nq = w1 at *
  clear c0 c1 c2 f2 HW HX HG
  have f2 := HW1.out.1.frozen 2
  obtain ⟨c0, c1, c2⟩ := HW1.out.1.cells
  go_upto_region 4 with fail
  have HW2 : Bx (WinB (w1.setCell ⟨q, 2, none⟩ (.int .u64 0)) q ⟨⟨B, C⟩, 0#64⟩ ∧ BoxN 24 w.heap.size ⟨b, c⟩ (w1.setCell ⟨q, 2, none⟩ (.int .u64 0)) ∧ w.grownBy (w1.setCell ⟨q, 2, none⟩ (.int .u64 0)) (some q)) := Bx.mk ⟨HW1.out.1.setT 0#64, HW1.out.2.1.aside (kb_setCell _ 2 _) hne', kb_trans HW1.out.2.2 (kb_setCell _ 2 _)⟩
  generalize w1.setCell ⟨q, 2, none⟩ (.int .u64 0) = w2 at *
  clear c0 c1 c2 f2 HW1
  have f0 := HW2.out.1.frozen 0
  have f1 := HW2.out.1.frozen 1
  obtain ⟨c0, c1, c2⟩ := HW2.out.1.cells
  obtain ⟨x0, x1⟩ := HW2.out.2.1.cells
  go_wp2
  go_end0
  exact ⟨rfl, HW2.out.1.setN ⟨b, c⟩, kb_trans HW2.out.2.2 (kb_trans (kb_setCell _ 0 _) (kb_setCell _ 1 _))⟩
end Go.Proofs.Ytoohcjdjmafliaa
namespace Go.Proofs.Ytoohcjdjmafliaa
open Go Go.RowKit
/-- May a nonce be taken? -/
def lookW (s : Ws) (n : Nn) : Int := if okN n = false then 10 else if forgW s n = true then 9 else if s.t &&& bitW s n = 0#64 then 0 else 8
/-- A window behind a Take. -/
def takeW (s : Ws) (n : Nn) : Ws := if lookW s n = 0 then ⟨(if lessN s.n n = true then riseW s n else s).n, (if lessN s.n n = true then riseW s n else s).t ||| bitW (if lessN s.n n = true then riseW s n else s) n⟩ else s
theorem forgW_false {s : Ws} {n : Nn} (h : forgW s n = false) (hb : n.b = s.n.b) : s.n.c - n.c < 64 := by
  unfold forgW at h
  have := of_decide_eq_false h
  omega
theorem takeW_ok {s : Ws} {n : Nn} (h : s.ok) : (takeW s n).ok := by
  unfold takeW
  split
  · rename_i h0
    have hok : okN n = true := by
      unfold lookW at h0
      split at h0
      · omega
      · rename_i h1; simpa using h1
    obtain ⟨h1, h2, h3, h4⟩ := (okN_iff n).1 hok
    split
    · exact ⟨by show 0 ≤ n.b; omega, h2, by show 0 ≤ n.c; omega, h4⟩
    · exact h
  · exact h
theorem zero_ok : Ws.zero.ok := by unfold Ws.zero Ws.ok Nn.zero; simp
set_option maxRecDepth 100000 in
set_option maxHeartbeats 4000000 in
theorem look_any (q : Nat) (s : Ws) (n : Nn) (w : World) (h : WinB w q s) (hs : s.ok) : Calls Try.prog 10 #[.pointer (some ⟨q, 0, none⟩), nv n] w fun e w' => e = .returned (.int .i64 (lookW s n)) ∧ Below w.heap.size w w' := by
  have R1 : Bx (WinB (w.alloc (.cells #[.int .i64 n.b, .int .i64 n.c] 24)) q s ∧ BoxN 24 w.heap.size n (w.alloc (.cells #[.int .i64 n.b, .int .i64 n.c] 24)) ∧ Below w.heap.size w (w.alloc (.cells #[.int .i64 n.b, .int .i64 n.c] 24))) := Bx.mk ⟨h.later (below_a _), hnew _ _ _ rfl, below_a _⟩
  have HCh := Bx.mk fun (W : World) => check_any n W
  have HFo := Bx.mk fun (hn : okN n = true) (W : World) (h : WinB W q s) => forgot_any q s n W h hs hn
  have HBit := Bx.mk fun (hn : okN n = true) (hf : forgW s n = false) (W : World) (h : WinB W q s) => bit_any12 q s n W h hs hn (fun e => forgW_false hf e)
  clear h hs
  unfold lookW
  cases hok : okN n with
  | false =>
    rw [hok] at HCh
    obtain ⟨b, c⟩ := n
    unfold nv at HCh ⊢
    clear HFo HBit hok
    rw [if_pos rfl]
    go_enter Try.func10, Try.ntmps10
    go_wp2_with fail
    refine (HCh.out _).mono ?_
    rintro e w2 ⟨rfl, hb⟩
    have R2 := Bx.mk (R1.out.2.2.trans (hb.mono R1.out.2.2.size))
    clear hb R1 HCh
    go_wp2
    go_ret
    exact ⟨rfl, R2.out⟩
  | true =>
    rw [hok] at HCh
    have HFo := Bx.mk (HFo.out hok)
    have HBit := Bx.mk (HBit.out hok)
    clear hok
    rw [if_neg (by simp)]
    cases hf : forgW s n with
    | true =>
      rw [hf] at HFo
      clear hf HBit
      rw [if_pos rfl]
      obtain ⟨b, c⟩ := n
      unfold nv at HCh HFo ⊢
      go_enter Try.func10, Try.ntmps10
      go_wp2_with fail
      refine (HCh.out _).mono ?_
      rintro e w2 ⟨rfl, hb⟩
      have R2 := Bx.mk (And.intro (R1.out.1.later hb) (And.intro (R1.out.2.1.later hb) (R1.out.2.2.trans (hb.mono R1.out.2.2.size))))
      clear hb R1 HCh
      obtain ⟨x0, x1⟩ := R2.out.2.1.cells
      go_wp2_with fail
      refine (HFo.out _ R2.out.1).mono ?_
      rintro e w3 ⟨rfl, hb⟩
      have R3 := Bx.mk (R2.out.2.2.trans (hb.mono R2.out.2.2.size))
      clear hb R2 HFo x0 x1
      go_wp2
      go_ret
      exact ⟨rfl, R3.out⟩
    | false =>
      rw [hf] at HFo
      have HBit := Bx.mk (HBit.out hf)
      clear hf
      rw [if_neg (by simp)]
      have HV := Bx.mk (tv_eq (s.t &&& bitW s n))
      have HAnd := tv_and s.t (bitW s n)
      generalize bitW s n = z at *
      obtain ⟨b, c⟩ := n
      obtain ⟨⟨B, C⟩, T⟩ := s
      unfold nv at HCh HFo HBit ⊢
      simp only at HAnd HV ⊢
      obtain ⟨X, hX⟩ : ∃ X, w.heap.size = X := ⟨_, rfl⟩
      rw [hX] at R1 ⊢
      generalize T &&& z = y at *
      by_cases hy : y = 0#64
      · rw [if_pos hy]
        have h0 : tv y = 0 := HV.out.2 hy
        rw [h0] at HAnd
        clear hy h0 HV
        go_enter Try.func10, Try.ntmps10
        go_wp2_with fail
        refine (HCh.out _).mono ?_
        rintro e w2 ⟨rfl, hb⟩
        have R2 := Bx.mk (And.intro (R1.out.1.later hb) (And.intro (R1.out.2.1.later hb) (R1.out.2.2.trans (hb.mono (hX ▸ R1.out.2.2.size)))))
        clear hb R1 HCh
        obtain ⟨x0, x1⟩ := R2.out.2.1.cells
        go_wp2_with fail
        refine (HFo.out _ R2.out.1).mono ?_
        rintro e w3 ⟨rfl, hb⟩
        have R3 := Bx.mk (And.intro (R2.out.1.later hb) (And.intro (R2.out.2.1.later hb) (R2.out.2.2.trans (hb.mono (hX ▸ R2.out.2.2.size)))))
        clear hb R2 HFo x0 x1
        go_upto_region 8 with fail
        skip -- M1
        refine wp_region_noPanic ?_
        refine wp_region_held_drew (S := fun W => W.cell? ⟨q, 2, none⟩ = some (.int .u64 (tv T)) ∧ W.rangeAt X 0 [.int .i64 b, .int .i64 c]) (by kernel_rfl) (⟨(R3.out.1.later (Below.refl _ _).drew).cells.2.2, (R3.out.2.1.later (Below.refl _ _).drew).range⟩) (fun hHeld => ?_)
        have R0 : Bx (WinB w3.drew q ⟨⟨B, C⟩, T⟩ ∧ BoxN 24 X ⟨b, c⟩ w3.drew ∧ Below X w w3.drew) := Bx.mk ⟨R3.out.1.later (Below.refl _ _).drew, R3.out.2.1.later (Below.refl _ _).drew, R3.out.2.2.drew⟩
        generalize w3.drew = W0 at *
        clear R3
        refine takeL 0 (v := ?_) rfl (by kernel_rfl) (by kernel_rfl) (by kernel_rfl) (fun _ _ _ h => h) (Or.inl ⟨by rfl, ?_⟩) hHeld ?_
        rotate_left 1
        · (intro w hSw; go_simp; try with_reducible rfl)
        try simp only [Act.put, List.setIfInBounds_toArray, List.set_cons_zero, List.set_cons_succ]
        refine takeL 1 (v := ?_) rfl (by kernel_rfl) (by kernel_rfl) (by kernel_rfl) (fun _ _ _ h => h) (Or.inl ⟨by rfl, ?_⟩) hHeld ?_
        rotate_left 1
        · (intro w hSw; go_simp; try with_reducible rfl)
        try simp only [Act.put, List.setIfInBounds_toArray, List.set_cons_zero, List.set_cons_succ]
        refine takeL 2 (v := ?_) rfl (by kernel_rfl) (by kernel_rfl) (by kernel_rfl) (fun _ _ _ h => h) (Or.inl ⟨by rfl, ?_⟩) hHeld ?_
        rotate_left 1
        · (intro w hSw; go_simp; try with_reducible rfl)
        try simp only [Act.put, List.setIfInBounds_toArray, List.set_cons_zero, List.set_cons_succ]
        refine takeL 3 (v := ?_) rfl (by kernel_rfl) (by kernel_rfl) (by kernel_rfl) (fun _ _ _ h => h) (Or.inl ⟨by rfl, ?_⟩) hHeld ?_
        rotate_left 1
        · (intro w hSw; obtain ⟨q1, q2⟩ := hSw; clear q2; go_simp; try with_reducible rfl)
        try simp only [Act.put, List.setIfInBounds_toArray, List.set_cons_zero, List.set_cons_succ]
        refine takeL 4 (v := ?_) rfl (by kernel_rfl) (by kernel_rfl) (by kernel_rfl) (fun _ _ _ h => h) (Or.inl ⟨by rfl, ?_⟩) hHeld ?_
        rotate_left 1
        · (intro w hSw; go_simp; try with_reducible rfl)
        try simp only [Act.put, List.setIfInBounds_toArray, List.set_cons_zero, List.set_cons_succ]
        refine takeL 5 rfl (by kernel_rfl) (by kernel_rfl) (by kernel_rfl) (fun _ _ _ h => h) (yieldsIf_load_mid (by rfl) _ _ rfl _ _ rfl _ _ (fun w hSw => hSw.2) Try.underlying24 rfl (by kernel_rfl)) hHeld ?_
        try simp only [Act.put, List.setIfInBounds_toArray, List.set_cons_zero, List.set_cons_succ]
        refine stepL 6 (by kernel_rfl) rfl (fun K hK => ?_)
        go_simp
        refine (HBit.out W0 R0.out.1).mono ?_
        rintro e W1 ⟨rfl, hb⟩
        show K _ _
        have R1 : Bx (WinB W1 q ⟨⟨B, C⟩, T⟩ ∧ BoxN 24 X ⟨b, c⟩ W1 ∧ Below X w W1) := Bx.mk ⟨R0.out.1.later hb, R0.out.2.1.later hb, R0.out.2.2.trans (hb.mono (hX ▸ R0.out.2.2.size))⟩
        clear hb R0
        refine hK.out _ _ (⟨R1.out.1.cells.2.2, R1.out.2.1.range⟩) (fun hHeld => ?_)
        clear hK K
        try simp only [Act.put, List.setIfInBounds_toArray, List.set_cons_zero, List.set_cons_succ]
        refine takeL 7 (v := ?_) rfl (by kernel_rfl) (by kernel_rfl) (by kernel_rfl) (fun _ _ _ h => h) (Or.inl ⟨by rfl, ?_⟩) hHeld ?_
        rotate_left 1
        · (intro w hSw; go_simp; try with_reducible rfl)
        try simp only [Act.put, List.setIfInBounds_toArray, List.set_cons_zero, List.set_cons_succ]
        refine takeL 8 (v := ?_) rfl (by kernel_rfl) (by kernel_rfl) (by kernel_rfl) (fun _ _ _ h => h) (Or.inl ⟨by rfl, ?_⟩) hHeld ?_
        rotate_left 1
        · (intro w hSw; go_simp; try with_reducible rfl)
        try simp only [Act.put, List.setIfInBounds_toArray, List.set_cons_zero, List.set_cons_succ]
        refine takeL 9 (v := ?_) rfl (by kernel_rfl) (by kernel_rfl) (by kernel_rfl) (fun _ _ _ h => h) (Or.inl ⟨by rfl, ?_⟩) hHeld ?_
        rotate_left 1
        · (intro w hSw; go_simp; try with_reducible rfl)
        try simp only [Act.put, List.setIfInBounds_toArray, List.set_cons_zero, List.set_cons_succ]
        refine wpAnyH_done (by kernel_rfl) ?_ _
        refine NoPanic.normal ?_
        clear hHeld
        go_wp2
        go_ret
        exact ⟨rfl, R1.out.2.2⟩
      · rw [if_neg hy]
        have h0 : ¬ tv y = 0 := fun h => hy (HV.out.1 h)
        clear hy HV
        go_enter Try.func10, Try.ntmps10
        go_wp2_with fail
        refine (HCh.out _).mono ?_
        rintro e w2 ⟨rfl, hb⟩
        have R2 := Bx.mk (And.intro (R1.out.1.later hb) (And.intro (R1.out.2.1.later hb) (R1.out.2.2.trans (hb.mono (hX ▸ R1.out.2.2.size)))))
        clear hb R1 HCh
        obtain ⟨x0, x1⟩ := R2.out.2.1.cells
        go_wp2_with fail
        refine (HFo.out _ R2.out.1).mono ?_
        rintro e w3 ⟨rfl, hb⟩
        have R3 := Bx.mk (And.intro (R2.out.1.later hb) (And.intro (R2.out.2.1.later hb) (R2.out.2.2.trans (hb.mono (hX ▸ R2.out.2.2.size)))))
        clear hb R2 HFo x0 x1
        go_upto_region 8 with fail
        refine wp_region_noPanic ?_
        refine wp_region_held_drew (S := fun W => W.cell? ⟨q, 2, none⟩ = some (.int .u64 (tv T)) ∧ W.rangeAt X 0 [.int .i64 b, .int .i64 c]) (by kernel_rfl) (⟨(R3.out.1.later (Below.refl _ _).drew).cells.2.2, (R3.out.2.1.later (Below.refl _ _).drew).range⟩) (fun hHeld => ?_)
        have R0 : Bx (WinB w3.drew q ⟨⟨B, C⟩, T⟩ ∧ BoxN 24 X ⟨b, c⟩ w3.drew ∧ Below X w w3.drew) := Bx.mk ⟨R3.out.1.later (Below.refl _ _).drew, R3.out.2.1.later (Below.refl _ _).drew, R3.out.2.2.drew⟩
        generalize w3.drew = W0 at *
        clear R3
        refine takeL 0 (v := ?_) rfl (by kernel_rfl) (by kernel_rfl) (by kernel_rfl) (fun _ _ _ h => h) (Or.inl ⟨by rfl, ?_⟩) hHeld ?_
        rotate_left 1
        · (intro w hSw; go_simp; try with_reducible rfl)
        try simp only [Act.put, List.setIfInBounds_toArray, List.set_cons_zero, List.set_cons_succ]
        refine takeL 1 (v := ?_) rfl (by kernel_rfl) (by kernel_rfl) (by kernel_rfl) (fun _ _ _ h => h) (Or.inl ⟨by rfl, ?_⟩) hHeld ?_
        rotate_left 1
        · (intro w hSw; go_simp; try with_reducible rfl)
        try simp only [Act.put, List.setIfInBounds_toArray, List.set_cons_zero, List.set_cons_succ]
        refine takeL 2 (v := ?_) rfl (by kernel_rfl) (by kernel_rfl) (by kernel_rfl) (fun _ _ _ h => h) (Or.inl ⟨by rfl, ?_⟩) hHeld ?_
        rotate_left 1
        · (intro w hSw; go_simp; try with_reducible rfl)
        try simp only [Act.put, List.setIfInBounds_toArray, List.set_cons_zero, List.set_cons_succ]
        refine takeL 3 (v := ?_) rfl (by kernel_rfl) (by kernel_rfl) (by kernel_rfl) (fun _ _ _ h => h) (Or.inl ⟨by rfl, ?_⟩) hHeld ?_
        rotate_left 1
        · (intro w hSw; obtain ⟨q1, q2⟩ := hSw; clear q2; go_simp; try with_reducible rfl)
        try simp only [Act.put, List.setIfInBounds_toArray, List.set_cons_zero, List.set_cons_succ]
        refine takeL 4 (v := ?_) rfl (by kernel_rfl) (by kernel_rfl) (by kernel_rfl) (fun _ _ _ h => h) (Or.inl ⟨by rfl, ?_⟩) hHeld ?_
        rotate_left 1
        · (intro w hSw; go_simp; try with_reducible rfl)
        try simp only [Act.put, List.setIfInBounds_toArray, List.set_cons_zero, List.set_cons_succ]
        refine takeL 5 rfl (by kernel_rfl) (by kernel_rfl) (by kernel_rfl) (fun _ _ _ h => h) (yieldsIf_load_mid (by rfl) _ _ rfl _ _ rfl _ _ (fun w hSw => hSw.2) Try.underlying24 rfl (by kernel_rfl)) hHeld ?_
        try simp only [Act.put, List.setIfInBounds_toArray, List.set_cons_zero, List.set_cons_succ]
        refine stepL 6 (by kernel_rfl) rfl (fun K hK => ?_)
        go_simp
        refine (HBit.out W0 R0.out.1).mono ?_
        rintro e W1 ⟨rfl, hb⟩
        show K _ _
        have R1 : Bx (WinB W1 q ⟨⟨B, C⟩, T⟩ ∧ BoxN 24 X ⟨b, c⟩ W1 ∧ Below X w W1) := Bx.mk ⟨R0.out.1.later hb, R0.out.2.1.later hb, R0.out.2.2.trans (hb.mono (hX ▸ R0.out.2.2.size))⟩
        clear hb R0
        refine hK.out _ _ (⟨R1.out.1.cells.2.2, R1.out.2.1.range⟩) (fun hHeld => ?_)
        clear hK K
        try simp only [Act.put, List.setIfInBounds_toArray, List.set_cons_zero, List.set_cons_succ]
        refine takeL 7 (v := ?_) rfl (by kernel_rfl) (by kernel_rfl) (by kernel_rfl) (fun _ _ _ h => h) (Or.inl ⟨by rfl, ?_⟩) hHeld ?_
        rotate_left 1
        · (intro w hSw; go_simp; try with_reducible rfl)
        try simp only [Act.put, List.setIfInBounds_toArray, List.set_cons_zero, List.set_cons_succ]
        refine takeL 8 (v := ?_) rfl (by kernel_rfl) (by kernel_rfl) (by kernel_rfl) (fun _ _ _ h => h) (Or.inl ⟨by rfl, ?_⟩) hHeld ?_
        rotate_left 1
        · (intro w hSw; go_simp; try with_reducible rfl)
        try simp only [Act.put, List.setIfInBounds_toArray, List.set_cons_zero, List.set_cons_succ]
        refine takeL 9 (v := ?_) rfl (by kernel_rfl) (by kernel_rfl) (by kernel_rfl) (fun _ _ _ h => h) (Or.inl ⟨by rfl, ?_⟩) hHeld ?_
        rotate_left 1
        · (intro w hSw; go_simp; try with_reducible rfl)
        try simp only [Act.put, List.setIfInBounds_toArray, List.set_cons_zero, List.set_cons_succ]
        refine wpAnyH_done (by kernel_rfl) ?_ _
        refine NoPanic.normal ?_
        clear hHeld
        go_wp2
        go_ret
        exact ⟨rfl, R1.out.2.2⟩
end Go.Proofs.Ytoohcjdjmafliaa
namespace Go.Proofs.Ytoohcjdjmafliaa
open Go Go.RowKit
theorem take_err (q : Nat) (s : Ws) (n : Nn) (w : World) (h : WinB w q s) (hs : s.ok) (he : lookW s n ≠ 0) : Calls Try.prog 12 #[.pointer (some ⟨q, 0, none⟩), nv n] w fun e w' => e = .returned (.int .i64 (lookW s n)) ∧ Below w.heap.size w w' := by
  have HBl : Bx (Below w.heap.size w (w.alloc (.cells #[.int .i64 n.b, .int .i64 n.c] 24))) := Bx.mk (below_a _)
  have HL := Bx.mk (look_any q s n _ (h.later (below_a (.cells #[.int .i64 n.b, .int .i64 n.c] 24))) hs)
  generalize lookW s n = z at *
  obtain ⟨b, c⟩ := n
  unfold nv at HL ⊢
  clear h hs
  go_enter Try.func12, Try.ntmps12
  go_wp2_with fail
  refine HL.out.mono ?_
  rintro e w1 ⟨rfl, hb⟩
  have HB1 := Bx.mk (HBl.out.trans (hb.mono HBl.out.size))
  clear hb HBl HL
  go_wp2
  go_ret
  exact ⟨rfl, HB1.out⟩
theorem rise_any (q : Nat) (s : Ws) (n : Nn) (w : World) (h : WinB w q s) (hs : s.ok) (hn : okN n = true) (hl : lessN s.n n = true) : Calls Try.prog 33 #[.pointer (some ⟨q, 0, none⟩), nv n] w fun e w' => e = .returned (.tuple #[]) ∧ WinB w' q (riseW s n) ∧ w.grownBy w' (some q) := by
  unfold lessN at hl
  have hl := of_decide_eq_true hl
  by_cases hb : n.b = s.n.b
  · exact rise_same q s n w h hs hn hb (by omega)
  · exact rise_other q s n w h hs hn hb
set_option maxRecDepth 100000 in
set_option maxHeartbeats 4000000 in
theorem take_up (q : Nat) (s r : Ws) (n : Nn) (w : World) (h : WinB w q s) (hs : s.ok) (h0 : lookW s n = 0) (hok : okN n = true) (hl : lessN s.n n = true) (hr : r = riseW s n) (hro : r.ok) (hrb : n.b = r.n.b → r.n.c - n.c < 64) :
    Calls Try.prog 12 #[.pointer (some ⟨q, 0, none⟩), nv n] w fun e w' => e = .returned (.int .i64 0) ∧ WinB w' q ⟨r.n, r.t ||| bitW r n⟩ ∧ w.grownBy w' (some q) := by
  obtain ⟨X, hX⟩ : ∃ X, w.heap.size = X := ⟨_, rfl⟩
  have hXq : X ≠ q := by have := h.lt; omega
  have R1 : Bx (WinB (w.alloc (.cells #[.int .i64 n.b, .int .i64 n.c] 24)) q s ∧ BoxN 24 X n (w.alloc (.cells #[.int .i64 n.b, .int .i64 n.c] 24)) ∧ w.grownBy (w.alloc (.cells #[.int .i64 n.b, .int .i64 n.c] 24)) (some q)) := Bx.mk ⟨h.later (below_a _), hnew _ _ _ hX.symm, kb_below _ (below_a _)⟩
  have HL := Bx.mk (look_any q s n _ R1.out.1 hs)
  rw [h0] at HL
  have HLe := Bx.mk fun (W : World) => wless_any s.n n W
  rw [hl] at HLe
  have HBi := Bx.mk fun (W : World) (h : WinB W q r) => bit_any12 q r n W h hro hok hrb
  have HRi := Bx.mk fun (W : World) (h : WinB W q s) => rise_any q s n W h hs hok hl
  rw [← hr] at HRi
  have HOr := tv_or r.t (bitW r n)
  clear h hs h0 hok hl hr hro hrb
  generalize r.t ||| bitW r n = y at *
  generalize bitW r n = z at *
  obtain ⟨b, c⟩ := n
  obtain ⟨⟨B, C⟩, T⟩ := s
  unfold nv at HL HLe HBi HRi ⊢
  simp only at HL HLe HBi HRi ⊢
  go_enter Try.func12, Try.ntmps12
  go_wp2_with fail
  refine HL.out.mono ?_
  rintro e w2 ⟨rfl, hb⟩
  have R2 : Bx (WinB w2 q ⟨⟨B, C⟩, T⟩ ∧ BoxN 24 X ⟨b, c⟩ w2 ∧ w.grownBy w2 (some q)) := Bx.mk ⟨R1.out.1.later hb, R1.out.2.1.later hb, kb_trans R1.out.2.2 (kb_below _ hb)⟩
  clear hb R1 HL
  obtain ⟨x0, x1⟩ := R2.out.2.1.cells
  go_upto_region 4 with fail
  clear x0 x1
  have RD : Bx (WinB w2.drew q ⟨⟨B, C⟩, T⟩ ∧ BoxN 24 X ⟨b, c⟩ w2.drew ∧ w.grownBy w2.drew (some q)) := Bx.mk ⟨R2.out.1.later (Below.refl _ _).drew, R2.out.2.1.later (Below.refl _ _).drew, kb_trans R2.out.2.2 (kb_below _ (Below.refl _ _).drew)⟩
  refine wp_region_noPanic ?_
  refine wp_region_held_drew (S := fun W => W.rangeAt q 0 [.int .i64 B, .int .i64 C] ∧ W.rangeAt X 0 [.int .i64 b, .int .i64 c]) (by kernel_rfl) (⟨RD.out.1.range, RD.out.2.1.range⟩) (fun hHeld => ?_)
  have R0 := RD
  clear RD R2
  generalize w2.drew = W0 at *
  refine takeL 0 (v := ?_) rfl (by kernel_rfl) (by kernel_rfl) (by kernel_rfl) (fun _ _ _ h => h) (Or.inl ⟨by rfl, ?_⟩) hHeld ?_
  rotate_left 1
  · (intro w hSw; go_simp; try with_reducible rfl)
  try simp only [Act.put, List.setIfInBounds_toArray, List.set_cons_zero, List.set_cons_succ]
  refine takeL 1 (v := ?_) rfl (by kernel_rfl) (by kernel_rfl) (by kernel_rfl) (fun _ _ _ h => h) (Or.inl ⟨by rfl, ?_⟩) hHeld ?_
  rotate_left 1
  · (intro w hSw; go_simp; try with_reducible rfl)
  try simp only [Act.put, List.setIfInBounds_toArray, List.set_cons_zero, List.set_cons_succ]
  refine takeL 2 (v := ?_) rfl (by kernel_rfl) (by kernel_rfl) (by kernel_rfl) (fun _ _ _ h => h) (Or.inl ⟨by rfl, ?_⟩) hHeld ?_
  rotate_left 1
  · (intro w hSw; go_simp; try with_reducible rfl)
  try simp only [Act.put, List.setIfInBounds_toArray, List.set_cons_zero, List.set_cons_succ]
  refine takeL 3 rfl (by kernel_rfl) (by kernel_rfl) (by kernel_rfl) (fun _ _ _ h => h) (yieldsIf_load_mid (by rfl) _ _ rfl _ _ rfl _ _ (fun w hSw => hSw.1) Try.underlying24 rfl (by kernel_rfl)) hHeld ?_
  try simp only [Act.put, List.setIfInBounds_toArray, List.set_cons_zero, List.set_cons_succ]
  refine takeL 4 rfl (by kernel_rfl) (by kernel_rfl) (by kernel_rfl) (fun _ _ _ h => h) (yieldsIf_load_mid (by rfl) _ _ rfl _ _ rfl _ _ (fun w hSw => hSw.2) Try.underlying24 rfl (by kernel_rfl)) hHeld ?_
  try simp only [Act.put, List.setIfInBounds_toArray, List.set_cons_zero, List.set_cons_succ]
  refine stepL 5 (by kernel_rfl) rfl (fun K hK => ?_)
  go_simp
  refine (HLe.out W0).mono ?_
  rintro e W1 ⟨rfl, hb⟩
  show K _ _
  have R1 : Bx (WinB W1 q ⟨⟨B, C⟩, T⟩ ∧ BoxN 24 X ⟨b, c⟩ W1 ∧ w.grownBy W1 (some q)) := Bx.mk ⟨R0.out.1.later hb, R0.out.2.1.later hb, kb_trans R0.out.2.2 (kb_below _ hb)⟩
  clear hb R0
  refine hK.out _ _ (⟨R1.out.1.range, R1.out.2.1.range⟩) (fun hHeld => ?_)
  clear hK K
  try simp only [Act.put, List.setIfInBounds_toArray, List.set_cons_zero, List.set_cons_succ]
  refine wpAnyH_done (by kernel_rfl) ?_ _
  refine NoPanic.normal ?_
  clear hHeld
  obtain ⟨x0, x1⟩ := R1.out.2.1.cells
  go_wp2_with fail
  refine (HRi.out _ R1.out.1).mono ?_
  rintro e w6 ⟨rfl, hw, hg⟩
  have R6 : Bx (WinB w6 q r ∧ BoxN 24 X ⟨b, c⟩ w6 ∧ w.grownBy w6 (some q)) := Bx.mk ⟨hw, R1.out.2.1.aside hg hXq, kb_trans R1.out.2.2 hg⟩
  clear hw hg R1 x0 x1
  go_upto_region 6 with fail
  have RD : Bx (WinB w6.drew q r ∧ BoxN 24 X ⟨b, c⟩ w6.drew ∧ w.grownBy w6.drew (some q)) := Bx.mk ⟨R6.out.1.later (Below.refl _ _).drew, R6.out.2.1.later (Below.refl _ _).drew, kb_trans R6.out.2.2 (kb_below _ (Below.refl _ _).drew)⟩
  refine wp_region_noPanic ?_
  refine wp_region_held_drew (S := fun W => W.rangeAt X 0 [.int .i64 b, .int .i64 c]) (by kernel_rfl) (RD.out.2.1.range) (fun hHeld => ?_)
  have R0 := RD
  clear RD R6
  generalize w6.drew = W0 at *
  refine takeL 0 (v := ?_) rfl (by kernel_rfl) (by kernel_rfl) (by kernel_rfl) (fun _ _ _ h => h) (Or.inl ⟨by rfl, ?_⟩) hHeld ?_
  rotate_left 1
  · (intro w hSw; go_simp; try with_reducible rfl)
  try simp only [Act.put, List.setIfInBounds_toArray, List.set_cons_zero, List.set_cons_succ]
  refine takeL 1 (v := ?_) rfl (by kernel_rfl) (by kernel_rfl) (by kernel_rfl) (fun _ _ _ h => h) (Or.inl ⟨by rfl, ?_⟩) hHeld ?_
  rotate_left 1
  · (intro w hSw; go_simp; try with_reducible rfl)
  try simp only [Act.put, List.setIfInBounds_toArray, List.set_cons_zero, List.set_cons_succ]
  refine takeL 2 (v := ?_) rfl (by kernel_rfl) (by kernel_rfl) (by kernel_rfl) (fun _ _ _ h => h) (Or.inl ⟨by rfl, ?_⟩) hHeld ?_
  rotate_left 1
  · (intro w hSw; go_simp; try with_reducible rfl)
  try simp only [Act.put, List.setIfInBounds_toArray, List.set_cons_zero, List.set_cons_succ]
  refine takeL 4 (v := ?_) rfl (by kernel_rfl) (by kernel_rfl) (by kernel_rfl) (fun _ _ _ h => h) (Or.inl ⟨by rfl, ?_⟩) hHeld ?_
  rotate_left 1
  · (intro w hSw; go_simp; try with_reducible rfl)
  try simp only [Act.put, List.setIfInBounds_toArray, List.set_cons_zero, List.set_cons_succ]
  refine takeL 5 rfl (by kernel_rfl) (by kernel_rfl) (by kernel_rfl) (fun _ _ _ h => h) (yieldsIf_load_mid (by rfl) _ _ rfl _ _ rfl _ _ (fun w hSw => hSw) Try.underlying24 rfl (by kernel_rfl)) hHeld ?_
  try simp only [Act.put, List.setIfInBounds_toArray, List.set_cons_zero, List.set_cons_succ]
  refine wpAnyH_ready (rs := [3, 6]) (by kernel_rfl) (by simp) ?_
  refine consM 3 rfl (fun K hK => ?_) (consM 6 rfl (fun K hK => ?_) AllReadyH.nil)
  · have cu := R0.out.1.cells.2.2
    go_simp
    refine hK.out _ _ R0.out.2.1.range (fun hHeld => ?_)
    clear hK K cu
    try simp only [Act.put, List.setIfInBounds_toArray, List.set_cons_zero, List.set_cons_succ]
    refine stepL 6 (by kernel_rfl) rfl (fun K hK => ?_)
    go_simp
    refine (HBi.out W0 R0.out.1).mono ?_
    rintro e W1 ⟨rfl, hb⟩
    show K _ _
    have R1 : Bx (WinB W1 q r ∧ BoxN 24 X ⟨b, c⟩ W1 ∧ w.grownBy W1 (some q)) := Bx.mk ⟨R0.out.1.later hb, R0.out.2.1.later hb, kb_trans R0.out.2.2 (kb_below _ hb)⟩
    clear hb R0
    refine hK.out _ _ (R1.out.2.1.range) (fun hHeld => ?_)
    clear hK K
    try simp only [Act.put, List.setIfInBounds_toArray, List.set_cons_zero, List.set_cons_succ]
    refine takeL 7 (v := ?_) rfl (by kernel_rfl) (by kernel_rfl) (by kernel_rfl) (fun _ _ _ h => h) (Or.inl ⟨by rfl, ?_⟩) hHeld ?_
    rotate_left 1
    · (intro w hSw; go_simp; try with_reducible rfl)
    try simp only [Act.put, List.setIfInBounds_toArray, List.set_cons_zero, List.set_cons_succ]
    refine takeL 8 (v := ?_) rfl (by kernel_rfl) (by kernel_rfl) (by kernel_rfl) (fun _ _ _ h => h) (Or.inl ⟨by rfl, ?_⟩) hHeld ?_
    rotate_left 1
    · (intro w hSw; go_simp; try with_reducible rfl)
    try simp only [Act.put, List.setIfInBounds_toArray, List.set_cons_zero, List.set_cons_succ]
    refine takeL 9 (v := ?_) rfl (by kernel_rfl) (by kernel_rfl) (by kernel_rfl) (fun _ _ _ h => h) (Or.inl ⟨by rfl, ?_⟩) hHeld ?_
    rotate_left 1
    · (intro w hSw; go_simp; try with_reducible rfl)
    try simp only [Act.put, List.setIfInBounds_toArray, List.set_cons_zero, List.set_cons_succ]
    refine stepL 10 (by kernel_rfl) rfl (fun K hK => ?_)
    have cu := R1.out.1.cells.2.2
    have fu := R1.out.1.frozen 2
    have RZ : Bx (WinB (W1.setCell ⟨q, 2, none⟩ (.int .u64 (tv y))) q ⟨r.n, y⟩ ∧ BoxN 24 X ⟨b, c⟩ (W1.setCell ⟨q, 2, none⟩ (.int .u64 (tv y))) ∧ w.grownBy (W1.setCell ⟨q, 2, none⟩ (.int .u64 (tv y))) (some q)) := Bx.mk ⟨R1.out.1.setT y, R1.out.2.1.aside (kb_setCell _ 2 _) hXq, kb_trans R1.out.2.2 (kb_setCell _ 2 _)⟩
    go_simp
    refine hK.out _ _ RZ.out.2.1.range (fun hHeld => ?_)
    clear hK K cu fu R1
    try simp only [Act.put, List.setIfInBounds_toArray, List.set_cons_zero, List.set_cons_succ]
    generalize W1.setCell ⟨q, 2, none⟩ (.int .u64 (tv y)) = WZ at *
    refine wpAnyH_done (by kernel_rfl) ?_ _
    refine NoPanic.normal ?_
    clear hHeld
    go_wp2
    go_ret
    exact ⟨rfl, RZ.out.1, RZ.out.2.2⟩
  · go_simp
    refine (HBi.out W0 R0.out.1).mono ?_
    rintro e W1 ⟨rfl, hb⟩
    show K _ _
    have R1 : Bx (WinB W1 q r ∧ BoxN 24 X ⟨b, c⟩ W1 ∧ w.grownBy W1 (some q)) := Bx.mk ⟨R0.out.1.later hb, R0.out.2.1.later hb, kb_trans R0.out.2.2 (kb_below _ hb)⟩
    clear hb R0
    refine hK.out _ _ (R1.out.2.1.range) (fun hHeld => ?_)
    clear hK K
    try simp only [Act.put, List.setIfInBounds_toArray, List.set_cons_zero, List.set_cons_succ]
    refine stepL 3 (by kernel_rfl) rfl (fun K hK => ?_)
    have cu := R1.out.1.cells.2.2
    go_simp
    refine hK.out _ _ R1.out.2.1.range (fun hHeld => ?_)
    clear hK K cu
    try simp only [Act.put, List.setIfInBounds_toArray, List.set_cons_zero, List.set_cons_succ]
    refine takeL 7 (v := ?_) rfl (by kernel_rfl) (by kernel_rfl) (by kernel_rfl) (fun _ _ _ h => h) (Or.inl ⟨by rfl, ?_⟩) hHeld ?_
    rotate_left 1
    · (intro w hSw; go_simp; try with_reducible rfl)
    try simp only [Act.put, List.setIfInBounds_toArray, List.set_cons_zero, List.set_cons_succ]
    refine takeL 8 (v := ?_) rfl (by kernel_rfl) (by kernel_rfl) (by kernel_rfl) (fun _ _ _ h => h) (Or.inl ⟨by rfl, ?_⟩) hHeld ?_
    rotate_left 1
    · (intro w hSw; go_simp; try with_reducible rfl)
    try simp only [Act.put, List.setIfInBounds_toArray, List.set_cons_zero, List.set_cons_succ]
    refine takeL 9 (v := ?_) rfl (by kernel_rfl) (by kernel_rfl) (by kernel_rfl) (fun _ _ _ h => h) (Or.inl ⟨by rfl, ?_⟩) hHeld ?_
    rotate_left 1
    · (intro w hSw; go_simp; try with_reducible rfl)
    try simp only [Act.put, List.setIfInBounds_toArray, List.set_cons_zero, List.set_cons_succ]
    refine stepL 10 (by kernel_rfl) rfl (fun K hK => ?_)
    have cu := R1.out.1.cells.2.2
    have fu := R1.out.1.frozen 2
    have RZ : Bx (WinB (W1.setCell ⟨q, 2, none⟩ (.int .u64 (tv y))) q ⟨r.n, y⟩ ∧ BoxN 24 X ⟨b, c⟩ (W1.setCell ⟨q, 2, none⟩ (.int .u64 (tv y))) ∧ w.grownBy (W1.setCell ⟨q, 2, none⟩ (.int .u64 (tv y))) (some q)) := Bx.mk ⟨R1.out.1.setT y, R1.out.2.1.aside (kb_setCell _ 2 _) hXq, kb_trans R1.out.2.2 (kb_setCell _ 2 _)⟩
    go_simp
    refine hK.out _ _ RZ.out.2.1.range (fun hHeld => ?_)
    clear hK K cu fu R1
    try simp only [Act.put, List.setIfInBounds_toArray, List.set_cons_zero, List.set_cons_succ]
    generalize W1.setCell ⟨q, 2, none⟩ (.int .u64 (tv y)) = WZ at *
    refine wpAnyH_done (by kernel_rfl) ?_ _
    refine NoPanic.normal ?_
    clear hHeld
    go_wp2
    go_ret
    exact ⟨rfl, RZ.out.1, RZ.out.2.2⟩
set_option maxRecDepth 100000 in
set_option maxHeartbeats 4000000 in
theorem take_in (q : Nat) (s r : Ws) (n : Nn) (w : World) (h : WinB w q s) (hs : s.ok) (h0 : lookW s n = 0) (hok : okN n = true) (hl : lessN s.n n = false) (hr : r = s) (hro : r.ok) (hrb : n.b = r.n.b → r.n.c - n.c < 64) :
    Calls Try.prog 12 #[.pointer (some ⟨q, 0, none⟩), nv n] w fun e w' => e = .returned (.int .i64 0) ∧ WinB w' q ⟨r.n, r.t ||| bitW r n⟩ ∧ w.grownBy w' (some q) := by
  obtain ⟨X, hX⟩ : ∃ X, w.heap.size = X := ⟨_, rfl⟩
  have hXq : X ≠ q := by have := h.lt; omega
  have R1 : Bx (WinB (w.alloc (.cells #[.int .i64 n.b, .int .i64 n.c] 24)) q s ∧ BoxN 24 X n (w.alloc (.cells #[.int .i64 n.b, .int .i64 n.c] 24)) ∧ w.grownBy (w.alloc (.cells #[.int .i64 n.b, .int .i64 n.c] 24)) (some q)) := Bx.mk ⟨h.later (below_a _), hnew _ _ _ hX.symm, kb_below _ (below_a _)⟩
  have HL := Bx.mk (look_any q s n _ R1.out.1 hs)
  rw [h0] at HL
  have HLe := Bx.mk fun (W : World) => wless_any s.n n W
  rw [hl] at HLe
  have HBi := Bx.mk fun (W : World) (h : WinB W q r) => bit_any12 q r n W h hro hok hrb
  have HEq := Bx.mk hr.symm

  have HOr := tv_or r.t (bitW r n)
  clear h hs h0 hok hl hr hro hrb
  generalize r.t ||| bitW r n = y at *
  generalize bitW r n = z at *
  obtain ⟨b, c⟩ := n
  obtain ⟨⟨B, C⟩, T⟩ := s
  unfold nv at HL HLe HBi ⊢
  simp only at HL HLe HBi ⊢
  go_enter Try.func12, Try.ntmps12
  go_wp2_with fail
  refine HL.out.mono ?_
  rintro e w2 ⟨rfl, hb⟩
  have R2 : Bx (WinB w2 q ⟨⟨B, C⟩, T⟩ ∧ BoxN 24 X ⟨b, c⟩ w2 ∧ w.grownBy w2 (some q)) := Bx.mk ⟨R1.out.1.later hb, R1.out.2.1.later hb, kb_trans R1.out.2.2 (kb_below _ hb)⟩
  clear hb R1 HL
  obtain ⟨x0, x1⟩ := R2.out.2.1.cells
  go_upto_region 4 with fail
  clear x0 x1
  have RD : Bx (WinB w2.drew q ⟨⟨B, C⟩, T⟩ ∧ BoxN 24 X ⟨b, c⟩ w2.drew ∧ w.grownBy w2.drew (some q)) := Bx.mk ⟨R2.out.1.later (Below.refl _ _).drew, R2.out.2.1.later (Below.refl _ _).drew, kb_trans R2.out.2.2 (kb_below _ (Below.refl _ _).drew)⟩
  refine wp_region_noPanic ?_
  refine wp_region_held_drew (S := fun W => W.rangeAt q 0 [.int .i64 B, .int .i64 C] ∧ W.rangeAt X 0 [.int .i64 b, .int .i64 c]) (by kernel_rfl) (⟨RD.out.1.range, RD.out.2.1.range⟩) (fun hHeld => ?_)
  have R0 := RD
  clear RD R2
  generalize w2.drew = W0 at *
  refine takeL 0 (v := ?_) rfl (by kernel_rfl) (by kernel_rfl) (by kernel_rfl) (fun _ _ _ h => h) (Or.inl ⟨by rfl, ?_⟩) hHeld ?_
  rotate_left 1
  · (intro w hSw; go_simp; try with_reducible rfl)
  try simp only [Act.put, List.setIfInBounds_toArray, List.set_cons_zero, List.set_cons_succ]
  refine takeL 1 (v := ?_) rfl (by kernel_rfl) (by kernel_rfl) (by kernel_rfl) (fun _ _ _ h => h) (Or.inl ⟨by rfl, ?_⟩) hHeld ?_
  rotate_left 1
  · (intro w hSw; go_simp; try with_reducible rfl)
  try simp only [Act.put, List.setIfInBounds_toArray, List.set_cons_zero, List.set_cons_succ]
  refine takeL 2 (v := ?_) rfl (by kernel_rfl) (by kernel_rfl) (by kernel_rfl) (fun _ _ _ h => h) (Or.inl ⟨by rfl, ?_⟩) hHeld ?_
  rotate_left 1
  · (intro w hSw; go_simp; try with_reducible rfl)
  try simp only [Act.put, List.setIfInBounds_toArray, List.set_cons_zero, List.set_cons_succ]
  refine takeL 3 rfl (by kernel_rfl) (by kernel_rfl) (by kernel_rfl) (fun _ _ _ h => h) (yieldsIf_load_mid (by rfl) _ _ rfl _ _ rfl _ _ (fun w hSw => hSw.1) Try.underlying24 rfl (by kernel_rfl)) hHeld ?_
  try simp only [Act.put, List.setIfInBounds_toArray, List.set_cons_zero, List.set_cons_succ]
  refine takeL 4 rfl (by kernel_rfl) (by kernel_rfl) (by kernel_rfl) (fun _ _ _ h => h) (yieldsIf_load_mid (by rfl) _ _ rfl _ _ rfl _ _ (fun w hSw => hSw.2) Try.underlying24 rfl (by kernel_rfl)) hHeld ?_
  try simp only [Act.put, List.setIfInBounds_toArray, List.set_cons_zero, List.set_cons_succ]
  refine stepL 5 (by kernel_rfl) rfl (fun K hK => ?_)
  go_simp
  refine (HLe.out W0).mono ?_
  rintro e W1 ⟨rfl, hb⟩
  show K _ _
  have R1 : Bx (WinB W1 q ⟨⟨B, C⟩, T⟩ ∧ BoxN 24 X ⟨b, c⟩ W1 ∧ w.grownBy W1 (some q)) := Bx.mk ⟨R0.out.1.later hb, R0.out.2.1.later hb, kb_trans R0.out.2.2 (kb_below _ hb)⟩
  clear hb R0
  refine hK.out _ _ (⟨R1.out.1.range, R1.out.2.1.range⟩) (fun hHeld => ?_)
  clear hK K
  try simp only [Act.put, List.setIfInBounds_toArray, List.set_cons_zero, List.set_cons_succ]
  refine wpAnyH_done (by kernel_rfl) ?_ _
  refine NoPanic.normal ?_
  clear hHeld
  obtain ⟨x0, x1⟩ := R1.out.2.1.cells
  go_upto_region 6 with fail
  have R6 : Bx (WinB W1 q r ∧ BoxN 24 X ⟨b, c⟩ W1 ∧ w.grownBy W1 (some q)) := Bx.mk (by rw [← HEq.out]; exact R1.out)
  clear R1
  have RD : Bx (WinB W1.drew q r ∧ BoxN 24 X ⟨b, c⟩ W1.drew ∧ w.grownBy W1.drew (some q)) := Bx.mk ⟨R6.out.1.later (Below.refl _ _).drew, R6.out.2.1.later (Below.refl _ _).drew, kb_trans R6.out.2.2 (kb_below _ (Below.refl _ _).drew)⟩
  refine wp_region_noPanic ?_
  refine wp_region_held_drew (S := fun W => W.rangeAt X 0 [.int .i64 b, .int .i64 c]) (by kernel_rfl) (RD.out.2.1.range) (fun hHeld => ?_)
  have R0 := RD
  clear RD R6
  generalize W1.drew = W0 at *
  refine takeL 0 (v := ?_) rfl (by kernel_rfl) (by kernel_rfl) (by kernel_rfl) (fun _ _ _ h => h) (Or.inl ⟨by rfl, ?_⟩) hHeld ?_
  rotate_left 1
  · (intro w hSw; go_simp; try with_reducible rfl)
  try simp only [Act.put, List.setIfInBounds_toArray, List.set_cons_zero, List.set_cons_succ]
  refine takeL 1 (v := ?_) rfl (by kernel_rfl) (by kernel_rfl) (by kernel_rfl) (fun _ _ _ h => h) (Or.inl ⟨by rfl, ?_⟩) hHeld ?_
  rotate_left 1
  · (intro w hSw; go_simp; try with_reducible rfl)
  try simp only [Act.put, List.setIfInBounds_toArray, List.set_cons_zero, List.set_cons_succ]
  refine takeL 2 (v := ?_) rfl (by kernel_rfl) (by kernel_rfl) (by kernel_rfl) (fun _ _ _ h => h) (Or.inl ⟨by rfl, ?_⟩) hHeld ?_
  rotate_left 1
  · (intro w hSw; go_simp; try with_reducible rfl)
  try simp only [Act.put, List.setIfInBounds_toArray, List.set_cons_zero, List.set_cons_succ]
  refine takeL 4 (v := ?_) rfl (by kernel_rfl) (by kernel_rfl) (by kernel_rfl) (fun _ _ _ h => h) (Or.inl ⟨by rfl, ?_⟩) hHeld ?_
  rotate_left 1
  · (intro w hSw; go_simp; try with_reducible rfl)
  try simp only [Act.put, List.setIfInBounds_toArray, List.set_cons_zero, List.set_cons_succ]
  refine takeL 5 rfl (by kernel_rfl) (by kernel_rfl) (by kernel_rfl) (fun _ _ _ h => h) (yieldsIf_load_mid (by rfl) _ _ rfl _ _ rfl _ _ (fun w hSw => hSw) Try.underlying24 rfl (by kernel_rfl)) hHeld ?_
  try simp only [Act.put, List.setIfInBounds_toArray, List.set_cons_zero, List.set_cons_succ]
  refine wpAnyH_ready (rs := [3, 6]) (by kernel_rfl) (by simp) ?_
  refine consM 3 rfl (fun K hK => ?_) (consM 6 rfl (fun K hK => ?_) AllReadyH.nil)
  · have cu := R0.out.1.cells.2.2
    go_simp
    refine hK.out _ _ R0.out.2.1.range (fun hHeld => ?_)
    clear hK K cu
    try simp only [Act.put, List.setIfInBounds_toArray, List.set_cons_zero, List.set_cons_succ]
    refine stepL 6 (by kernel_rfl) rfl (fun K hK => ?_)
    go_simp
    refine (HBi.out W0 R0.out.1).mono ?_
    rintro e W1 ⟨rfl, hb⟩
    show K _ _
    have R1 : Bx (WinB W1 q r ∧ BoxN 24 X ⟨b, c⟩ W1 ∧ w.grownBy W1 (some q)) := Bx.mk ⟨R0.out.1.later hb, R0.out.2.1.later hb, kb_trans R0.out.2.2 (kb_below _ hb)⟩
    clear hb R0
    refine hK.out _ _ (R1.out.2.1.range) (fun hHeld => ?_)
    clear hK K
    try simp only [Act.put, List.setIfInBounds_toArray, List.set_cons_zero, List.set_cons_succ]
    refine takeL 7 (v := ?_) rfl (by kernel_rfl) (by kernel_rfl) (by kernel_rfl) (fun _ _ _ h => h) (Or.inl ⟨by rfl, ?_⟩) hHeld ?_
    rotate_left 1
    · (intro w hSw; go_simp; try with_reducible rfl)
    try simp only [Act.put, List.setIfInBounds_toArray, List.set_cons_zero, List.set_cons_succ]
    refine takeL 8 (v := ?_) rfl (by kernel_rfl) (by kernel_rfl) (by kernel_rfl) (fun _ _ _ h => h) (Or.inl ⟨by rfl, ?_⟩) hHeld ?_
    rotate_left 1
    · (intro w hSw; go_simp; try with_reducible rfl)
    try simp only [Act.put, List.setIfInBounds_toArray, List.set_cons_zero, List.set_cons_succ]
    refine takeL 9 (v := ?_) rfl (by kernel_rfl) (by kernel_rfl) (by kernel_rfl) (fun _ _ _ h => h) (Or.inl ⟨by rfl, ?_⟩) hHeld ?_
    rotate_left 1
    · (intro w hSw; go_simp; try with_reducible rfl)
    try simp only [Act.put, List.setIfInBounds_toArray, List.set_cons_zero, List.set_cons_succ]
    refine stepL 10 (by kernel_rfl) rfl (fun K hK => ?_)
    have cu := R1.out.1.cells.2.2
    have fu := R1.out.1.frozen 2
    have RZ : Bx (WinB (W1.setCell ⟨q, 2, none⟩ (.int .u64 (tv y))) q ⟨r.n, y⟩ ∧ BoxN 24 X ⟨b, c⟩ (W1.setCell ⟨q, 2, none⟩ (.int .u64 (tv y))) ∧ w.grownBy (W1.setCell ⟨q, 2, none⟩ (.int .u64 (tv y))) (some q)) := Bx.mk ⟨R1.out.1.setT y, R1.out.2.1.aside (kb_setCell _ 2 _) hXq, kb_trans R1.out.2.2 (kb_setCell _ 2 _)⟩
    go_simp
    refine hK.out _ _ RZ.out.2.1.range (fun hHeld => ?_)
    clear hK K cu fu R1
    try simp only [Act.put, List.setIfInBounds_toArray, List.set_cons_zero, List.set_cons_succ]
    generalize W1.setCell ⟨q, 2, none⟩ (.int .u64 (tv y)) = WZ at *
    refine wpAnyH_done (by kernel_rfl) ?_ _
    refine NoPanic.normal ?_
    clear hHeld
    go_wp2
    go_ret
    exact ⟨rfl, RZ.out.1, RZ.out.2.2⟩
  · go_simp
    refine (HBi.out W0 R0.out.1).mono ?_
    rintro e W1 ⟨rfl, hb⟩
    show K _ _
    have R1 : Bx (WinB W1 q r ∧ BoxN 24 X ⟨b, c⟩ W1 ∧ w.grownBy W1 (some q)) := Bx.mk ⟨R0.out.1.later hb, R0.out.2.1.later hb, kb_trans R0.out.2.2 (kb_below _ hb)⟩
    clear hb R0
    refine hK.out _ _ (R1.out.2.1.range) (fun hHeld => ?_)
    clear hK K
    try simp only [Act.put, List.setIfInBounds_toArray, List.set_cons_zero, List.set_cons_succ]
    refine stepL 3 (by kernel_rfl) rfl (fun K hK => ?_)
    have cu := R1.out.1.cells.2.2
    go_simp
    refine hK.out _ _ R1.out.2.1.range (fun hHeld => ?_)
    clear hK K cu
    try simp only [Act.put, List.setIfInBounds_toArray, List.set_cons_zero, List.set_cons_succ]
    refine takeL 7 (v := ?_) rfl (by kernel_rfl) (by kernel_rfl) (by kernel_rfl) (fun _ _ _ h => h) (Or.inl ⟨by rfl, ?_⟩) hHeld ?_
    rotate_left 1
    · (intro w hSw; go_simp; try with_reducible rfl)
    try simp only [Act.put, List.setIfInBounds_toArray, List.set_cons_zero, List.set_cons_succ]
    refine takeL 8 (v := ?_) rfl (by kernel_rfl) (by kernel_rfl) (by kernel_rfl) (fun _ _ _ h => h) (Or.inl ⟨by rfl, ?_⟩) hHeld ?_
    rotate_left 1
    · (intro w hSw; go_simp; try with_reducible rfl)
    try simp only [Act.put, List.setIfInBounds_toArray, List.set_cons_zero, List.set_cons_succ]
    refine takeL 9 (v := ?_) rfl (by kernel_rfl) (by kernel_rfl) (by kernel_rfl) (fun _ _ _ h => h) (Or.inl ⟨by rfl, ?_⟩) hHeld ?_
    rotate_left 1
    · (intro w hSw; go_simp; try with_reducible rfl)
    try simp only [Act.put, List.setIfInBounds_toArray, List.set_cons_zero, List.set_cons_succ]
    refine stepL 10 (by kernel_rfl) rfl (fun K hK => ?_)
    have cu := R1.out.1.cells.2.2
    have fu := R1.out.1.frozen 2
    have RZ : Bx (WinB (W1.setCell ⟨q, 2, none⟩ (.int .u64 (tv y))) q ⟨r.n, y⟩ ∧ BoxN 24 X ⟨b, c⟩ (W1.setCell ⟨q, 2, none⟩ (.int .u64 (tv y))) ∧ w.grownBy (W1.setCell ⟨q, 2, none⟩ (.int .u64 (tv y))) (some q)) := Bx.mk ⟨R1.out.1.setT y, R1.out.2.1.aside (kb_setCell _ 2 _) hXq, kb_trans R1.out.2.2 (kb_setCell _ 2 _)⟩
    go_simp
    refine hK.out _ _ RZ.out.2.1.range (fun hHeld => ?_)
    clear hK K cu fu R1
    try simp only [Act.put, List.setIfInBounds_toArray, List.set_cons_zero, List.set_cons_succ]
    generalize W1.setCell ⟨q, 2, none⟩ (.int .u64 (tv y)) = WZ at *
    refine wpAnyH_done (by kernel_rfl) ?_ _
    refine NoPanic.normal ?_
    clear hHeld
    go_wp2
    go_ret
    exact ⟨rfl, RZ.out.1, RZ.out.2.2⟩
theorem take_any12 (q : Nat) (s : Ws) (n : Nn) (w : World) (h : WinB w q s) (hs : s.ok) :
    Calls Try.prog 12 #[.pointer (some ⟨q, 0, none⟩), nv n] w fun e w' => e = .returned (.int .i64 (lookW s n)) ∧ WinB w' q (takeW s n) ∧ w.grownBy w' (some q) := by
  by_cases h0 : lookW s n = 0
  · have hok : okN n = true := by
      unfold lookW at h0
      split at h0
      · omega
      · rename_i h1; simpa using h1
    have hfo : forgW s n = false := by
      unfold lookW at h0
      rw [if_neg (by rw [hok]; simp)] at h0
      split at h0
      · omega
      · rename_i h1; simpa using h1
    obtain ⟨n1, n2, n3, n4⟩ := (okN_iff n).1 hok
    unfold takeW
    rw [if_pos h0, h0]
    cases hl : lessN s.n n with
    | true =>
      rw [if_pos rfl]
      exact take_up q s (riseW s n) n w h hs h0 hok hl rfl ⟨by show 0 ≤ n.b; omega, n2, by show 0 ≤ n.c; omega, n4⟩ (fun _ => by show n.c - n.c < 64; omega)
    | false =>
      rw [if_neg (by simp)]
      exact take_in q s s n w h hs h0 hok hl rfl hs (fun e => forgW_false hfo e)
  · have e1 : takeW s n = s := by unfold takeW; rw [if_neg h0]
    rw [e1]
    refine (take_err q s n w h hs h0).mono ?_
    rintro e w' ⟨h1, h2⟩
    exact ⟨h1, h.later h2, kb_below _ h2⟩
end Go.Proofs.Ytoohcjdjmafliaa
namespace Go.Proofs.Ytoohcjdjmafliaa
open Go Go.RowKit
/-- The greatest of all. -/
def latN (l : List Nn) : Nn := l.foldl (fun a x => if lessN a x = true then x else a) Nn.zero
theorem takeN_succ (m : List Nn) (k : Nat) (h : k < m.length) : m.take (k + 1) = m.take k ++ [m.getD k Nn.zero] := by
  rw [List.take_succ_eq_append_getElem h, List.getD_eq_getElem?_getD, List.getElem?_eq_getElem h]; rfl
theorem latN_snoc (m : List Nn) (x : Nn) : latN (m ++ [x]) = if lessN (latN m) x = true then x else latN m := by
  unfold latN; rw [List.foldl_append]; rfl
theorem latN_succ (m : List Nn) (k : Nat) (h : k < m.length) : latN (m.take (k + 1)) = if lessN (latN (m.take k)) (m.getD k Nn.zero) = true then m.getD k Nn.zero else latN (m.take k) := by
  rw [takeN_succ m k h, latN_snoc]
/-- What the document tells of a nonce. -/
def dlookN (m : List Nn) (n : Nn) : Int := if okN n = false then 10 else if n.b < (latN m).b ∨ n.b = (latN m).b ∧ n.c ≤ (latN m).c - 64 then 9 else if n ∈ m then 8 else 0
theorem BoxN.store {T : TypeId} {X : Nat} {n : Nn} {W : World} (h : BoxN T X n W) (b c : Int) : BoxN T X ⟨b, c⟩ ((W.setCell ⟨X, 0, none⟩ (.int .i64 b)).setCell ⟨X, 1, none⟩ (.int .i64 c)) := by
  have := heap_setCells_same X _ [.int .i64 b, .int .i64 c] 0 W _ h
  exact this
theorem BoxN.frozen {T : TypeId} {X : Nat} {n : Nn} {W : World} (h : BoxN T X n W) (i : Nat) : W.frozen? ⟨X, i, none⟩ = false := frozen_of_row _ _ _ _ _ h
theorem grown_set2 (X : Nat) (W : World) (u v : Value) : W.grownBy ((W.setCell ⟨X, 0, none⟩ u).setCell ⟨X, 1, none⟩ v) (some X) := kb_setCells [u, v] 0 W
theorem two_range {W : World} {g o : Nat} {u v : Value} (h1 : W.cell? ⟨g, o, none⟩ = some u) (h2 : W.cell? ⟨g, o + 1, none⟩ = some v) : W.rangeAt g o [u, v] := fun j x hj => by
  have hj2 : j < 2 := (List.getElem?_eq_some_iff.1 hj).1
  match j, hj2 with
  | 0, _ => injection hj with hj; rw [← hj]; exact h1
  | 1, _ => injection hj with hj; rw [← hj]; exact h2
end Go.Proofs.Ytoohcjdjmafliaa
