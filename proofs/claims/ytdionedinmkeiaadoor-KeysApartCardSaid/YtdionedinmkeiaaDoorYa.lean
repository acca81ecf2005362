/-
  Keys that are derived: Sender, Seed, Label, Grant, Member.
-/
import Derived.Test.YtdionedinmkeiaaDoorQa
namespace Go.Proofs.YtdionedinmkeiaaDoor
open Go Go.RowKit
/-- The labels. -/
def senL : List UInt8 := [115, 101, 110, 100, 101, 114]
def seeL : List UInt8 := [115, 101, 101, 100]
def labL : List UInt8 := [108, 97, 98, 101, 108]
/-- A number as one byte, as two. -/
def by1 (n : Nat) : List UInt8 := [UInt8.ofNat (n % 256)]
def by2 (n : Nat) : List UInt8 := [UInt8.ofNat (n / 256 % 256), UInt8.ofNat (n % 256)]
/-- A key for a number; a key for a verifier. -/
def numK (s l : List UInt8) (n : Nat) : List UInt8 := hmac s (frame [l, by1 n])
def senK (s : List UInt8) (n : Nat) : List UInt8 := hmac s (frame [senL, by2 n])
theorem numK_length (s l : List UInt8) (n : Nat) : (numK s l n).length = 32 := hmac_length _ _
theorem senK_length (s : List UInt8) (n : Nat) : (senK s n).length = 32 := hmac_length _ _
theorem parts1 {W : World} {v : Value} {p : List UInt8} (h : Bytes W v p) (t : TypeId) : Parts (W.alloc (.cells #[v] t)) (.slice (some ⟨W.heap.size, 0, none⟩) 1 1) [p] := by
  refine ⟨_, 1, rfl, fun _ => ⟨W.heap.size, 0, rfl, fun j hj => ?_⟩⟩
  obtain rfl : j = 0 := by simpa using hj
  exact ⟨v, by rw [cell_of_row _ _ _ _ _ _ (hnew W _ _ rfl)]; rfl, h.later (below_a _)⟩
theorem b_lo (n : Nat) : (n : Int) % 256 = ub (UInt8.ofNat (n % 256)) := by rw [ub_nat]; omega
theorem b_hi (n : Nat) (h : n ≤ 65535) : (n : Int) / 256 = ub (UInt8.ofNat (n / 256 % 256)) := by rw [ub_nat]; omega
set_option maxRecDepth 100000 in
theorem numb_nil (s : Value) (n m : Int) (w : World) : Calls Tryd.prog 38 #[.pointer none, s, .int .i64 n, .int .i64 m] w fun e w' => e = .returned (.tuple #[.pointer none, .int .i64 1]) ∧ w = w' := by
  go_enter Tryd.func38, Tryd.ntmps38
  go_wp2
  go_ret2
  exact ⟨rfl, rfl⟩
set_option maxRecDepth 100000 in
theorem numb_bad (s : Value) (p : Nat) (n m : Int) (w : World) (h : n < 0 ∨ m ≤ n) : Calls Tryd.prog 38 #[.pointer (some ⟨p, 0, none⟩), s, .int .i64 n, .int .i64 m] w fun e w' => e = .returned (.tuple #[.pointer none, .int .i64 10]) ∧ w = w' := by
  by_cases h0 : n < 0
  · clear h
    go_enter Tryd.func38, Tryd.ntmps38
    go_wp2
    go_ret2
    exact ⟨rfl, rfl⟩
  · have h1 : m ≤ n := by omega
    clear h
    go_enter Tryd.func38, Tryd.ntmps38
    go_wp2
    go_ret2
    exact ⟨rfl, rfl⟩
set_option maxRecDepth 100000 in
set_option maxHeartbeats 1000000 in
theorem numb_ok (bs l : List UInt8) (n : Nat) (m : Int) (v : Value) (w : World) (hv : IsKey w v bs) (hk : bs.length ≤ 1000000) (hl : l.length ≤ 10000) (hn : (n : Int) < m) (hTab : Tab w) (hg : 0 < w.heap.size) :
    Calls Tryd.prog 38 #[v, .string ⟨l.toArray⟩, .int .i64 (n : Int), .int .i64 m] w fun e w' => ∃ v', e = .returned (.tuple #[v', .int .i64 0]) ∧ KeyO w' w.heap.size v' (numK bs l n) ∧ Below w.heap.size w w' := by
  have H1 : Bx (IsKey (w.alloc (.cells #[.int .u8 (ub (UInt8.ofNat (n % 256)))] 5)) v bs ∧ Bytes (w.alloc (.cells #[.int .u8 (ub (UInt8.ofNat (n % 256)))] 5)) (.slice (some ⟨w.heap.size, 0, none⟩) 1 1) (by1 n) ∧ Below w.heap.size w (w.alloc (.cells #[.int .u8 (ub (UInt8.ofNat (n % 256)))] 5))) := Bx.mk ⟨hv.later (below_a _), built1 _ _, below_a _⟩
  have HB := Bx.mk (b_lo n)
  have HD : Bx (∀ W vp, Below w.heap.size w W → IsKey W v bs → Parts W vp [by1 n] → Calls Tryd.prog 42 #[v, .string ⟨l.toArray⟩, vp] W fun e w' => ∃ v', e = .returned v' ∧ KeyO w' W.heap.size v' (numK bs l n) ∧ Below W.heap.size W w') := Bx.mk fun W vp hb hv hp => kderive_any bs l [by1 n] v vp W hv hp hk hl (by simp) (by intro p hp; simp at hp; subst hp; simp [by1]) (hTab.later hb hg) (Nat.lt_of_lt_of_le hg hb.size)
  obtain ⟨p, s, rfl, -, -⟩ := hv
  generalize numK bs l n = kk at *
  generalize by1 n = bb at *
  clear hTab hg hk hl
  have hn0 : (0 : Int) ≤ (n : Int) := by omega
  have hn1 : ¬ m ≤ (n : Int) := by omega
  clear hn
  go_enter Tryd.func38, Tryd.ntmps38
  go_wp2_with fail
  rw [HB.out]
  obtain ⟨w1, hw1⟩ : ∃ w1, w.alloc (.cells #[.int .u8 (ub (UInt8.ofNat (n % 256)))] 5) = w1 := ⟨_, rfl⟩
  have hs1 : w1.heap.size = w.heap.size + 1 := by rw [← hw1]; simp
  rw [hw1] at H1 ⊢
  clear hw1 HB
  have H2 := Bx.mk (And.intro (H1.out.1.later (below_a (.cells #[.slice (some ⟨w.heap.size, 0, none⟩) 1 1] 22))) (And.intro (parts1 H1.out.2.1 22) (H1.out.2.2.alloc H1.out.2.2.size (.cells #[.slice (some ⟨w.heap.size, 0, none⟩) 1 1] 22))))
  rw [hs1] at H2
  clear hs1
  generalize w1.alloc (.cells #[.slice (some ⟨w.heap.size, 0, none⟩) 1 1] 22) = w2 at *
  refine (HD.out w2 _ H2.out.2.2 H2.out.1 H2.out.2.1).mono ?_
  rintro e w3 ⟨v3, rfl, hk3, hb3⟩
  have H3 := Bx.mk (And.intro (hk3.weak H2.out.2.2.size) (H2.out.2.2.trans (hb3.mono H2.out.2.2.size)))
  clear hk3 hb3 H2 H1
  go_wp2
  go_ret2
  exact ⟨_, rfl, H3.out⟩
set_option maxRecDepth 100000 in
theorem sen_nil (n : Int) (w : World) : Calls Tryd.prog 19 #[.pointer none, .int .i64 n] w fun e w' => e = .returned (.tuple #[.pointer none, .int .i64 1]) ∧ w = w' := by
  go_enter Tryd.func19, Tryd.ntmps19
  go_wp2
  go_ret2
  exact ⟨rfl, rfl⟩
set_option maxRecDepth 100000 in
theorem sen_bad (p : Nat) (n : Int) (w : World) (h : n < 1 ∨ 65535 < n) : Calls Tryd.prog 19 #[.pointer (some ⟨p, 0, none⟩), .int .i64 n] w fun e w' => e = .returned (.tuple #[.pointer none, .int .i64 10]) ∧ w = w' := by
  by_cases h0 : n < 1
  · clear h
    go_enter Tryd.func19, Tryd.ntmps19
    go_wp2
    go_ret2
    exact ⟨rfl, rfl⟩
  · have h1 : 65535 < n := by omega
    clear h
    go_enter Tryd.func19, Tryd.ntmps19
    go_wp2
    go_ret2
    exact ⟨rfl, rfl⟩
set_option maxRecDepth 100000 in
set_option maxHeartbeats 1000000 in
theorem sen_ok (bs : List UInt8) (n : Nat) (v : Value) (w : World) (hv : IsKey w v bs) (hk : bs.length ≤ 1000000) (h1 : 1 ≤ n) (h2 : n ≤ 65535) (hTab : Tab w) (hg : 0 < w.heap.size) :
    Calls Tryd.prog 19 #[v, .int .i64 (n : Int)] w fun e w' => ∃ v', e = .returned (.tuple #[v', .int .i64 0]) ∧ KeyO w' w.heap.size v' (senK bs n) ∧ Below w.heap.size w w' := by
  have H1 : Bx (IsKey (w.alloc (.cells #[.int .u8 (ub (UInt8.ofNat (n / 256 % 256))), .int .u8 (ub (UInt8.ofNat (n % 256)))] 5)) v bs ∧ Bytes (w.alloc (.cells #[.int .u8 (ub (UInt8.ofNat (n / 256 % 256))), .int .u8 (ub (UInt8.ofNat (n % 256)))] 5)) (.slice (some ⟨w.heap.size, 0, none⟩) 2 2) (by2 n) ∧ Below w.heap.size w (w.alloc (.cells #[.int .u8 (ub (UInt8.ofNat (n / 256 % 256))), .int .u8 (ub (UInt8.ofNat (n % 256)))] 5))) := Bx.mk ⟨hv.later (below_a _), built w [_, _], below_a _⟩
  have HB := Bx.mk (And.intro (b_lo n) (b_hi n h2))
  have HD : Bx (∀ W vp, Below w.heap.size w W → IsKey W v bs → Parts W vp [by2 n] → Calls Tryd.prog 42 #[v, .string ⟨senL.toArray⟩, vp] W fun e w' => ∃ v', e = .returned v' ∧ KeyO w' W.heap.size v' (senK bs n) ∧ Below W.heap.size W w') := Bx.mk fun W vp hb hv hp => kderive_any bs senL [by2 n] v vp W hv hp hk (by decide) (by simp) (by intro p hp; simp at hp; subst hp; simp [by2]) (hTab.later hb hg) (Nat.lt_of_lt_of_le hg hb.size)
  unfold senL at HD
  simp only [List.toArray] at HD
  obtain ⟨p, s, rfl, -, -⟩ := hv
  generalize senK bs n = kk at *
  generalize by2 n = bb at *
  clear hTab hg hk
  have hn1 : ¬ (n : Int) < 1 := by omega
  have hn2 : ¬ 65535 < (n : Int) := by omega
  have hn0 : (0 : Int) ≤ (n : Int) := by omega
  clear h1 h2
  go_enter Tryd.func19, Tryd.ntmps19
  go_wp2_with fail
  rw [HB.out.1, HB.out.2]
  obtain ⟨w1, hw1⟩ : ∃ w1, w.alloc (.cells #[.int .u8 (ub (UInt8.ofNat (n / 256 % 256))), .int .u8 (ub (UInt8.ofNat (n % 256)))] 5) = w1 := ⟨_, rfl⟩
  have hs1 : w1.heap.size = w.heap.size + 1 := by rw [← hw1]; simp
  rw [hw1] at H1 ⊢
  clear hw1 HB
  have H2 := Bx.mk (And.intro (H1.out.1.later (below_a (.cells #[.slice (some ⟨w.heap.size, 0, none⟩) 2 2] 22))) (And.intro (parts1 H1.out.2.1 22) (H1.out.2.2.alloc H1.out.2.2.size (.cells #[.slice (some ⟨w.heap.size, 0, none⟩) 2 2] 22))))
  rw [hs1] at H2
  clear hs1
  generalize w1.alloc (.cells #[.slice (some ⟨w.heap.size, 0, none⟩) 2 2] 22) = w2 at *
  refine (HD.out w2 _ H2.out.2.2 H2.out.1 H2.out.2.1).mono ?_
  rintro e w3 ⟨v3, rfl, hk3, hb3⟩
  have H3 := Bx.mk (And.intro (hk3.weak H2.out.2.2.size) (H2.out.2.2.trans (hb3.mono H2.out.2.2.size)))
  clear hk3 hb3 H2 H1
  go_wp2
  go_ret2
  exact ⟨_, rfl, H3.out⟩
set_option maxRecDepth 100000 in
theorem see_nil (n : Int) (w : World) : Calls Tryd.prog 20 #[.pointer none, .int .i64 n] w fun e w' => e = .returned (.tuple #[.pointer none, .int .i64 1]) ∧ w = w' := by
  go_enter Tryd.func20, Tryd.ntmps20
  go_wp2_with fail
  refine (numb_nil _ _ _ _).mono ?_
  rintro e w1 ⟨rfl, rfl⟩
  go_wp2
  go_ret2
  exact ⟨rfl, rfl⟩
set_option maxRecDepth 100000 in
theorem see_bad (p : Nat) (n : Int) (w : World) (h : n < 0 ∨ 4 ≤ n) : Calls Tryd.prog 20 #[.pointer (some ⟨p, 0, none⟩), .int .i64 n] w fun e w' => e = .returned (.tuple #[.pointer none, .int .i64 10]) ∧ w = w' := by
  have H := Bx.mk h
  clear h
  go_enter Tryd.func20, Tryd.ntmps20
  go_wp2_with fail
  refine (numb_bad _ _ _ _ _ H.out).mono ?_
  rintro e w1 ⟨rfl, rfl⟩
  go_wp2
  go_ret2
  exact ⟨rfl, rfl⟩
set_option maxRecDepth 100000 in
theorem see_ok (bs : List UInt8) (n : Nat) (v : Value) (w : World) (hv : IsKey w v bs) (hk : bs.length ≤ 1000000) (hn : n < 4) (hTab : Tab w) (hg : 0 < w.heap.size) :
    Calls Tryd.prog 20 #[v, .int .i64 (n : Int)] w fun e w' => ∃ v', e = .returned (.tuple #[v', .int .i64 0]) ∧ KeyO w' w.heap.size v' (numK bs seeL n) ∧ Below w.heap.size w w' := by
  have H := Bx.mk (numb_ok bs seeL n 4 v w hv hk (by decide) (by omega) hTab hg)
  unfold seeL at H ⊢
  simp only [List.toArray] at H
  obtain ⟨p, s, rfl, -, -⟩ := hv
  clear hTab hg hk hn
  go_enter Tryd.func20, Tryd.ntmps20
  go_wp2_with fail
  refine H.out.mono ?_
  rintro e w1 ⟨v1, rfl, hk1, hb1⟩
  have H1 := Bx.mk (And.intro hk1 hb1)
  clear hk1 hb1 H
  go_wp2
  go_ret2
  exact ⟨_, rfl, H1.out⟩
set_option maxRecDepth 100000 in
theorem lab_nil (n : Int) (w : World) : Calls Tryd.prog 12 #[.pointer none, .int .i64 n] w fun e w' => e = .returned (.tuple #[.pointer none, .int .i64 1]) ∧ w = w' := by
  go_enter Tryd.func12, Tryd.ntmps12
  go_wp2_with fail
  refine (numb_nil _ _ _ _).mono ?_
  rintro e w1 ⟨rfl, rfl⟩
  go_wp2
  go_ret2
  exact ⟨rfl, rfl⟩
set_option maxRecDepth 100000 in
theorem lab_bad (p : Nat) (n : Int) (w : World) (h : n < 0 ∨ 8 ≤ n) : Calls Tryd.prog 12 #[.pointer (some ⟨p, 0, none⟩), .int .i64 n] w fun e w' => e = .returned (.tuple #[.pointer none, .int .i64 10]) ∧ w = w' := by
  have H := Bx.mk h
  clear h
  go_enter Tryd.func12, Tryd.ntmps12
  go_wp2_with fail
  refine (numb_bad _ _ _ _ _ H.out).mono ?_
  rintro e w1 ⟨rfl, rfl⟩
  go_wp2
  go_ret2
  exact ⟨rfl, rfl⟩
set_option maxRecDepth 100000 in
theorem lab_ok (bs : List UInt8) (n : Nat) (v : Value) (w : World) (hv : IsKey w v bs) (hk : bs.length ≤ 1000000) (hn : n < 8) (hTab : Tab w) (hg : 0 < w.heap.size) :
    Calls Tryd.prog 12 #[v, .int .i64 (n : Int)] w fun e w' => ∃ v', e = .returned (.tuple #[v', .int .i64 0]) ∧ KeyO w' w.heap.size v' (numK bs labL n) ∧ Below w.heap.size w w' := by
  have H := Bx.mk (numb_ok bs labL n 8 v w hv hk (by decide) (by omega) hTab hg)
  unfold labL at H ⊢
  simp only [List.toArray] at H
  obtain ⟨p, s, rfl, -, -⟩ := hv
  clear hTab hg hk hn
  go_enter Tryd.func12, Tryd.ntmps12
  go_wp2_with fail
  refine H.out.mono ?_
  rintro e w1 ⟨v1, rfl, hk1, hb1⟩
  have H1 := Bx.mk (And.intro hk1 hb1)
  clear hk1 hb1 H
  go_wp2
  go_ret2
  exact ⟨_, rfl, H1.out⟩
set_option maxRecDepth 100000 in
theorem gra_nil (c : Cl) (n : Int) (w : World) : Calls Tryd.prog 9 #[.pointer none, clV c, .int .i64 n] w fun e w' => e = .returned (.tuple #[.pointer none, .int .i64 1]) ∧ Below w.heap.size w w' := by
  obtain ⟨zc, hzc⟩ : ∃ zc, tkC c0 z32 = zc := ⟨_, rfl⟩
  have hzv : ∀ W : World, (zeroValue 53).run Tryd.prog W = .ok (.agg zc) W := fun W => by rw [← hzc]; exact tk_zero W
  have HM : Bx (∀ W : World, Calls Tryd.prog 36 #[.pointer none, clV c] W fun e w' => e = .returned (.tuple #[.agg zc, .int .i64 1]) ∧ Below W.heap.size W w') := Bx.mk fun W => by rw [← hzc]; exact mk_nil c W
  have HI : Bx ((Tryd.prog.info? 53).map (·.size) = some zc.size ∧ zc.all (·.oneCell') = true) := Bx.mk (by rw [← hzc]; exact ⟨tk_info _ _ rfl, tkC_one _ _⟩)
  clear hzc
  obtain ⟨i, r, x, q⟩ := c
  unfold clV at *
  simp only at HM ⊢
  obtain ⟨B, hB⟩ : ∃ B, w.heap.size = B := ⟨_, rfl⟩
  have H0 := Bx.mk ((KS.start w B hB).new (.cells #[.int .i64 i, .int .i64 r, .int .i64 x, .int .i64 q] 37))
  rw [hB] at H0 ⊢
  go_enter Tryd.func9, Tryd.ntmps9
  go_wp2_with fail
  generalize w.alloc (.cells #[.int .i64 i, .int .i64 r, .int .i64 x, .int .i64 q] 37) = w0 at *
  refine (HM.out w0).mono ?_
  rintro e w1 ⟨rfl, hb⟩
  have H1 := Bx.mk (H0.out.later hb)
  clear hb H0
  obtain ⟨D, hD⟩ : ∃ D, w1.heap.size = D := ⟨_, rfl⟩
  have H2 := Bx.mk (And.intro (H1.out.new (.cells zc 53)) (show B ≤ D from by rw [← hD]; exact H1.out.le))
  rw [hD] at H2
  clear H1
  go_wp2_with (refine wpList_store_new rfl 53 _ _ rfl D zc zc _ (by rfl) (by rfl) (H2.out.1.rows _ (.head _)) rfl HI.out.1 HI.out.2 ?_; intro w8 hw8 hr8; have hg8 := Bx.mk (kb_of hw8); clear hw8 hr8)
  go_ret2
  exact ⟨rfl, H2.out.1.below.trans (grown_below hg8.out H2.out.2 H2.out.1.le)⟩
set_option maxRecDepth 100000 in
theorem gra_badc (c : Cl) (p : Nat) (n : Int) (w : World) (hc : okC c = false) : Calls Tryd.prog 9 #[.pointer (some ⟨p, 0, none⟩), clV c, .int .i64 n] w fun e w' => e = .returned (.tuple #[.pointer none, .int .i64 10]) ∧ Below w.heap.size w w' := by
  obtain ⟨zc, hzc⟩ : ∃ zc, tkC c0 z32 = zc := ⟨_, rfl⟩
  have hzv : ∀ W : World, (zeroValue 53).run Tryd.prog W = .ok (.agg zc) W := fun W => by rw [← hzc]; exact tk_zero W
  have HM : Bx (∀ W : World, Calls Tryd.prog 36 #[.pointer (some ⟨p, 0, none⟩), clV c] W fun e w' => e = .returned (.tuple #[.agg zc, .int .i64 10]) ∧ Below W.heap.size W w') := Bx.mk fun W => by rw [← hzc]; exact mk_bad c p W hc
  have HI : Bx ((Tryd.prog.info? 53).map (·.size) = some zc.size ∧ zc.all (·.oneCell') = true) := Bx.mk (by rw [← hzc]; exact ⟨tk_info _ _ rfl, tkC_one _ _⟩)
  clear hzc hc
  obtain ⟨i, r, x, q⟩ := c
  unfold clV at *
  simp only at HM ⊢
  obtain ⟨B, hB⟩ : ∃ B, w.heap.size = B := ⟨_, rfl⟩
  have H0 := Bx.mk ((KS.start w B hB).new (.cells #[.int .i64 i, .int .i64 r, .int .i64 x, .int .i64 q] 37))
  rw [hB] at H0 ⊢
  go_enter Tryd.func9, Tryd.ntmps9
  go_wp2_with fail
  generalize w.alloc (.cells #[.int .i64 i, .int .i64 r, .int .i64 x, .int .i64 q] 37) = w0 at *
  refine (HM.out w0).mono ?_
  rintro e w1 ⟨rfl, hb⟩
  have H1 := Bx.mk (H0.out.later hb)
  clear hb H0
  obtain ⟨D, hD⟩ : ∃ D, w1.heap.size = D := ⟨_, rfl⟩
  have H2 := Bx.mk (And.intro (H1.out.new (.cells zc 53)) (show B ≤ D from by rw [← hD]; exact H1.out.le))
  rw [hD] at H2
  clear H1
  go_wp2_with (refine wpList_store_new rfl 53 _ _ rfl D zc zc _ (by rfl) (by rfl) (H2.out.1.rows _ (.head _)) rfl HI.out.1 HI.out.2 ?_; intro w8 hw8 hr8; have hg8 := Bx.mk (kb_of hw8); clear hw8 hr8)
  go_ret2
  exact ⟨rfl, H2.out.1.below.trans (grown_below hg8.out H2.out.2 H2.out.1.le)⟩
set_option maxRecDepth 100000 in
set_option maxHeartbeats 1000000 in
theorem gra_bad (bs : List UInt8) (c : Cl) (n : Int) (v : Value) (w : World) (hv : IsKey w v bs) (hk : bs.length ≤ 1000000) (hc : okC c = true) (h : n < 1 ∨ 65535 < n) (hTab : Tab w) (hg : 0 < w.heap.size) :
    Calls Tryd.prog 9 #[v, clV c, .int .i64 n] w fun e w' => e = .returned (.tuple #[.pointer none, .int .i64 10]) ∧ Below w.heap.size w w' := by
  obtain ⟨zc, hzc⟩ : ∃ zc, tkC c0 z32 = zc := ⟨_, rfl⟩
  have hzv : ∀ W : World, (zeroValue 53).run Tryd.prog W = .ok (.agg zc) W := fun W => by rw [← hzc]; exact tk_zero W
  have HL := Bx.mk fun (W : World) (p : Nat) => sen_bad p n W h
  have HM : Bx (∀ W, Below w.heap.size w W → Calls Tryd.prog 36 #[v, clV c] W fun e w' => e = .returned (.tuple #[.agg (tkC c (secK bs c)), .int .i64 0]) ∧ Below W.heap.size W w') := Bx.mk fun W hb => mk_ok bs c v W (hv.later hb) hk hc (hTab.later hb hg) (Nat.lt_of_lt_of_le hg hb.size)
  have HT := Bx.mk fun (W : World) => tkey_any c (secK bs c) W (secK_length _ _)
  have HS := secK_length bs c
  generalize secK bs c = sk at *
  obtain ⟨kl, hkl⟩ : ∃ kl : List Value, tkC c sk = kl.toArray := ⟨_, rfl⟩
  have HI : Bx ((Tryd.prog.info? 53).map (·.size) = some kl.toArray.size ∧ kl.toArray.all (·.oneCell') = true ∧ kl.toArray.size = zc.size ∧ (Tryd.prog.info? 53).map (·.size) = some kl.length) := Bx.mk (by rw [show kl.length = kl.toArray.size from rfl, ← hkl, ← hzc]; exact ⟨tk_info _ _ HS, tkC_one _ _, by rw [tkC_size _ _ HS, tkC_size _ _ rfl], tk_info _ _ HS⟩)
  unfold tkV at HT
  rw [hkl] at HM HT
  obtain ⟨p, s, rfl, -, -⟩ := hv
  clear hzc hkl hc hk HS hTab hg h
  obtain ⟨i, r, x, q⟩ := c
  unfold clV at *
  simp only at HM ⊢
  obtain ⟨B, hB⟩ : ∃ B, w.heap.size = B := ⟨_, rfl⟩
  have H0 := Bx.mk ((KS.start w B hB).new (.cells #[.int .i64 i, .int .i64 r, .int .i64 x, .int .i64 q] 37))
  rw [hB] at H0 HM ⊢
  go_enter Tryd.func9, Tryd.ntmps9
  go_wp2_with fail
  generalize w.alloc (.cells #[.int .i64 i, .int .i64 r, .int .i64 x, .int .i64 q] 37) = w0 at *
  refine (HM.out w0 H0.out.below).mono ?_
  rintro e w1 ⟨rfl, hb⟩
  have H1 := Bx.mk (H0.out.later hb)
  clear hb H0
  obtain ⟨D, hD⟩ : ∃ D, w1.heap.size = D := ⟨_, rfl⟩
  have H2 := Bx.mk (And.intro (H1.out.new (.cells zc 53)) (And.intro (show B ≤ D from by rw [← hD]; exact H1.out.le) (show B < D from by rw [← hD]; exact H1.out.lt (.head _))))
  rw [hD] at H2
  clear H1
  go_upto_region 2 with (refine wpList_store_new rfl 53 _ _ rfl D kl.toArray zc _ (by rfl) (by rfl) (H2.out.1.rows _ (.head _)) HI.out.2.2.1 HI.out.1 HI.out.2.1 ?_; intro w3 hw8 hr8; have hg8 := Bx.mk (kb_of hw8); have HR8 := Bx.mk hr8; clear hw8 hr8)
  have H3 := Bx.mk (H2.out.1.set hg8.out HR8.out H2.out.2.1 (by intro y hy; have := H2.out.2.2; simp at hy; rcases hy with rfl; simp only; omega))
  clear H2 hg8 HR8 hD
  go_wp2_with (refine wpList_load_mid rfl 53 _ rfl D 0 (by rfl) kl _ (fun j u hj => by show w3.cell? ⟨D, 0 + j, none⟩ = some u; rw [cell_of_row _ _ _ _ _ _ (H3.out.rows _ (.head _)), Nat.zero_add]; simpa using hj) Tryd.underlying53 rfl HI.out.2.2.2 ?_)
  refine (HT.out w3).mono ?_
  rintro e w4 ⟨v4, rfl, hk4, hb⟩
  have H4 := Bx.mk (And.intro (H3.out.later hb) hk4.key)
  clear hb hk4 H3
  obtain ⟨p4, s4, hv4, -, -⟩ := H4.out.2
  subst hv4
  go_wp2_with fail
  refine (HL.out w4 p4).mono ?_
  rintro e w5 ⟨rfl, rfl⟩
  go_wp2
  go_ret2
  exact ⟨rfl, H4.out.1.below⟩
set_option maxRecDepth 100000 in
set_option maxHeartbeats 1000000 in
theorem gra_ok (bs : List UInt8) (c : Cl) (n : Nat) (v : Value) (w : World) (hv : IsKey w v bs) (hk : bs.length ≤ 1000000) (hc : okC c = true) (h1 : 1 ≤ n) (h2 : n ≤ 65535) (hTab : Tab w) (hg : 0 < w.heap.size) :
    Calls Tryd.prog 9 #[v, clV c, .int .i64 (n : Int)] w fun e w' => ∃ v', e = .returned (.tuple #[v', .int .i64 0]) ∧ KeyO w' w.heap.size v' (senK (secK bs c) n) ∧ Below w.heap.size w w' := by
  obtain ⟨zc, hzc⟩ : ∃ zc, tkC c0 z32 = zc := ⟨_, rfl⟩
  have hzv : ∀ W : World, (zeroValue 53).run Tryd.prog W = .ok (.agg zc) W := fun W => by rw [← hzc]; exact tk_zero W
  have HL : Bx (∀ W vk, Below w.heap.size w W → IsKey W vk (secK bs c) → Calls Tryd.prog 19 #[vk, .int .i64 (n : Int)] W fun e w' => ∃ v', e = .returned (.tuple #[v', .int .i64 0]) ∧ KeyO w' W.heap.size v' (senK (secK bs c) n) ∧ Below W.heap.size W w') := Bx.mk fun W vk hb hv => sen_ok (secK bs c) n vk W hv (by rw [secK_length]; omega) h1 h2 (hTab.later hb hg) (Nat.lt_of_lt_of_le hg hb.size)
  have HM : Bx (∀ W, Below w.heap.size w W → Calls Tryd.prog 36 #[v, clV c] W fun e w' => e = .returned (.tuple #[.agg (tkC c (secK bs c)), .int .i64 0]) ∧ Below W.heap.size W w') := Bx.mk fun W hb => mk_ok bs c v W (hv.later hb) hk hc (hTab.later hb hg) (Nat.lt_of_lt_of_le hg hb.size)
  have HT := Bx.mk fun (W : World) => tkey_any c (secK bs c) W (secK_length _ _)
  have HS := secK_length bs c
  generalize senK (secK bs c) n = kk at *
  generalize secK bs c = sk at *
  obtain ⟨kl, hkl⟩ : ∃ kl : List Value, tkC c sk = kl.toArray := ⟨_, rfl⟩
  have HI : Bx ((Tryd.prog.info? 53).map (·.size) = some kl.toArray.size ∧ kl.toArray.all (·.oneCell') = true ∧ kl.toArray.size = zc.size ∧ (Tryd.prog.info? 53).map (·.size) = some kl.length) := Bx.mk (by rw [show kl.length = kl.toArray.size from rfl, ← hkl, ← hzc]; exact ⟨tk_info _ _ HS, tkC_one _ _, by rw [tkC_size _ _ HS, tkC_size _ _ rfl], tk_info _ _ HS⟩)
  unfold tkV at HT
  rw [hkl] at HM HT
  obtain ⟨p, s, rfl, -, -⟩ := hv
  clear hzc hkl hc hk HS hTab hg h1 h2
  obtain ⟨i, r, x, q⟩ := c
  unfold clV at *
  simp only at HM ⊢
  obtain ⟨B, hB⟩ : ∃ B, w.heap.size = B := ⟨_, rfl⟩
  have H0 := Bx.mk ((KS.start w B hB).new (.cells #[.int .i64 i, .int .i64 r, .int .i64 x, .int .i64 q] 37))
  rw [hB] at H0 HM HL ⊢
  go_enter Tryd.func9, Tryd.ntmps9
  go_wp2_with fail
  generalize w.alloc (.cells #[.int .i64 i, .int .i64 r, .int .i64 x, .int .i64 q] 37) = w0 at *
  refine (HM.out w0 H0.out.below).mono ?_
  rintro e w1 ⟨rfl, hb⟩
  have H1 := Bx.mk (H0.out.later hb)
  clear hb H0
  obtain ⟨D, hD⟩ : ∃ D, w1.heap.size = D := ⟨_, rfl⟩
  have H2 := Bx.mk (And.intro (H1.out.new (.cells zc 53)) (And.intro (show B ≤ D from by rw [← hD]; exact H1.out.le) (show B < D from by rw [← hD]; exact H1.out.lt (.head _))))
  rw [hD] at H2
  clear H1
  go_upto_region 2 with (refine wpList_store_new rfl 53 _ _ rfl D kl.toArray zc _ (by rfl) (by rfl) (H2.out.1.rows _ (.head _)) HI.out.2.2.1 HI.out.1 HI.out.2.1 ?_; intro w3 hw8 hr8; have hg8 := Bx.mk (kb_of hw8); have HR8 := Bx.mk hr8; clear hw8 hr8)
  have H3 := Bx.mk (H2.out.1.set hg8.out HR8.out H2.out.2.1 (by intro y hy; have := H2.out.2.2; simp at hy; rcases hy with rfl; simp only; omega))
  clear H2 hg8 HR8 hD
  go_wp2_with (refine wpList_load_mid rfl 53 _ rfl D 0 (by rfl) kl _ (fun j u hj => by show w3.cell? ⟨D, 0 + j, none⟩ = some u; rw [cell_of_row _ _ _ _ _ _ (H3.out.rows _ (.head _)), Nat.zero_add]; simpa using hj) Tryd.underlying53 rfl HI.out.2.2.2 ?_)
  refine (HT.out w3).mono ?_
  rintro e w4 ⟨v4, rfl, hk4, hb⟩
  have H4 := Bx.mk (And.intro (H3.out.later hb) hk4.key)
  clear hb hk4 H3
  obtain ⟨p4, s4, hv4, -, -⟩ := H4.out.2
  subst hv4
  go_wp2_with fail
  refine (HL.out w4 _ H4.out.1.below H4.out.2).mono ?_
  rintro e w5 ⟨v5, rfl, hk5, hb⟩
  have H5 := Bx.mk (And.intro (hk5.weak H4.out.1.le) (H4.out.1.later hb).below)
  clear hk5 hb H4
  go_wp2
  go_ret2
  exact ⟨_, rfl, H5.out⟩
set_option maxRecDepth 100000 in
theorem mem_nil (c : Cl) (n : Int) (w : World) : Calls Tryd.prog 11 #[.pointer none, clV c, .int .i64 n] w fun e w' => e = .returned (.tuple #[.pointer none, .int .i64 1]) ∧ Below w.heap.size w w' := by
  obtain ⟨zc, hzc⟩ : ∃ zc, tkC c0 z32 = zc := ⟨_, rfl⟩
  have hzv : ∀ W : World, (zeroValue 53).run Tryd.prog W = .ok (.agg zc) W := fun W => by rw [← hzc]; exact tk_zero W
  have HM : Bx (∀ W : World, Calls Tryd.prog 36 #[.pointer none, clV c] W fun e w' => e = .returned (.tuple #[.agg zc, .int .i64 1]) ∧ Below W.heap.size W w') := Bx.mk fun W => by rw [← hzc]; exact mk_nil c W
  have HI : Bx ((Tryd.prog.info? 53).map (·.size) = some zc.size ∧ zc.all (·.oneCell') = true) := Bx.mk (by rw [← hzc]; exact ⟨tk_info _ _ rfl, tkC_one _ _⟩)
  clear hzc
  obtain ⟨i, r, x, q⟩ := c
  unfold clV at *
  simp only at HM ⊢
  obtain ⟨B, hB⟩ : ∃ B, w.heap.size = B := ⟨_, rfl⟩
  have H0 := Bx.mk ((KS.start w B hB).new (.cells #[.int .i64 i, .int .i64 r, .int .i64 x, .int .i64 q] 37))
  rw [hB] at H0 ⊢
  go_enter Tryd.func11, Tryd.ntmps11
  go_wp2_with fail
  generalize w.alloc (.cells #[.int .i64 i, .int .i64 r, .int .i64 x, .int .i64 q] 37) = w0 at *
  refine (HM.out w0).mono ?_
  rintro e w1 ⟨rfl, hb⟩
  have H1 := Bx.mk (H0.out.later hb)
  clear hb H0
  obtain ⟨D, hD⟩ : ∃ D, w1.heap.size = D := ⟨_, rfl⟩
  have H2 := Bx.mk (And.intro (H1.out.new (.cells zc 53)) (show B ≤ D from by rw [← hD]; exact H1.out.le))
  rw [hD] at H2
  clear H1
  go_wp2_with (refine wpList_store_new rfl 53 _ _ rfl D zc zc _ (by rfl) (by rfl) (H2.out.1.rows _ (.head _)) rfl HI.out.1 HI.out.2 ?_; intro w8 hw8 hr8; have hg8 := Bx.mk (kb_of hw8); clear hw8 hr8)
  go_ret2
  exact ⟨rfl, H2.out.1.below.trans (grown_below hg8.out H2.out.2 H2.out.1.le)⟩
set_option maxRecDepth 100000 in
theorem mem_badc (c : Cl) (p : Nat) (n : Int) (w : World) (hc : okC c = false) : Calls Tryd.prog 11 #[.pointer (some ⟨p, 0, none⟩), clV c, .int .i64 n] w fun e w' => e = .returned (.tuple #[.pointer none, .int .i64 10]) ∧ Below w.heap.size w w' := by
  obtain ⟨zc, hzc⟩ : ∃ zc, tkC c0 z32 = zc := ⟨_, rfl⟩
  have hzv : ∀ W : World, (zeroValue 53).run Tryd.prog W = .ok (.agg zc) W := fun W => by rw [← hzc]; exact tk_zero W
  have HM : Bx (∀ W : World, Calls Tryd.prog 36 #[.pointer (some ⟨p, 0, none⟩), clV c] W fun e w' => e = .returned (.tuple #[.agg zc, .int .i64 10]) ∧ Below W.heap.size W w') := Bx.mk fun W => by rw [← hzc]; exact mk_bad c p W hc
  have HI : Bx ((Tryd.prog.info? 53).map (·.size) = some zc.size ∧ zc.all (·.oneCell') = true) := Bx.mk (by rw [← hzc]; exact ⟨tk_info _ _ rfl, tkC_one _ _⟩)
  clear hzc hc
  obtain ⟨i, r, x, q⟩ := c
  unfold clV at *
  simp only at HM ⊢
  obtain ⟨B, hB⟩ : ∃ B, w.heap.size = B := ⟨_, rfl⟩
  have H0 := Bx.mk ((KS.start w B hB).new (.cells #[.int .i64 i, .int .i64 r, .int .i64 x, .int .i64 q] 37))
  rw [hB] at H0 ⊢
  go_enter Tryd.func11, Tryd.ntmps11
  go_wp2_with fail
  generalize w.alloc (.cells #[.int .i64 i, .int .i64 r, .int .i64 x, .int .i64 q] 37) = w0 at *
  refine (HM.out w0).mono ?_
  rintro e w1 ⟨rfl, hb⟩
  have H1 := Bx.mk (H0.out.later hb)
  clear hb H0
  obtain ⟨D, hD⟩ : ∃ D, w1.heap.size = D := ⟨_, rfl⟩
  have H2 := Bx.mk (And.intro (H1.out.new (.cells zc 53)) (show B ≤ D from by rw [← hD]; exact H1.out.le))
  rw [hD] at H2
  clear H1
  go_wp2_with (refine wpList_store_new rfl 53 _ _ rfl D zc zc _ (by rfl) (by rfl) (H2.out.1.rows _ (.head _)) rfl HI.out.1 HI.out.2 ?_; intro w8 hw8 hr8; have hg8 := Bx.mk (kb_of hw8); clear hw8 hr8)
  go_ret2
  exact ⟨rfl, H2.out.1.below.trans (grown_below hg8.out H2.out.2 H2.out.1.le)⟩
set_option maxRecDepth 100000 in
set_option maxHeartbeats 1000000 in
theorem mem_bad (bs : List UInt8) (c : Cl) (n : Int) (v : Value) (w : World) (hv : IsKey w v bs) (hk : bs.length ≤ 1000000) (hc : okC c = true) (h : n < 0 ∨ 4 ≤ n) (hTab : Tab w) (hg : 0 < w.heap.size) :
    Calls Tryd.prog 11 #[v, clV c, .int .i64 n] w fun e w' => e = .returned (.tuple #[.pointer none, .int .i64 10]) ∧ Below w.heap.size w w' := by
  obtain ⟨zc, hzc⟩ : ∃ zc, tkC c0 z32 = zc := ⟨_, rfl⟩
  have hzv : ∀ W : World, (zeroValue 53).run Tryd.prog W = .ok (.agg zc) W := fun W => by rw [← hzc]; exact tk_zero W
  have HL := Bx.mk fun (W : World) (p : Nat) => see_bad p n W h
  have HM : Bx (∀ W, Below w.heap.size w W → Calls Tryd.prog 36 #[v, clV c] W fun e w' => e = .returned (.tuple #[.agg (tkC c (secK bs c)), .int .i64 0]) ∧ Below W.heap.size W w') := Bx.mk fun W hb => mk_ok bs c v W (hv.later hb) hk hc (hTab.later hb hg) (Nat.lt_of_lt_of_le hg hb.size)
  have HT := Bx.mk fun (W : World) => tkey_any c (secK bs c) W (secK_length _ _)
  have HS := secK_length bs c
  generalize secK bs c = sk at *
  obtain ⟨kl, hkl⟩ : ∃ kl : List Value, tkC c sk = kl.toArray := ⟨_, rfl⟩
  have HI : Bx ((Tryd.prog.info? 53).map (·.size) = some kl.toArray.size ∧ kl.toArray.all (·.oneCell') = true ∧ kl.toArray.size = zc.size ∧ (Tryd.prog.info? 53).map (·.size) = some kl.length) := Bx.mk (by rw [show kl.length = kl.toArray.size from rfl, ← hkl, ← hzc]; exact ⟨tk_info _ _ HS, tkC_one _ _, by rw [tkC_size _ _ HS, tkC_size _ _ rfl], tk_info _ _ HS⟩)
  unfold tkV at HT
  rw [hkl] at HM HT
  obtain ⟨p, s, rfl, -, -⟩ := hv
  clear hzc hkl hc hk HS hTab hg h
  obtain ⟨i, r, x, q⟩ := c
  unfold clV at *
  simp only at HM ⊢
  obtain ⟨B, hB⟩ : ∃ B, w.heap.size = B := ⟨_, rfl⟩
  have H0 := Bx.mk ((KS.start w B hB).new (.cells #[.int .i64 i, .int .i64 r, .int .i64 x, .int .i64 q] 37))
  rw [hB] at H0 HM ⊢
  go_enter Tryd.func11, Tryd.ntmps11
  go_wp2_with fail
  generalize w.alloc (.cells #[.int .i64 i, .int .i64 r, .int .i64 x, .int .i64 q] 37) = w0 at *
  refine (HM.out w0 H0.out.below).mono ?_
  rintro e w1 ⟨rfl, hb⟩
  have H1 := Bx.mk (H0.out.later hb)
  clear hb H0
  obtain ⟨D, hD⟩ : ∃ D, w1.heap.size = D := ⟨_, rfl⟩
  have H2 := Bx.mk (And.intro (H1.out.new (.cells zc 53)) (And.intro (show B ≤ D from by rw [← hD]; exact H1.out.le) (show B < D from by rw [← hD]; exact H1.out.lt (.head _))))
  rw [hD] at H2
  clear H1
  go_upto_region 2 with (refine wpList_store_new rfl 53 _ _ rfl D kl.toArray zc _ (by rfl) (by rfl) (H2.out.1.rows _ (.head _)) HI.out.2.2.1 HI.out.1 HI.out.2.1 ?_; intro w3 hw8 hr8; have hg8 := Bx.mk (kb_of hw8); have HR8 := Bx.mk hr8; clear hw8 hr8)
  have H3 := Bx.mk (H2.out.1.set hg8.out HR8.out H2.out.2.1 (by intro y hy; have := H2.out.2.2; simp at hy; rcases hy with rfl; simp only; omega))
  clear H2 hg8 HR8 hD
  go_wp2_with (refine wpList_load_mid rfl 53 _ rfl D 0 (by rfl) kl _ (fun j u hj => by show w3.cell? ⟨D, 0 + j, none⟩ = some u; rw [cell_of_row _ _ _ _ _ _ (H3.out.rows _ (.head _)), Nat.zero_add]; simpa using hj) Tryd.underlying53 rfl HI.out.2.2.2 ?_)
  refine (HT.out w3).mono ?_
  rintro e w4 ⟨v4, rfl, hk4, hb⟩
  have H4 := Bx.mk (And.intro (H3.out.later hb) hk4.key)
  clear hb hk4 H3
  obtain ⟨p4, s4, hv4, -, -⟩ := H4.out.2
  subst hv4
  go_wp2_with fail
  refine (HL.out w4 p4).mono ?_
  rintro e w5 ⟨rfl, rfl⟩
  go_wp2
  go_ret2
  exact ⟨rfl, H4.out.1.below⟩
set_option maxRecDepth 100000 in
set_option maxHeartbeats 1000000 in
theorem mem_ok (bs : List UInt8) (c : Cl) (n : Nat) (v : Value) (w : World) (hv : IsKey w v bs) (hk : bs.length ≤ 1000000) (hc : okC c = true) (hn : n < 4) (hTab : Tab w) (hg : 0 < w.heap.size) :
    Calls Tryd.prog 11 #[v, clV c, .int .i64 (n : Int)] w fun e w' => ∃ v', e = .returned (.tuple #[v', .int .i64 0]) ∧ KeyO w' w.heap.size v' (numK (secK bs c) seeL n) ∧ Below w.heap.size w w' := by
  obtain ⟨zc, hzc⟩ : ∃ zc, tkC c0 z32 = zc := ⟨_, rfl⟩
  have hzv : ∀ W : World, (zeroValue 53).run Tryd.prog W = .ok (.agg zc) W := fun W => by rw [← hzc]; exact tk_zero W
  have HL : Bx (∀ W vk, Below w.heap.size w W → IsKey W vk (secK bs c) → Calls Tryd.prog 20 #[vk, .int .i64 (n : Int)] W fun e w' => ∃ v', e = .returned (.tuple #[v', .int .i64 0]) ∧ KeyO w' W.heap.size v' (numK (secK bs c) seeL n) ∧ Below W.heap.size W w') := Bx.mk fun W vk hb hv => see_ok (secK bs c) n vk W hv (by rw [secK_length]; omega) hn (hTab.later hb hg) (Nat.lt_of_lt_of_le hg hb.size)
  have HM : Bx (∀ W, Below w.heap.size w W → Calls Tryd.prog 36 #[v, clV c] W fun e w' => e = .returned (.tuple #[.agg (tkC c (secK bs c)), .int .i64 0]) ∧ Below W.heap.size W w') := Bx.mk fun W hb => mk_ok bs c v W (hv.later hb) hk hc (hTab.later hb hg) (Nat.lt_of_lt_of_le hg hb.size)
  have HT := Bx.mk fun (W : World) => tkey_any c (secK bs c) W (secK_length _ _)
  have HS := secK_length bs c
  generalize numK (secK bs c) seeL n = kk at *
  generalize secK bs c = sk at *
  obtain ⟨kl, hkl⟩ : ∃ kl : List Value, tkC c sk = kl.toArray := ⟨_, rfl⟩
  have HI : Bx ((Tryd.prog.info? 53).map (·.size) = some kl.toArray.size ∧ kl.toArray.all (·.oneCell') = true ∧ kl.toArray.size = zc.size ∧ (Tryd.prog.info? 53).map (·.size) = some kl.length) := Bx.mk (by rw [show kl.length = kl.toArray.size from rfl, ← hkl, ← hzc]; exact ⟨tk_info _ _ HS, tkC_one _ _, by rw [tkC_size _ _ HS, tkC_size _ _ rfl], tk_info _ _ HS⟩)
  unfold tkV at HT
  rw [hkl] at HM HT
  obtain ⟨p, s, rfl, -, -⟩ := hv
  clear hzc hkl hc hk HS hTab hg hn
  obtain ⟨i, r, x, q⟩ := c
  unfold clV at *
  simp only at HM ⊢
  obtain ⟨B, hB⟩ : ∃ B, w.heap.size = B := ⟨_, rfl⟩
  have H0 := Bx.mk ((KS.start w B hB).new (.cells #[.int .i64 i, .int .i64 r, .int .i64 x, .int .i64 q] 37))
  rw [hB] at H0 HM HL ⊢
  go_enter Tryd.func11, Tryd.ntmps11
  go_wp2_with fail
  generalize w.alloc (.cells #[.int .i64 i, .int .i64 r, .int .i64 x, .int .i64 q] 37) = w0 at *
  refine (HM.out w0 H0.out.below).mono ?_
  rintro e w1 ⟨rfl, hb⟩
  have H1 := Bx.mk (H0.out.later hb)
  clear hb H0
  obtain ⟨D, hD⟩ : ∃ D, w1.heap.size = D := ⟨_, rfl⟩
  have H2 := Bx.mk (And.intro (H1.out.new (.cells zc 53)) (And.intro (show B ≤ D from by rw [← hD]; exact H1.out.le) (show B < D from by rw [← hD]; exact H1.out.lt (.head _))))
  rw [hD] at H2
  clear H1
  go_upto_region 2 with (refine wpList_store_new rfl 53 _ _ rfl D kl.toArray zc _ (by rfl) (by rfl) (H2.out.1.rows _ (.head _)) HI.out.2.2.1 HI.out.1 HI.out.2.1 ?_; intro w3 hw8 hr8; have hg8 := Bx.mk (kb_of hw8); have HR8 := Bx.mk hr8; clear hw8 hr8)
  have H3 := Bx.mk (H2.out.1.set hg8.out HR8.out H2.out.2.1 (by intro y hy; have := H2.out.2.2; simp at hy; rcases hy with rfl; simp only; omega))
  clear H2 hg8 HR8 hD
  go_wp2_with (refine wpList_load_mid rfl 53 _ rfl D 0 (by rfl) kl _ (fun j u hj => by show w3.cell? ⟨D, 0 + j, none⟩ = some u; rw [cell_of_row _ _ _ _ _ _ (H3.out.rows _ (.head _)), Nat.zero_add]; simpa using hj) Tryd.underlying53 rfl HI.out.2.2.2 ?_)
  refine (HT.out w3).mono ?_
  rintro e w4 ⟨v4, rfl, hk4, hb⟩
  have H4 := Bx.mk (And.intro (H3.out.later hb) hk4.key)
  clear hb hk4 H3
  obtain ⟨p4, s4, hv4, -, -⟩ := H4.out.2
  subst hv4
  go_wp2_with fail
  refine (HL.out w4 _ H4.out.1.below H4.out.2).mono ?_
  rintro e w5 ⟨v5, rfl, hk5, hb⟩
  have H5 := Bx.mk (And.intro (hk5.weak H4.out.1.le) (H4.out.1.later hb).below)
  clear hk5 hb H4
  go_wp2
  go_ret2
  exact ⟨_, rfl, H5.out⟩
end Go.Proofs.YtdionedinmkeiaaDoor
