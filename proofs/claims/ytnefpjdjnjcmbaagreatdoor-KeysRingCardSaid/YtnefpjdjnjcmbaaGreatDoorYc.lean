/-
  Keys that are derived: Sender, Seed, Label, Grant, Member.
-/
import Derived.Test.YtnefpjdjnjcmbaaGreatDoorCu
import Derived.Test.YtnefpjdjnjcmbaaGreatDoorIi
import Derived.Test.YtnefpjdjnjcmbaaGreatDoorCa
import Derived.Test.YtnefpjdjnjcmbaaGreatDoorCb
import Derived.Test.YtnefpjdjnjcmbaaGreatDoorIa
import Derived.LoopN
import Derived.Test.YtnefpjdjnjcmbaaGreatDoorAf
import Derived.Stop.BytesEq
import Derived.Laws.StructEq
import Derived.Lib.SlBytesConst
namespace Go.Proofs.YtnefpjdjnjcmbaaGreatDoor
open Go Go.RowKit
/-- The labels. -/
def senL : List UInt8 := [115, 101, 110, 100, 101, 114]
def seeL : List UInt8 := [115, 101, 101, 100]
/-- A number as one byte, as two. -/
def by1 (n : Nat) : List UInt8 := [UInt8.ofNat (n % 256)]
def by2 (n : Nat) : List UInt8 := [UInt8.ofNat (n / 256 % 256), UInt8.ofNat (n % 256)]
/-- A key for a number; a key for a verifier. -/
def numK (s l : List UInt8) (n : Nat) : List UInt8 := hmac s (frame [l, by1 n])
def senK (s : List UInt8) (n : Nat) : List UInt8 := hmac s (frame [senL, by2 n])
theorem senK_length (s : List UInt8) (n : Nat) : (senK s n).length = 32 := hmac_length _ _
theorem parts1 {W : World} {v : Value} {p : List UInt8} (h : Bytes W v p) (t : TypeId) : Parts (W.alloc (.cells #[v] t)) (.slice (some ⟨W.heap.size, 0, none⟩) 1 1) [p] := by
  refine ⟨_, 1, rfl, fun _ => ⟨W.heap.size, 0, rfl, fun j hj => ?_⟩⟩
  obtain rfl : j = 0 := by simpa using hj
  exact ⟨v, by rw [cell_of_row _ _ _ _ _ _ (hnew W _ _ rfl)]; rfl, h.later (below_a _)⟩
theorem b_lo (n : Nat) : (n : Int) % 256 = ub (UInt8.ofNat (n % 256)) := by rw [ub_nat]; omega
theorem b_hi (n : Nat) (h : n ≤ 65535) : (n : Int) / 256 = ub (UInt8.ofNat (n / 256 % 256)) := by rw [ub_nat]; omega
set_option maxRecDepth 100000 in
theorem numb_bad (s : Value) (p : Nat) (n m : Int) (w : World) (h : n < 0 ∨ m ≤ n) : Calls Tryz.prog 41 #[.pointer (some ⟨p, 0, none⟩), s, .int .i64 n, .int .i64 m] w fun e w' => e = .returned (.tuple #[.pointer none, .int .i64 10]) ∧ w = w' := by
  by_cases h0 : n < 0
  · clear h
    go_enter Tryz.func41, Tryz.ntmps41
    go_wp2
    go_ret2
    exact ⟨rfl, rfl⟩
  · have h1 : m ≤ n := by omega
    clear h
    go_enter Tryz.func41, Tryz.ntmps41
    go_wp2
    go_ret2
    exact ⟨rfl, rfl⟩
set_option maxRecDepth 100000 in
set_option maxHeartbeats 1000000 in
theorem numb_ok (bs l : List UInt8) (n : Nat) (m : Int) (v : Value) (w : World) (hv : IsKey w v bs) (hk : bs.length ≤ 1000000) (hl : l.length ≤ 10000) (hn : (n : Int) < m) (hTab : Tab w) (hg : 0 < w.heap.size) :
    Calls Tryz.prog 41 #[v, .string ⟨l.toArray⟩, .int .i64 (n : Int), .int .i64 m] w fun e w' => ∃ v', e = .returned (.tuple #[v', .int .i64 0]) ∧ KeyO w' w.heap.size v' (numK bs l n) ∧ Below w.heap.size w w' := by
  have H1 : Bx (IsKey (w.alloc (.cells #[.int .u8 (ub (UInt8.ofNat (n % 256)))] 5)) v bs ∧ Bytes (w.alloc (.cells #[.int .u8 (ub (UInt8.ofNat (n % 256)))] 5)) (.slice (some ⟨w.heap.size, 0, none⟩) 1 1) (by1 n) ∧ Below w.heap.size w (w.alloc (.cells #[.int .u8 (ub (UInt8.ofNat (n % 256)))] 5))) := Bx.mk ⟨hv.later (below_a _), built1 _ _, below_a _⟩
  have HB := Bx.mk (b_lo n)
  have HD : Bx (∀ W vp, Below w.heap.size w W → IsKey W v bs → Parts W vp [by1 n] → Calls Tryz.prog 40 #[v, .string ⟨l.toArray⟩, vp] W fun e w' => ∃ v', e = .returned v' ∧ KeyO w' W.heap.size v' (numK bs l n) ∧ Below W.heap.size W w') := Bx.mk fun W vp hb hv hp => kderive_any bs l [by1 n] v vp W hv hp hk hl (by simp) (by intro p hp; simp at hp; subst hp; simp [by1]) (hTab.later hb hg) (Nat.lt_of_lt_of_le hg hb.size)
  obtain ⟨p, s, rfl, -, -⟩ := hv
  generalize numK bs l n = kk at *
  generalize by1 n = bb at *
  clear hTab hg hk hl
  have hn0 : (0 : Int) ≤ (n : Int) := by omega
  have hn1 : ¬ m ≤ (n : Int) := by omega
  clear hn
  go_enter Tryz.func41, Tryz.ntmps41
  go_wp2_with fail
  rw [HB.out]
  obtain ⟨w1, hw1⟩ : ∃ w1, w.alloc (.cells #[.int .u8 (ub (UInt8.ofNat (n % 256)))] 5) = w1 := ⟨_, rfl⟩
  have hs1 : w1.heap.size = w.heap.size + 1 := by rw [← hw1]; simp
  rw [hw1] at H1 ⊢
  clear hw1 HB
  have H2 := Bx.mk (And.intro (H1.out.1.later (below_a (.cells #[.slice (some ⟨w.heap.size, 0, none⟩) 1 1] 22))) (And.intro (parts1 H1.out.2.1 22) (H1.out.2.2.alloc H1.out.2.2.size (.cells #[.slice (some ⟨w.heap.size, 0, none⟩) 1 1] 22))))
  rw [hs1] at H2
  clear hs1
  generalize w1.alloc (.cells #[.slice (some ⟨w.heap.size, 0, none⟩) 1 1] 22) = w2 at *
  refine (HD.out w2 _ H2.out.2.2 H2.out.1 H2.out.2.1).mono ?_
  rintro e w3 ⟨v3, rfl, hk3, hb3⟩
  have H3 := Bx.mk (And.intro (hk3.weak H2.out.2.2.size) (H2.out.2.2.trans (hb3.mono H2.out.2.2.size)))
  clear hk3 hb3 H2 H1
  go_wp2
  go_ret2
  exact ⟨_, rfl, H3.out⟩
set_option maxRecDepth 100000 in
theorem sen_bad (p : Nat) (n : Int) (w : World) (h : n < 1 ∨ 65535 < n) : Calls Tryz.prog 24 #[.pointer (some ⟨p, 0, none⟩), .int .i64 n] w fun e w' => e = .returned (.tuple #[.pointer none, .int .i64 10]) ∧ w = w' := by
  by_cases h0 : n < 1
  · clear h
    go_enter Tryz.func24, Tryz.ntmps24
    go_wp2
    go_ret2
    exact ⟨rfl, rfl⟩
  · have h1 : 65535 < n := by omega
    clear h
    go_enter Tryz.func24, Tryz.ntmps24
    go_wp2
    go_ret2
    exact ⟨rfl, rfl⟩
set_option maxRecDepth 100000 in
set_option maxHeartbeats 1000000 in
theorem sen_ok (bs : List UInt8) (n : Nat) (v : Value) (w : World) (hv : IsKey w v bs) (hk : bs.length ≤ 1000000) (h1 : 1 ≤ n) (h2 : n ≤ 65535) (hTab : Tab w) (hg : 0 < w.heap.size) :
    Calls Tryz.prog 24 #[v, .int .i64 (n : Int)] w fun e w' => ∃ v', e = .returned (.tuple #[v', .int .i64 0]) ∧ KeyO w' w.heap.size v' (senK bs n) ∧ Below w.heap.size w w' := by
  have H1 : Bx (IsKey (w.alloc (.cells #[.int .u8 (ub (UInt8.ofNat (n / 256 % 256))), .int .u8 (ub (UInt8.ofNat (n % 256)))] 5)) v bs ∧ Bytes (w.alloc (.cells #[.int .u8 (ub (UInt8.ofNat (n / 256 % 256))), .int .u8 (ub (UInt8.ofNat (n % 256)))] 5)) (.slice (some ⟨w.heap.size, 0, none⟩) 2 2) (by2 n) ∧ Below w.heap.size w (w.alloc (.cells #[.int .u8 (ub (UInt8.ofNat (n / 256 % 256))), .int .u8 (ub (UInt8.ofNat (n % 256)))] 5))) := Bx.mk ⟨hv.later (below_a _), built w [_, _], below_a _⟩
  have HB := Bx.mk (And.intro (b_lo n) (b_hi n h2))
  have HD : Bx (∀ W vp, Below w.heap.size w W → IsKey W v bs → Parts W vp [by2 n] → Calls Tryz.prog 40 #[v, .string ⟨senL.toArray⟩, vp] W fun e w' => ∃ v', e = .returned v' ∧ KeyO w' W.heap.size v' (senK bs n) ∧ Below W.heap.size W w') := Bx.mk fun W vp hb hv hp => kderive_any bs senL [by2 n] v vp W hv hp hk (by decide) (by simp) (by intro p hp; simp at hp; subst hp; simp [by2]) (hTab.later hb hg) (Nat.lt_of_lt_of_le hg hb.size)
  unfold senL at HD
  simp only [List.toArray] at HD
  obtain ⟨p, s, rfl, -, -⟩ := hv
  generalize senK bs n = kk at *
  generalize by2 n = bb at *
  clear hTab hg hk
  have hn1 : ¬ (n : Int) < 1 := by omega
  have hn2 : ¬ 65535 < (n : Int) := by omega
  have hn0 : (0 : Int) ≤ (n : Int) := by omega
  clear h1 h2
  go_enter Tryz.func24, Tryz.ntmps24
  go_wp2_with fail
  rw [HB.out.1, HB.out.2]
  obtain ⟨w1, hw1⟩ : ∃ w1, w.alloc (.cells #[.int .u8 (ub (UInt8.ofNat (n / 256 % 256))), .int .u8 (ub (UInt8.ofNat (n % 256)))] 5) = w1 := ⟨_, rfl⟩
  have hs1 : w1.heap.size = w.heap.size + 1 := by rw [← hw1]; simp
  rw [hw1] at H1 ⊢
  clear hw1 HB
  have H2 := Bx.mk (And.intro (H1.out.1.later (below_a (.cells #[.slice (some ⟨w.heap.size, 0, none⟩) 2 2] 22))) (And.intro (parts1 H1.out.2.1 22) (H1.out.2.2.alloc H1.out.2.2.size (.cells #[.slice (some ⟨w.heap.size, 0, none⟩) 2 2] 22))))
  rw [hs1] at H2
  clear hs1
  generalize w1.alloc (.cells #[.slice (some ⟨w.heap.size, 0, none⟩) 2 2] 22) = w2 at *
  refine (HD.out w2 _ H2.out.2.2 H2.out.1 H2.out.2.1).mono ?_
  rintro e w3 ⟨v3, rfl, hk3, hb3⟩
  have H3 := Bx.mk (And.intro (hk3.weak H2.out.2.2.size) (H2.out.2.2.trans (hb3.mono H2.out.2.2.size)))
  clear hk3 hb3 H2 H1
  go_wp2
  go_ret2
  exact ⟨_, rfl, H3.out⟩
set_option maxRecDepth 100000 in
theorem see_bad (p : Nat) (n : Int) (w : World) (h : n < 0 ∨ 4 ≤ n) : Calls Tryz.prog 27 #[.pointer (some ⟨p, 0, none⟩), .int .i64 n] w fun e w' => e = .returned (.tuple #[.pointer none, .int .i64 10]) ∧ w = w' := by
  have H := Bx.mk h
  clear h
  go_enter Tryz.func27, Tryz.ntmps27
  go_wp2_with fail
  refine (numb_bad _ _ _ _ _ H.out).mono ?_
  rintro e w1 ⟨rfl, rfl⟩
  go_wp2
  go_ret2
  exact ⟨rfl, rfl⟩
set_option maxRecDepth 100000 in
theorem see_ok (bs : List UInt8) (n : Nat) (v : Value) (w : World) (hv : IsKey w v bs) (hk : bs.length ≤ 1000000) (hn : n < 4) (hTab : Tab w) (hg : 0 < w.heap.size) :
    Calls Tryz.prog 27 #[v, .int .i64 (n : Int)] w fun e w' => ∃ v', e = .returned (.tuple #[v', .int .i64 0]) ∧ KeyO w' w.heap.size v' (numK bs seeL n) ∧ Below w.heap.size w w' := by
  have H := Bx.mk (numb_ok bs seeL n 4 v w hv hk (by decide) (by omega) hTab hg)
  unfold seeL at H ⊢
  simp only [List.toArray] at H
  obtain ⟨p, s, rfl, -, -⟩ := hv
  clear hTab hg hk hn
  go_enter Tryz.func27, Tryz.ntmps27
  go_wp2_with fail
  refine H.out.mono ?_
  rintro e w1 ⟨v1, rfl, hk1, hb1⟩
  have H1 := Bx.mk (And.intro hk1 hb1)
  clear hk1 hb1 H
  go_wp2
  go_ret2
  exact ⟨_, rfl, H1.out⟩
set_option maxRecDepth 100000 in
set_option maxHeartbeats 1000000 in
theorem gra_ok (bs : List UInt8) (c : Cl) (n : Nat) (v : Value) (w : World) (hv : IsKey w v bs) (hk : bs.length ≤ 1000000) (hc : okC c = true) (h1 : 1 ≤ n) (h2 : n ≤ 65535) (hTab : Tab w) (hg : 0 < w.heap.size) :
    Calls Tryz.prog 42 #[v, clV c, .int .i64 (n : Int)] w fun e w' => ∃ v', e = .returned (.tuple #[v', .int .i64 0]) ∧ KeyO w' w.heap.size v' (senK (secK bs c) n) ∧ Below w.heap.size w w' := by
  obtain ⟨zc, hzc⟩ : ∃ zc, tkC c0 z32 = zc := ⟨_, rfl⟩
  have hzv : ∀ W : World, (zeroValue 29).run Tryz.prog W = .ok (.agg zc) W := fun W => by rw [← hzc]; exact tk_zero W
  have HL : Bx (∀ W vk, Below w.heap.size w W → IsKey W vk (secK bs c) → Calls Tryz.prog 24 #[vk, .int .i64 (n : Int)] W fun e w' => ∃ v', e = .returned (.tuple #[v', .int .i64 0]) ∧ KeyO w' W.heap.size v' (senK (secK bs c) n) ∧ Below W.heap.size W w') := Bx.mk fun W vk hb hv => sen_ok (secK bs c) n vk W hv (by rw [secK_length]; omega) h1 h2 (hTab.later hb hg) (Nat.lt_of_lt_of_le hg hb.size)
  have HM : Bx (∀ W, Below w.heap.size w W → Calls Tryz.prog 29 #[v, clV c] W fun e w' => e = .returned (.tuple #[.agg (tkC c (secK bs c)), .int .i64 0]) ∧ Below W.heap.size W w') := Bx.mk fun W hb => mk_ok bs c v W (hv.later hb) hk hc (hTab.later hb hg) (Nat.lt_of_lt_of_le hg hb.size)
  have HT := Bx.mk fun (W : World) => tkey_any c (secK bs c) W (secK_length _ _)
  have HS := secK_length bs c
  generalize senK (secK bs c) n = kk at *
  generalize secK bs c = sk at *
  obtain ⟨kl, hkl⟩ : ∃ kl : List Value, tkC c sk = kl.toArray := ⟨_, rfl⟩
  have HI : Bx ((Tryz.prog.info? 29).map (·.size) = some kl.toArray.size ∧ kl.toArray.all (·.oneCell') = true ∧ kl.toArray.size = zc.size ∧ (Tryz.prog.info? 29).map (·.size) = some kl.length) := Bx.mk (by rw [show kl.length = kl.toArray.size from rfl, ← hkl, ← hzc]; exact ⟨tk_info _ _ HS, tkC_one _ _, by rw [tkC_size _ _ HS, tkC_size _ _ rfl], tk_info _ _ HS⟩)
  unfold tkV at HT
  rw [hkl] at HM HT
  obtain ⟨p, s, rfl, -, -⟩ := hv
  clear hzc hkl hc hk HS hTab hg h1 h2
  obtain ⟨i, r, x, q⟩ := c
  unfold clV at *
  simp only at HM ⊢
  obtain ⟨B, hB⟩ : ∃ B, w.heap.size = B := ⟨_, rfl⟩
  have H0 := Bx.mk ((KS.start w B hB).new (.cells #[.int .i64 i, .int .i64 r, .int .i64 x, .int .i64 q] 26))
  rw [hB] at H0 HM HL ⊢
  go_enter Tryz.func42, Tryz.ntmps42
  go_wp2_with fail
  generalize w.alloc (.cells #[.int .i64 i, .int .i64 r, .int .i64 x, .int .i64 q] 26) = w0 at *
  refine (HM.out w0 H0.out.below).mono ?_
  rintro e w1 ⟨rfl, hb⟩
  have H1 := Bx.mk (H0.out.later hb)
  clear hb H0
  obtain ⟨D, hD⟩ : ∃ D, w1.heap.size = D := ⟨_, rfl⟩
  have H2 := Bx.mk (And.intro (H1.out.new (.cells zc 29)) (And.intro (show B ≤ D from by rw [← hD]; exact H1.out.le) (show B < D from by rw [← hD]; exact H1.out.lt (.head _))))
  rw [hD] at H2
  clear H1
  go_upto_region 2 with (refine wpList_store_new rfl 29 _ _ rfl D kl.toArray zc _ (by rfl) (by rfl) (H2.out.1.rows _ (.head _)) HI.out.2.2.1 HI.out.1 HI.out.2.1 ?_; intro w3 hw8 hr8; have hg8 := Bx.mk (kb_of hw8); have HR8 := Bx.mk hr8; clear hw8 hr8)
  have H3 := Bx.mk (H2.out.1.set hg8.out HR8.out H2.out.2.1 (by intro y hy; have := H2.out.2.2; simp at hy; rcases hy with rfl; simp only; omega))
  clear H2 hg8 HR8 hD
  go_wp2_with (refine wpList_load_mid rfl 29 _ rfl D 0 (by rfl) kl _ (fun j u hj => by show w3.cell? ⟨D, 0 + j, none⟩ = some u; rw [cell_of_row _ _ _ _ _ _ (H3.out.rows _ (.head _)), Nat.zero_add]; simpa using hj) Tryz.underlying29 rfl HI.out.2.2.2 ?_)
  refine (HT.out w3).mono ?_
  rintro e w4 ⟨v4, rfl, hk4, hb⟩
  have H4 := Bx.mk (And.intro (H3.out.later hb) hk4.key)
  clear hb hk4 H3
  obtain ⟨p4, s4, hv4, -, -⟩ := H4.out.2
  subst hv4
  go_wp2_with fail
  refine (HL.out w4 _ H4.out.1.below H4.out.2).mono ?_
  rintro e w5 ⟨v5, rfl, hk5, hb⟩
  have H5 := Bx.mk (And.intro (hk5.weak H4.out.1.le) (H4.out.1.later hb).below)
  clear hk5 hb H4
  go_wp2
  go_ret2
  exact ⟨_, rfl, H5.out⟩
end Go.Proofs.YtnefpjdjnjcmbaaGreatDoor
namespace Go.Proofs.YtnefpjdjnjcmbaaGreatDoor
open Go Go.RowKit
/-- The cells of a mint that issued these claims, with a key's pointer. -/
def MtC (l : List Cl) (v : Value) (ms : Array Value) : Prop :=
  ms.size = 1026 ∧ ms[1024]? = some (.int .i64 (l.length : Int)) ∧ ms[1025]? = some v ∧ ∀ k, k < l.length → ∀ j u, (clC (l.getD k c0)).toList[j]? = some u → ms[4 * k + j]? = some u
end Go.Proofs.YtnefpjdjnjcmbaaGreatDoor
namespace Go.Proofs.YtnefpjdjnjcmbaaGreatDoor
open Go Go.RowKit
end Go.Proofs.YtnefpjdjnjcmbaaGreatDoor
namespace Go.Proofs.YtnefpjdjnjcmbaaGreatDoor
open Go Go.RowKit
theorem MtC.add {l : List Cl} {v : Value} {ms : Array Value} (h : MtC l v ms) (c : Cl) (hl : l.length < 256) : MtC (l ++ [c]) v ((spl ms (l.length * 4) (clC c).toList).setIfInBounds 1024 (.int .i64 ((l.length : Int) + 1))) := by
  obtain ⟨h1, h2, h3, h4⟩ := h
  have hcl : (clC c).toList.length = 4 := rfl
  refine ⟨by rw [Array.size_setIfInBounds, spl_size, h1], ?_, ?_, fun k hk j u hj => ?_⟩
  · rw [Array.getElem?_setIfInBounds_self, if_pos (by rw [spl_size, h1]; omega)]
    simp
  · rw [Array.getElem?_setIfInBounds_ne (by omega), spl_get, if_neg (by omega)]
    exact h3
  · have hj4 : j < 4 := by have := (List.getElem?_eq_some_iff.1 hj).1; exact this
    rw [List.length_append, List.length_singleton] at hk
    rw [Array.getElem?_setIfInBounds_ne (by omega), spl_get]
    by_cases hlt : k < l.length
    · rw [if_neg (by omega)]
      rw [show (l ++ [c]).getD k c0 = l.getD k c0 by simp [List.getElem?_append_left hlt]] at hj
      exact h4 k hlt j u hj
    · obtain rfl : k = l.length := by omega
      rw [if_pos (by rw [hcl, h1]; omega), show 4 * l.length + j - l.length * 4 = j by omega]
      rw [show (l ++ [c]).getD l.length c0 = c by simp] at hj
      exact hj
end Go.Proofs.YtnefpjdjnjcmbaaGreatDoor
namespace Go.Proofs.YtnefpjdjnjcmbaaGreatDoor
open Go Go.RowKit
theorem Tab.grown {w w1 : World} {M : Nat} (h : Tab w) (hg : w.grownBy w1 (some M)) (hlt : 0 < w.heap.size) (hne : 0 ≠ M) : Tab w1 := fun i hi => by
  rw [World.cell?_of_block (hg.block 0 hlt (fun e => hne (by injection e)))]
  exact h i hi
end Go.Proofs.YtnefpjdjnjcmbaaGreatDoor
namespace Go.Proofs.YtnefpjdjnjcmbaaGreatDoor
open Go Go.RowKit
end Go.Proofs.YtnefpjdjnjcmbaaGreatDoor
namespace Go.Proofs.YtnefpjdjnjcmbaaGreatDoor
open Go Go.RowKit
end Go.Proofs.YtnefpjdjnjcmbaaGreatDoor
namespace Go.Proofs.YtnefpjdjnjcmbaaGreatDoor
open Go Go.RowKit
/-- The number that bytes say, the highest first. -/
def valN (l : List UInt8) : Nat := l.foldl (fun a x => a * 256 + x.toNat) 0
end Go.Proofs.YtnefpjdjnjcmbaaGreatDoor
namespace Go.Proofs.YtnefpjdjnjcmbaaGreatDoor
open Go Go.RowKit
end Go.Proofs.YtnefpjdjnjcmbaaGreatDoor
namespace Go.Proofs.YtnefpjdjnjcmbaaGreatDoor
open Go Go.RowKit
end Go.Proofs.YtnefpjdjnjcmbaaGreatDoor
namespace Go.Proofs.YtnefpjdjnjcmbaaGreatDoor
open Go Go.RowKit
end Go.Proofs.YtnefpjdjnjcmbaaGreatDoor
namespace Go.Proofs.YtnefpjdjnjcmbaaGreatDoor
open Go Go.RowKit
end Go.Proofs.YtnefpjdjnjcmbaaGreatDoor
namespace Go.Proofs.YtnefpjdjnjcmbaaGreatDoor
open Go Go.RowKit
/-- The numbers that nine bytes are. -/
def c9 (b : List UInt8) : Cl := ⟨(valN (b.take 2) : Int), (valN ((b.drop 2).take 1) : Int), (valN ((b.drop 3).take 4) : Int), (valN ((b.drop 7).take 2) : Int)⟩
end Go.Proofs.YtnefpjdjnjcmbaaGreatDoor
namespace Go.Proofs.YtnefpjdjnjcmbaaGreatDoor
open Go Go.RowKit
end Go.Proofs.YtnefpjdjnjcmbaaGreatDoor
namespace Go.Proofs.YtnefpjdjnjcmbaaGreatDoor
open Go Go.RowKit
theorem cutB (a : Option Addr) (n cap m : Nat) (hm : m ≤ n) (_ : n ≤ cap) (W : World) : (Instr.slice 22 (.slice a n cap) (some (.int .i64 (m : Int))) none none).run Tryz.prog W = .ok (.slice (if cap = m then a else a.map (·.add m)) (n - m) (cap - m)) W := by
  have he : Tryz.prog.elem 22 = 5 := by kernel_rfl
  have hs : ((sizeOf 5).run Tryz.prog W) = .ok 1 W := by kernel_rfl
  rw [run_slice_l W 22 a n cap (by rw [he]; exact Tryz.underlying22) .i64 (m : Int) (by omega) (by omega), he, hs]
  simp only [Result.andThen, sliced, Int.toNat_natCast, Nat.mul_one]
theorem Bytes.nowhere {w : World} {v : Value} {l : List UInt8} (h : Bytes w v l) : BytesN w w.heap.size v l := by
  refine ⟨h, fun h0 e => ?_⟩
  obtain ⟨a, cap, rfl, -, -, hr⟩ := h
  obtain ⟨c, o, rfl, hc⟩ := hr h0
  injection e with e
  simp only at e
  have := World.block_lt_of_cell? _ _ (hc 0 h0)
  simp only at this
  omega
/-- What is left of bytes: as a slice, and that it is cut so. -/
theorem cut_rest (l : List UInt8) (a : Option Addr) (n cap m n1 : Nat) (w : World) (h : Bytes w (.slice a n cap) l) (hm : m ≤ n) (h1 : n1 = n - m) :
    ∃ a1 c1, (∀ W, (Instr.slice 22 (.slice a n cap) (some (.int .i64 (m : Int))) none none).run Tryz.prog W = .ok (.slice a1 n1 c1) W) ∧ Bytes w (.slice a1 n1 c1) (l.drop m) := by
  subst h1
  exact ⟨_, _, fun W => cutB a n cap m hm (BytesN.cap h.nowhere).1 W, (h.nowhere.drop m hm).1⟩
/-- What stays while the document's claims are read. -/
structure PS (w : World) (D : Nat) (cs : Array Value) (W : World) : Prop where
  res : W.heap[D]? = some (.cells #[.int .i64 0, .int .i64 0, .int .i64 0, .int .i64 0] 24 (0, 0))
  arr : W.heap[D + 1]? = some (.cells cs 99 (0, 0))
  siz : W.heap[D + 2]? = some (.cells #[.int .i64 1, .int .i64 0, .int .i64 2, .int .i64 1] 99 (0, 0))
  below : Below D w W
theorem PS.lt {w : World} {D : Nat} {cs : Array Value} {W : World} (h : PS w D cs W) : D + 2 < W.heap.size := (Array.getElem?_eq_some_iff.1 h.siz).1
theorem PS.later {w : World} {D : Nat} {cs : Array Value} {W W1 : World} (h : PS w D cs W) (hb : Below W.heap.size W W1) : PS w D cs W1 :=
  have h0 := h.lt
  ⟨by rw [hb.block D (by omega)]; exact h.res, by rw [hb.block (D + 1) (by omega)]; exact h.arr, by rw [hb.block (D + 2) h0]; exact h.siz, h.below.trans (hb.mono (by omega))⟩
theorem PS.set {w : World} {D : Nat} {cs : Array Value} {W : World} (h : PS w D cs W) (i : Nat) (v : Value) : PS w D (cs.setIfInBounds i v) (W.setCell ⟨D + 1, i, none⟩ v) :=
  have hg := kb_set1 W (D + 1) i v
  have h0 := h.lt
  ⟨by rw [hg.block D (by omega) (fun e => by injection e with e; omega)]; exact h.res, by rw [heap_setCell_same _ _ _ _ _ _ h.arr], by rw [hg.block (D + 2) h0 (fun e => by injection e with e; omega)]; exact h.siz, h.below.setCell (by show D ≤ D + 1; omega) _⟩
end Go.Proofs.YtnefpjdjnjcmbaaGreatDoor
namespace Go.Proofs.YtnefpjdjnjcmbaaGreatDoor
open Go Go.RowKit
/-- A value whose bytes stay while parts are gathered in block G. -/
def SV (w0 : World) (G : Nat) (W : World) (x : Value) (q : List UInt8) : Prop := BN w0 G x q ∨ ∃ b, OwnB W b x q
/-- Parts being gathered in the variable of block G. -/
structure GS (w0 : World) (G : Nat) (qs : List (List UInt8)) (v : Value) (xs : List Value) (W : World) : Prop where
  grown : w0.grownBy W (some G)
  lt : G < w0.heap.size
  row : W.heap[G]? = some (.cells #[v] 108 (0, 0))
  own : OwnP W w0.heap.size v xs
  len : xs.length = qs.length
  vals : ∀ j, j < xs.length → SV w0 G W (xs.getD j undef) (qs.getD j [])
theorem own_neG {w : World} {b G : Nat} {v x : Value} {l : List UInt8} (h : OwnB w b x l) (hG : w.heap[G]? = some (.cells #[v] 108 (0, 0))) : ∀ g, some G = some g → x.ownBlock ≠ some g := by
  intro g hg hx
  injection hg with hg
  subst hg
  rcases h.2 with ⟨rfl, _⟩ | ⟨g1, cap, cur, rfl, _, hh, _⟩
  · cases hx
  · injection hx with hx
    simp only at hx
    subst hx
    rw [hh] at hG
    injection hG with e
    injection e with _ e2
    exact absurd e2 (by decide)
theorem ownP_neG {w : World} {b G : Nat} {v x : Value} {xs : List Value} (h : OwnP w b x xs) (hG : w.heap[G]? = some (.cells #[v] 108 (0, 0))) : ∀ g, some G = some g → x.ownBlock ≠ some g := by
  intro g hg hx
  injection hg with hg
  subst hg
  rcases h.2 with ⟨rfl, _⟩ | ⟨g1, cap, cur, rfl, _, hh, _⟩
  · cases hx
  · injection hx with hx
    simp only at hx
    subst hx
    rw [hh] at hG
    injection hG with e
    injection e with _ e2
    exact absurd e2 (by decide)
theorem SV.grown {w0 : World} {G : Nat} {W W1 : World} {x : Value} {q : List UInt8} (h : SV w0 G W x q) {row : Option Nat} (hg : W.grownBy W1 row) (hne : ∀ b, OwnB W b x q → ∀ g, row = some g → x.ownBlock ≠ some g) : SV w0 G W1 x q := by
  rcases h with h | ⟨b, h⟩
  · exact .inl h
  · exact .inr ⟨b, h.grown hg (hne b h)⟩
theorem SV.below {w0 : World} {G : Nat} {W W1 : World} {x : Value} {q : List UInt8} (h : SV w0 G W x q) (hb : Below W.heap.size W W1) : SV w0 G W1 x q := by
  rcases h with h | ⟨b, h⟩
  · exact .inl h
  · exact .inr ⟨b, h.later hb (fun g hg => (h.lt g hg).1)⟩
theorem SV.bytes {w0 : World} {G : Nat} {W : World} {x : Value} {q : List UInt8} (h : SV w0 G W x q) (hg : w0.grownBy W (some G)) : Bytes W x q := by
  rcases h with h | ⟨b, h⟩
  · exact (h.later hg).1
  · exact h.bytes
theorem GS.later {w0 : World} {G : Nat} {qs : List (List UInt8)} {v : Value} {xs : List Value} {W W1 : World} (h : GS w0 G qs v xs W) (hb : Below W.heap.size W W1) : GS w0 G qs v xs W1 :=
  ⟨kb_trans h.grown (kb_below _ hb), h.lt, by rw [hb.block _ (Array.getElem?_eq_some_iff.1 h.row).1]; exact h.row, h.own.later hb (fun g hg => (h.own.lt g hg).1), h.len, fun j hj => (h.vals j hj).below hb⟩
/-- Two more values behind those gathered; the variable is yet to be set. -/
structure GA (w0 : World) (G : Nat) (qs : List (List UInt8)) (v v1 : Value) (xs : List Value) (W : World) : Prop where
  grown : w0.grownBy W (some G)
  lt : G < w0.heap.size
  row : W.heap[G]? = some (.cells #[v] 108 (0, 0))
  own : OwnP W w0.heap.size v1 xs
  len : xs.length = qs.length
  vals : ∀ j, j < xs.length → SV w0 G W (xs.getD j undef) (qs.getD j [])
theorem GS.more {w0 : World} {G : Nat} {qs : List (List UInt8)} {v v1 : Value} {xs : List Value} {W W1 : World} (h : GS w0 G qs v xs W) {y z : Value} {p r : List UInt8} (hy : SV w0 G W y p) (hz : SV w0 G W z r) (ho : OwnP W1 w0.heap.size v1 (xs ++ [y, z])) (hg : W.grownBy W1 v.ownBlock) : GA w0 G (qs ++ [p, r]) v v1 (xs ++ [y, z]) W1 := by
  have hk : ∀ b (x : Value) (q : List UInt8), OwnB W b x q → ∀ g, v.ownBlock = some g → x.ownBlock ≠ some g := fun b x q hx => own_ne h.own hx
  have hb : Below w0.heap.size W W1 := ⟨hg.os, hg.tape, hg.output, hg.size, fun i hi => hg.block i (Nat.lt_of_lt_of_le hi h.grown.size) (fun e => by have := (h.own.lt i e.symm).2; omega)⟩
  refine ⟨⟨by rw [hb.os]; exact h.grown.os, by rw [hb.tape]; exact h.grown.tape, by rw [hb.output]; exact h.grown.output, Nat.le_trans h.grown.size hb.size, fun i hi hne => by rw [hb.block i hi]; exact h.grown.block i hi hne⟩, h.lt, by rw [hb.block G h.lt]; exact h.row, ho, by simp [h.len], fun j hj => ?_⟩
  rw [List.length_append] at hj
  by_cases hlt : j < xs.length
  · have e1 : (xs ++ [y, z]).getD j undef = xs.getD j undef := by simp [List.getElem?_append_left hlt]
    have e2 : (qs ++ [p, r]).getD j [] = qs.getD j [] := by simp [List.getElem?_append_left (h.len ▸ hlt)]
    rw [e1, e2]
    exact (h.vals j hlt).grown hg (fun b hb => hk b _ _ hb)
  · simp only [List.length_cons, List.length_nil] at hj
    rcases (show j = xs.length ∨ j = xs.length + 1 by omega) with rfl | rfl
    · have e1 : (xs ++ [y, z]).getD xs.length undef = y := by simp
      have e2 : (qs ++ [p, r]).getD xs.length [] = p := by rw [h.len]; simp
      rw [e1, e2]
      exact hy.grown hg (fun b hb => hk b _ _ hb)
    · have e1 : (xs ++ [y, z]).getD (xs.length + 1) undef = z := by simp
      have e2 : (qs ++ [p, r]).getD (xs.length + 1) [] = r := by rw [h.len]; simp
      rw [e1, e2]
      exact hz.grown hg (fun b hb => hk b _ _ hb)
theorem GA.set {w0 : World} {G : Nat} {qs : List (List UInt8)} {v v1 : Value} {xs : List Value} {W : World} (h : GA w0 G qs v v1 xs W) : GS w0 G qs v1 xs (W.setCell ⟨G, 0, none⟩ v1) := by
  have hg : W.grownBy (W.setCell ⟨G, 0, none⟩ v1) (some G) := kb_setCell W 0 v1
  exact ⟨kb_trans h.grown hg, h.lt, by have := heap_setCell_same W G 0 _ _ v1 h.row; simpa using this, h.own.grown hg (ownP_neG h.own h.row), h.len, fun j hj => (h.vals j hj).grown hg (fun b hb => own_neG hb h.row)⟩
theorem GS.cell {w0 : World} {G : Nat} {qs : List (List UInt8)} {v : Value} {xs : List Value} {W : World} (h : GS w0 G qs v xs W) : W.cell? ⟨G, 0, none⟩ = some v := by rw [cell_of_row _ _ _ _ _ _ h.row]; rfl
theorem SV.one {w0 : World} {G : Nat} {W : World} {x : Value} {q : List UInt8} (h : SV w0 G W x q) : ∃ a n c, x = .slice a n c := by
  rcases h with h | ⟨b, h⟩
  · obtain ⟨a, c, hx, _⟩ := h.1
    exact ⟨a, _, c, hx⟩
  · obtain ⟨a, c, hx, _⟩ := h.bytes
    exact ⟨a, _, c, hx⟩
end Go.Proofs.YtnefpjdjnjcmbaaGreatDoor
namespace Go.Proofs.YtnefpjdjnjcmbaaGreatDoor
open Go Go.RowKit
theorem GS.parts {w0 : World} {G : Nat} {qs : List (List UInt8)} {v : Value} {xs : List Value} {W : World} (h : GS w0 G qs v xs W) : Parts W v qs := by
  have hb : ∀ j, j < xs.length → Bytes W (xs.getD j undef) (qs.getD j []) := fun j hj => (h.vals j hj).bytes h.grown
  rcases h.own.2 with ⟨hn, h0⟩ | ⟨g, cap, cur, hv, _, hg, hc1, hc2, hc3, hc4⟩
  · have : qs = [] := List.length_eq_zero_iff.1 (by rw [← h.len]; exact h0)
    subst this
    exact ⟨none, 0, hn, fun e => by simp at e⟩
  · refine ⟨_, cap, by rw [← h.len]; exact hv, fun _ => ⟨g, 0, rfl, fun j hj => ?_⟩⟩
    rw [← h.len] at hj
    refine ⟨xs.getD j undef, ?_, hb j hj⟩
    rw [cell_of_row _ _ _ _ _ _ hg, Nat.zero_add, ← Array.getElem?_toList]
    have h1 : (cur.toList.take (xs.length * 1))[j]? = xs[j]? := by rw [hc4]
    rw [List.getElem?_take_of_lt (by omega)] at h1
    rw [h1]
    simp [hj]
theorem GS.start {w : World} {G : Nat} (hG : w.heap[G]? = some (.cells #[.slice none 0 0] 108 (0, 0))) : GS w G [] (.slice none 0 0) [] w :=
  ⟨kb_refl _ _, (Array.getElem?_eq_some_iff.1 hG).1, hG, ⟨rfl, .inl ⟨rfl, rfl⟩⟩, rfl, fun j hj => by simp at hj⟩
theorem KS.grown {w : World} {B Y : Nat} {rs : List (Nat × Obj)} {W W1 : World} (h : KS w B rs W) (hg : W.grownBy W1 (some Y)) (hB : B ≤ Y) (hn : ∀ x ∈ rs, x.1 ≠ Y) : KS w B rs W1 :=
  ⟨fun x hx => by rw [hg.block x.1 (h.lt hx) (fun e => hn x hx (by injection e))]; exact h.rows x hx, h.below.trans (grown_below hg hB h.le), Nat.le_trans h.le hg.size⟩
end Go.Proofs.YtnefpjdjnjcmbaaGreatDoor
namespace Go.Proofs.YtnefpjdjnjcmbaaGreatDoor
open Go Go.RowKit
end Go.Proofs.YtnefpjdjnjcmbaaGreatDoor
namespace Go.Proofs.YtnefpjdjnjcmbaaGreatDoor
open Go Go.RowKit
end Go.Proofs.YtnefpjdjnjcmbaaGreatDoor
namespace Go.Proofs.YtnefpjdjnjcmbaaGreatDoor
open Go Go.RowKit
end Go.Proofs.YtnefpjdjnjcmbaaGreatDoor
namespace Go.Proofs.YtnefpjdjnjcmbaaGreatDoor
open Go Go.RowKit
theorem row_rng {W : World} {g : Nat} {l : List Value} {t : TypeId} (h : W.heap[g]? = some (.cells l.toArray t (0, 0))) : W.rangeAt g 0 l := by
  intro j u hj
  show W.cell? ⟨g, 0 + j, none⟩ = some u
  rw [cell_of_row _ _ _ _ _ _ h, Nat.zero_add]
  simpa using hj
end Go.Proofs.YtnefpjdjnjcmbaaGreatDoor
namespace Go.Proofs.YtnefpjdjnjcmbaaGreatDoor
open Go Go.RowKit
theorem self_cl (d : Nat) (T : TypeId) (hT : T = 26 ∨ T = 24) (c : Cl) (W : World) : (Op.equalIn (d + 2) T (.agg (clC c)) (.agg (clC c))).run Tryz.prog W = .ok true W := by
  unfold clC
  rcases hT with rfl | rfl
  · go_simp
  · go_simp
theorem self_cl_neq (T : TypeId) (hT : T = 26 ∨ T = 24) (c : Cl) (W : World) : (binOp .neq T (.agg (clC c)) (.agg (clC c))).run Tryz.prog W = .ok (.bool false) W := by
  rw [run_neq_struct, self_cl 9998 T hT c W]
  rfl
theorem sec_size1 (W : World) : (sizeOf 5).run Tryz.prog W = .ok 1 W := by kernel_rfl
theorem tk_left (c : Cl) (s : List UInt8) : (tkC c s).extract 0 4 = clC c := by
  apply Array.ext'
  rw [Array.toList_extract, tkC_list]
  simp [List.extract, clC]
theorem tk_right (c : Cl) (s : List UInt8) (h : s.length = 32) : (tkC c s).extract 4 36 = u8s s := by
  have h32 : (u8s s).toList.length = 32 := by rw [Array.length_toList, u8s_size, h]
  apply Array.ext'
  rw [Array.toList_extract, tkC_list, List.extract]
  rw [List.drop_append_of_le_length (by simp [clC])]
  rw [show List.drop 4 (clC c).toList = [] from rfl, List.nil_append, List.take_of_length_le (by rw [h32]; omega)]
theorem part_cl (c : Cl) (s : List UInt8) (W : World) : (part 26 (tkC c s) 0).run Tryz.prog W = .ok (.agg (clC c)) W := by
  have h1 : (isAgg 26).run Tryz.prog W = .ok true W := by kernel_rfl
  have h2 : (sizeOf 26).run Tryz.prog W = .ok 4 W := by kernel_rfl
  unfold part
  simp only [Sem.run_bind, h1, Result.andThen_ok, if_true, h2, Sem.run_pure, Nat.zero_add, tk_left]
theorem part_sec (c : Cl) (s : List UInt8) (h : s.length = 32) (W : World) : (part 27 (tkC c s) 4).run Tryz.prog W = .ok (.agg (u8s s)) W := by
  have h1 : (isAgg 27).run Tryz.prog W = .ok true W := by kernel_rfl
  have h2 : (sizeOf 27).run Tryz.prog W = .ok 32 W := by kernel_rfl
  unfold part
  simp only [Sem.run_bind, h1, Result.andThen_ok, if_true, h2, Sem.run_pure]
  rw [show 4 + 32 = 36 from rfl, tk_right c s h]
theorem tk_fields : ∃ f g : Field, (Tryz.prog.fieldsOf 29).toList = [f, g] ∧ f.name ≠ "_" ∧ f.type = 26 ∧ f.offset = 0 ∧ g.name ≠ "_" ∧ g.type = 27 ∧ g.offset = 4 :=
  ⟨(Tryz.prog.fieldsOf 29).toList.getD 0 default, (Tryz.prog.fieldsOf 29).toList.getD 1 default, by kernel_rfl, of_decide_eq_true (by kernel_rfl), by kernel_rfl, by kernel_rfl, of_decide_eq_true (by kernel_rfl), by kernel_rfl, by kernel_rfl⟩
theorem self_tk (c : Cl) (s : List UInt8) (h : s.length = 32) (W : World) : (Op.equalIn 10000 29 (.agg (tkC c s)) (.agg (tkC c s))).run Tryz.prog W = .ok true W := by
  rw [run_equalIn_struct W 9999 29 _ _ (by kernel_rfl) (by kernel_rfl)]
  obtain ⟨f, g, hf, n1, t1, o1, n2, t2, o2⟩ := tk_fields
  have e1 := self_cl 9997 26 (.inl rfl) c W
  have e2 := Go.run_equalIn_bytes (P := Tryz.prog) W 9997 27 5 32 Tryz.underlying27 Tryz.underlying5 sec_size1 s s h h
  rw [← u8s_cell] at e2
  rw [hf]
  simp only [Op.eqFields, n1, n2, ne_eq, not_false_eq_true, if_true, t1, o1, t2, o2, Sem.run_bind, part_cl, part_sec c s h, Result.andThen_ok, e1, e2, Bool.not_true, Bool.false_eq_true, if_false, beq_self_eq_true, Sem.run_pure]
theorem self_tk_neq (c : Cl) (s : List UInt8) (h : s.length = 32) (W : World) : (binOp .neq 29 (.agg (tkC c s)) (.agg (tkC c s))).run Tryz.prog W = .ok (.bool false) W := by
  rw [run_neq_struct, self_tk c s h W]
  rfl
end Go.Proofs.YtnefpjdjnjcmbaaGreatDoor
namespace Go.Proofs.YtnefpjdjnjcmbaaGreatDoor
open Go Go.RowKit
end Go.Proofs.YtnefpjdjnjcmbaaGreatDoor
namespace Go.Proofs.YtnefpjdjnjcmbaaGreatDoor
open Go Go.RowKit
def exK : List UInt8 := [48, 49, 50, 51, 52, 53, 54, 55, 56, 57, 97, 98, 99, 100, 101, 102]
theorem below_of {w w3 : World} {o : Obj} {E : Nat} (hE : w.heap.size = E) (hg : (w.alloc o).grownBy w3 (some E)) : Below w.heap.size w w3 := (below_a o).trans (grown_below hg (Nat.le_of_eq hE) (by rw [World.size_alloc]; omega))
theorem drewN_below (w : World) (n : Nat) : Below w.heap.size w (w.drewN n) := ⟨rfl, rfl, rfl, Nat.le_refl _, fun _ _ => rfl⟩
theorem ex_ok : okC ⟨5, 0, 0, 1⟩ = true := by decide
set_option maxRecDepth 100000 in
set_option maxHeartbeats 2000000 in
theorem known7_any (w : World) (hTab : Tab w) (hg : 0 < w.heap.size) : Calls Tryz.prog 28 #[] w fun e w' => e = .returned (.bool true) ∧ Below w.heap.size w w' := by
  have HT : Bx (∀ W, Below w.heap.size w W → Tab W ∧ 0 < W.heap.size) := Bx.mk fun W hb => ⟨hTab.later hb hg, Nat.lt_of_lt_of_le hg hb.size⟩
  obtain ⟨zc, hzc⟩ : ∃ zc, tkC c0 z32 = zc := ⟨_, rfl⟩
  have hzv : ∀ W : World, (zeroValue 29).run Tryz.prog W = .ok (.agg zc) W := fun W => by rw [← hzc]; exact tk_zero W
  have HKL : Bx (exK.length ≤ 1000000) := Bx.mk (by decide)
  have HNw : Bx (∀ (W : World) v, Bytes W v exK → Calls Tryz.prog 11 #[v] W fun e w' => ∃ v', e = .returned v' ∧ KeyO w' W.heap.size v' exK ∧ Below W.heap.size W w') := Bx.mk fun W v hv => new_any exK v W hv (by have := HKL.out; omega)
  have HMk : Bx (∀ W v, Below w.heap.size w W → IsKey W v exK → Calls Tryz.prog 29 #[v, .agg #[.int .i64 5, .int .i64 0, .int .i64 0, .int .i64 1]] W fun e w' => e = .returned (.tuple #[.agg (tkC ⟨5, 0, 0, 1⟩ (secK exK ⟨5, 0, 0, 1⟩)), .int .i64 0]) ∧ Below W.heap.size W w') := Bx.mk fun W v hb hv => mk_ok exK ⟨5, 0, 0, 1⟩ v W hv HKL.out ex_ok (HT.out W hb).1 (HT.out W hb).2
  have HGr : Bx (∀ W v, Below w.heap.size w W → IsKey W v exK → Calls Tryz.prog 42 #[v, .agg #[.int .i64 5, .int .i64 0, .int .i64 0, .int .i64 1], .int .i64 9] W fun e w' => ∃ v', e = .returned (.tuple #[v', .int .i64 0]) ∧ KeyO w' W.heap.size v' (senK (secK exK ⟨5, 0, 0, 1⟩) 9) ∧ Below W.heap.size W w') := Bx.mk fun W v hb hv => gra_ok exK ⟨5, 0, 0, 1⟩ 9 v W hv HKL.out ex_ok (by decide) (by decide) (HT.out W hb).1 (HT.out W hb).2
  have HSe : Bx (∀ W v, Below w.heap.size w W → IsKey W v (secK exK ⟨5, 0, 0, 1⟩) → Calls Tryz.prog 24 #[v, .int .i64 9] W fun e w' => ∃ v', e = .returned (.tuple #[v', .int .i64 0]) ∧ KeyO w' W.heap.size v' (senK (secK exK ⟨5, 0, 0, 1⟩) 9) ∧ Below W.heap.size W w') := Bx.mk fun W v hb hv => sen_ok _ 9 v W hv (by rw [secK_length]; decide) (by decide) (by decide) (HT.out W hb).1 (HT.out W hb).2
  have HTk := Bx.mk fun (W : World) => tkey_any ⟨5, 0, 0, 1⟩ (secK exK ⟨5, 0, 0, 1⟩) W (secK_length _ _)
  have HS := secK_length exK ⟨5, 0, 0, 1⟩
  have HK32 : Bx ((senK (secK exK ⟨5, 0, 0, 1⟩) 9).length = 32) := Bx.mk (senK_length _ _)
  have HKs : Bx ((senK (secK exK ⟨5, 0, 0, 1⟩) 9).length ≤ 140737488355328) := Bx.mk (by rw [senK_length]; decide)
  generalize senK (secK exK ⟨5, 0, 0, 1⟩) 9 = kk at *
  generalize secK exK ⟨5, 0, 0, 1⟩ = sk at *
  obtain ⟨kl, hkl⟩ : ∃ kl : List Value, tkC ⟨5, 0, 0, 1⟩ sk = kl.toArray := ⟨_, rfl⟩
  have HI : Bx ((Tryz.prog.info? 29).map (·.size) = some kl.toArray.size ∧ kl.toArray.all (·.oneCell') = true ∧ kl.toArray.size = zc.size ∧ (Tryz.prog.info? 29).map (·.size) = some kl.length) := Bx.mk (by rw [show kl.length = kl.toArray.size from rfl, ← hkl, ← hzc]; exact ⟨tk_info _ _ HS, tkC_one _ _, by rw [tkC_size _ _ HS, tkC_size _ _ rfl], tk_info _ _ HS⟩)
  unfold tkV at HTk
  rw [hkl] at HMk HTk
  have HBu : Bx (Bytes (w.alloc (.cells #[.int .u8 48, .int .u8 49, .int .u8 50, .int .u8 51, .int .u8 52, .int .u8 53, .int .u8 54, .int .u8 55, .int .u8 56, .int .u8 57, .int .u8 97, .int .u8 98, .int .u8 99, .int .u8 100, .int .u8 101, .int .u8 102] 5 (16, 17))) (.slice (some ⟨w.heap.size, 0, none⟩) 16 16) exK) := Bx.mk (const_bytes (hnew w _ _ rfl) rfl)
  clear hzc hkl HS hTab hg
  generalize exK = kb at *
  obtain ⟨B, hB⟩ : ∃ B, w.heap.size = B := ⟨_, rfl⟩
  have H0 := Bx.mk ((KS.start w B hB).alloc (.cells #[.int .u8 48, .int .u8 49, .int .u8 50, .int .u8 51, .int .u8 52, .int .u8 53, .int .u8 54, .int .u8 55, .int .u8 56, .int .u8 57, .int .u8 97, .int .u8 98, .int .u8 99, .int .u8 100, .int .u8 101, .int .u8 102] 5 (16, 17)))
  rw [hB] at HBu HMk HGr HSe ⊢
  have kc := fun (w : World) (C : Array Value) (n c : Nat) => Lib.run_convert_bytes_const (P := Tryz.prog) w 22 5 C n c Tryz.underlying22 Tryz.underlying5
  have kc2 := kc w #[.int .u8 48, .int .u8 49, .int .u8 50, .int .u8 51, .int .u8 52, .int .u8 53, .int .u8 54, .int .u8 55, .int .u8 56, .int .u8 57, .int .u8 97, .int .u8 98, .int .u8 99, .int .u8 100, .int .u8 101, .int .u8 102] 16 16
  rw [hB] at kc2
  go_enter Tryz.func28, Tryz.ntmps28
  go_wp2_with fail
  clear kc kc2
  try rw [hB]
  obtain ⟨w0, hw0⟩ : ∃ w0, w.alloc (.cells #[.int .u8 48, .int .u8 49, .int .u8 50, .int .u8 51, .int .u8 52, .int .u8 53, .int .u8 54, .int .u8 55, .int .u8 56, .int .u8 57, .int .u8 97, .int .u8 98, .int .u8 99, .int .u8 100, .int .u8 101, .int .u8 102] 5 (16, 17)) = w0 := ⟨_, rfl⟩
  rw [hw0] at H0 HBu ⊢
  clear hw0
  refine (HNw.out w0 _ HBu.out).mono ?_
  rintro e w1 ⟨v1, rfl, hk1, hb⟩
  have H1 := Bx.mk (And.intro (H0.out.later hb) hk1.key)
  clear hb hk1 H0 HBu
  obtain ⟨p1, s1, hv1, -, -⟩ := H1.out.2
  subst hv1
  obtain ⟨E, hE⟩ : ∃ E, w1.heap.size = E := ⟨_, rfl⟩
  have H3 := Bx.mk (And.intro (H1.out.1.new (.cells #[.int .i64 5, .int .i64 0, .int .i64 0, .int .i64 1] 26)) (H1.out.2.later (below_a (.cells #[.int .i64 5, .int .i64 0, .int .i64 0, .int .i64 1] 26))))
  rw [hE] at H3
  go_upto_region 3 with fail
  clear H1 hE
  generalize w1.alloc (.cells #[.int .i64 5, .int .i64 0, .int .i64 0, .int .i64 1] 26) = w3 at *
  go_wp2_with (refine wpList_load_mid rfl 26 _ rfl E 0 (by rfl) [.int .i64 5, .int .i64 0, .int .i64 0, .int .i64 1] _ (row_rng (l := [.int .i64 5, .int .i64 0, .int .i64 0, .int .i64 1]) (H3.out.1.rows _ (.head _))) Tryz.underlying26 rfl (by kernel_rfl) ?_)
  refine (HMk.out w3 _ H3.out.1.below H3.out.2).mono ?_
  rintro e w4 ⟨rfl, hb⟩
  have H4 := Bx.mk (And.intro (H3.out.1.later hb) (H3.out.2.later hb))
  clear hb H3
  obtain ⟨D, hD⟩ : ∃ D, w4.heap.size = D := ⟨_, rfl⟩
  have H5 := Bx.mk (And.intro (H4.out.1.new (.cells zc 29)) (And.intro (show B ≤ D from by rw [← hD]; exact H4.out.1.le) (show E < D from by rw [← hD]; exact H4.out.1.lt (.head _))))
  rw [hD] at H5
  go_upto_region 4 with (refine wpList_store_new rfl 29 _ _ rfl D kl.toArray zc _ (by rfl) (by rfl) (H5.out.1.rows _ (.head _)) HI.out.2.2.1 HI.out.1 HI.out.2.1 ?_; intro w5 hw8 hr8; have hg8 := Bx.mk (kb_of hw8); have HR8 := Bx.mk hr8; clear hw8 hr8)
  have H6 := Bx.mk (And.intro (H5.out.1.set hg8.out HR8.out H5.out.2.1 (by intro y hy; have := H5.out.2.2; simp at hy; rcases hy with rfl; simp only; omega)) (H4.out.2.later (below_of hD hg8.out)))
  clear H5 hg8 HR8 H4 hD
  go_wp2_with (refine wpList_load_mid rfl 29 _ rfl D 0 (by rfl) kl _ (row_rng (H6.out.1.rows _ (.head _))) Tryz.underlying29 rfl HI.out.2.2.2 ?_)
  refine (HTk.out w5).mono ?_
  rintro e w6 ⟨v6, rfl, hk6, hb⟩
  have H7 := Bx.mk (And.intro (H6.out.1.later hb) (And.intro (H6.out.2.later hb) hk6.key))
  clear hb hk6 H6
  obtain ⟨p6, s6, hv6, -, -⟩ := H7.out.2.2
  subst hv6
  go_wp2_with fail
  refine (HSe.out w6 _ H7.out.1.below H7.out.2.2).mono ?_
  rintro e w7 ⟨v7, rfl, hk7, hb⟩
  have H8 := Bx.mk (And.intro (H7.out.1.later hb) (And.intro (H7.out.2.1.later hb) hk7.key))
  clear hb hk7 H7
  obtain ⟨p7, s7, hv7, -, -⟩ := H8.out.2.2
  subst hv7
  go_wp2_with (refine wpList_load_mid rfl 26 _ rfl E 0 (by rfl) [.int .i64 5, .int .i64 0, .int .i64 0, .int .i64 1] _ (row_rng (l := [.int .i64 5, .int .i64 0, .int .i64 0, .int .i64 1]) (H8.out.1.rows _ (.tail _ (.head _)))) Tryz.underlying26 rfl (by kernel_rfl) ?_)
  refine (HGr.out w7 _ H8.out.1.below H8.out.2.1).mono ?_
  rintro e w8 ⟨v8, rfl, hk8, hb⟩
  have H9 := Bx.mk (And.intro (H8.out.1.later hb) (And.intro (H8.out.2.2.later hb) hk8.key))
  clear hb hk8 H8
  obtain ⟨p8, s8, hv8, -, -⟩ := H9.out.2.2
  subst hv8
  go_wp2_with fail
  refine (kbytes_any kk _ w8 H9.out.2.1 HKs.out).mono ?_
  rintro e w9 ⟨v9, rfl, ho9, hb⟩
  have H10 := Bx.mk (And.intro (H9.out.1.later hb) (And.intro (H9.out.2.2.later hb) ho9.bytes))
  clear hb ho9 H9
  obtain ⟨a9, c9, hv9, -⟩ := H10.out.2.2
  subst hv9
  rw [HK32.out] at H10 ⊢
  go_wp2_with fail
  refine (kbytes_any kk _ w9 H10.out.2.1 HKs.out).mono ?_
  rintro e w10 ⟨v10, rfl, ho10, hb⟩
  have H11 := Bx.mk (And.intro (H10.out.1.later hb) (And.intro (H10.out.2.2.later hb) ho10.bytes))
  clear hb ho10 H10
  obtain ⟨a10, c10, hv10, -⟩ := H11.out.2.2
  subst hv10
  rw [HK32.out] at H11 ⊢
  go_wp2_with fail
  refine (equal_any kk kk _ _ w10 H11.out.2.1 H11.out.2.2 HKs.out HKs.out).mono ?_
  rintro e w11 ⟨rfl, n11, rfl⟩
  rw [decide_eq_true rfl]
  have H12 := Bx.mk (H11.out.1.later (drewN_below w10 n11))
  clear H11
  generalize w10.drewN n11 = w12 at *
  go_wp2
  go_ret
  exact ⟨rfl, H12.out.below⟩
end Go.Proofs.YtnefpjdjnjcmbaaGreatDoor
