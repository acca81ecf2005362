/-
  HMAC as plain functions, and the walks of tags.
-/
import Derived.Test.YtaoekfomffebhaaDoorAd
namespace Go.Proofs.YtaoekfomffebhaaDoor
open Go Go.RowKit
/-- A key's whole block. -/
def fillK (k : List UInt8) : List UInt8 := k ++ List.replicate (64 - k.length) 0
def shortK (key : List UInt8) : List UInt8 := if 64 < key.length then sha key else key
def keyB (key : List UInt8) : List UInt8 := fillK (shortK key)
/-- Bits turned. -/
def turn (b : UInt8) (l : List UInt8) : List UInt8 := l.map (· ^^^ b)
/-- A tag. -/
def hmac (key msg : List UInt8) : List UInt8 := sha (turn 92 (keyB key) ++ sha (turn 54 (keyB key) ++ msg))
/-- A length as four bytes. -/
def lenB (n : Nat) : List UInt8 := four (BitVec.ofNat 32 n)
def framed (ps : List (List UInt8)) : List (List UInt8) := ps.flatMap fun p => [lenB p.length, p]
def frame (ps : List (List UInt8)) : List UInt8 := (framed ps).flatten
theorem shortK_length (key : List UInt8) : (shortK key).length ≤ 64 := by
  unfold shortK
  split
  · rw [sha_length]; omega
  · omega
theorem fillK_length (k : List UInt8) (h : k.length ≤ 64) : (fillK k).length = 64 := by
  unfold fillK; rw [List.length_append, List.length_replicate]; omega
theorem keyB_length (key : List UInt8) : (keyB key).length = 64 := fillK_length _ (shortK_length key)
theorem turn_length (b : UInt8) (l : List UInt8) : (turn b l).length = l.length := by unfold turn; rw [List.length_map]
theorem ub_xor (x y : UInt8) : bits .xor .u8 (ub x) (ub y) = ub (x ^^^ y) := by
  unfold ub
  rw [u8_xor_nat _ _ x.toNat_lt y.toNat_lt, UInt8.toNat_xor]
theorem ub_or (x y : UInt8) : bits .or .u8 (ub x) (ub y) = ub (x ||| y) := by
  unfold ub
  rw [u8_or_nat _ _ x.toNat_lt y.toNat_lt, UInt8.toNat_or]
theorem ub_mod (x : UInt8) : ub x % 256 = ub x := by have := ub_nonneg x; have := ub_le x; omega
/-- A block, k of whose bytes are turned. -/
def trn (b : UInt8) (l : List UInt8) : Nat → List UInt8
  | 0 => l
  | k + 1 => (trn b l k).set k ((trn b l k).getD k 0 ^^^ b)
theorem trn_length (b : UInt8) (l : List UInt8) (k : Nat) : (trn b l k).length = l.length := by
  induction k with
  | zero => rfl
  | succ k ih => rw [trn, List.length_set, ih]
theorem trn_get (b : UInt8) (l : List UInt8) (k i : Nat) (hi : i < l.length) : (trn b l k).getD i 0 = if i < k then l.getD i 0 ^^^ b else l.getD i 0 := by
  induction k with
  | zero => simp [trn]
  | succ k ih =>
    rw [trn]
    by_cases h : i = k
    · subst h
      rw [if_pos (by omega)]
      rw [if_neg (by omega)] at ih
      rw [← ih, List.getD_eq_getElem?_getD, List.getElem?_set, if_pos rfl, if_pos (by rw [trn_length]; exact hi)]
      rfl
    · rw [List.getD_eq_getElem?_getD, List.getElem?_set_ne (by omega), ← List.getD_eq_getElem?_getD, ih]
      by_cases h1 : i < k
      · rw [if_pos h1, if_pos (by omega)]
      · rw [if_neg h1, if_neg (by omega)]
theorem trn_all (b : UInt8) (l : List UInt8) (n : Nat) (h : l.length = n) : trn b l n = turn b l := by
  apply List.ext_getElem
  · rw [trn_length, turn_length]
  · intro i h1 h2
    have hi : i < l.length := by rw [trn_length] at h1; exact h1
    have e := trn_get b l n i hi
    rw [if_pos (by omega)] at e
    have e1 : (trn b l n).getD i 0 = (trn b l n)[i] := by simp [h1]
    have e2 : l.getD i 0 = l[i] := by simp [hi]
    rw [e1, e2] at e
    rw [e]
    simp [turn]
/-- Which bits have been found unlike. -/
def unl (xs ys : List UInt8) : Nat → UInt8
  | 0 => 0
  | k + 1 => unl xs ys k ||| (xs.getD k 0 ^^^ ys.getD k 0)
theorem or_zero (a b : UInt8) : a ||| b = 0 ↔ a = 0 ∧ b = 0 := by
  constructor
  · intro h
    have h' := congrArg UInt8.toBitVec h
    rw [UInt8.toBitVec_or] at h'
    constructor
    · apply UInt8.eq_of_toBitVec_eq
      have : a.toBitVec ||| b.toBitVec = 0#8 := h'
      exact (BitVec.or_eq_zero_iff.1 this).1
    · apply UInt8.eq_of_toBitVec_eq
      have : a.toBitVec ||| b.toBitVec = 0#8 := h'
      exact (BitVec.or_eq_zero_iff.1 this).2
  · rintro ⟨rfl, rfl⟩; rfl
theorem xor_zero (a b : UInt8) : a ^^^ b = 0 ↔ a = b := by
  constructor
  · intro h
    have h' := congrArg UInt8.toBitVec h
    rw [UInt8.toBitVec_xor] at h'
    apply UInt8.eq_of_toBitVec_eq
    exact BitVec.xor_eq_zero_iff.1 h'
  · rintro rfl; simp
theorem unl_zero (xs ys : List UInt8) (k : Nat) : unl xs ys k = 0 ↔ ∀ i, i < k → xs.getD i 0 = ys.getD i 0 := by
  induction k with
  | zero => simp [unl]
  | succ k ih =>
    rw [unl, or_zero, ih, xor_zero]
    constructor
    · rintro ⟨h1, h2⟩ i hi
      by_cases h : i = k
      · rw [h]; exact h2
      · exact h1 i (by omega)
    · intro h
      exact ⟨fun i hi => h i (by omega), h k (by omega)⟩
theorem unl_all (xs ys : List UInt8) (n : Nat) (h1 : xs.length = n) (h2 : ys.length = n) : (ub (unl xs ys n) == 0) = decide (xs = ys) := by
  rw [Bool.eq_iff_iff]
  simp only [beq_iff_eq, decide_eq_true_eq]
  constructor
  · intro h
    have h0 : unl xs ys n = 0 := ub_inj h
    rw [unl_zero] at h0
    apply List.ext_getElem
    · omega
    · intro i a1 a2
      have := h0 i (by omega)
      simpa [a1, a2] using this
  · rintro rfl
    have : unl xs xs n = 0 := (unl_zero _ _ _).2 fun _ _ => rfl
    rw [this]; rfl
end Go.Proofs.YtaoekfomffebhaaDoor
namespace Go.Proofs.YtaoekfomffebhaaDoor
open Go Go.RowKit
set_option maxRecDepth 100000 in
set_option maxHeartbeats 1000000 in
theorem turned_any (bl : List UInt8) (b : UInt8) (w : World) (hl : bl.length = 64) :
    Calls Tryd.prog 71 #[.agg (u8s bl), .int .u8 (ub b)] w fun e w' => e = .returned (.slice (some ⟨w.heap.size, 0, none⟩) 64 64) ∧ Below w.heap.size w w' ∧ w'.heap[w.heap.size]? = some (.cells (u8s (turn b bl)) 124 (0, 0)) := by
  have HL := Bx.mk hl
  have H0 : Bx (Below w.heap.size w (w.alloc (.cells (u8s bl) 124)) ∧ (w.alloc (.cells (u8s bl) 124)).heap[w.heap.size]? = some (.cells (u8s (trn b bl 0)) 124 (0, 0))) := Bx.mk ⟨below_a _, hnew _ _ _ rfl⟩
  clear hl
  go_enter Tryd.func71, Tryd.ntmps71
  go_wp2
  generalize w.alloc (.cells (u8s bl) 124) = w0 at *
  go_loopw [6] (fun i wr => ∃ k : Nat, k ≤ 64 ∧ i = .int .i64 (k : Int) ∧ Bx (Below w.heap.size w wr ∧ wr.heap[w.heap.size]? = some (.cells (u8s (trn b bl k)) 124 (0, 0)))) (fun i _ => 64 - (intOf i).toNat)
  case atStart => exact ⟨0, by omega, rfl, H0⟩
  case round =>
    clear H0
    obtain ⟨k, hk, rfl, HR⟩ := hrel
    by_cases hlt : k < 64
    · have c1 : wr.cell? ⟨w.heap.size, k, none⟩ = some (.int .u8 (ub ((trn b bl k).getD k 0))) := by rw [cell_of_row _ _ _ _ _ _ HR.out.2]; exact u8s_get _ _ (by rw [trn_length, HL.out]; exact hlt)
      have f1 := frozen_of_row wr w.heap.size k _ _ HR.out.2
      have HS : Bx (Below w.heap.size w (wr.setCell ⟨w.heap.size, k, none⟩ (.int .u8 (ub ((trn b bl k).getD k 0 ^^^ b)))) ∧ (wr.setCell ⟨w.heap.size, k, none⟩ (.int .u8 (ub ((trn b bl k).getD k 0 ^^^ b)))).heap[w.heap.size]? = some (.cells (u8s (trn b bl (k + 1))) 124 (0, 0))) := Bx.mk ⟨HR.out.1.setCell (Nat.le_refl _) _, by
        rw [heap_setCell_same wr _ _ _ _ _ HR.out.2, u8s_set]; rfl⟩
      generalize (trn b bl k).getD k 0 = y at *
      clear HR
      have hk1 : (k : Int) < 64 := by omega
      go_wp2
      go_roundw
      case rel => exact ⟨k + 1, by omega, by go_num, by first | (rw [ub_xor]; exact HS) | (rw [ub_xor, ub_mod]; exact HS)⟩
      case measure => simp [intOf]; omega
    · have ek : k = 64 := by omega
      have HF : Bx (Below w.heap.size w wr ∧ wr.heap[w.heap.size]? = some (.cells (u8s (turn b bl)) 124 (0, 0))) := Bx.mk (by have h := HR.out; rw [ek, trn_all b bl 64 HL.out] at h; exact h)
      clear HR ek
      go_wp2
      go_ret
      exact ⟨rfl, HF.out⟩
theorem row_bytes {w : World} {b : Nat} {l : List UInt8} {t : TypeId} {n : Nat} (h : w.heap[b]? = some (.cells (u8s l) t (0, 0))) (hn : l.length = n) : Bytes w (.slice (some ⟨b, 0, none⟩) n n) l :=
  ⟨_, n, by rw [hn], by omega, (fun h => by cases h), fun _ => ⟨b, 0, rfl, fun j hj => by rw [cell_of_row _ _ _ _ _ _ h, Nat.zero_add]; exact u8s_get _ _ hj⟩⟩
set_option maxRecDepth 100000 in
set_option maxHeartbeats 1000000 in
theorem equal_any (xs bs : List UInt8) (va vb : Value) (w : World) (ha : Bytes w va xs) (hb : Bytes w vb bs) (hl : xs.length ≤ 140737488355328) (hl2 : bs.length ≤ 140737488355328) :
    Calls Tryd.prog 34 #[va, vb] w fun e w' => e = .returned (.bool (decide (xs = bs))) ∧ ∃ n, w' = w.drewN n := by
  have HA := Bx.mk ha
  have HB := Bx.mk hb
  obtain ⟨a, ca, rfl, -⟩ := ha
  obtain ⟨b, cb, rfl, -⟩ := hb
  obtain ⟨n, hn⟩ : ∃ n, xs.length = n := ⟨_, rfl⟩
  obtain ⟨m, hm⟩ : ∃ m, bs.length = m := ⟨_, rfl⟩
  have HN := Bx.mk (And.intro hn hm)
  rw [hn] at HA hl ⊢
  rw [hm] at HB hl2 ⊢
  have hl1 : (n : Int) ≤ 140737488355328 := by omega
  have hl3 : (m : Int) ≤ 140737488355328 := by omega
  clear hn hm
  by_cases hnm : n = m
  · subst hnm
    have t1 : ((n : Int) != (n : Int)) = false := by simp
    go_enter Tryd.func34, Tryd.ntmps34
    go_wp2
    clear t1
    go_loopw [5, 14] (fun u i wr => ∃ k q : Nat, k ≤ n ∧ i = .int .i64 (k : Int) ∧ u = .int .u8 (ub (unl xs bs k)) ∧ wr = w.drewN q) (fun _ i _ => n - (intOf i).toNat)
    case atStart => exact ⟨0, 0, Nat.zero_le _, rfl, rfl, rfl⟩
    case round =>
      obtain ⟨k, q, hk, rfl, rfl, rfl⟩ := hrel
      by_cases hlt : k < n
      · obtain ⟨g, o, rfl, hcell⟩ := HA.out.cell k hlt
        obtain ⟨g2, o2, rfl, hcell2⟩ := HB.out.cell k hlt
        have HU : Bx (unl xs bs (k + 1) = unl xs bs k ||| (xs.getD k 0 ^^^ bs.getD k 0)) := Bx.mk rfl
        generalize unl xs bs k = u0 at *
        generalize xs.getD k 0 = x0 at *
        generalize bs.getD k 0 = y0 at *
        have hk1 : (k : Int) < (n : Int) := by omega
        go_wp2
        go_big_quiet (fail)
        go_wp2
        go_roundw
        case rel => exact ⟨k + 1, _, by omega, by go_num, by rw [HU.out]; first | rw [ub_xor, ub_or] | rw [ub_xor, ub_mod, ub_or] | rw [ub_xor, ub_or, ub_mod], by first | rfl | exact World.drewN_drewN _ _ _⟩
        case measure => simp [intOf]; omega
      · have ek : k = n := by omega
        have HE : Bx ((ub (unl xs bs k) == 0) = decide (xs = bs)) := Bx.mk (by rw [ek]; exact unl_all xs bs n HN.out.1 HN.out.2)
        generalize unl xs bs k = u0 at *
        clear ek
        go_wp2
        go_ret
        exact ⟨by rw [← HE.out]; rfl, q, rfl⟩
  · have t1 : ((n : Int) != (m : Int)) = true := by simp; omega
    have HD : Bx (decide (xs = bs) = false) := Bx.mk (by simp; intro e; exact hnm (by rw [← HN.out.1, ← HN.out.2, e]))
    go_enter Tryd.func34, Tryd.ntmps34
    go_wp2
    go_ret
    exact ⟨by rw [HD.out]; rfl, 0, rfl⟩
end Go.Proofs.YtaoekfomffebhaaDoor
namespace Go.Proofs.YtaoekfomffebhaaDoor
open Go Go.RowKit
theorem fill_is (k : List UInt8) (n : Nat) (h : n = min k.length 64) (hk : k.length ≤ 64) : k.take n ++ (List.replicate 64 0).drop n = fillK k := by
  have hn : n = k.length := by omega
  rw [hn, List.take_length, List.drop_replicate]
  rfl
theorem zero64 : u8s (List.replicate 64 0) = #[.int .u8 0, .int .u8 0, .int .u8 0, .int .u8 0, .int .u8 0, .int .u8 0, .int .u8 0, .int .u8 0, .int .u8 0, .int .u8 0, .int .u8 0, .int .u8 0, .int .u8 0, .int .u8 0, .int .u8 0, .int .u8 0, .int .u8 0, .int .u8 0, .int .u8 0, .int .u8 0, .int .u8 0, .int .u8 0, .int .u8 0, .int .u8 0, .int .u8 0, .int .u8 0, .int .u8 0, .int .u8 0, .int .u8 0, .int .u8 0, .int .u8 0, .int .u8 0, .int .u8 0, .int .u8 0, .int .u8 0, .int .u8 0, .int .u8 0, .int .u8 0, .int .u8 0, .int .u8 0, .int .u8 0, .int .u8 0, .int .u8 0, .int .u8 0, .int .u8 0, .int .u8 0, .int .u8 0, .int .u8 0, .int .u8 0, .int .u8 0, .int .u8 0, .int .u8 0, .int .u8 0, .int .u8 0, .int .u8 0, .int .u8 0, .int .u8 0, .int .u8 0, .int .u8 0, .int .u8 0, .int .u8 0, .int .u8 0, .int .u8 0, .int .u8 0] := by kernel_rfl
/-- The two arrays of filled. -/
structure Fl (w : World) (W : World) : Prop where
  below : Below w.heap.size w W
  size : w.heap.size + 2 ≤ W.heap.size
  res : W.heap[w.heap.size]? = some (.cells (u8s (List.replicate 64 0)) 124 (0, 0))
  out : W.heap[w.heap.size + 1]? = some (.cells (u8s (List.replicate 64 0)) 124 (0, 0))
theorem Fl.later {w W W1 : World} (h : Fl w W) (hb : Below W.heap.size W W1) : Fl w W1 :=
  ⟨h.below.trans (hb.mono h.below.size), Nat.le_trans h.size hb.size, by rw [hb.block _ (by have := h.size; omega)]; exact h.res, by rw [hb.block _ (by have := h.size; omega)]; exact h.out⟩
theorem Fl.start (w : World) (z : Array Value) (hz : u8s (List.replicate 64 0) = z) : Fl w ((w.alloc (.cells z 124)).alloc (.cells z 124)) := by
  subst hz
  exact ⟨((Below.refl _ _).alloc (Nat.le_refl _) _).alloc (by simp) _, by simp, by rw [hold _ _ _ (by simp), hnew _ _ _ rfl], by rw [hnew _ _ _ (by simp)]⟩
set_option maxRecDepth 100000 in
set_option maxHeartbeats 1000000 in
theorem filled_any (key : List UInt8) (v : Value) (w : World) (hv : Bytes w v key) (hl : key.length ≤ 1000000) (hTab : Tab w) (hg : 1 < w.heap.size) :
    Calls Tryd.prog 69 #[v] w fun e w' => e = .returned (.agg (u8s (keyB key))) ∧ Below w.heap.size w w' := by
  have HV := Bx.mk hv
  have HA := Bx.mk hTab
  obtain ⟨a, cap, rfl, -⟩ := hv
  obtain ⟨n, hn⟩ : ∃ n, key.length = n := ⟨_, rfl⟩
  have HN := Bx.mk hn
  rw [hn] at HV hl ⊢
  have hn1 : (n : Int) ≤ 1000000 := by omega
  clear hn hTab
  obtain ⟨z, hz⟩ : ∃ z, u8s (List.replicate 64 0) = z := ⟨_, rfl⟩
  have hzv : ∀ W : World, (zeroValue 124).run Tryd.prog W = .ok (.agg z) W := fun W => by rw [← hz, zero64]; kernel_rfl
  have HF : Bx (Fl w ((w.alloc (.cells z 124)).alloc (.cells z 124))) := Bx.mk (Fl.start w z hz)
  clear hz
  go_enter Tryd.func69, Tryd.ntmps69
  by_cases hlt : 64 < n
  · have t1 : (64 : Int) < (n : Int) := by omega
    go_upto_region 3 with (fail)
    have HV2 : Bx (Bytes ((w.alloc (.cells z 124)).alloc (.cells z 124)) (.slice a n cap) key) := Bx.mk (HV.out.later HF.out.below)
    generalize (w.alloc (.cells z 124)).alloc (.cells z 124) = w1 at *
    go_wp2_with fail
    refine (dsum_parts [key] _ _ (one_part HV2.out) (by simp) (by rw [List.flatten_singleton, HN.out]; omega) (HA.out.later (HF.out.later (below_a _)).below hg) (Nat.lt_of_lt_of_le hg (HF.out.later (below_a _)).below.size)).mono ?_
    rintro e w2 ⟨rfl, hb2⟩
    have H2 : Bx (Fl w w2) := Bx.mk ((HF.out.later (below_a _)).later hb2)
    clear hb2
    rw [List.flatten_singleton]
    have HSL : Bx ((sha key).length = 32) := Bx.mk (sha_length _)
    have HKs : Bx (fillK (sha key) = keyB key) := Bx.mk (by unfold keyB shortK; rw [if_pos (by rw [HN.out]; exact hlt)])
    generalize sha key = sk at *
    have HI3 : Bx ((Tryd.prog.info? 27).map (·.size) = some (u8s sk).size) := Bx.mk (by rw [u8s_size, HSL.out]; kernel_rfl)
    have HZ3 : Bx ((u8s sk).size = (u8s (List.replicate 32 0)).size) := Bx.mk (by rw [u8s_size, u8s_size, HSL.out]; rfl)
    go_upto_region 5 with (refine wpList_store_var rfl 27 _ _ rfl w2 _ _ rfl (by rfl) (u8s sk) (by rfl) HZ3.out HI3.out (one_u8s _) ?_; intro w3 hb3 hr3 hl3)
    have HX0 : Bx (Fl w w3 ∧ Bytes w3 (.slice (some ⟨w2.heap.size, 0, none⟩) 32 32) sk ∧ sk.length ≤ 64 ∧ fillK sk = keyB key) := Bx.mk ⟨H2.out.later hb3, row_bytes hr3 HSL.out, by rw [HSL.out]; omega, HKs.out⟩
    clear hb3 hr3 hl3 H2 HF HV HV2 HSL HKs HI3 HZ3
    have HX : Bx (Fl w w3 ∧ Bytes w3 (.slice (some ⟨w2.heap.size, 0, none⟩) 32 32) sk ∧ sk.length ≤ 64 ∧ fillK sk = keyB key) := HX0
    clear HX0
    have HI : Bx ((Tryd.prog.info? 124).map (·.size) = some (u8s (keyB key)).size) := Bx.mk (by rw [u8s_size, keyB_length]; kernel_rfl)
    have HZ : Bx ((u8s (keyB key)).size = (u8s (List.replicate 64 0)).size) := Bx.mk (by rw [u8s_size, u8s_size, keyB_length]; rfl)
    generalize hkb : keyB key = kb at *
    have HKB := Bx.mk hkb
    clear hkb
    go_wp2_with (first | (refine wpList_copy_row rfl _ _ rfl (w.heap.size + 1) 64 64 _ (List.replicate 64 0) sk _ (by rfl) (by rfl) HX.out.2.1 HX.out.1.out (by simp) _ rfl ?_; intro w5 hr5 hk5; have H5 : Bx (Below w.heap.size w w5 ∧ w5.heap[w.heap.size + 1]? = some (.cells (u8s kb) 124 (0, 0)) ∧ w5.heap[w.heap.size]? = some (.cells (u8s (List.replicate 64 0)) 124 (0, 0))) := Bx.mk ⟨⟨hk5.os.trans HX.out.1.below.os, hk5.tape.trans HX.out.1.below.tape, hk5.output.trans HX.out.1.below.output, Nat.le_trans HX.out.1.below.size hk5.size, fun i hi => (hk5.block i (by have := HX.out.1.size; omega) (by intro e; injection e with e; omega)).trans (HX.out.1.below.block i hi)⟩, by (rw [← HX.out.2.2.2, ← fill_is _ _ rfl HX.out.2.2.1]; exact hr5), by (rw [hk5.block _ (by have := HX.out.1.size; omega) (by intro e; injection e with e; omega)]; exact HX.out.1.res)⟩; clear hr5 hk5) | (refine wpList_load_row rfl 124 _ rfl (w.heap.size + 1) (by rfl) _ _ _ _ H5.out.2.1 Tryd.underlying124 rfl HI.out ?_) | (refine wpList_store_new rfl 124 _ _ rfl w.heap.size (u8s kb) _ _ (by rfl) (by rfl) H5.out.2.2 HZ.out HI.out (one_u8s _) ?_; intro w6 hw6 hr6; have H6 : Bx (Below w.heap.size w w6 ∧ w6.heap[w.heap.size]? = some (.cells (u8s kb) 124 (0, 0))) := Bx.mk ⟨by rw [hw6]; exact below_setCells (Nat.le_refl _) _ _ _ _ H5.out.1, hr6⟩; clear hw6 hr6))
    refine bodyPost_ret (results_cell_row rfl _ _ w.heap.size _ (u8s kb) _ _ rfl H6.out.2 Tryd.underlying124 rfl HI.out) rfl ?_
    exact ⟨by rw [HKB.out], H6.out.1⟩
  · have t1 : ¬ (64 : Int) < (n : Int) := by omega
    go_upto_region 5 with (fail)
    have HX0 : Bx (Fl w ((w.alloc (.cells z 124)).alloc (.cells z 124)) ∧ Bytes ((w.alloc (.cells z 124)).alloc (.cells z 124)) (.slice a n cap) key ∧ key.length ≤ 64 ∧ fillK key = keyB key) := Bx.mk ⟨HF.out, HV.out.later HF.out.below, by rw [HN.out]; omega, by unfold keyB shortK; rw [if_neg (by rw [HN.out]; exact hlt)]⟩
    generalize (w.alloc (.cells z 124)).alloc (.cells z 124) = w3 at *
    clear HF HV
    have HX : Bx (Fl w w3 ∧ Bytes w3 (.slice a n cap) key ∧ key.length ≤ 64 ∧ fillK key = keyB key) := HX0
    clear HX0
    have HI : Bx ((Tryd.prog.info? 124).map (·.size) = some (u8s (keyB key)).size) := Bx.mk (by rw [u8s_size, keyB_length]; kernel_rfl)
    have HZ : Bx ((u8s (keyB key)).size = (u8s (List.replicate 64 0)).size) := Bx.mk (by rw [u8s_size, u8s_size, keyB_length]; rfl)
    generalize hkb : keyB key = kb at *
    have HKB := Bx.mk hkb
    clear hkb
    go_wp2_with (first | (refine wpList_copy_row rfl _ _ rfl (w.heap.size + 1) 64 64 _ (List.replicate 64 0) key _ (by rfl) (by rfl) HX.out.2.1 HX.out.1.out (by simp) _ rfl ?_; intro w5 hr5 hk5; have H5 : Bx (Below w.heap.size w w5 ∧ w5.heap[w.heap.size + 1]? = some (.cells (u8s kb) 124 (0, 0)) ∧ w5.heap[w.heap.size]? = some (.cells (u8s (List.replicate 64 0)) 124 (0, 0))) := Bx.mk ⟨⟨hk5.os.trans HX.out.1.below.os, hk5.tape.trans HX.out.1.below.tape, hk5.output.trans HX.out.1.below.output, Nat.le_trans HX.out.1.below.size hk5.size, fun i hi => (hk5.block i (by have := HX.out.1.size; omega) (by intro e; injection e with e; omega)).trans (HX.out.1.below.block i hi)⟩, by (rw [← HX.out.2.2.2, ← fill_is _ _ rfl HX.out.2.2.1]; exact hr5), by (rw [hk5.block _ (by have := HX.out.1.size; omega) (by intro e; injection e with e; omega)]; exact HX.out.1.res)⟩; clear hr5 hk5) | (refine wpList_load_row rfl 124 _ rfl (w.heap.size + 1) (by rfl) _ _ _ _ H5.out.2.1 Tryd.underlying124 rfl HI.out ?_) | (refine wpList_store_new rfl 124 _ _ rfl w.heap.size (u8s kb) _ _ (by rfl) (by rfl) H5.out.2.2 HZ.out HI.out (one_u8s _) ?_; intro w6 hw6 hr6; have H6 : Bx (Below w.heap.size w w6 ∧ w6.heap[w.heap.size]? = some (.cells (u8s kb) 124 (0, 0))) := Bx.mk ⟨by rw [hw6]; exact below_setCells (Nat.le_refl _) _ _ _ _ H5.out.1, hr6⟩; clear hw6 hr6))
    refine bodyPost_ret (results_cell_row rfl _ _ w.heap.size _ (u8s kb) _ _ rfl H6.out.2 Tryd.underlying124 rfl HI.out) rfl ?_
    exact ⟨by rw [HKB.out], H6.out.1⟩
end Go.Proofs.YtaoekfomffebhaaDoor
namespace Go.Proofs.YtaoekfomffebhaaDoor
open Go Go.RowKit
theorem two_parts {W : World} {s1 s2 : Value} {l1 l2 : List UInt8} (h1 : Bytes W s1 l1) (h2 : Bytes W s2 l2) : Parts (W.alloc (.cells #[s1, s2] 26)) (.slice (some ⟨W.heap.size, 0, none⟩) 2 2) [l1, l2] := by
  refine ⟨_, 2, rfl, fun _ => ⟨W.heap.size, 0, rfl, fun j hj => ?_⟩⟩
  have hj0 : j = 0 ∨ j = 1 := by simp at hj; omega
  rcases hj0 with rfl | rfl
  · exact ⟨s1, by rw [cell_of_row _ _ _ _ _ _ (hnew _ _ _ rfl)]; rfl, h1.later (below_a _)⟩
  · exact ⟨s2, by rw [cell_of_row _ _ _ _ _ _ (hnew _ _ _ rfl)]; rfl, h2.later (below_a _)⟩
/-- The memory of Tag: the result's place, the key's block, the running digest. -/
structure Tg (w : World) (F : Nat) (kb : List UInt8) (W : World) : Prop where
  below : Below w.heap.size w W
  res : W.heap[w.heap.size]? = some (.cells (u8s (List.replicate 32 0)) 27 (0, 0))
  row : W.heap[F]? = some (.cells (u8s kb) 124 (0, 0))
  lt : w.heap.size < F
theorem Tg.size {w W : World} {F : Nat} {kb : List UInt8} (h : Tg w F kb W) : F < W.heap.size := (Array.getElem?_eq_some_iff.1 h.row).1
theorem Tg.later {w W W1 : World} {F : Nat} {kb : List UInt8} (h : Tg w F kb W) (hb : Below W.heap.size W W1) : Tg w F kb W1 :=
  ⟨h.below.trans (hb.mono h.below.size), by rw [hb.block _ (by have := h.size; have := h.lt; omega)]; exact h.res, by rw [hb.block _ h.size]; exact h.row, h.lt⟩
theorem Tg.kb {w W W1 : World} {F b : Nat} {kb : List UInt8} (h : Tg w F kb W) (hk : W.grownBy W1 (some b)) (hb : F < b) : Tg w F kb W1 :=
  ⟨below_kb h.below h.below.size hk (by have := h.lt; omega), by rw [hk.block _ (by have := h.size; have := h.lt; omega) (by intro e; injection e with e; have := h.lt; omega)]; exact h.res, by rw [hk.block _ h.size (by intro e; injection e with e; omega)]; exact h.row, h.lt⟩
set_option maxRecDepth 100000 in
set_option maxHeartbeats 2000000 in
theorem tag_any (key : List UInt8) (pss : List (List UInt8)) (v vp : Value) (w : World) (hv : Bytes w v key) (hp : Parts w vp pss) (hl : key.length ≤ 1000000) (hl2 : pss.length ≤ 1000000) (hl3 : pss.flatten.length ≤ 100000000) (hTab : Tab w) (hg : 1 < w.heap.size) :
    Calls Tryd.prog 49 #[v, vp] w fun e w' => e = .returned (.agg (u8s (hmac key pss.flatten))) ∧ Below w.heap.size w w' := by
  have HV := Bx.mk hv
  have HP := Bx.mk hp
  have HL := Bx.mk (And.intro hl (And.intro hl2 hl3))
  have HA := Bx.mk hTab
  obtain ⟨a, cap, rfl, -⟩ := hv
  obtain ⟨n, hn⟩ : ∃ n, key.length = n := ⟨_, rfl⟩
  rw [hn] at HV ⊢
  obtain ⟨ap, cp, rfl, -⟩ := hp
  obtain ⟨np, hnp⟩ : ∃ n, pss.length = n := ⟨_, rfl⟩
  rw [hnp] at HP ⊢
  clear hn hnp hl hl2 hl3 hTab
  obtain ⟨zc, hzc⟩ : ∃ zc, stC (List.replicate 8 0) (List.replicate 64 0) 0 = zc := ⟨_, rfl⟩
  have hzv : ∀ W : World, (zeroValue 129).run Tryd.prog W = .ok (.agg zc) W := fun W => by rw [← hzc, zero73]; kernel_rfl
  obtain ⟨z32, hz32⟩ : ∃ z, u8s (List.replicate 32 0) = z := ⟨_, rfl⟩
  have hz32v : ∀ W : World, (zeroValue 27).run Tryd.prog W = .ok (.agg z32) W := fun W => by rw [← hz32, zero32]; kernel_rfl
  obtain ⟨z64, hz64⟩ : ∃ z, u8s (List.replicate 64 0) = z := ⟨_, rfl⟩
  have hz64v : ∀ W : World, (zeroValue 124).run Tryd.prog W = .ok (.agg z64) W := fun W => by rw [← hz64, zero64]; kernel_rfl
  have HZ := Bx.mk (And.intro hzc (And.intro hz32 hz64))
  clear hzc hz32 hz64
  obtain ⟨hm, hhm⟩ : ∃ hm, hmac key pss.flatten = hm := ⟨_, rfl⟩
  have HHM : Bx (sha (turn 92 (keyB key) ++ sha (turn 54 (keyB key) ++ pss.flatten)) = hm) := Bx.mk hhm
  rw [hhm]
  clear hhm
  go_enter Tryd.func49, Tryd.ntmps49
  go_wp2_with fail
  have H0 : Bx (Below w.heap.size w (w.alloc (.cells z32 27)) ∧ (w.alloc (.cells z32 27)).heap[w.heap.size]? = some (.cells (u8s (List.replicate 32 0)) 27 (0, 0)) ∧ w.heap.size < (w.alloc (.cells z32 27)).heap.size) := Bx.mk ⟨below_a _, by rw [hnew _ _ _ rfl, HZ.out.2.1], by simp⟩
  generalize w.alloc (.cells z32 27) = w0 at *
  refine (filled_any key _ w0 (HV.out.later H0.out.1) HL.out.1 (HA.out.later H0.out.1 hg) (Nat.lt_of_lt_of_le hg H0.out.1.size)).mono ?_
  rintro e w1 ⟨rfl, hb1⟩
  have H1 : Bx (Below w.heap.size w w1 ∧ w1.heap[w.heap.size]? = some (.cells (u8s (List.replicate 32 0)) 27 (0, 0)) ∧ w.heap.size < w1.heap.size) := Bx.mk ⟨H0.out.1.trans (hb1.mono H0.out.1.size), by rw [hb1.block _ H0.out.2.2]; exact H0.out.2.1, Nat.lt_of_lt_of_le H0.out.2.2 hb1.size⟩
  clear hb1 H0
  have HKL : Bx ((keyB key).length = 64) := Bx.mk (keyB_length key)
  generalize keyB key = kb at *
  have HI : Bx ((Tryd.prog.info? 124).map (·.size) = some (u8s kb).size) := Bx.mk (by rw [u8s_size, HKL.out]; kernel_rfl)
  have HZ6 : Bx ((u8s kb).size = z64.size) := Bx.mk (by rw [u8s_size, HKL.out, ← HZ.out.2.2]; rfl)
  go_upto_region 3 with (refine wpList_store_var rfl 124 _ _ rfl w1 _ _ rfl (by rfl) (u8s kb) (by rfl) HZ6.out HI.out (one_u8s _) ?_; intro w2 hb2 hr2 hl2)
  have H2 : Bx (Tg w w1.heap.size kb w2) := Bx.mk ⟨H1.out.1.trans (hb2.mono H1.out.1.size), by rw [hb2.block _ H1.out.2.2]; exact H1.out.2.1, hr2, H1.out.2.2⟩
  clear hb2 hr2 hl2 H1 HZ6
  generalize w1.heap.size = F at *
  have HT3 : Bx (Took (w2.alloc (.cells zc 129)) w2.heap.size 129 [] (w2.alloc (.cells zc 129))) := Bx.mk ⟨_, _, by rw [hnew _ _ _ rfl, ← HZ.out.1]; rfl, StIs.zero, kb_refl _ _⟩
  have H3 : Bx (Tg w F kb (w2.alloc (.cells zc 129)) ∧ F < w2.heap.size) := Bx.mk ⟨H2.out.later (below_a _), H2.out.size⟩
  generalize w2.alloc (.cells zc 129) = w3 at *
  generalize w2.heap.size = Rb at *
  clear H2
  have HTu : Bx (∀ W, Calls Tryd.prog 71 #[.agg (u8s kb), .int .u8 54] W fun e w' => e = .returned (.slice (some ⟨W.heap.size, 0, none⟩) 64 64) ∧ Below W.heap.size W w' ∧ w'.heap[W.heap.size]? = some (.cells (u8s (turn 54 kb)) 124 (0, 0))) := Bx.mk (fun W => turned_any kb 54 W HKL.out)
  have HTv : Bx (∀ W, Calls Tryd.prog 71 #[.agg (u8s kb), .int .u8 92] W fun e w' => e = .returned (.slice (some ⟨W.heap.size, 0, none⟩) 64 64) ∧ Below W.heap.size W w' ∧ w'.heap[W.heap.size]? = some (.cells (u8s (turn 92 kb)) 124 (0, 0))) := Bx.mk (fun W => turned_any kb 92 W HKL.out)
  go_wp2_with (refine wpList_load_row rfl 124 _ rfl F (by rfl) _ _ _ _ H3.out.1.row Tryd.underlying124 rfl HI.out ?_)
  refine (HTu.out _).mono ?_
  rintro e w4 ⟨rfl, hb4, hr4⟩
  have H4 : Bx (Tg w F kb w4 ∧ F < Rb ∧ Took w4 Rb 129 [] w4 ∧ w4.heap[w3.heap.size]? = some (.cells (u8s (turn 54 kb)) 124 (0, 0)) ∧ Rb ≠ w3.heap.size ∧ Rb < w4.heap.size) := Bx.mk ⟨H3.out.1.later hb4, H3.out.2, HT3.out.later hb4, hr4, by have := HT3.out.lt; omega, Nat.lt_of_lt_of_le HT3.out.lt hb4.size⟩
  clear hb4 hr4 H3 HT3 HTu
  generalize w3.heap.size = T1 at *
  have HTL : Bx ((turn 54 kb).length = 64) := Bx.mk (by rw [turn_length]; exact HKL.out)
  generalize turn 54 kb = t54 at *
  go_wp2_with fail
  refine (add_any Rb [] [t54] _ _ (H4.out.2.2.1.later (below_a _)) (one_row H4.out.2.2.2.1 HTL.out (fun e => H4.out.2.2.2.2.1 e.symm) H4.out.2.2.2.2.2) (by simp) (by rw [List.flatten_singleton, HTL.out]; simp) (HA.out.later (H4.out.1.later (below_a _)).below hg) (by have := H4.out.2.1; have := H4.out.1.lt; omega)).mono ?_
  rintro e w5 ⟨rfl, ht5⟩
  have H5 : Bx (Tg w F kb w5 ∧ F < Rb ∧ Took w5 Rb 129 t54 w5) := Bx.mk ⟨(H4.out.1.later (below_a _)).kb ht5.kept H4.out.2.1, H4.out.2.1, by have h := ht5.self; rw [List.flatten_singleton, List.nil_append] at h; exact h⟩
  clear ht5 H4
  go_wp2_with fail
  refine (add_any Rb t54 pss _ _ H5.out.2.2 (HP.out.apart H5.out.1.below Rb (by have := H5.out.2.1; have := H5.out.1.lt; omega)) (by have := HL.out; omega) (by have := HL.out; rw [HTL.out]; omega) (HA.out.later H5.out.1.below hg) (by have := H5.out.2.1; have := H5.out.1.lt; omega)).mono ?_
  rintro e w6 ⟨rfl, ht6⟩
  have H6 : Bx (Tg w F kb w6 ∧ Took w6 Rb 129 (t54 ++ pss.flatten) w6) := Bx.mk ⟨H5.out.1.kb ht6.kept H5.out.2.1, ht6.self⟩
  clear ht6 H5
  go_wp2_with fail
  refine (sum_any Rb (t54 ++ pss.flatten) _ H6.out.2 (by have := HL.out; rw [List.length_append, HTL.out]; omega) (HA.out.later H6.out.1.below hg) (Nat.lt_of_lt_of_le hg H6.out.1.below.size)).mono ?_
  rintro e w7 ⟨rfl, hb7⟩
  have H7 : Bx (Tg w F kb w7) := Bx.mk (H6.out.1.later hb7)
  clear hb7 H6 HTL
  have HIL : Bx ((sha (t54 ++ pss.flatten)).length = 32) := Bx.mk (sha_length _)
  generalize sha (t54 ++ pss.flatten) = inn at *
  have HI3 : Bx ((Tryd.prog.info? 27).map (·.size) = some (u8s inn).size) := Bx.mk (by rw [u8s_size, HIL.out]; kernel_rfl)
  have HZ3 : Bx ((u8s inn).size = z32.size) := Bx.mk (by rw [u8s_size, HIL.out, ← HZ.out.2.1]; rfl)
  go_upto_region 4 with (refine wpList_store_var rfl 27 _ _ rfl w7 _ _ rfl (by rfl) (u8s inn) (by rfl) HZ3.out HI3.out (one_u8s _) ?_; intro w8 hb8 hr8 hl8)
  have H8 : Bx (Tg w F kb w8 ∧ w8.heap[w7.heap.size]? = some (.cells (u8s inn) 27 (0, 0)) ∧ w7.heap.size < w8.heap.size) := Bx.mk ⟨H7.out.later hb8, hr8, hl8⟩
  clear hb8 hr8 hl8 H7 HI3 HZ3 hzv hz32v hz64v HZ
  generalize w7.heap.size = Ib at *
  have hu64 := Tryd.underlying124
  have hi64 : (Tryd.prog.info? 124).map (·.size) = some (vs8 kb).length := by rw [vs8_length, ← u8s_size]; exact HI.out
  have HMk : Bx (∀ W, Tg w F kb W → W.rangeAt F 0 (vs8 kb) ∧ Bx (Below w.heap.size w W)) := Bx.mk (fun W h => ⟨range_u8 h.row, ⟨h.below⟩⟩)
  have H9 : Bx (Tg w F kb w8.drew ∧ w8.drew.heap[Ib]? = some (.cells (u8s inn) 27 (0, 0)) ∧ Ib < w8.drew.heap.size) := Bx.mk ⟨H8.out.1.later (Below.refl _ _).drew, H8.out.2.1, H8.out.2.2⟩
  have HTw : Bx (∀ W, Calls Tryd.prog 71 #[.agg (vs8 kb).toArray, .int .u8 92] W fun e w' => e = .returned (.slice (some ⟨W.heap.size, 0, none⟩) 64 64) ∧ Below W.heap.size W w' ∧ w'.heap[W.heap.size]? = some (.cells (u8s (turn 92 kb)) 124 (0, 0))) := HTv
  have HTL : Bx ((turn 92 kb).length = 64) := Bx.mk (by rw [turn_length]; exact HKL.out)
  have HML : Bx (hm.length = 32) := Bx.mk (by rw [← HHM.out, sha_length])
  generalize turn 92 kb = t92 at *
  clear H8 HTv
  refine wp_region_noPanic ?_
  refine wp_region_held_drew (S := fun W => W.rangeAt F 0 (vs8 kb) ∧ Bx (Below w.heap.size w W)) (by kernel_rfl) (HMk.out _ H9.out.1) (fun hHeld => ?_)
  refine takeL 0 rfl (by kernel_rfl) (by kernel_rfl) (by kernel_rfl) (fun _ _ _ h => h) (yieldsIf_load_mid (by rfl) _ _ rfl _ _ rfl _ _ (fun w hSw => hSw.1) hu64 rfl hi64) hHeld ?_
  try simp only [Act.put, List.setIfInBounds_toArray, List.set_cons_zero, List.set_cons_succ]
  refine takeL 2 (v := ?_) rfl (by kernel_rfl) (by kernel_rfl) (by kernel_rfl) (fun _ _ _ h => h) (Or.inl ⟨by rfl, ?_⟩) hHeld ?_
  rotate_left 1
  · (intro w hSw; go_simp; try with_reducible rfl)
  try simp only [Act.put, List.setIfInBounds_toArray, List.set_cons_zero, List.set_cons_succ]
  refine stepL 1 (by kernel_rfl) rfl (fun K hK => ?_)
  go_simp
  refine (HTw.out _).mono ?_
  rintro e W1 ⟨rfl, hb1, hr1⟩
  show K _ _
  have Ha : Bx (Tg w F kb W1 ∧ Bytes W1 (.slice (some ⟨w8.drew.heap.size, 0, none⟩) 64 64) t92 ∧ Bytes W1 (.slice (some ⟨Ib, 0, none⟩) 32 32) inn) := Bx.mk ⟨H9.out.1.later hb1, row_bytes hr1 HTL.out, (row_bytes H9.out.2.1 HIL.out).later hb1⟩
  clear hb1 hr1
  refine hK.out _ _ (HMk.out _ Ha.out.1) (fun hHeld => ?_)
  clear hK K
  try simp only [Act.put, List.setIfInBounds_toArray, List.set_cons_zero, List.set_cons_succ]
  refine stepL 3 (by kernel_rfl) rfl (fun K hK => ?_)
  go_simp
  refine hK.out _ _ (HMk.out _ (Ha.out.1.later (below_a _))) (fun hHeld => ?_)
  clear hK K
  try simp only [Act.put, List.setIfInBounds_toArray, List.set_cons_zero, List.set_cons_succ]
  have Hb : Bx (Tg w F kb (W1.alloc (.cells #[.slice (some ⟨w8.drew.heap.size, 0, none⟩) 64 64, .slice (some ⟨Ib, 0, none⟩) 32 32] 26)) ∧ Parts (W1.alloc (.cells #[.slice (some ⟨w8.drew.heap.size, 0, none⟩) 64 64, .slice (some ⟨Ib, 0, none⟩) 32 32] 26)) (.slice (some ⟨W1.heap.size, 0, none⟩) 2 2) [t92, inn]) := Bx.mk ⟨Ha.out.1.later (below_a _), two_parts Ha.out.2.1 Ha.out.2.2⟩
  refine stepL 4 (by kernel_rfl) rfl (fun K hK => ?_)
  go_simp
  refine (dsum_parts [t92, inn] _ _ Hb.out.2 (by simp) (by have h1 := HTL.out; have h2 := HIL.out; simp only [List.flatten_cons, List.flatten_nil, List.append_nil, List.length_append]; omega) (HA.out.later Hb.out.1.below hg) (Nat.lt_of_lt_of_le hg Hb.out.1.below.size)).mono ?_
  rintro e W2 ⟨rfl, hb2⟩
  show K _ _
  have Hc : Bx (Tg w F kb W2) := Bx.mk (Hb.out.1.later hb2)
  clear hb2
  refine hK.out _ _ (HMk.out _ Hc.out) (fun hHeld => ?_)
  clear hK K
  try simp only [Act.put, List.setIfInBounds_toArray, List.set_cons_zero, List.set_cons_succ]
  have HE : Bx (sha ([t92, inn] : List (List UInt8)).flatten = hm) := Bx.mk (by rw [← HHM.out]; simp)
  rw [HE.out]
  have HI3 : Bx ((Tryd.prog.info? 27).map (·.size) = some (u8s hm).size) := Bx.mk (by rw [u8s_size, HML.out]; kernel_rfl)
  have Hd : Bx (Below w.heap.size w (W2.setCells w.heap.size 0 (u8s hm).toList) ∧ (W2.setCells w.heap.size 0 (u8s hm).toList).heap[w.heap.size]? = some (.cells (u8s hm) 27 (0, 0))) := Bx.mk ⟨below_setCells (Nat.le_refl _) _ _ _ _ Hc.out.below, heap_setCells_all Hc.out.res (by rw [u8s_size, u8s_size, HML.out]; rfl)⟩
  have Hr : Bx ((W2.setCells w.heap.size 0 (u8s hm).toList).rangeAt F 0 (vs8 kb)) := Bx.mk (range_u8 (by rw [heap_setCells_other _ _ (by have := Hc.out.lt; omega)]; exact Hc.out.row))
  refine stepL 5 (by kernel_rfl) rfl (fun K hK => ?_)
  refine step_st rfl 27 _ _ rfl w.heap.size (u8s hm) (by rfl) (by rfl) (there_row Hc.out.res 0 _ (by rw [u8s_size, u8s_size, HML.out]; simp)) HI3.out (one_u8s _) ?_
  refine hK.out _ _ ⟨Hr.out, ⟨Hd.out.1⟩⟩ (fun hHeld => ?_)
  refine wpAnyH_done (by kernel_rfl) ?_ _
  refine NoPanic.normal ?_
  clear hK K hHeld
  go_wp2
  refine bodyPost_ret (results_cell_row rfl _ _ w.heap.size _ (u8s hm) _ _ rfl Hd.out.2 Tryd.underlying27 rfl HI3.out) rfl ?_
  exact ⟨rfl, Hd.out.1⟩
end Go.Proofs.YtaoekfomffebhaaDoor
namespace Go.Proofs.YtaoekfomffebhaaDoor
open Go Go.RowKit
end Go.Proofs.YtaoekfomffebhaaDoor
namespace Go.Proofs.YtaoekfomffebhaaDoor
open Go Go.RowKit
theorem hmac_length (k m : List UInt8) : (hmac k m).length = 32 := sha_length _
end Go.Proofs.YtaoekfomffebhaaDoor
