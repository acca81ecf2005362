/-
  Sealed bytes as plain functions, and the small walks of the package seal.
-/
import Derived.Test.YtcaehkglfliihaaDoorKb
namespace Go.Proofs.YtcaehkglfliihaaDoor
open Go Go.RowKit
def hideL : List UInt8 := [104, 105, 100, 101]
def bindL : List UInt8 := [98, 105, 110, 100]
def hideK (key : List UInt8) : List UInt8 := hmac key (frame [hideL])
def bindK (key : List UInt8) : List UInt8 := hmac key (frame [bindL])
/-- What a block's tag is of. -/
def blkM (nonce : List UInt8) (i : Nat) : List UInt8 := [UInt8.ofNat nonce.length] ++ (nonce ++ lenB i)
/-- A block of the stream. -/
def blkOf (hk nonce : List UInt8) (i : Nat) : List UInt8 := hmac hk (blkM nonce i)
/-- A byte of the stream. -/
def sbyte (hk nonce : List UInt8) (j : Nat) : UInt8 := (blkOf hk nonce (j / 32)).getD (j % 32) 0
/-- The first bytes of the stream. -/
def strm (hk nonce : List UInt8) (n : Nat) : List UInt8 := (List.range n).map (sbyte hk nonce)
/-- Bytes, the first k of which are turned. -/
def trnT (hk nonce b : List UInt8) (k : Nat) : List UInt8 := (List.range b.length).map fun j => if j < k then b.getD j 0 ^^^ sbyte hk nonce j else b.getD j 0
/-- The body. -/
def trnd (hk nonce b : List UInt8) : List UInt8 := (List.range b.length).map fun j => b.getD j 0 ^^^ sbyte hk nonce j
/-- The tag. -/
def tagB (bk nonce bound body : List UInt8) : List UInt8 := hmac bk (frame [nonce, bound, body])
/-- Sealed bytes. -/
def sealB (key nonce bound b : List UInt8) : List UInt8 := trnd (hideK key) nonce b ++ tagB (bindK key) nonce bound (trnd (hideK key) nonce b)
theorem blkOf_length (hk nonce : List UInt8) (i : Nat) : (blkOf hk nonce i).length = 32 := hmac_length _ _
theorem strm_length (hk nonce : List UInt8) (n : Nat) : (strm hk nonce n).length = n := by simp [strm]
theorem trnT_length (hk nonce b : List UInt8) (k : Nat) : (trnT hk nonce b k).length = b.length := by simp [trnT]
theorem trnd_length (hk nonce b : List UInt8) : (trnd hk nonce b).length = b.length := by simp [trnd]
theorem tagB_length (bk nonce bound body : List UInt8) : (tagB bk nonce bound body).length = 32 := hmac_length _ _
theorem sealB_length (key nonce bound b : List UInt8) : (sealB key nonce bound b).length = b.length + 32 := by unfold sealB; rw [List.length_append, trnd_length, tagB_length]
theorem trnd_get (hk nonce b : List UInt8) (j : Nat) (h : j < b.length) : (trnd hk nonce b).getD j 0 = b.getD j 0 ^^^ sbyte hk nonce j := by
  unfold trnd
  rw [List.getD_eq_getElem?_getD, List.getElem?_map, List.getElem?_range h]
  rfl
theorem trnT_get (hk nonce b : List UInt8) (k j : Nat) (h : j < b.length) : (trnT hk nonce b k).getD j 0 = if j < k then b.getD j 0 ^^^ sbyte hk nonce j else b.getD j 0 := by
  unfold trnT
  rw [List.getD_eq_getElem?_getD, List.getElem?_map, List.getElem?_range h]
  rfl
theorem trnd_twice (hk nonce b : List UInt8) : trnd hk nonce (trnd hk nonce b) = b := by
  apply ext_getD
  · rw [trnd_length, trnd_length]
  · intro i hi
    rw [trnd_length, trnd_length] at hi
    rw [trnd_get _ _ _ _ (by rw [trnd_length]; exact hi), trnd_get _ _ _ _ hi, UInt8.xor_assoc, UInt8.xor_self, UInt8.xor_zero]
theorem trnT_zero (hk nonce b : List UInt8) : trnT hk nonce b 0 = b := by
  apply ext_getD
  · rw [trnT_length]
  · intro i hi
    rw [trnT_length] at hi
    rw [trnT_get _ _ _ _ _ hi, if_neg (by omega)]
theorem trnT_all (hk nonce b : List UInt8) (n : Nat) (h : b.length = n) : trnT hk nonce b n = trnd hk nonce b := by
  apply ext_getD
  · rw [trnT_length, trnd_length]
  · intro i hi
    rw [trnT_length] at hi
    rw [trnT_get _ _ _ _ _ hi, trnd_get _ _ _ _ hi, if_pos (by omega)]
theorem trnT_succ (hk nonce b : List UInt8) (k : Nat) (h : k < b.length) : (trnT hk nonce b k).set k ((trnT hk nonce b k).getD k 0 ^^^ sbyte hk nonce k) = trnT hk nonce b (k + 1) := by
  apply ext_getD
  · rw [List.length_set, trnT_length, trnT_length]
  · intro i hi
    rw [List.length_set, trnT_length] at hi
    rw [trnT_get _ _ _ _ _ hi]
    by_cases e : i = k
    · subst e
      rw [List.getD_eq_getElem?_getD, List.getElem?_set, if_pos rfl, if_pos (by rw [trnT_length]; exact hi), trnT_get _ _ _ _ _ hi, if_neg (by omega), if_pos (by omega)]
      rfl
    · rw [List.getD_eq_getElem?_getD, List.getElem?_set_ne (by omega), ← List.getD_eq_getElem?_getD, trnT_get _ _ _ _ _ hi]
      by_cases h1 : i < k
      · rw [if_pos h1, if_pos (by omega)]
      · rw [if_neg h1, if_neg (by omega)]
theorem strm_blocks (hk nonce : List UInt8) (k : Nat) : strm hk nonce (32 * (k + 1)) = strm hk nonce (32 * k) ++ blkOf hk nonce k := by
  unfold strm
  rw [show 32 * (k + 1) = 32 * k + 32 by omega, List.range_add, List.map_append]
  congr 1
  apply List.ext_getElem
  · simp [blkOf_length]
  · intro i h1 h2
    have hi : i < 32 := by simpa using h1
    simp only [List.getElem_map, List.getElem_range, sbyte]
    rw [show (32 * k + i) / 32 = k by omega, show (32 * k + i) % 32 = i by omega]
    have h3 : i < (blkOf hk nonce k).length := by rw [blkOf_length]; exact hi
    simp [h3]
theorem strm_take (hk nonce : List UInt8) (n m : Nat) (h : n ≤ m) : (strm hk nonce m).take n = strm hk nonce n := by
  unfold strm
  rw [← List.map_take, List.take_range, Nat.min_eq_left h]
set_option maxRecDepth 100000 in
theorem four_any (n : Nat) (w : World) (hn : n ≤ 140737488355328) : Calls Tryd.prog 63 #[.int .i64 (n : Int)] w fun e w' => e = .returned (.slice (some ⟨w.heap.size, 0, none⟩) 4 4) ∧ Below w.heap.size w w' ∧ Bytes w' (.slice (some ⟨w.heap.size, 0, none⟩) 4 4) (lenB n) := by
  have h3 := (len_byte n 3).resolve_right (by omega)
  have h2 := (len_byte n 2).resolve_right (by omega)
  have h1 := (len_byte n 1).resolve_right (by omega)
  have h0 := (len_byte n 0).resolve_right (by omega)
  simp only [Nat.mul_zero, Int.pow_zero, Nat.reduceMul, Int.reducePow, Int.ediv_one] at h0 h1 h2 h3
  have hn1 : (n : Int) ≤ 140737488355328 := by omega
  go_enter Tryd.func63, Tryd.ntmps63
  go_wp2
  go_ret
  refine ⟨rfl, below_a _, ?_⟩
  exact built w (lenB n)
/-- The two keys of a key. -/
def IsPair (w : World) (v : Value) (hk bk : List UInt8) : Prop :=
  ∃ p k1 k2, v = .pointer (some ⟨p, 0, none⟩) ∧ w.heap[p]? = some (.cells #[k1, k2] 102 (0, 0)) ∧ IsKey w k1 hk ∧ IsKey w k2 bk
theorem IsPair.later {w w1 : World} {v : Value} {hk bk : List UInt8} (h : IsPair w v hk bk) (hb : Below w.heap.size w w1) : IsPair w1 v hk bk := by
  obtain ⟨p, k1, k2, hv, hr, h1, h2⟩ := h
  exact ⟨p, k1, k2, hv, by rw [hb.block _ (Array.getElem?_eq_some_iff.1 hr).1]; exact hr, h1.later hb, h2.later hb⟩
theorem IsKey.form {w : World} {v : Value} {bs : List UInt8} (h : IsKey w v bs) : ∃ p, v = .pointer (some ⟨p, 0, none⟩) := by
  obtain ⟨p, s, hv, -⟩ := h
  exact ⟨p, hv⟩
set_option maxRecDepth 100000 in
set_option maxHeartbeats 400000 in
theorem derived_any (key : List UInt8) (v : Value) (w : World) (hv : IsKey w v key) (hl : key.length ≤ 1000000) (hTab : Tab w) (hg : 0 < w.heap.size) :
    Calls Tryd.prog 43 #[v] w fun e w' => ∃ v', e = .returned v' ∧ IsPair w' v' (hideK key) (bindK key) ∧ Below w.heap.size w w' := by
  have HV := Bx.mk hv
  have HL := Bx.mk hl
  have HA := Bx.mk hTab
  obtain ⟨p, rfl⟩ := hv.form
  clear hv hl hTab
  go_enter Tryd.func43, Tryd.ntmps43
  go_wp2_with fail
  refine (kderive_any key hideL [] _ _ w HV.out (Parts.nil _) HL.out (by decide) (by simp) (by simp) HA.out hg).mono ?_
  rintro e w1 ⟨v1, rfl, hk1, hb1⟩
  have H1 : Bx (IsKey w1 v1 (hideK key) ∧ Below w.heap.size w w1) := Bx.mk ⟨hk1.key, hb1⟩
  obtain ⟨p1, rfl⟩ := hk1.key.form
  clear hk1 hb1
  go_wp2_with fail
  refine (kderive_any key bindL [] _ _ w1 (HV.out.later H1.out.2) (Parts.nil _) HL.out (by decide) (by simp) (by simp) (HA.out.later H1.out.2 hg) (Nat.lt_of_lt_of_le hg H1.out.2.size)).mono ?_
  rintro e w2 ⟨v2, rfl, hk2, hb2⟩
  have H2 : Bx (IsKey w2 (.pointer (some ⟨p1, 0, none⟩)) (hideK key) ∧ IsKey w2 v2 (bindK key) ∧ Below w.heap.size w w2) := Bx.mk ⟨H1.out.1.later hb2, hk2.key, H1.out.2.trans (hb2.mono H1.out.2.size)⟩
  obtain ⟨p2, rfl⟩ := hk2.key.form
  clear hk2 hb2 H1
  go_wp2
  go_ret
  exact ⟨_, rfl, ⟨_, _, _, rfl, by rw [hnew _ _ _ rfl], H2.out.1.later (below_a _), H2.out.2.1.later (below_a _)⟩, H2.out.2.2.alloc H2.out.2.2.size _⟩
theorem derived_nil (w : World) : Calls Tryd.prog 43 #[.pointer none] w fun e w' => e = .returned (.pointer none) ∧ w = w' := by
  go_enter Tryd.func43, Tryd.ntmps43
  go_wp2
  go_ret
  exact ⟨rfl, rfl⟩
theorem IsPair.form {w : World} {v : Value} {hk bk : List UInt8} (h : IsPair w v hk bk) : ∃ p, v = .pointer (some ⟨p, 0, none⟩) := by
  obtain ⟨p, _, _, hv, -⟩ := h
  exact ⟨p, hv⟩
set_option maxRecDepth 100000 in
theorem takes_any (hk bk nonce : List UInt8) (v vn : Value) (w : World) (hv : IsPair w v hk bk) (hn : Bytes w vn nonce) (hl : nonce.length ≤ 140737488355328) :
    Calls Tryd.prog 58 #[v, vn] w fun e w' => e = .returned (.bool (decide (nonce.length ≤ 32))) ∧ w' = w := by
  obtain ⟨p, rfl⟩ := hv.form
  obtain ⟨a, cap, rfl, -⟩ := hn
  obtain ⟨n, hn⟩ : ∃ n, nonce.length = n := ⟨_, rfl⟩
  rw [hn] at hl ⊢
  have hl1 : (n : Int) ≤ 140737488355328 := by omega
  clear hn hv
  go_enter Tryd.func58, Tryd.ntmps58
  go_wp2
  go_ret
  exact ⟨congrArg (fun b => Ending.returned (.bool b)) (decide_eq_decide.2 (by omega)), rfl⟩
theorem takes_nil (vn : Value) (w : World) : Calls Tryd.prog 58 #[.pointer none, vn] w fun e w' => e = .returned (.bool false) ∧ w' = w := by
  go_enter Tryd.func58, Tryd.ntmps58
  go_wp2
  go_ret
  exact ⟨rfl, rfl⟩
theorem nil_nil (W : World) : (binOp BinOp.eql 22 (.slice none 0 0) (.slice none 0 0)).run Tryd.prog W = .ok (.bool true) W := by kernel_rfl
theorem some_nil (ad : Addr) (n cap : Nat) (W : World) : (binOp BinOp.eql 22 (.slice (some ad) n cap) (.slice none 0 0)).run Tryd.prog W = .ok (.bool false) W := by kernel_rfl
set_option maxRecDepth 100000 in
set_option maxHeartbeats 400000 in
theorem clone_any (bs : List UInt8) (v : Value) (w : World) (hv : Bytes w v bs) (hl : bs.length ≤ 140737488355328) :
    Calls Tryd.prog 69 #[v] w fun e w' => ∃ v', e = .returned v' ∧ OwnB w' w.heap.size v' bs ∧ Below w.heap.size w w' := by
  have HV := Bx.mk hv
  have HL := Bx.mk hl
  obtain ⟨a, cap, rfl, -, hnone, -⟩ := hv
  obtain ⟨n, hn⟩ : ∃ n, bs.length = n := ⟨_, rfl⟩
  have HN := Bx.mk hn
  rw [hn] at HV ⊢
  rcases a with _ | ad
  · have hz := hnone rfl
    subst hz
    have h0 : n = 0 := by obtain ⟨_, _, hx, hc, hz, -⟩ := HV.out; injection hx with e1 e2 e3; have := hz e1.symm; omega
    subst h0
    have hb : bs = [] := List.eq_nil_of_length_eq_zero hn
    subst hb
    clear hn hl hnone
    have hq := nil_nil
    go_enter Tryd.func69, Tryd.ntmps69
    go_wp2
    go_ret
    exact ⟨_, rfl, OwnB.nil _ _, Below.refl _ _⟩
  · clear hn hl hnone
    have h1 : Bx (OwnB (w.alloc (.cells #[] 5)) w.heap.size (.slice (some ⟨w.heap.size, 0, none⟩) 0 0) [] ∧ Below w.heap.size w (w.alloc (.cells #[] 5))) := Bx.mk ⟨own_empty _ _ (Nat.le_refl _), below_a _⟩
    have hq := some_nil ad n cap
    go_enter Tryd.func69, Tryd.ntmps69
    go_wp2_with (refine wpList_ap rfl _ _ rfl w.heap.size _ [] (by rfl) h1.out.1 _ bs (by rfl) (HV.out.later h1.out.2) (by have := HL.out; simp; omega) (by exact h1.out.2.size) ?_; intro v2 w2 ho2 hg2 _; have H2 : Bx (OwnB w2 w.heap.size v2 bs ∧ Below w.heap.size w w2) := Bx.mk ⟨ho2, h1.out.2.trans (own_below h1.out.1 hg2 h1.out.2.size)⟩; clear ho2 hg2)
    go_ret
    exact ⟨_, rfl, H2.out⟩
set_option maxRecDepth 100000 in
theorem size_any (z : Int) (w : World) (h1 : -9223372036854775808 ≤ z) (h2 : z ≤ 9223372036854775807) : Calls Tryd.prog 28 #[.int .i64 z] w fun e w' => e = .returned (.int .i64 (if z < 0 ∨ 65536 < z then 0 else z + 32)) ∧ w' = w := by
  by_cases ha : z < 0
  · rw [if_pos (Or.inl ha)]
    go_enter Tryd.func28, Tryd.ntmps28
    go_wp2
    go_ret
    exact ⟨rfl, rfl⟩
  · by_cases hb : 65536 < z
    · rw [if_pos (Or.inr hb)]
      go_enter Tryd.func28, Tryd.ntmps28
      go_wp2
      go_ret
      exact ⟨rfl, rfl⟩
    · rw [if_neg (by omega)]
      go_enter Tryd.func28, Tryd.ntmps28
      go_wp2
      go_ret
      exact ⟨rfl, rfl⟩
set_option maxRecDepth 100000 in
theorem masked_any (bs : List UInt8) (v : Value) (w : World) (hv : Bytes w v bs) (hl : bs.length ≤ 140737488355328) : Calls Tryd.prog 29 #[v] w fun e w' => e = .returned (.int .i64 ((bs.length - 32 : Nat) : Int)) ∧ w' = w := by
  obtain ⟨a, cap, rfl, -⟩ := hv
  obtain ⟨n, hn⟩ : ∃ n, bs.length = n := ⟨_, rfl⟩
  rw [hn] at hl ⊢
  have hl1 : (n : Int) ≤ 140737488355328 := by omega
  by_cases h : n ≤ 32
  · have h' : (n : Int) ≤ 32 := by omega
    have e : n - 32 = 0 := by omega
    rw [e]
    go_enter Tryd.func29, Tryd.ntmps29
    go_wp2
    go_ret
    exact ⟨rfl, rfl⟩
  · have h' : ¬ (n : Int) ≤ 32 := by omega
    have e : ((n - 32 : Nat) : Int) = (n : Int) - 32 := by omega
    rw [e]
    go_enter Tryd.func29, Tryd.ntmps29
    go_wp2
    go_ret
    exact ⟨rfl, rfl⟩
end Go.Proofs.YtcaehkglfliihaaDoor
