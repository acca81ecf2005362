/-
  The pieces of the statement on keys.
-/
import Derived.Test.YtcaehkglfliihaaDoorAh
import Derived.Test.YtcaehkglfliihaaDoorKc
namespace Go.Proofs.YtcaehkglfliihaaDoor
open Go Go.RowKit
set_option maxRecDepth 100000 in
theorem open148 {a : Act} (h : Fr 148 a) : ∃ x : Nat → Value, a = ⟨List.toArray (x 0 :: x 1 :: x 2 :: x 3 :: x 4 :: x 5 :: x 6 :: x 7 :: x 8 :: x 9 :: x 10 :: x 11 :: x 12 :: x 13 :: x 14 :: x 15 :: x 16 :: x 17 :: x 18 :: x 19 :: x 20 :: x 21 :: x 22 :: x 23 :: x 24 :: x 25 :: x 26 :: x 27 :: x 28 :: x 29 :: x 30 :: x 31 :: x 32 :: x 33 :: x 34 :: x 35 :: x 36 :: x 37 :: x 38 :: x 39 :: x 40 :: x 41 :: x 42 :: x 43 :: x 44 :: x 45 :: x 46 :: x 47 :: x 48 :: x 49 :: x 50 :: x 51 :: x 52 :: x 53 :: x 54 :: x 55 :: x 56 :: x 57 :: x 58 :: x 59 :: x 60 :: x 61 :: x 62 :: x 63 :: x 64 :: x 65 :: x 66 :: x 67 :: x 68 :: x 69 :: x 70 :: x 71 :: x 72 :: x 73 :: x 74 :: x 75 :: x 76 :: x 77 :: x 78 :: x 79 :: x 80 :: x 81 :: x 82 :: x 83 :: x 84 :: x 85 :: x 86 :: x 87 :: x 88 :: x 89 :: x 90 :: x 91 :: x 92 :: x 93 :: x 94 :: x 95 :: x 96 :: x 97 :: x 98 :: x 99 :: x 100 :: x 101 :: x 102 :: x 103 :: x 104 :: x 105 :: x 106 :: x 107 :: x 108 :: x 109 :: x 110 :: x 111 :: x 112 :: x 113 :: x 114 :: x 115 :: x 116 :: x 117 :: x 118 :: x 119 :: x 120 :: x 121 :: x 122 :: x 123 :: x 124 :: x 125 :: x 126 :: x 127 :: x 128 :: x 129 :: x 130 :: x 131 :: x 132 :: x 133 :: x 134 :: x 135 :: x 136 :: x 137 :: x 138 :: x 139 :: x 140 :: x 141 :: x 142 :: x 143 :: x 144 :: x 145 :: x 146 :: x 147 :: []), []⟩ ∧ ∀ i, a.eval (.tmp i) = x i := ⟨fun i => a.tmps.getD i undef, h.form, fun _ => rfl⟩
/-- What stays: the parts, all bytes, the key, the document's table. -/
structure KS (w : World) (b1 T : Nat) (tbl us : List Value) (vo va pk : Value) (key al : List UInt8) (W : World) : Prop where
  below : Below w.heap.size w W
  tab : Tab W
  own : OwnP W b1 vo us
  all : OwnB W b1 va al
  kk : KeyO W b1 pk key
  lt : T < W.heap.size
  tb : b1 ≤ T
  row : W.heap[T]? = some (.cells tbl.toArray 30 (0, 0))
theorem KS.rng {w : World} {b1 T : Nat} {tbl us : List Value} {vo va pk : Value} {key al : List UInt8} {W : World} (h : KS w b1 T tbl us vo va pk key al W) : W.rangeAt T 0 tbl := fun j v hv => by
  rw [cell_of_row _ _ _ _ _ _ h.row, Nat.zero_add, ← Array.getElem?_toList]
  exact hv
theorem KS.later {w : World} {b1 T : Nat} {tbl us : List Value} {vo va pk : Value} {key al : List UInt8} {W W1 : World} (hg : 0 < w.heap.size) (h : KS w b1 T tbl us vo va pk key al W) (hb : Below W.heap.size W W1) : KS w b1 T tbl us vo va pk key al W1 :=
  ⟨h.below.trans (hb.mono h.below.size), h.tab.later hb (Nat.lt_of_lt_of_le hg h.below.size), h.own.later hb (fun g hg => (h.own.lt g hg).1), h.all.later hb (fun g hg => (h.all.lt g hg).1), h.kk.later hb, Nat.lt_of_lt_of_le h.lt hb.size, h.tb, by rw [hb.block _ h.lt]; exact h.row⟩
theorem KeyO.grown {W W1 : World} {b1 g : Nat} {pk : Value} {key : List UInt8} (h : KeyO W b1 pk key) (hk : W.grownBy W1 (some g)) (hb : g < b1) : KeyO W1 b1 pk key := by
  obtain ⟨p, s, hv, hp, hr, ho⟩ := h
  exact ⟨p, s, hv, hp, by rw [hk.block _ (Array.getElem?_eq_some_iff.1 hr).1 (by intro e; injection e with e; omega)]; exact hr, ho.grown hk (fun g' hg' e => by injection hg' with hg'; have := (ho.lt _ e).2; omega)⟩
theorem KS.turn {w : World} {b1 T g : Nat} {tbl us : List Value} {vo va pk : Value} {key al : List UInt8} {W W1 : World} (hg : 0 < w.heap.size) (h : KS w b1 T tbl us vo va pk key al W) (hk : W.grownBy W1 (some g)) (h1 : w.heap.size ≤ g) (h2 : g < b1) : KS w b1 T tbl us vo va pk key al W1 :=
  have hb : Below w.heap.size w W1 := below_kb h.below h.below.size hk h1
  ⟨hb, fun i hi => by
    have := hk.block 0 (Nat.lt_of_lt_of_le hg h.below.size) (by intro e; injection e with e; omega)
    have h3 := h.tab i hi
    rw [← h3]
    unfold World.cell?
    rw [this], h.own.grown hk (fun g' hg' e => by injection hg' with hg'; have := (h.own.lt _ e).2; omega), h.all.grown hk (fun g' hg' e => by injection hg' with hg'; have := (h.all.lt _ e).2; omega), h.kk.grown hk h2, Nat.lt_of_lt_of_le h.lt hk.size, h.tb, by rw [hk.block T h.lt (by intro e; injection e with e; have := h.tb; omega)]; exact h.row⟩
/-- Whether the first bytes are 0. -/
def zeroTo (key : List UInt8) (k : Nat) : Bool := (key.take k).all (· == 0)
theorem zeroTo_succ (key : List UInt8) (k : Nat) (h : k < key.length) : zeroTo key (k + 1) = (zeroTo key k && key.getD k 0 == 0) := by
  unfold zeroTo
  rw [List.take_succ_eq_append_getElem h, List.all_append]
  simp [h]
theorem zeroTo_all (key : List UInt8) (n : Nat) (h : key.length = n) : zeroTo key n = blankB key := by
  unfold zeroTo blankB
  rw [List.take_of_length_le (by omega)]
theorem ub_zero (x : UInt8) : (ub x == 0) = (x == 0) := by
  rw [Bool.eq_iff_iff]
  simp only [beq_iff_eq]
  constructor
  · intro h; exact ub_inj h
  · rintro rfl; rfl
/-- What stays in the frame. -/
structure KF (v0 v1 v7 v8 v9 v10 : Value) (a : Act) : Prop where
  fr : Fr 148 a
  s0 : a.eval (.tmp 0) = v0
  s1 : a.eval (.tmp 1) = v1
  s7 : a.eval (.tmp 7) = v7
  s8 : a.eval (.tmp 8) = v8
  s9 : a.eval (.tmp 9) = v9
  s10 : a.eval (.tmp 10) = v10
structure IKz (v0 v1 v7 v8 v9 v10 : Value) (w4 : World) (key : List UInt8) (k : Nat) (a : Act) (wr : World) : Prop where
  kf : KF v0 v1 v7 v8 v9 v10 a
  s11 : a.eval (.tmp 11) = .bool (zeroTo key k)
  s12 : a.eval (.tmp 12) = .int .i64 (k : Int)
  w : wr = w4
set_option maxRecDepth 100000 in
set_option maxHeartbeats 1000000 in
theorem roundKz (a0 : Option Addr) (n cap : Nat) (v1 v7 v8 v9 v10 : Value) (w4 : World) (key : List UInt8) (hk : Bytes w4 (.slice a0 n cap) key) (hl : key.length = n) (hn : n ≤ 150) (Q : Exit → Act → World → Prop) (k : Nat) (a : Act) (wr : World) (hkn : k < n) (h : IKz (.slice a0 n cap) v1 v7 v8 v9 v10 w4 key k a wr) :
    Code.wp Tryd.prog (loopAt Tryd.f3.body 0) (Exit.then (fun a' w' => IKz (.slice a0 n cap) v1 v7 v8 v9 v10 w4 key (k + 1) a' w') Q) a wr := by
  obtain rfl := h.w
  have HS := Bx.mk (zeroTo_succ key k (by omega))
  obtain ⟨g, o, rfl, hcell⟩ := hk.cell k hkn
  obtain ⟨x, rfl, hx⟩ := open148 h.kf.fr
  have e0 := (hx 0).symm.trans h.kf.s0
  have e1 := (hx 1).symm.trans h.kf.s1
  have e7 := (hx 7).symm.trans h.kf.s7
  have e8 := (hx 8).symm.trans h.kf.s8
  have e9 := (hx 9).symm.trans h.kf.s9
  have e10 := (hx 10).symm.trans h.kf.s10
  have e11 := (hx 11).symm.trans h.s11
  have e12 := (hx 12).symm.trans h.s12
  clear h hx hk
  rw [e0, e1, e7, e8, e9, e10, e11, e12]
  clear e0 e1 e7 e8 e9 e10 e11 e12
  have hk1 : (k : Int) < (n : Int) := by omega
  have hn1 : (n : Int) ≤ 150 := by omega
  have hub := ub_zero (key.getD k 0)
  generalize key.getD k 0 = x0 at *
  cases hb : zeroTo key k with
  | false =>
    rw [hb] at HS
    clear hb
    conv => arg 2; whnf
    go_wp2
    exact ⟨⟨⟨rfl, rfl⟩, rfl, rfl, rfl, rfl, rfl, rfl⟩, by rw [HS.out]; rfl, by go_num, rfl⟩
  | true =>
    rw [hb] at HS
    clear hb
    conv => arg 2; whnf
    go_wp2
    exact ⟨⟨⟨rfl, rfl⟩, rfl, rfl, rfl, rfl, rfl, rfl⟩, by rw [HS.out, Bool.true_and, ← hub]; rfl, by go_num, rfl⟩
set_option maxRecDepth 100000 in
set_option maxHeartbeats 1000000 in
theorem lastKz (a0 : Option Addr) (n cap : Nat) (v1 v7 v8 v9 v10 : Value) (w4 : World) (key : List UInt8) (hl : key.length = n) (hn : n ≤ 150) (Q : Exit → Act → World → Prop) (N : Act → World → Prop)
    (hq : ∀ a', KF (.slice a0 n cap) v1 v7 v8 v9 v10 a' → a'.eval (.tmp 11) = .bool (blankB key) → Q (.exit 0) a' w4) (a : Act) (wr : World) (h : IKz (.slice a0 n cap) v1 v7 v8 v9 v10 w4 key n a wr) :
    Code.wp Tryd.prog (loopAt Tryd.f3.body 0) (Exit.then N Q) a wr := by
  obtain rfl := h.w
  have HQ := Bx.mk hq
  have HE := Bx.mk (zeroTo_all key n hl)
  obtain ⟨x, rfl, hx⟩ := open148 h.kf.fr
  have e0 := (hx 0).symm.trans h.kf.s0
  have e1 := (hx 1).symm.trans h.kf.s1
  have e7 := (hx 7).symm.trans h.kf.s7
  have e8 := (hx 8).symm.trans h.kf.s8
  have e9 := (hx 9).symm.trans h.kf.s9
  have e10 := (hx 10).symm.trans h.kf.s10
  have e11 := (hx 11).symm.trans h.s11
  have e12 := (hx 12).symm.trans h.s12
  clear h hx hq
  rw [e0, e1, e7, e8, e9, e10, e11, e12]
  clear e0 e1 e7 e8 e9 e10 e11 e12
  have hk1 : ¬ (n : Int) < (n : Int) := by omega
  have hn1 : (n : Int) ≤ 150 := by omega
  generalize zeroTo key n = zz at *
  conv => arg 2; whnf
  go_wp2
  exact HQ.out _ ⟨⟨rfl, rfl⟩, rfl, rfl, rfl, rfl, rfl, rfl⟩ (by rw [← HE.out]; rfl)
theorem loopKz (a0 : Option Addr) (n cap : Nat) (v1 v7 v8 v9 v10 : Value) (w4 : World) (key : List UInt8) (hk : Bytes w4 (.slice a0 n cap) key) (hl : key.length = n) (hn : n ≤ 150) (Q : Exit → Act → World → Prop) (a : Act) (h : IKz (.slice a0 n cap) v1 v7 v8 v9 v10 w4 key 0 a w4)
    (hq : ∀ a', KF (.slice a0 n cap) v1 v7 v8 v9 v10 a' → a'.eval (.tmp 11) = .bool (blankB key) → Q (.exit 0) a' w4) :
    Code.wp Tryd.prog (.loop (loopAt Tryd.f3.body 0)) Q a w4 :=
  wp_count n (fun k a w => IKz (.slice a0 n cap) v1 v7 v8 v9 v10 w4 key k a w) 0 (Nat.zero_le _) h (fun k a w hk' hI => roundKz a0 n cap v1 v7 v8 v9 v10 w4 key hk hl hn Q k a w hk' hI) (fun a w hI => lastKz a0 n cap v1 v7 v8 v9 v10 w4 key hl hn Q _ hq a w hI)
theorem same_drew (l : List UInt8) (va vb : Value) (w : World) (ha : Bytes w va l) (hb : Bytes w vb l) (hl : l.length ≤ 140737488355328) : Calls Tryd.prog 16 #[va, vb] w fun e w' => e = .returned (.bool true) ∧ Below w.heap.size w w' :=
  (same_any l l va vb w ha hb hl hl).mono fun _ _ ⟨he, n, hw⟩ => ⟨by rw [he, decide_eq_true rfl], by rw [hw]; exact below_drewN (Below.refl _ _) _⟩
set_option maxRecDepth 100000 in
set_option maxHeartbeats 4000000 in
theorem reg13K (w : World) (b1 T : Nat) (tbl us : List Value) (vo va pk : Value) (key al lab : List UInt8) (xs : List (List UInt8)) (a0 : Option Addr) (n cap D3 D4 D5 : Nat) (want p8 : List UInt8) (htb : u32s (kTab ++ hTab) = tbl.toArray) (hg : 0 < w.heap.size) (hvals : Vals w us xs) (hal : xs.flatten = al) (hkn : key.length ≤ 150) (hln : lab.length ≤ 60) (hxs : xs.length ≤ 8) (hpx : ∀ p ∈ xs, p.length ≤ 60) (hfl : al.length ≤ 480)
    (hwant : hmac key (frame (lab :: xs)) = want) (hp8 : p8.length = 8) (W4 : World) (hF : (KS w b1 T tbl us vo va pk key al W4 ∧ OwnB W4 w.heap.size (.slice a0 n cap) key ∧ Bytes W4 (.slice (some ⟨D3, 0, none⟩) 32 32) want ∧ Bytes W4 (.slice (some ⟨D4, 0, none⟩) 8 32) p8 ∧ Bytes W4 (.slice (some ⟨D5, 0, none⟩) 8 8) p8)) (Q : Exit → Act → World → Prop) (fa : Act) (h : KF (.slice a0 n cap) (.string ⟨lab.toArray⟩) vo va (.pointer (some ⟨T, 0, none⟩)) pk fa)
    (h11 : fa.eval (.tmp 11) = .bool (blankB key)) (h13 : fa.eval (.tmp 13) = .pointer (some ⟨D3, 0, none⟩)) (h14 : fa.eval (.tmp 14) = .pointer (some ⟨D4, 0, none⟩)) (h15 : fa.eval (.tmp 15) = .pointer (some ⟨D5, 0, none⟩))
    (hQ : ∀ a' W', KF (.slice a0 n cap) (.string ⟨lab.toArray⟩) vo va (.pointer (some ⟨T, 0, none⟩)) pk a' → a'.eval (.tmp 98) = .bool false → KS w b1 T tbl us vo va pk key al W' → OwnB W' w.heap.size (.slice a0 n cap) key → Q .normal a' W') :
    Code.wp Tryd.prog (regionAt Tryd.f3.body 13) Q fa W4 := by
  have gl : ∀ {W : World}, KS w b1 T tbl us vo va pk key al W → 0 < W.heap.size := fun h => Nat.lt_of_lt_of_le hg h.below.size
  have HLt : Bx (∀ {W W' : World}, (W.rangeAt T 0 tbl ∧ Bx (KS w b1 T tbl us vo va pk key al W ∧ OwnB W w.heap.size (.slice a0 n cap) key ∧ Bytes W (.slice (some ⟨D3, 0, none⟩) 32 32) want ∧ Bytes W (.slice (some ⟨D4, 0, none⟩) 8 32) p8 ∧ Bytes W (.slice (some ⟨D5, 0, none⟩) 8 8) p8)) → Below W.heap.size W W' → (W'.rangeAt T 0 tbl ∧ Bx (KS w b1 T tbl us vo va pk key al W' ∧ OwnB W' w.heap.size (.slice a0 n cap) key ∧ Bytes W' (.slice (some ⟨D3, 0, none⟩) 32 32) want ∧ Bytes W' (.slice (some ⟨D4, 0, none⟩) 8 32) p8 ∧ Bytes W' (.slice (some ⟨D5, 0, none⟩) 8 8) p8))) := Bx.mk (fun h hb => have h2 := h.2.out.1.later hg hb
    ⟨h2.rng, ⟨h2, h.2.out.2.1.later hb (fun g hg => (h.2.out.2.1.lt g hg).1), h.2.out.2.2.1.later hb, h.2.out.2.2.2.1.later hb, h.2.out.2.2.2.2.later hb⟩⟩)
  have HS0 : Bx (W4.drew.rangeAt T 0 tbl ∧ Bx (KS w b1 T tbl us vo va pk key al W4.drew ∧ OwnB W4.drew w.heap.size (.slice a0 n cap) key ∧ Bytes W4.drew (.slice (some ⟨D3, 0, none⟩) 32 32) want ∧ Bytes W4.drew (.slice (some ⟨D4, 0, none⟩) 8 32) p8 ∧ Bytes W4.drew (.slice (some ⟨D5, 0, none⟩) 8 8) p8)) := Bx.mk (HLt.out ⟨hF.1.rng, ⟨hF⟩⟩ (Below.refl _ _).drew)
  have HTg : Bx (∀ W, (KS w b1 T tbl us vo va pk key al W ∧ OwnB W w.heap.size (.slice a0 n cap) key ∧ Bytes W (.slice (some ⟨D3, 0, none⟩) 32 32) want ∧ Bytes W (.slice (some ⟨D4, 0, none⟩) 8 32) p8 ∧ Bytes W (.slice (some ⟨D5, 0, none⟩) 8 8) p8) → Calls Tryd.prog 14 #[pk, vo] W fun e W' => e = .returned (.agg (u8s (hmac key al))) ∧ Below W.heap.size W W') := Bx.mk (fun W h => by
    rw [← hal]
    exact ktag_any key xs pk vo W h.1.kk.key (own_parts h.1.own (hvals.later h.1.below)) (by omega) (by omega) (by rw [hal]; omega) h.1.tab (gl h.1))
  have HRt : Bx (∀ W, (KS w b1 T tbl us vo va pk key al W ∧ OwnB W w.heap.size (.slice a0 n cap) key ∧ Bytes W (.slice (some ⟨D3, 0, none⟩) 32 32) want ∧ Bytes W (.slice (some ⟨D4, 0, none⟩) 8 32) p8 ∧ Bytes W (.slice (some ⟨D5, 0, none⟩) 8 8) p8) → Calls Tryd.prog 15 #[.agg tbl.toArray, (.slice a0 n cap), va] W fun e W' => e = .returned (.agg (u8s (hmac key al))) ∧ Below W.heap.size W W') := Bx.mk (fun W h => rtag_any tbl htb key al _ _ W h.2.1.bytes h.1.all.bytes (by omega) (by omega))
  have HDe : Bx (∀ W, (KS w b1 T tbl us vo va pk key al W ∧ OwnB W w.heap.size (.slice a0 n cap) key ∧ Bytes W (.slice (some ⟨D3, 0, none⟩) 32 32) want ∧ Bytes W (.slice (some ⟨D4, 0, none⟩) 8 32) p8 ∧ Bytes W (.slice (some ⟨D5, 0, none⟩) 8 8) p8) → Calls Tryd.prog 17 #[pk, .string ⟨lab.toArray⟩, vo] W fun e W' => ∃ v', e = .returned v' ∧ KeyO W' W.heap.size v' want ∧ Below W.heap.size W W') := Bx.mk (fun W h => by
    rw [← hwant]
    exact kderive_any key lab xs pk vo W h.1.kk.key (own_parts h.1.own (hvals.later h.1.below)) (by omega) (by omega) (by omega) (fun p hp => by have := hpx p hp; omega) h.1.tab (gl h.1))
  have HZr : Bx (∀ W, (KS w b1 T tbl us vo va pk key al W ∧ OwnB W w.heap.size (.slice a0 n cap) key ∧ Bytes W (.slice (some ⟨D3, 0, none⟩) 32 32) want ∧ Bytes W (.slice (some ⟨D4, 0, none⟩) 8 32) p8 ∧ Bytes W (.slice (some ⟨D5, 0, none⟩) 8 8) p8) → Calls Tryd.prog 19 #[pk] W fun e W' => e = .returned (.bool (blankB key)) ∧ Below W.heap.size W W') := Bx.mk (fun W h => (zero_any key pk W h.1.kk.key (by omega)).mono fun _ _ ⟨he, hw⟩ => ⟨he, by rw [hw]; exact Below.refl _ _⟩)
  have HWl : Bx (want.length = 32) := Bx.mk (by rw [← hwant]; exact hmac_length _ _)
  have HPl := Bx.mk hp8
  have HKl : Bx (key.length = key.length ∧ key.length ≤ 150) := Bx.mk ⟨rfl, hkn⟩
  have HQ := Bx.mk hQ
  have eq1 := fun W => eq32 (hmac key al) (hmac key al) (hmac_length _ _) (hmac_length _ _) W
  rw [beq_self_eq_true] at eq1
  have hg26 : Tryd.prog.eqGuardType Tryd.prog.depth 34 = false := by kernel_rfl
  have hu30 := Tryd.underlying30
  have hi30 : (Tryd.prog.info? 30).map (·.size) = some tbl.length := tbl_size3 htb
  obtain ⟨x, rfl, hx⟩ := open148 h.fr
  have e0 := (hx 0).symm.trans h.s0
  have e1 := (hx 1).symm.trans h.s1
  have e7 := (hx 7).symm.trans h.s7
  have e8 := (hx 8).symm.trans h.s8
  have e9 := (hx 9).symm.trans h.s9
  have e10 := (hx 10).symm.trans h.s10
  have e11 := (hx 11).symm.trans h11
  have e13 := (hx 13).symm.trans h13
  have e14 := (hx 14).symm.trans h14
  have e15 := (hx 15).symm.trans h15
  clear h hx h11 h13 h14 h15 hQ hF gl hwant hp8 htb hvals hpx hal
  rw [e0, e1, e7, e8, e9, e10, e11, e13, e14, e15]
  clear e0 e1 e7 e8 e9 e10 e11 e13 e14 e15
  generalize blankB key = bz at *
  generalize u8s (hmac key al) = uT at *
  conv => arg 2; whnf
  refine wp_region_noPanic ?_
  refine wp_region_held_drew (S := fun W => W.rangeAt T 0 tbl ∧ Bx (KS w b1 T tbl us vo va pk key al W ∧ OwnB W w.heap.size (.slice a0 n cap) key ∧ Bytes W (.slice (some ⟨D3, 0, none⟩) 32 32) want ∧ Bytes W (.slice (some ⟨D4, 0, none⟩) 8 32) p8 ∧ Bytes W (.slice (some ⟨D5, 0, none⟩) 8 8) p8)) (by kernel_rfl) (HS0.out) (fun hHeld => ?_)
  clear HS0
  refine takeL 0 (v := ?_) rfl (by kernel_rfl) (by kernel_rfl) (by kernel_rfl) (fun _ _ _ h => h) (Or.inl ⟨by rfl, ?_⟩) hHeld ?_
  rotate_left 1
  · (intro w hSw; go_simp; try with_reducible rfl)
  try simp only [Act.put, List.setIfInBounds_toArray, List.set_cons_zero, List.set_cons_succ]
  refine takeL 1 (v := ?_) rfl (by kernel_rfl) (by kernel_rfl) (by kernel_rfl) (fun _ _ _ h => h) (Or.inl ⟨by rfl, ?_⟩) hHeld ?_
  rotate_left 1
  · (intro w hSw; go_simp; try with_reducible rfl)
  try simp only [Act.put, List.setIfInBounds_toArray, List.set_cons_zero, List.set_cons_succ]
  refine takeL 3 rfl (by kernel_rfl) (by kernel_rfl) (by kernel_rfl) (fun _ _ _ h => h) (yieldsIf_load_mid (by rfl) _ _ rfl _ _ rfl _ _ (fun w hSw => hSw.1) hu30 rfl hi30) hHeld ?_
  try simp only [Act.put, List.setIfInBounds_toArray, List.set_cons_zero, List.set_cons_succ]
  refine takeL 4 (v := ?_) rfl (by kernel_rfl) (by kernel_rfl) (by kernel_rfl) (fun _ _ _ h => h) (Or.inl ⟨by rfl, ?_⟩) hHeld ?_
  rotate_left 1
  · (intro w hSw; go_simp; try with_reducible rfl)
  try simp only [Act.put, List.setIfInBounds_toArray, List.set_cons_zero, List.set_cons_succ]
  refine takeL 5 (v := ?_) rfl (by kernel_rfl) (by kernel_rfl) (by kernel_rfl) (fun _ _ _ h => h) (Or.inl ⟨by rfl, ?_⟩) hHeld ?_
  rotate_left 1
  · (intro w hSw; go_simp; try with_reducible rfl)
  try simp only [Act.put, List.setIfInBounds_toArray, List.set_cons_zero, List.set_cons_succ]
  refine stepL 2 (by kernel_rfl) rfl (fun K hK => ?_)
  go_simp
  refine (HTg.out _ hHeld.2.out).mono ?_
  rintro e W5 ⟨rfl, hb⟩
  show K _ _
  have hS5 := HLt.out hHeld hb
  clear hb
  refine hK.out _ _ hS5 (fun hHeld => ?_)
  clear hK K hS5
  try simp only [Act.put, List.setIfInBounds_toArray, List.set_cons_zero, List.set_cons_succ]
  refine stepL 6 (by kernel_rfl) rfl (fun K hK => ?_)
  go_simp
  refine (HRt.out _ hHeld.2.out).mono ?_
  rintro e W6 ⟨rfl, hb⟩
  show K _ _
  have hS6 := HLt.out hHeld hb
  clear hb
  refine hK.out _ _ hS6 (fun hHeld => ?_)
  clear hK K hS6
  try simp only [Act.put, List.setIfInBounds_toArray, List.set_cons_zero, List.set_cons_succ]
  refine takeL 7 (v := ?_) rfl (by kernel_rfl) (by kernel_rfl) (by kernel_rfl) (fun _ _ _ h => h) (Or.inl ⟨by rfl, ?_⟩) hHeld ?_
  rotate_left 1
  · (intro w hSw; go_simp; try with_reducible rfl)
  try simp only [Act.put, List.setIfInBounds_toArray, List.set_cons_zero, List.set_cons_succ]
  refine takeL 8 (v := ?_) rfl (by kernel_rfl) (by kernel_rfl) (by kernel_rfl) (fun _ _ _ h => h) (Or.inl ⟨by rfl, ?_⟩) hHeld ?_
  rotate_left 1
  · (intro w hSw; go_simp; try with_reducible rfl)
  try simp only [Act.put, List.setIfInBounds_toArray, List.set_cons_zero, List.set_cons_succ]
  refine takeL 9 (v := ?_) rfl (by kernel_rfl) (by kernel_rfl) (by kernel_rfl) (fun _ _ _ h => h) (Or.inl ⟨by rfl, ?_⟩) hHeld ?_
  rotate_left 1
  · (intro w hSw; go_simp; try with_reducible rfl)
  try simp only [Act.put, List.setIfInBounds_toArray, List.set_cons_zero, List.set_cons_succ]
  refine takeL 10 (v := ?_) rfl (by kernel_rfl) (by kernel_rfl) (by kernel_rfl) (fun _ _ _ h => h) (Or.inl ⟨by rfl, ?_⟩) hHeld ?_
  rotate_left 1
  · (intro w hSw; go_simp; try with_reducible rfl)
  try simp only [Act.put, List.setIfInBounds_toArray, List.set_cons_zero, List.set_cons_succ]
  refine takeL 11 (v := ?_) rfl (by kernel_rfl) (by kernel_rfl) (by kernel_rfl) (fun _ _ _ h => h) (Or.inl ⟨by rfl, ?_⟩) hHeld ?_
  rotate_left 1
  · (intro w hSw; go_simp; try with_reducible rfl)
  try simp only [Act.put, List.setIfInBounds_toArray, List.set_cons_zero, List.set_cons_succ]
  refine takeL 14 (v := ?_) rfl (by kernel_rfl) (by kernel_rfl) (by kernel_rfl) (fun _ _ _ h => h) (Or.inl ⟨by rfl, ?_⟩) hHeld ?_
  rotate_left 1
  · (intro w hSw; go_simp; try with_reducible rfl)
  try simp only [Act.put, List.setIfInBounds_toArray, List.set_cons_zero, List.set_cons_succ]
  refine stepL 12 (by kernel_rfl) rfl (fun K hK => ?_)
  go_simp
  refine (HDe.out _ hHeld.2.out).mono ?_
  rintro e W7 ⟨vd, rfl, hkd, hb⟩
  show K _ _
  have hS7 := HLt.out hHeld hb
  have HKD := Bx.mk hkd.key
  clear hkd
  clear hb
  refine hK.out _ _ hS7 (fun hHeld => ?_)
  clear hK K hS7
  try simp only [Act.put, List.setIfInBounds_toArray, List.set_cons_zero, List.set_cons_succ]
  refine stepL 13 (by kernel_rfl) rfl (fun K hK => ?_)
  go_simp
  refine (kbytes_any want vd _ HKD.out (by rw [HWl.out]; omega)).mono ?_
  rintro e W8 ⟨vb, rfl, hob, hb⟩
  show K _ _
  have hS8 := HLt.out hHeld hb
  have HVB := Bx.mk hob.bytes
  clear hob HKD
  clear hb
  refine hK.out _ _ hS8 (fun hHeld => ?_)
  clear hK K hS8
  try simp only [Act.put, List.setIfInBounds_toArray, List.set_cons_zero, List.set_cons_succ]
  refine stepL 15 (by kernel_rfl) rfl (fun K hK => ?_)
  go_simp
  refine (same_drew want vb _ _ HVB.out hHeld.2.out.2.2.1 (by rw [HWl.out]; omega)).mono ?_
  rintro e W9 ⟨rfl, hb⟩
  show K _ _
  have hS9 := HLt.out hHeld hb
  clear HVB
  clear hb
  refine hK.out _ _ hS9 (fun hHeld => ?_)
  clear hK K hS9
  try simp only [Act.put, List.setIfInBounds_toArray, List.set_cons_zero, List.set_cons_succ]
  refine takeL 16 (v := ?_) rfl (by kernel_rfl) (by kernel_rfl) (by kernel_rfl) (fun _ _ _ h => h) (Or.inl ⟨by rfl, ?_⟩) hHeld ?_
  rotate_left 1
  · (intro w hSw; go_simp; try with_reducible rfl)
  try simp only [Act.put, List.setIfInBounds_toArray, List.set_cons_zero, List.set_cons_succ]
  refine takeL 17 (v := ?_) rfl (by kernel_rfl) (by kernel_rfl) (by kernel_rfl) (fun _ _ _ h => h) (Or.inl ⟨by rfl, ?_⟩) hHeld ?_
  rotate_left 1
  · (intro w hSw; go_simp; try with_reducible rfl)
  try simp only [Act.put, List.setIfInBounds_toArray, List.set_cons_zero, List.set_cons_succ]
  refine takeL 18 (v := ?_) rfl (by kernel_rfl) (by kernel_rfl) (by kernel_rfl) (fun _ _ _ h => h) (Or.inl ⟨by rfl, ?_⟩) hHeld ?_
  rotate_left 1
  · (intro w hSw; go_simp; try with_reducible rfl)
  try simp only [Act.put, List.setIfInBounds_toArray, List.set_cons_zero, List.set_cons_succ]
  refine takeL 19 (v := ?_) rfl (by kernel_rfl) (by kernel_rfl) (by kernel_rfl) (fun _ _ _ h => h) (Or.inl ⟨by rfl, ?_⟩) hHeld ?_
  rotate_left 1
  · (intro w hSw; go_simp; try with_reducible rfl)
  try simp only [Act.put, List.setIfInBounds_toArray, List.set_cons_zero, List.set_cons_succ]
  refine takeL 20 (v := ?_) rfl (by kernel_rfl) (by kernel_rfl) (by kernel_rfl) (fun _ _ _ h => h) (Or.inl ⟨by rfl, ?_⟩) hHeld ?_
  rotate_left 1
  · (intro w hSw; go_simp; try with_reducible rfl)
  try simp only [Act.put, List.setIfInBounds_toArray, List.set_cons_zero, List.set_cons_succ]
  refine stepL 21 (by kernel_rfl) rfl (fun K hK => ?_)
  go_simp
  refine (same_drew p8 _ _ _ hHeld.2.out.2.2.2.2 hHeld.2.out.2.2.2.1 (by rw [HPl.out]; omega)).mono ?_
  rintro e W10 ⟨rfl, hb⟩
  show K _ _
  have hS10 := HLt.out hHeld hb
  clear hb
  refine hK.out _ _ hS10 (fun hHeld => ?_)
  clear hK K hS10
  try simp only [Act.put, List.setIfInBounds_toArray, List.set_cons_zero, List.set_cons_succ]
  refine takeL 22 (v := ?_) rfl (by kernel_rfl) (by kernel_rfl) (by kernel_rfl) (fun _ _ _ h => h) (Or.inl ⟨by rfl, ?_⟩) hHeld ?_
  rotate_left 1
  · (intro w hSw; go_simp; try with_reducible rfl)
  try simp only [Act.put, List.setIfInBounds_toArray, List.set_cons_zero, List.set_cons_succ]
  refine takeL 23 (v := ?_) rfl (by kernel_rfl) (by kernel_rfl) (by kernel_rfl) (fun _ _ _ h => h) (Or.inl ⟨by rfl, ?_⟩) hHeld ?_
  rotate_left 1
  · (intro w hSw; go_simp; try with_reducible rfl)
  try simp only [Act.put, List.setIfInBounds_toArray, List.set_cons_zero, List.set_cons_succ]
  refine takeL 24 (v := ?_) rfl (by kernel_rfl) (by kernel_rfl) (by kernel_rfl) (fun _ _ _ h => h) (Or.inl ⟨by rfl, ?_⟩) hHeld ?_
  rotate_left 1
  · (intro w hSw; go_simp; try with_reducible rfl)
  try simp only [Act.put, List.setIfInBounds_toArray, List.set_cons_zero, List.set_cons_succ]
  refine takeL 25 (v := ?_) rfl (by kernel_rfl) (by kernel_rfl) (by kernel_rfl) (fun _ _ _ h => h) (Or.inl ⟨by rfl, ?_⟩) hHeld ?_
  rotate_left 1
  · (intro w hSw; go_simp; try with_reducible rfl)
  try simp only [Act.put, List.setIfInBounds_toArray, List.set_cons_zero, List.set_cons_succ]
  refine takeL 27 (v := ?_) rfl (by kernel_rfl) (by kernel_rfl) (by kernel_rfl) (fun _ _ _ h => h) (Or.inl ⟨by rfl, ?_⟩) hHeld ?_
  rotate_left 1
  · (intro w hSw; go_simp; try with_reducible rfl)
  try simp only [Act.put, List.setIfInBounds_toArray, List.set_cons_zero, List.set_cons_succ]
  refine stepL 26 (by kernel_rfl) rfl (fun K hK => ?_)
  go_simp
  refine (HZr.out _ hHeld.2.out).mono ?_
  rintro e W11 ⟨rfl, hb⟩
  show K _ _
  have hS11 := HLt.out hHeld hb
  clear hb
  refine hK.out _ _ hS11 (fun hHeld => ?_)
  clear hK K hS11
  try simp only [Act.put, List.setIfInBounds_toArray, List.set_cons_zero, List.set_cons_succ]
  refine takeL 28 (v := ?_) rfl (by kernel_rfl) (by kernel_rfl) (by kernel_rfl) (fun _ _ _ h => h) (Or.inl ⟨by rfl, ?_⟩) hHeld ?_
  rotate_left 1
  · (intro w hSw; go_simp; try with_reducible rfl)
  try simp only [Act.put, List.setIfInBounds_toArray, List.set_cons_zero, List.set_cons_succ]
  refine takeL 29 (v := ?_) rfl (by kernel_rfl) (by kernel_rfl) (by kernel_rfl) (fun _ _ _ h => h) (Or.inl ⟨by rfl, ?_⟩) hHeld ?_
  rotate_left 1
  · (intro w hSw; go_simp; try with_reducible rfl)
  try simp only [Act.put, List.setIfInBounds_toArray, List.set_cons_zero, List.set_cons_succ]
  refine takeL 30 (v := ?_) rfl (by kernel_rfl) (by kernel_rfl) (by kernel_rfl) (fun _ _ _ h => h) (Or.inl ⟨by rfl, ?_⟩) hHeld ?_
  rotate_left 1
  · (intro w hSw; go_simp; try with_reducible rfl)
  try simp only [Act.put, List.setIfInBounds_toArray, List.set_cons_zero, List.set_cons_succ]
  refine takeL 31 (v := ?_) rfl (by kernel_rfl) (by kernel_rfl) (by kernel_rfl) (fun _ _ _ h => h) (Or.inl ⟨by rfl, ?_⟩) hHeld ?_
  rotate_left 1
  · (intro w hSw; go_simp; try with_reducible rfl)
  try simp only [Act.put, List.setIfInBounds_toArray, List.set_cons_zero, List.set_cons_succ]
  refine takeL 33 (v := ?_) rfl (by kernel_rfl) (by kernel_rfl) (by kernel_rfl) (fun _ _ _ h => h) (Or.inl ⟨by rfl, ?_⟩) hHeld ?_
  rotate_left 1
  · (intro w hSw; go_simp; try with_reducible rfl)
  try simp only [Act.put, List.setIfInBounds_toArray, List.set_cons_zero, List.set_cons_succ]
  refine stepL 32 (by kernel_rfl) rfl (fun K hK => ?_)
  go_simp
  refine (kbytes_any key pk _ hHeld.2.out.1.kk.key (by have := HKl.out; omega)).mono ?_
  rintro e W12 ⟨vc, rfl, hob, hb⟩
  show K _ _
  have hS12 := HLt.out hHeld hb
  have HVC := Bx.mk hob.bytes
  clear hob
  clear hb
  refine hK.out _ _ hS12 (fun hHeld => ?_)
  clear hK K hS12
  try simp only [Act.put, List.setIfInBounds_toArray, List.set_cons_zero, List.set_cons_succ]
  refine stepL 34 (by kernel_rfl) rfl (fun K hK => ?_)
  go_simp
  refine (same_drew key vc _ _ HVC.out hHeld.2.out.2.1.bytes (by have := HKl.out; omega)).mono ?_
  rintro e W13 ⟨rfl, hb⟩
  show K _ _
  have hS13 := HLt.out hHeld hb
  clear HVC
  clear hb
  refine hK.out _ _ hS13 (fun hHeld => ?_)
  clear hK K hS13
  try simp only [Act.put, List.setIfInBounds_toArray, List.set_cons_zero, List.set_cons_succ]
  refine takeL 35 (v := ?_) rfl (by kernel_rfl) (by kernel_rfl) (by kernel_rfl) (fun _ _ _ h => h) (Or.inl ⟨by rfl, ?_⟩) hHeld ?_
  rotate_left 1
  · (intro w hSw; go_simp; try with_reducible rfl)
  try simp only [Act.put, List.setIfInBounds_toArray, List.set_cons_zero, List.set_cons_succ]
  refine takeL 36 (v := ?_) rfl (by kernel_rfl) (by kernel_rfl) (by kernel_rfl) (fun _ _ _ h => h) (Or.inl ⟨by rfl, ?_⟩) hHeld ?_
  rotate_left 1
  · (intro w hSw; go_simp; try with_reducible rfl)
  try simp only [Act.put, List.setIfInBounds_toArray, List.set_cons_zero, List.set_cons_succ]
  refine wpAnyH_done (by kernel_rfl) ?_ _
  exact NoPanic.normal (HQ.out _ _ ⟨⟨rfl, rfl⟩, rfl, rfl, rfl, rfl, rfl, rfl⟩ rfl hHeld.2.out.1 hHeld.2.out.2.1)
theorem eq8 (l m : List UInt8) (hl : l.length = 8) (hm : m.length = 8) (W : World) : (Op.equalIn 10000 36 (.agg (u8s l)) (.agg (u8s m))).run Tryd.prog W = .ok (l == m) W := by
  rw [u8s_cell, u8s_cell]
  exact run_equalIn_bytes W 9998 36 5 8 Tryd.underlying36 Tryd.underlying5 size1 l m hl hm
set_option maxRecDepth 100000 in
set_option maxHeartbeats 4000000 in
theorem reg21K (w : World) (b1 T : Nat) (tbl us : List Value) (vo va pk : Value) (key al : List UInt8) (v0 v1 : Value) (xs : List (List UInt8)) (htb : u32s (kTab ++ hTab) = tbl.toArray) (hg : 0 < w.heap.size) (hvals : Vals w us xs) (hal : xs.flatten = al) (hxs : xs.length ≤ 8) (hfl : al.length ≤ 480)
    (W4 : World) (hF : KS w b1 T tbl us vo va pk key al W4) (Q : Exit → Act → World → Prop) (fa : Act) (h : KF v0 v1 vo va (.pointer (some ⟨T, 0, none⟩)) pk fa) (h17 : fa.eval (.tmp 17) = .pointer none)
    (hQ : ∀ a' W', Fr 148 a' → a'.eval (.tmp 6) = .bool true → Below w.heap.size w W' → Q .normal a' W') :
    Code.wp Tryd.prog (regionAt Tryd.f3.body 21) Q fa W4 := by
  have gl : ∀ {W : World}, KS w b1 T tbl us vo va pk key al W → 0 < W.heap.size := fun h => Nat.lt_of_lt_of_le hg h.below.size
  have HLt : Bx (∀ {W W' : World}, (W.rangeAt T 0 tbl ∧ Bx (KS w b1 T tbl us vo va pk key al W)) → Below W.heap.size W W' → (W'.rangeAt T 0 tbl ∧ Bx (KS w b1 T tbl us vo va pk key al W'))) := Bx.mk (fun h hb => have h2 := h.2.out.later hg hb
    ⟨h2.rng, ⟨h2⟩⟩)
  have HS0 : Bx (W4.drew.rangeAt T 0 tbl ∧ Bx (KS w b1 T tbl us vo va pk key al W4.drew)) := Bx.mk (HLt.out ⟨hF.rng, ⟨hF⟩⟩ (Below.refl _ _).drew)
  have HKn : Bx (∀ W, KS w b1 T tbl us vo va pk key al W → Calls Tryd.prog 20 #[] W fun e W' => e = .returned (.bool true) ∧ Below W.heap.size W W') := Bx.mk (fun W h => known2_any W h.tab (gl h))
  have HTn : Bx (∀ W, KS w b1 T tbl us vo va pk key al W → Calls Tryd.prog 14 #[.pointer none, vo] W fun e W' => e = .returned (.agg (u8s (hmac [] al))) ∧ Below W.heap.size W W') := Bx.mk (fun W h => by
    rw [← hal]
    exact ktag_nil xs vo W (own_parts h.own (hvals.later h.below)) (by omega) (by rw [hal]; omega) h.tab (gl h))
  have HRn : Bx (∀ W, KS w b1 T tbl us vo va pk key al W → Calls Tryd.prog 15 #[.agg tbl.toArray, .slice none 0 0, va] W fun e W' => e = .returned (.agg (u8s (hmac [] al))) ∧ Below W.heap.size W W') := Bx.mk (fun W h => rtag_any tbl htb [] al _ _ W (Bytes.nil _) h.all.bytes (by simp) (by omega))
  have HDn : Bx (∀ W, Calls Tryd.prog 17 #[.pointer none, v1, .slice none 0 0] W fun e W' => e = .returned (.pointer none) ∧ Below W.heap.size W W') := Bx.mk (fun W => (kderive_nil v1 _ W).mono fun _ _ ⟨he, hw⟩ => ⟨he, by rw [← hw]; exact Below.refl _ _⟩)
  have HBn : Bx (∀ W, Calls Tryd.prog 18 #[.pointer none] W fun e W' => e = .returned (.slice none 0 0) ∧ Below W.heap.size W W') := Bx.mk (fun W => (kbytes_nil W).mono fun _ _ ⟨he, hw⟩ => ⟨he, by rw [← hw]; exact Below.refl _ _⟩)
  have HPn : Bx (∀ W, Calls Tryd.prog 13 #[.pointer none] W fun e W' => e = .returned (.agg #[.int .u8 0, .int .u8 0, .int .u8 0, .int .u8 0, .int .u8 0, .int .u8 0, .int .u8 0, .int .u8 0]) ∧ Below W.heap.size W W') := Bx.mk (fun W => by rw [← zeroB8]; exact print_nil W)
  have HZn : Bx (∀ W, Calls Tryd.prog 19 #[.pointer none] W fun e W' => e = .returned (.bool true) ∧ Below W.heap.size W W') := Bx.mk (fun W => (zero_nil W).mono fun _ _ ⟨he, hw⟩ => ⟨he, by rw [← hw]; exact Below.refl _ _⟩)
  have HQ := Bx.mk hQ
  have eq1 := fun W => eq32 (hmac [] al) (hmac [] al) (hmac_length _ _) (hmac_length _ _) W
  rw [beq_self_eq_true] at eq1
  have eq2 := fun W => eq8 (List.replicate 8 0) (List.replicate 8 0) (by simp) (by simp) W
  rw [beq_self_eq_true, zeroB8] at eq2
  have hg26 : Tryd.prog.eqGuardType Tryd.prog.depth 34 = false := by kernel_rfl
  have hg8 : Tryd.prog.eqGuardType Tryd.prog.depth 36 = false := by kernel_rfl
  have hz8v : ∀ W : World, (zeroValue 36).run Tryd.prog W = .ok (.agg #[.int .u8 0, .int .u8 0, .int .u8 0, .int .u8 0, .int .u8 0, .int .u8 0, .int .u8 0, .int .u8 0]) W := fun W => by kernel_rfl
  have hu30 := Tryd.underlying30
  have hi30 : (Tryd.prog.info? 30).map (·.size) = some tbl.length := tbl_size3 htb
  obtain ⟨x, rfl, hx⟩ := open148 h.fr
  have e0 := (hx 0).symm.trans h.s0
  have e1 := (hx 1).symm.trans h.s1
  have e7 := (hx 7).symm.trans h.s7
  have e8 := (hx 8).symm.trans h.s8
  have e9 := (hx 9).symm.trans h.s9
  have e10 := (hx 10).symm.trans h.s10
  have e17 := (hx 17).symm.trans h17
  clear h hx h17 hQ hF gl htb hvals hal
  rw [e0, e1, e7, e8, e9, e10, e17]
  clear e0 e1 e7 e8 e9 e10 e17
  generalize u8s (hmac [] al) = uT at *
  conv => arg 2; whnf
  refine wp_region_noPanic ?_
  refine wp_region_held_drew (S := fun W => W.rangeAt T 0 tbl ∧ Bx (KS w b1 T tbl us vo va pk key al W)) (by kernel_rfl) (HS0.out) (fun hHeld => ?_)
  clear HS0
  refine stepL 0 (by kernel_rfl) rfl (fun K hK => ?_)
  go_simp
  refine (HKn.out _ hHeld.2.out).mono ?_
  rintro e W5 ⟨rfl, hb⟩
  show K _ _
  have hS5 := HLt.out hHeld hb
  clear hb
  refine hK.out _ _ hS5 (fun hHeld => ?_)
  clear hK K hS5
  try simp only [Act.put, List.setIfInBounds_toArray, List.set_cons_zero, List.set_cons_succ]
  refine takeL 1 (v := ?_) rfl (by kernel_rfl) (by kernel_rfl) (by kernel_rfl) (fun _ _ _ h => h) (Or.inl ⟨by rfl, ?_⟩) hHeld ?_
  rotate_left 1
  · (intro w hSw; go_simp; try with_reducible rfl)
  try simp only [Act.put, List.setIfInBounds_toArray, List.set_cons_zero, List.set_cons_succ]
  refine takeL 2 (v := ?_) rfl (by kernel_rfl) (by kernel_rfl) (by kernel_rfl) (fun _ _ _ h => h) (Or.inl ⟨by rfl, ?_⟩) hHeld ?_
  rotate_left 1
  · (intro w hSw; go_simp; try with_reducible rfl)
  try simp only [Act.put, List.setIfInBounds_toArray, List.set_cons_zero, List.set_cons_succ]
  refine takeL 3 (v := ?_) rfl (by kernel_rfl) (by kernel_rfl) (by kernel_rfl) (fun _ _ _ h => h) (Or.inl ⟨by rfl, ?_⟩) hHeld ?_
  rotate_left 1
  · (intro w hSw; go_simp; try with_reducible rfl)
  try simp only [Act.put, List.setIfInBounds_toArray, List.set_cons_zero, List.set_cons_succ]
  refine takeL 5 rfl (by kernel_rfl) (by kernel_rfl) (by kernel_rfl) (fun _ _ _ h => h) (yieldsIf_load_mid (by rfl) _ _ rfl _ _ rfl _ _ (fun w hSw => hSw.1) hu30 rfl hi30) hHeld ?_
  try simp only [Act.put, List.setIfInBounds_toArray, List.set_cons_zero, List.set_cons_succ]
  refine takeL 6 (v := ?_) rfl (by kernel_rfl) (by kernel_rfl) (by kernel_rfl) (fun _ _ _ h => h) (Or.inl ⟨by rfl, ?_⟩) hHeld ?_
  rotate_left 1
  · (intro w hSw; go_simp; try with_reducible rfl)
  try simp only [Act.put, List.setIfInBounds_toArray, List.set_cons_zero, List.set_cons_succ]
  refine stepL 4 (by kernel_rfl) rfl (fun K hK => ?_)
  go_simp
  refine (HTn.out _ hHeld.2.out).mono ?_
  rintro e W6 ⟨rfl, hb⟩
  show K _ _
  have hS6 := HLt.out hHeld hb
  clear hb
  refine hK.out _ _ hS6 (fun hHeld => ?_)
  clear hK K hS6
  try simp only [Act.put, List.setIfInBounds_toArray, List.set_cons_zero, List.set_cons_succ]
  refine stepL 7 (by kernel_rfl) rfl (fun K hK => ?_)
  go_simp
  refine (HRn.out _ hHeld.2.out).mono ?_
  rintro e W7 ⟨rfl, hb⟩
  show K _ _
  have hS7 := HLt.out hHeld hb
  clear hb
  refine hK.out _ _ hS7 (fun hHeld => ?_)
  clear hK K hS7
  try simp only [Act.put, List.setIfInBounds_toArray, List.set_cons_zero, List.set_cons_succ]
  refine takeL 8 (v := ?_) rfl (by kernel_rfl) (by kernel_rfl) (by kernel_rfl) (fun _ _ _ h => h) (Or.inl ⟨by rfl, ?_⟩) hHeld ?_
  rotate_left 1
  · (intro w hSw; go_simp; try with_reducible rfl)
  try simp only [Act.put, List.setIfInBounds_toArray, List.set_cons_zero, List.set_cons_succ]
  refine takeL 9 (v := ?_) rfl (by kernel_rfl) (by kernel_rfl) (by kernel_rfl) (fun _ _ _ h => h) (Or.inl ⟨by rfl, ?_⟩) hHeld ?_
  rotate_left 1
  · (intro w hSw; go_simp; try with_reducible rfl)
  try simp only [Act.put, List.setIfInBounds_toArray, List.set_cons_zero, List.set_cons_succ]
  refine takeL 10 (v := ?_) rfl (by kernel_rfl) (by kernel_rfl) (by kernel_rfl) (fun _ _ _ h => h) (Or.inl ⟨by rfl, ?_⟩) hHeld ?_
  rotate_left 1
  · (intro w hSw; go_simp; try with_reducible rfl)
  try simp only [Act.put, List.setIfInBounds_toArray, List.set_cons_zero, List.set_cons_succ]
  refine takeL 11 (v := ?_) rfl (by kernel_rfl) (by kernel_rfl) (by kernel_rfl) (fun _ _ _ h => h) (Or.inl ⟨by rfl, ?_⟩) hHeld ?_
  rotate_left 1
  · (intro w hSw; go_simp; try with_reducible rfl)
  try simp only [Act.put, List.setIfInBounds_toArray, List.set_cons_zero, List.set_cons_succ]
  refine takeL 12 (v := ?_) rfl (by kernel_rfl) (by kernel_rfl) (by kernel_rfl) (fun _ _ _ h => h) (Or.inl ⟨by rfl, ?_⟩) hHeld ?_
  rotate_left 1
  · (intro w hSw; go_simp; try with_reducible rfl)
  try simp only [Act.put, List.setIfInBounds_toArray, List.set_cons_zero, List.set_cons_succ]
  refine stepL 13 (by kernel_rfl) rfl (fun K hK => ?_)
  go_simp
  refine (HDn.out _).mono ?_
  rintro e W8 ⟨rfl, hb⟩
  show K _ _
  have hS8 := HLt.out hHeld hb
  clear hb
  refine hK.out _ _ hS8 (fun hHeld => ?_)
  clear hK K hS8
  try simp only [Act.put, List.setIfInBounds_toArray, List.set_cons_zero, List.set_cons_succ]
  refine takeL 14 (v := ?_) rfl (by kernel_rfl) (by kernel_rfl) (by kernel_rfl) (fun _ _ _ h => h) (Or.inl ⟨by rfl, ?_⟩) hHeld ?_
  rotate_left 1
  · (intro w hSw; go_simp; try with_reducible rfl)
  try simp only [Act.put, List.setIfInBounds_toArray, List.set_cons_zero, List.set_cons_succ]
  refine takeL 15 (v := ?_) rfl (by kernel_rfl) (by kernel_rfl) (by kernel_rfl) (fun _ _ _ h => h) (Or.inl ⟨by rfl, ?_⟩) hHeld ?_
  rotate_left 1
  · (intro w hSw; go_simp; try with_reducible rfl)
  try simp only [Act.put, List.setIfInBounds_toArray, List.set_cons_zero, List.set_cons_succ]
  refine takeL 16 (v := ?_) rfl (by kernel_rfl) (by kernel_rfl) (by kernel_rfl) (fun _ _ _ h => h) (Or.inl ⟨by rfl, ?_⟩) hHeld ?_
  rotate_left 1
  · (intro w hSw; go_simp; try with_reducible rfl)
  try simp only [Act.put, List.setIfInBounds_toArray, List.set_cons_zero, List.set_cons_succ]
  refine takeL 17 (v := ?_) rfl (by kernel_rfl) (by kernel_rfl) (by kernel_rfl) (fun _ _ _ h => h) (Or.inl ⟨by rfl, ?_⟩) hHeld ?_
  rotate_left 1
  · (intro w hSw; go_simp; try with_reducible rfl)
  try simp only [Act.put, List.setIfInBounds_toArray, List.set_cons_zero, List.set_cons_succ]
  refine stepL 18 (by kernel_rfl) rfl (fun K hK => ?_)
  go_simp
  refine (HBn.out _).mono ?_
  rintro e W9 ⟨rfl, hb⟩
  show K _ _
  have hS9 := HLt.out hHeld hb
  clear hb
  refine hK.out _ _ hS9 (fun hHeld => ?_)
  clear hK K hS9
  try simp only [Act.put, List.setIfInBounds_toArray, List.set_cons_zero, List.set_cons_succ]
  refine takeL 19 (v := ?_) rfl (by kernel_rfl) (by kernel_rfl) (by kernel_rfl) (fun _ _ _ h => h) (Or.inl ⟨by rfl, ?_⟩) hHeld ?_
  rotate_left 1
  · (intro w hSw; go_simp; try with_reducible rfl)
  try simp only [Act.put, List.setIfInBounds_toArray, List.set_cons_zero, List.set_cons_succ]
  refine takeL 20 (v := ?_) rfl (by kernel_rfl) (by kernel_rfl) (by kernel_rfl) (fun _ _ _ h => h) (Or.inl ⟨by rfl, ?_⟩) hHeld ?_
  rotate_left 1
  · (intro w hSw; go_simp; try with_reducible rfl)
  try simp only [Act.put, List.setIfInBounds_toArray, List.set_cons_zero, List.set_cons_succ]
  refine takeL 21 (v := ?_) rfl (by kernel_rfl) (by kernel_rfl) (by kernel_rfl) (fun _ _ _ h => h) (Or.inl ⟨by rfl, ?_⟩) hHeld ?_
  rotate_left 1
  · (intro w hSw; go_simp; try with_reducible rfl)
  try simp only [Act.put, List.setIfInBounds_toArray, List.set_cons_zero, List.set_cons_succ]
  refine takeL 22 (v := ?_) rfl (by kernel_rfl) (by kernel_rfl) (by kernel_rfl) (fun _ _ _ h => h) (Or.inl ⟨by rfl, ?_⟩) hHeld ?_
  rotate_left 1
  · (intro w hSw; go_simp; try with_reducible rfl)
  try simp only [Act.put, List.setIfInBounds_toArray, List.set_cons_zero, List.set_cons_succ]
  refine takeL 23 (v := ?_) rfl (by kernel_rfl) (by kernel_rfl) (by kernel_rfl) (fun _ _ _ h => h) (Or.inl ⟨by rfl, ?_⟩) hHeld ?_
  rotate_left 1
  · (intro w hSw; go_simp; try with_reducible rfl)
  try simp only [Act.put, List.setIfInBounds_toArray, List.set_cons_zero, List.set_cons_succ]
  refine takeL 25 (v := ?_) rfl (by kernel_rfl) (by kernel_rfl) (by kernel_rfl) (fun _ _ _ h => h) (Or.inl ⟨by rfl, ?_⟩) hHeld ?_
  rotate_left 1
  · (intro w hSw; go_simp; try with_reducible rfl)
  try simp only [Act.put, List.setIfInBounds_toArray, List.set_cons_zero, List.set_cons_succ]
  refine stepL 24 (by kernel_rfl) rfl (fun K hK => ?_)
  go_simp
  refine (HPn.out _).mono ?_
  rintro e W10 ⟨rfl, hb⟩
  show K _ _
  have hS10 := HLt.out hHeld hb
  clear hb
  refine hK.out _ _ hS10 (fun hHeld => ?_)
  clear hK K hS10
  try simp only [Act.put, List.setIfInBounds_toArray, List.set_cons_zero, List.set_cons_succ]
  refine takeL 26 (v := ?_) rfl (by kernel_rfl) (by kernel_rfl) (by kernel_rfl) (fun _ _ _ h => h) (Or.inl ⟨by rfl, ?_⟩) hHeld ?_
  rotate_left 1
  · (intro w hSw; go_simp; try with_reducible rfl)
  try simp only [Act.put, List.setIfInBounds_toArray, List.set_cons_zero, List.set_cons_succ]
  refine takeL 27 (v := ?_) rfl (by kernel_rfl) (by kernel_rfl) (by kernel_rfl) (fun _ _ _ h => h) (Or.inl ⟨by rfl, ?_⟩) hHeld ?_
  rotate_left 1
  · (intro w hSw; go_simp; try with_reducible rfl)
  try simp only [Act.put, List.setIfInBounds_toArray, List.set_cons_zero, List.set_cons_succ]
  refine takeL 28 (v := ?_) rfl (by kernel_rfl) (by kernel_rfl) (by kernel_rfl) (fun _ _ _ h => h) (Or.inl ⟨by rfl, ?_⟩) hHeld ?_
  rotate_left 1
  · (intro w hSw; go_simp; try with_reducible rfl)
  try simp only [Act.put, List.setIfInBounds_toArray, List.set_cons_zero, List.set_cons_succ]
  refine takeL 29 (v := ?_) rfl (by kernel_rfl) (by kernel_rfl) (by kernel_rfl) (fun _ _ _ h => h) (Or.inl ⟨by rfl, ?_⟩) hHeld ?_
  rotate_left 1
  · (intro w hSw; go_simp; try with_reducible rfl)
  try simp only [Act.put, List.setIfInBounds_toArray, List.set_cons_zero, List.set_cons_succ]
  refine stepL 30 (by kernel_rfl) rfl (fun K hK => ?_)
  go_simp
  refine (HZn.out _).mono ?_
  rintro e W11 ⟨rfl, hb⟩
  show K _ _
  have hS11 := HLt.out hHeld hb
  clear hb
  refine hK.out _ _ hS11 (fun hHeld => ?_)
  clear hK K hS11
  try simp only [Act.put, List.setIfInBounds_toArray, List.set_cons_zero, List.set_cons_succ]
  refine takeL 31 (v := ?_) rfl (by kernel_rfl) (by kernel_rfl) (by kernel_rfl) (fun _ _ _ h => h) (Or.inl ⟨by rfl, ?_⟩) hHeld ?_
  rotate_left 1
  · (intro w hSw; go_simp; try with_reducible rfl)
  try simp only [Act.put, List.setIfInBounds_toArray, List.set_cons_zero, List.set_cons_succ]
  refine takeL 32 (v := ?_) rfl (by kernel_rfl) (by kernel_rfl) (by kernel_rfl) (fun _ _ _ h => h) (Or.inl ⟨by rfl, ?_⟩) hHeld ?_
  rotate_left 1
  · (intro w hSw; go_simp; try with_reducible rfl)
  try simp only [Act.put, List.setIfInBounds_toArray, List.set_cons_zero, List.set_cons_succ]
  refine wpAnyH_done (by kernel_rfl) ?_ _
  exact NoPanic.normal (HQ.out _ _ ⟨rfl, rfl⟩ rfl hHeld.2.out.below)
end Go.Proofs.YtcaehkglfliihaaDoor
