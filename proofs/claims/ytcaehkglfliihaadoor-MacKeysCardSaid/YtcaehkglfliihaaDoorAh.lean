/-
  Signs of bytes, the example of the second layer, and what cuts parts there.
-/
import Derived.Test.YtcaehkglfliihaaDoorAg
import Derived.Lib.SlBytesConst
namespace Go.Proofs.YtcaehkglfliihaaDoor
open Go Go.RowKit
/-- The sign of a number below 16. -/
def sgn (n : Nat) : UInt8 := if n < 10 then UInt8.ofNat (48 + n) else UInt8.ofNat (87 + n)
/-- A byte's two signs. -/
def two (b : UInt8) : List UInt8 := [sgn (b.toNat / 16), sgn (b.toNat % 16)]
/-- Bytes as signs. -/
def hexOf (bs : List UInt8) : List UInt8 := bs.flatMap two
theorem hexOf_length (bs : List UInt8) : (hexOf bs).length = 2 * bs.length := by
  induction bs with
  | nil => rfl
  | cons b bs ih => rw [hexOf, List.flatMap_cons, List.length_append, ← hexOf, ih]; simp [two]; omega
theorem hexOf_succ (bs : List UInt8) (k : Nat) (h : k < bs.length) : hexOf (bs.take (k + 1)) = hexOf (bs.take k) ++ two (bs.getD k 0) := by
  have e : bs.getD k 0 = bs[k] := by simp [h]
  rw [List.take_succ_eq_append_getElem h, e]
  unfold hexOf
  rw [List.flatMap_append, List.flatMap_singleton]
theorem idxS0 (W : World) : (Instr.index 9 (.string { data := #[48, 49, 50, 51, 52, 53, 54, 55, 56, 57, 97, 98, 99, 100, 101, 102] }) (.int .u8 ((0 : Nat) : Int))).run Tryd.prog W = .ok (.int .u8 (ub (sgn 0))) W := by kernel_rfl
theorem idxS1 (W : World) : (Instr.index 9 (.string { data := #[48, 49, 50, 51, 52, 53, 54, 55, 56, 57, 97, 98, 99, 100, 101, 102] }) (.int .u8 ((1 : Nat) : Int))).run Tryd.prog W = .ok (.int .u8 (ub (sgn 1))) W := by kernel_rfl
theorem idxS2 (W : World) : (Instr.index 9 (.string { data := #[48, 49, 50, 51, 52, 53, 54, 55, 56, 57, 97, 98, 99, 100, 101, 102] }) (.int .u8 ((2 : Nat) : Int))).run Tryd.prog W = .ok (.int .u8 (ub (sgn 2))) W := by kernel_rfl
theorem idxS3 (W : World) : (Instr.index 9 (.string { data := #[48, 49, 50, 51, 52, 53, 54, 55, 56, 57, 97, 98, 99, 100, 101, 102] }) (.int .u8 ((3 : Nat) : Int))).run Tryd.prog W = .ok (.int .u8 (ub (sgn 3))) W := by kernel_rfl
theorem idxS4 (W : World) : (Instr.index 9 (.string { data := #[48, 49, 50, 51, 52, 53, 54, 55, 56, 57, 97, 98, 99, 100, 101, 102] }) (.int .u8 ((4 : Nat) : Int))).run Tryd.prog W = .ok (.int .u8 (ub (sgn 4))) W := by kernel_rfl
theorem idxS5 (W : World) : (Instr.index 9 (.string { data := #[48, 49, 50, 51, 52, 53, 54, 55, 56, 57, 97, 98, 99, 100, 101, 102] }) (.int .u8 ((5 : Nat) : Int))).run Tryd.prog W = .ok (.int .u8 (ub (sgn 5))) W := by kernel_rfl
theorem idxS6 (W : World) : (Instr.index 9 (.string { data := #[48, 49, 50, 51, 52, 53, 54, 55, 56, 57, 97, 98, 99, 100, 101, 102] }) (.int .u8 ((6 : Nat) : Int))).run Tryd.prog W = .ok (.int .u8 (ub (sgn 6))) W := by kernel_rfl
theorem idxS7 (W : World) : (Instr.index 9 (.string { data := #[48, 49, 50, 51, 52, 53, 54, 55, 56, 57, 97, 98, 99, 100, 101, 102] }) (.int .u8 ((7 : Nat) : Int))).run Tryd.prog W = .ok (.int .u8 (ub (sgn 7))) W := by kernel_rfl
theorem idxS8 (W : World) : (Instr.index 9 (.string { data := #[48, 49, 50, 51, 52, 53, 54, 55, 56, 57, 97, 98, 99, 100, 101, 102] }) (.int .u8 ((8 : Nat) : Int))).run Tryd.prog W = .ok (.int .u8 (ub (sgn 8))) W := by kernel_rfl
theorem idxS9 (W : World) : (Instr.index 9 (.string { data := #[48, 49, 50, 51, 52, 53, 54, 55, 56, 57, 97, 98, 99, 100, 101, 102] }) (.int .u8 ((9 : Nat) : Int))).run Tryd.prog W = .ok (.int .u8 (ub (sgn 9))) W := by kernel_rfl
theorem idxS10 (W : World) : (Instr.index 9 (.string { data := #[48, 49, 50, 51, 52, 53, 54, 55, 56, 57, 97, 98, 99, 100, 101, 102] }) (.int .u8 ((10 : Nat) : Int))).run Tryd.prog W = .ok (.int .u8 (ub (sgn 10))) W := by kernel_rfl
theorem idxS11 (W : World) : (Instr.index 9 (.string { data := #[48, 49, 50, 51, 52, 53, 54, 55, 56, 57, 97, 98, 99, 100, 101, 102] }) (.int .u8 ((11 : Nat) : Int))).run Tryd.prog W = .ok (.int .u8 (ub (sgn 11))) W := by kernel_rfl
theorem idxS12 (W : World) : (Instr.index 9 (.string { data := #[48, 49, 50, 51, 52, 53, 54, 55, 56, 57, 97, 98, 99, 100, 101, 102] }) (.int .u8 ((12 : Nat) : Int))).run Tryd.prog W = .ok (.int .u8 (ub (sgn 12))) W := by kernel_rfl
theorem idxS13 (W : World) : (Instr.index 9 (.string { data := #[48, 49, 50, 51, 52, 53, 54, 55, 56, 57, 97, 98, 99, 100, 101, 102] }) (.int .u8 ((13 : Nat) : Int))).run Tryd.prog W = .ok (.int .u8 (ub (sgn 13))) W := by kernel_rfl
theorem idxS14 (W : World) : (Instr.index 9 (.string { data := #[48, 49, 50, 51, 52, 53, 54, 55, 56, 57, 97, 98, 99, 100, 101, 102] }) (.int .u8 ((14 : Nat) : Int))).run Tryd.prog W = .ok (.int .u8 (ub (sgn 14))) W := by kernel_rfl
theorem idxS15 (W : World) : (Instr.index 9 (.string { data := #[48, 49, 50, 51, 52, 53, 54, 55, 56, 57, 97, 98, 99, 100, 101, 102] }) (.int .u8 ((15 : Nat) : Int))).run Tryd.prog W = .ok (.int .u8 (ub (sgn 15))) W := by kernel_rfl
theorem idxS (n : Nat) (h : n < 16) (W : World) : (Instr.index 9 (.string { data := #[48, 49, 50, 51, 52, 53, 54, 55, 56, 57, 97, 98, 99, 100, 101, 102] }) (.int .u8 (n : Int))).run Tryd.prog W = .ok (.int .u8 (ub (sgn n))) W := by
  match n, h with
  | 0, _ => exact idxS0 W
  | 1, _ => exact idxS1 W
  | 2, _ => exact idxS2 W
  | 3, _ => exact idxS3 W
  | 4, _ => exact idxS4 W
  | 5, _ => exact idxS5 W
  | 6, _ => exact idxS6 W
  | 7, _ => exact idxS7 W
  | 8, _ => exact idxS8 W
  | 9, _ => exact idxS9 W
  | 10, _ => exact idxS10 W
  | 11, _ => exact idxS11 W
  | 12, _ => exact idxS12 W
  | 13, _ => exact idxS13 W
  | 14, _ => exact idxS14 W
  | 15, _ => exact idxS15 W
  | n + 16, h => omega
attribute [local go_sem ↓] Go.wp_at_zero Go.wp_at_succ
set_option maxRecDepth 100000 in
set_option maxHeartbeats 1000000 in
theorem hex_any (bs : List UInt8) (v : Value) (w : World) (hv : Bytes w v bs) (hn : bs.length ≤ 1099511627776) :
    Calls Tryd.prog 42 #[v] w fun e w' => e = .returned (.string ⟨(hexOf bs).toArray⟩) ∧ Below w.heap.size w w' := by
  have HV := Bx.mk hv
  obtain ⟨a, cap, rfl, -⟩ := hv
  obtain ⟨n, hnn⟩ : ∃ n, bs.length = n := ⟨_, rfl⟩
  have HN := Bx.mk hnn
  rw [hnn] at hn HV ⊢
  clear hnn
  have hn1 : (n : Int) ≤ 1099511627776 := by omega
  have hmk := fun W => mk_u8g 0 (2 * n) .i64 .i64 0 (2 * (n : Int)) rfl (by omega) (by omega) (by omega) W
  have H0 : Bx (OwnB (w.alloc (.cells (u8s (List.replicate (2 * n) 0)) 5)) w.heap.size (.slice (some ⟨w.heap.size, 0, none⟩) 0 (2 * n)) (hexOf (bs.take 0)) ∧ Below w.heap.size w (w.alloc (.cells (u8s (List.replicate (2 * n) 0)) 5))) := Bx.mk ⟨own_made w _ _ (Nat.le_refl _) (by omega), (Below.refl _ _).alloc (Nat.le_refl _) _⟩
  have HM := Bx.mk hn
  clear hn
  go_enter Tryd.func42, Tryd.ntmps42
  go_wp2
  go_loopw [3, 12] (fun o i wr => ∃ k : Nat, k ≤ n ∧ i = .int .i64 k ∧ OwnB wr w.heap.size o (hexOf (bs.take k)) ∧ Below w.heap.size w wr) (fun _ i _ => n - (intOf i).toNat)
  case atStart => exact ⟨0, Nat.zero_le _, rfl, H0.out⟩
  case round =>
    clear H0 hmk
    obtain ⟨k, hk, rfl, ho, hb⟩ := hrel
    have HO := Bx.mk ho
    have HB := Bx.mk hb
    clear ho hb
    by_cases hlt : k < n
    · obtain ⟨c, o, rfl, hcell⟩ := (HV.out.later HB.out).cell k hlt
      obtain ⟨x, hx⟩ : ∃ x, bs.getD k 0 = x := ⟨_, rfl⟩
      rw [hx] at hcell
      have HE : Bx (hexOf (bs.take (k + 1)) = hexOf (bs.take k) ++ two x) := Bx.mk (by rw [hexOf_succ bs k (by rw [HN.out]; exact hlt), hx])
      have HLen : Bx ((hexOf (bs.take k)).length ≤ 2199023255552) := Bx.mk (by have := HM.out; rw [hexOf_length, List.length_take]; omega)
      clear hx
      have hx8 := x.toNat_lt
      have e1 : ub x / 16 = ((x.toNat / 16 : Nat) : Int) := by unfold ub; omega
      have e2 : bits .and .u8 (ub x) 15 = ((x.toNat % 16 : Nat) : Int) := by rw [u8_and15 _ (ub_nonneg x) (by have := ub_le x; omega)]; unfold ub; omega
      have i1 := fun W => idxS (x.toNat / 16) (by omega) W
      have i2 := fun W => idxS (x.toNat % 16) (by omega) W
      have hlk : (k : Int) < (n : Int) := by omega
      have HOW : Bx (∀ W : World, Below wr.heap.size wr W → OwnB W w.heap.size u3 (hexOf (bs.take k))) := Bx.mk (fun W h => HO.out.later h (fun g hg => (HO.out.lt g hg).1))
      obtain ⟨p, hp⟩ : ∃ p, sgn (x.toNat / 16) = p := ⟨_, rfl⟩
      obtain ⟨q, hq⟩ : ∃ q, sgn (x.toNat % 16) = q := ⟨_, rfl⟩
      have HT : Bx (two x = [p, q]) := Bx.mk (by unfold two; rw [hp, hq])
      rw [hp] at i1
      rw [hq] at i2
      clear hp hq hx8
      generalize x.toNat / 16 = n1 at *
      generalize x.toNat % 16 = n2 at *
      go_wp2
      have HBs : Bx (∀ W : World, Below wr.heap.size wr W → w.heap.size ≤ W.heap.size) := Bx.mk (fun W h => Nat.le_trans HB.out.size h.size)
      have HLn : Bx ((hexOf (bs.take k)).length + [p, q].length ≤ 140737488355328) := Bx.mk (by have := HLen.out; simp only [List.length_cons, List.length_nil]; omega)
      go_region_held3 (fun _ => True) (trivial) ((refine step_ap (by rfl) _ _ (by rfl) w.heap.size _ _ (by rfl) (HOW.out _ (below_ad _)) _ [p, q] (by rfl) (built2 wr p q) HLn.out (HBs.out _ (below_ad _)) ?_; intro v1 w1 h1 h2 h3))
      all_goals
        have H1 : Bx (OwnB w1 w.heap.size v1 (hexOf (bs.take (k + 1))) ∧ Below w.heap.size w w1) := Bx.mk ⟨by rw [HE.out, HT.out]; exact h1, (HB.out.trans ((below_ad _).mono HB.out.size)).trans (own_below (HOW.out _ (below_ad _)) h2 (HBs.out _ (below_ad _)))⟩
        clear h1 h2 h3
        go_wp2
        go_roundw
        case rel => exact ⟨k + 1, by omega, by go_num, H1.out⟩
        case measure => simp [intOf]; omega
    · have hcv : Bx ((convert 22 9 u3).run Tryd.prog wr = .ok (.string ⟨(hexOf bs).toArray⟩) wr) := Bx.mk (by
        have e : bs.take k = bs := List.take_of_length_le (by rw [HN.out]; omega)
        have h := HO.out
        rw [e] at h
        exact run_str wr u3 _ h.bytes)
      obtain ⟨out, hout⟩ : ∃ out, hexOf bs = out := ⟨_, rfl⟩
      rw [hout] at hcv
      have HH := Bx.mk hout
      clear hout HO
      have hcv2 := hcv.out
      go_wp2
      go_ret
      exact ⟨by rw [HH.out]; rfl, HB.out⟩
end Go.Proofs.YtcaehkglfliihaaDoor
namespace Go.Proofs.YtcaehkglfliihaaDoor
open Go Go.RowKit
def jefe : List UInt8 := [74, 101, 102, 101]
def ask : List UInt8 := [119, 104, 97, 116, 32, 100, 111, 32, 121, 97, 32, 119, 97, 110, 116, 32, 102, 111, 114, 32, 110, 111, 116, 104, 105, 110, 103, 63]
def macSigns : List UInt8 := [53, 98, 100, 99, 99, 49, 52, 54, 98, 102, 54, 48, 55, 53, 52, 101, 54, 97, 48, 52, 50, 52, 50, 54, 48, 56, 57, 53, 55, 53, 99, 55, 53, 97, 48, 48, 51, 102, 48, 56, 57, 100, 50, 55, 51, 57, 56, 51, 57, 100, 101, 99, 53, 56, 98, 57, 54, 52, 101, 99, 51, 56, 52, 51]
theorem hmac_jefe : hexOf (hmac jefe ask) = macSigns := by decide +kernel
set_option maxRecDepth 100000 in
set_option maxHeartbeats 1000000 in
theorem known2_any (w : World) (hTab : Tab w) (hg : 0 < w.heap.size) : Calls Tryd.prog 20 #[] w fun e w' => e = .returned (.bool true) ∧ Below w.heap.size w w' := by
  have HA := Bx.mk hTab
  clear hTab
  have kc := fun (w : World) (C : Array Value) (n c : Nat) => Lib.run_convert_bytes_const (P := Tryd.prog) w 22 5 C n c Tryd.underlying22 Tryd.underlying5
  have kc2 := kc (w.alloc (Obj.cells #[Value.int IntKind.u8 74, Value.int IntKind.u8 101, Value.int IntKind.u8 102, Value.int IntKind.u8 101] 5 (4, 5))) #[Value.int IntKind.u8 119, Value.int IntKind.u8 104, Value.int IntKind.u8 97, Value.int IntKind.u8 116, Value.int IntKind.u8 32, Value.int IntKind.u8 100, Value.int IntKind.u8 111, Value.int IntKind.u8 32, Value.int IntKind.u8 121, Value.int IntKind.u8 97, Value.int IntKind.u8 32, Value.int IntKind.u8 119, Value.int IntKind.u8 97, Value.int IntKind.u8 110, Value.int IntKind.u8 116, Value.int IntKind.u8 32, Value.int IntKind.u8 102, Value.int IntKind.u8 111, Value.int IntKind.u8 114, Value.int IntKind.u8 32, Value.int IntKind.u8 110, Value.int IntKind.u8 111, Value.int IntKind.u8 116, Value.int IntKind.u8 104, Value.int IntKind.u8 105, Value.int IntKind.u8 110, Value.int IntKind.u8 103, Value.int IntKind.u8 63] 28 28
  rw [show (w.alloc (Obj.cells #[Value.int IntKind.u8 74, Value.int IntKind.u8 101, Value.int IntKind.u8 102, Value.int IntKind.u8 101] 5 (4, 5))).heap.size = w.heap.size + 1 by simp] at kc2
  go_enter Tryd.func20, Tryd.ntmps20
  go_wp2_with fail
  obtain ⟨w1, hw1⟩ : ∃ w1, ((w.alloc (Obj.cells #[Value.int IntKind.u8 74, Value.int IntKind.u8 101, Value.int IntKind.u8 102, Value.int IntKind.u8 101] 5 (4, 5))).alloc (Obj.cells #[Value.int IntKind.u8 119, Value.int IntKind.u8 104, Value.int IntKind.u8 97, Value.int IntKind.u8 116, Value.int IntKind.u8 32, Value.int IntKind.u8 100, Value.int IntKind.u8 111, Value.int IntKind.u8 32, Value.int IntKind.u8 121, Value.int IntKind.u8 97, Value.int IntKind.u8 32, Value.int IntKind.u8 119, Value.int IntKind.u8 97, Value.int IntKind.u8 110, Value.int IntKind.u8 116, Value.int IntKind.u8 32, Value.int IntKind.u8 102, Value.int IntKind.u8 111, Value.int IntKind.u8 114, Value.int IntKind.u8 32, Value.int IntKind.u8 110, Value.int IntKind.u8 111, Value.int IntKind.u8 116, Value.int IntKind.u8 104, Value.int IntKind.u8 105, Value.int IntKind.u8 110, Value.int IntKind.u8 103, Value.int IntKind.u8 63] 5 (28, 29))).alloc (Obj.cells #[Value.slice (some ⟨w.heap.size + 1, 0, none⟩) 28 28] 22) = w1 := ⟨_, rfl⟩
  have H1 : Bx (Below w.heap.size w w1 ∧ Bytes w1 (.slice (some ⟨w.heap.size, 0, none⟩) 4 4) jefe ∧ Parts w1 (.slice (some ⟨w.heap.size + 1 + 1, 0, none⟩) 1 1) [ask]) := Bx.mk (by
    rw [← hw1]
    have b1 : Below w.heap.size w (w.alloc (Obj.cells #[Value.int IntKind.u8 74, Value.int IntKind.u8 101, Value.int IntKind.u8 102, Value.int IntKind.u8 101] 5 (4, 5))) := below_a _
    have y1 : Bytes (w.alloc (Obj.cells #[Value.int IntKind.u8 74, Value.int IntKind.u8 101, Value.int IntKind.u8 102, Value.int IntKind.u8 101] 5 (4, 5))) (.slice (some ⟨w.heap.size, 0, none⟩) 4 4) jefe := const_bytes (l := jefe) (fr := (4, 5)) (hnew _ _ _ rfl) rfl
    have s1 : (w.alloc (Obj.cells #[Value.int IntKind.u8 74, Value.int IntKind.u8 101, Value.int IntKind.u8 102, Value.int IntKind.u8 101] 5 (4, 5))).heap.size = w.heap.size + 1 := by simp
    generalize w.alloc (Obj.cells #[Value.int IntKind.u8 74, Value.int IntKind.u8 101, Value.int IntKind.u8 102, Value.int IntKind.u8 101] 5 (4, 5)) = W1 at *
    have b2 : Below W1.heap.size W1 (W1.alloc (Obj.cells #[Value.int IntKind.u8 119, Value.int IntKind.u8 104, Value.int IntKind.u8 97, Value.int IntKind.u8 116, Value.int IntKind.u8 32, Value.int IntKind.u8 100, Value.int IntKind.u8 111, Value.int IntKind.u8 32, Value.int IntKind.u8 121, Value.int IntKind.u8 97, Value.int IntKind.u8 32, Value.int IntKind.u8 119, Value.int IntKind.u8 97, Value.int IntKind.u8 110, Value.int IntKind.u8 116, Value.int IntKind.u8 32, Value.int IntKind.u8 102, Value.int IntKind.u8 111, Value.int IntKind.u8 114, Value.int IntKind.u8 32, Value.int IntKind.u8 110, Value.int IntKind.u8 111, Value.int IntKind.u8 116, Value.int IntKind.u8 104, Value.int IntKind.u8 105, Value.int IntKind.u8 110, Value.int IntKind.u8 103, Value.int IntKind.u8 63] 5 (28, 29))) := below_a _
    have y2 : Bytes (W1.alloc (Obj.cells #[Value.int IntKind.u8 119, Value.int IntKind.u8 104, Value.int IntKind.u8 97, Value.int IntKind.u8 116, Value.int IntKind.u8 32, Value.int IntKind.u8 100, Value.int IntKind.u8 111, Value.int IntKind.u8 32, Value.int IntKind.u8 121, Value.int IntKind.u8 97, Value.int IntKind.u8 32, Value.int IntKind.u8 119, Value.int IntKind.u8 97, Value.int IntKind.u8 110, Value.int IntKind.u8 116, Value.int IntKind.u8 32, Value.int IntKind.u8 102, Value.int IntKind.u8 111, Value.int IntKind.u8 114, Value.int IntKind.u8 32, Value.int IntKind.u8 110, Value.int IntKind.u8 111, Value.int IntKind.u8 116, Value.int IntKind.u8 104, Value.int IntKind.u8 105, Value.int IntKind.u8 110, Value.int IntKind.u8 103, Value.int IntKind.u8 63] 5 (28, 29))) (.slice (some ⟨w.heap.size + 1, 0, none⟩) 28 28) ask := const_bytes (l := ask) (fr := (28, 29)) (hnew _ _ _ s1.symm) rfl
    have s2 : (W1.alloc (Obj.cells #[Value.int IntKind.u8 119, Value.int IntKind.u8 104, Value.int IntKind.u8 97, Value.int IntKind.u8 116, Value.int IntKind.u8 32, Value.int IntKind.u8 100, Value.int IntKind.u8 111, Value.int IntKind.u8 32, Value.int IntKind.u8 121, Value.int IntKind.u8 97, Value.int IntKind.u8 32, Value.int IntKind.u8 119, Value.int IntKind.u8 97, Value.int IntKind.u8 110, Value.int IntKind.u8 116, Value.int IntKind.u8 32, Value.int IntKind.u8 102, Value.int IntKind.u8 111, Value.int IntKind.u8 114, Value.int IntKind.u8 32, Value.int IntKind.u8 110, Value.int IntKind.u8 111, Value.int IntKind.u8 116, Value.int IntKind.u8 104, Value.int IntKind.u8 105, Value.int IntKind.u8 110, Value.int IntKind.u8 103, Value.int IntKind.u8 63] 5 (28, 29))).heap.size = w.heap.size + 1 + 1 := by simp [s1]
    generalize W1.alloc (Obj.cells #[Value.int IntKind.u8 119, Value.int IntKind.u8 104, Value.int IntKind.u8 97, Value.int IntKind.u8 116, Value.int IntKind.u8 32, Value.int IntKind.u8 100, Value.int IntKind.u8 111, Value.int IntKind.u8 32, Value.int IntKind.u8 121, Value.int IntKind.u8 97, Value.int IntKind.u8 32, Value.int IntKind.u8 119, Value.int IntKind.u8 97, Value.int IntKind.u8 110, Value.int IntKind.u8 116, Value.int IntKind.u8 32, Value.int IntKind.u8 102, Value.int IntKind.u8 111, Value.int IntKind.u8 114, Value.int IntKind.u8 32, Value.int IntKind.u8 110, Value.int IntKind.u8 111, Value.int IntKind.u8 116, Value.int IntKind.u8 104, Value.int IntKind.u8 105, Value.int IntKind.u8 110, Value.int IntKind.u8 103, Value.int IntKind.u8 63] 5 (28, 29)) = W2 at *
    have p3 := one_part y2
    rw [s2] at p3
    exact ⟨(b1.trans (b2.mono b1.size)).trans ((below_a _).mono (Nat.le_trans b1.size b2.size)), (y1.later b2).later (below_a _), p3⟩)
  rw [hw1]
  clear hw1 kc kc2
  refine (tag_any jefe [ask] _ _ w1 H1.out.2.1 H1.out.2.2 (by show 4 ≤ _; omega) (by simp) (by show 28 ≤ _; omega) (HA.out.later H1.out.1 hg) (Nat.lt_of_lt_of_le hg H1.out.1.size)).mono ?_
  rintro e w2 ⟨rfl, hb2⟩
  have e3 : ([ask] : List (List UInt8)).flatten = ask := List.flatten_singleton
  rw [e3]
  clear e3
  have H2 : Bx (Below w.heap.size w w2) := Bx.mk (H1.out.1.trans (hb2.mono H1.out.1.size))
  have HS : Bx (hexOf (hmac jefe ask) = macSigns) := Bx.mk hmac_jefe
  have HL : Bx ((hmac jefe ask).length = 32) := Bx.mk (sha_length _)
  clear H1 hb2 HA
  generalize hmac jefe ask = out at *
  have HI : Bx ((Tryd.prog.info? 34).map (·.size) = some (u8s out).size) := Bx.mk (by rw [u8s_size, HL.out]; kernel_rfl)
  have HZ : Bx ((u8s out).size = (u8s (List.replicate 32 0)).size) := Bx.mk (by rw [u8s_size, u8s_size, HL.out]; rfl)
  go_wp2_with (refine wpList_store_var rfl 34 _ _ rfl w2 _ _ rfl (by rfl) (u8s out) (by rfl) HZ.out HI.out (one_u8s _) ?_; intro w3 hb3 hr3 hl3)
  have H3 : Bx (Below w.heap.size w w3 ∧ Bytes w3 (.slice (some ⟨w2.heap.size, 0, none⟩) 32 32) out) := Bx.mk ⟨H2.out.trans (hb3.mono H2.out.size), row_bytes hr3 HL.out⟩
  clear HI HZ hb3 hr3 hl3 H2
  refine (hex_any out _ w3 H3.out.2 (by rw [HL.out]; omega)).mono ?_
  rintro e w4 ⟨rfl, hb4⟩
  have H4 : Bx (Below w.heap.size w w4) := Bx.mk (H3.out.1.trans (hb4.mono H3.out.1.size))
  clear hb4 H3
  rw [HS.out]
  unfold macSigns
  go_wp2
  go_ret
  exact ⟨rfl, H4.out⟩
end Go.Proofs.YtcaehkglfliihaaDoor
namespace Go.Proofs.YtcaehkglfliihaaDoor
open Go Go.RowKit
/-- What is left of parts: eight of them, sixty bytes of each. -/
def cutQ (pss : List (List UInt8)) : List (List UInt8) := (pss.take 8).map (·.take 60)
/-- What cutting parts gives. -/
def FewQ (w : World) (pss : List (List UInt8)) (e : Ending) (w' : World) : Prop := ∃ vo va xs, e = .returned (.tuple #[vo, va]) ∧ Vals w xs (cutQ pss) ∧ OwnP w' w.heap.size vo xs ∧ OwnB w' w.heap.size va (cutQ pss).flatten ∧ Below w.heap.size w w'
/-- At the head of each round. -/
def FewRelQ (w : World) (pss : List (List UInt8)) (o al i : Value) (wr : World) : Prop :=
  ∃ k xs, k ≤ pss.length ∧ k ≤ 8 ∧ i = .int .i64 ((k : Nat) : Int) ∧ Vals w xs ((pss.take k).map (·.take 60)) ∧ OwnP wr w.heap.size o xs ∧ OwnB wr w.heap.size al ((pss.take k).map (·.take 60)).flatten ∧ Below w.heap.size w wr
theorem few_lenQ (pss : List (List UInt8)) (k : Nat) : ((pss.take k).map (·.take 60)).flatten.length ≤ 60 * k := by
  induction k generalizing pss with
  | zero => simp
  | succ k ih =>
    cases pss with
    | nil => simp
    | cons p pss =>
      simp only [List.take_succ_cons, List.map_cons, List.flatten_cons, List.length_append, List.length_take]
      have := ih pss
      omega
theorem few_succQ (pss : List (List UInt8)) (k : Nat) (h : k < pss.length) : (pss.take (k + 1)).map (·.take 60) = (pss.take k).map (·.take 60) ++ [(pss.getD k []).take 60] := by
  rw [List.take_succ_eq_append_getElem h, List.map_append]
  simp [h]
set_option maxRecDepth 100000 in
set_option maxHeartbeats 1000000 in
theorem few2_any (pss : List (List UInt8)) (v : Value) (w : World) (hv : Parts w v pss) (hn : pss.length ≤ 9223372036854775807) (hp : ∀ p ∈ pss, p.length ≤ 9223372036854775807) :
    Calls Tryd.prog 9 #[v] w (FewQ w pss) := by
  have HV := Bx.mk hv
  have HP := Bx.mk hp
  obtain ⟨a, cap, rfl, -⟩ := hv
  obtain ⟨n, hnn⟩ : ∃ n, pss.length = n := ⟨_, rfl⟩
  have HN := Bx.mk hnn
  rw [hnn] at HV hn ⊢
  clear hnn hp
  have hn1 : (n : Int) ≤ 9223372036854775807 := by omega
  go_enter Tryd.func9, Tryd.ntmps9
  go_wp2
  go_loopw [4, 5, 6] (fun o al i wr => FewRelQ w pss o al i wr) (fun _ _ i _ => 8 - (intOf i).toNat)
  case atStart => exact ⟨0, [], by omega, by omega, rfl, ⟨rfl, fun j hj => by simp at hj⟩, ⟨rfl, .inl ⟨rfl, rfl⟩⟩, OwnB.nil _ _, Below.refl _ _⟩
  case round =>
    obtain ⟨k, xs, hk, hk8, rfl, hvals, hop, hob, hbel⟩ := hrel
    have hkn : k ≤ n := by have := HN.out; omega
    have HA := Bx.mk (And.intro hvals (And.intro hop (And.intro hob hbel)))
    clear hvals hop hob hbel hk
    by_cases hlt : k < n ∧ k < 8
    · obtain ⟨hkn', hk8'⟩ := hlt
      have t1 : (k : Int) < (n : Int) := by omega
      have t2 : (k : Int) < 8 := by omega
      obtain ⟨a', cap', hv', hr'⟩ := HV.out
      injection hv' with e1 e2 e3
      obtain ⟨p, o, ha, hcell⟩ := hr' (by omega)
      subst e1
      subst ha
      obtain ⟨x, hx, hxb⟩ := hcell k (by rw [HN.out]; exact hkn')
      have HXB := Bx.mk hxb
      have hcw : wr.cell? ⟨p, o + k, none⟩ = some x := by
        have hlt := World.block_lt_of_cell? _ _ hx
        rw [HA.out.2.2.2.cell (p := ⟨p, o + k, none⟩) hlt]
        exact hx
      obtain ⟨ax, cx, hxf, hxc, hxn⟩ := bytes_form hxb
      have HQl : Bx ((pss.getD k []).length ≤ 9223372036854775807) := Bx.mk (by
        have hm : pss.getD k [] ∈ pss := by
          have h : k < pss.length := by rw [HN.out]; exact hkn'
          rw [List.getD_eq_getElem?_getD, List.getElem?_eq_getElem h]
          exact List.getElem_mem h
        exact HP.out _ hm)
      have HSc : Bx ((pss.take (k + 1)).map (·.take 60) = (pss.take k).map (·.take 60) ++ [(pss.getD k []).take 60]) := Bx.mk (few_succQ pss k (by rw [HN.out]; exact hkn'))
      have HFl := Bx.mk (few_lenQ pss k)
      generalize pss.getD k [] = pk at *
      subst hxf
      obtain ⟨pl, hpl⟩ : ∃ pl, pk.length = pl := ⟨_, rfl⟩
      have HPL := Bx.mk hpl
      rw [hpl] at hcw hxc HQl
      have HXB2 : Bx (Bytes w (.slice ax pl cx) pk) := Bx.mk (by rw [← hpl]; exact HXB.out)
      obtain ⟨mm, hmm⟩ : ∃ mm, mm = min pl 60 := ⟨_, rfl⟩
      have m1 : (if (60 : Int) < (pl : Int) then (60 : Int) else (pl : Int)) = (mm : Int) := by split <;> omega
      have s1 := fun W => cut_bytes ax pl cx mm (by omega) (by omega) hxn W
      have HB2 : Bx (Bytes w (.slice ax mm cx) (pk.take 60)) := Bx.mk (by
        have h := HXB2.out.take mm (by omega)
        have e : pk.take mm = pk.take 60 := by
          rw [hmm, ← hpl, ← List.take_take, List.take_of_length_le (by rw [List.length_take]; omega)]
        rw [e] at h
        exact h)
      have hpl1 : (pl : Int) ≤ 9223372036854775807 := by have := HQl.out; omega
      clear hx hxb hcell hr' e2 e3 HXB hxc hxn hpl hmm HQl
      go_wp2
      go_quiet (fail)
      clear s1 m1 hpl1 hcw
      have HA2 : Bx (OwnP (wr.drewN nq) w.heap.size u4 xs ∧ OwnB (wr.drewN nq) w.heap.size u5 ((pss.take k).map (·.take 60)).flatten ∧ Below w.heap.size w (wr.drewN nq)) := Bx.mk ⟨HA.out.2.1, HA.out.2.2.1, below_drewN HA.out.2.2.2 _⟩
      have HVl := Bx.mk HA.out.1
      clear HA
      generalize wr.drewN nq = wq at *
      have HXl : Bx (xs.length ≤ 1000) := Bx.mk (by have := HVl.out.1; rw [List.length_map, List.length_take] at this; omega)
      go_wp2_with (first | (refine wpList_apP rfl _ _ rfl w.heap.size _ xs (by rfl) (HA2.out.1.a _) wq.heap.size (.slice ax mm cx) (by rfl) (hnew _ _ _ rfl) rfl HXl.out (Nat.le_trans HA2.out.2.2.size (below_a _).size) ?_; intro v1 w1 h1 g1; have H1 : Bx (OwnP w1 w.heap.size v1 (xs ++ [.slice ax mm cx]) ∧ OwnB w1 w.heap.size u5 ((pss.take k).map (·.take 60)).flatten ∧ Below w.heap.size w w1) := Bx.mk (few1 HA2.out h1 g1); clear h1 g1) | (refine wpList_ap rfl _ _ rfl w.heap.size _ ((pss.take k).map (·.take 60)).flatten (by rfl) H1.out.2.1 _ (pk.take 60) (by rfl) (HB2.out.later H1.out.2.2) (by have := HFl.out; rw [List.length_take]; omega) H1.out.2.2.size ?_; intro v2 w2 h1 g1 _; have H2 : Bx (OwnP w2 w.heap.size v1 (xs ++ [.slice ax mm cx]) ∧ OwnB w2 w.heap.size v2 ((pss.take (k + 1)).map (·.take 60)).flatten ∧ Below w.heap.size w w2) := Bx.mk (few2 H1.out (by rw [HSc.out, List.flatten_append, List.flatten_singleton]; exact h1) g1); clear h1 g1))
      go_roundw
      case rel => exact ⟨k + 1, xs ++ [.slice ax mm cx], by have := HN.out; omega, by omega, by go_num, by rw [HSc.out]; exact HVl.out.snoc HB2.out, H2.out⟩
      case measure => simp [intOf]; omega
    · have HE : Bx ((pss.take k).map (·.take 60) = cutQ pss) := Bx.mk (by
        unfold cutQ
        by_cases h : k = 8
        · rw [h]
        · have h1 : pss.length ≤ k := by rw [HN.out]; omega
          rw [List.take_of_length_le h1, List.take_of_length_le (by omega)])
      have HF : Bx (Vals w xs (cutQ pss) ∧ OwnP wr w.heap.size u4 xs ∧ OwnB wr w.heap.size u5 (cutQ pss).flatten ∧ Below w.heap.size w wr) := Bx.mk (by rw [← HE.out]; exact HA.out)
      clear HA HE
      by_cases h1 : k < n
      · have t1 : (k : Int) < (n : Int) := by omega
        have t2 : ¬ (k : Int) < 8 := by omega
        go_wp2
        go_ret2
        exact ⟨u4, u5, xs, rfl, HF.out⟩
      · have t1 : ¬ (k : Int) < (n : Int) := by omega
        go_wp2
        go_ret2
        exact ⟨u4, u5, xs, rfl, HF.out⟩
end Go.Proofs.YtcaehkglfliihaaDoor
namespace Go.Proofs.YtcaehkglfliihaaDoor
open Go Go.RowKit
theorem cut_totalQ (pss : List (List UInt8)) : (cutQ pss).length ≤ 8 ∧ (cutQ pss).flatten.length ≤ 480 := by
  refine ⟨?_, few_lenQ pss 8⟩
  unfold cutQ
  rw [List.length_map, List.length_take]
  omega
end Go.Proofs.YtcaehkglfliihaaDoor
