/-
  The walks of bytes as signs, and back.
-/
import Derived.Test.YtkfgpnigeknhmaaDoorOwn
namespace Go.Proofs.YtkfgpnigeknhmaaDoor
open Go Go.RowKit
/-- The sign of a number below 16. -/
def sgn (n : Nat) : UInt8 := if n < 10 then UInt8.ofNat (48 + n) else UInt8.ofNat (87 + n)
/-- A byte's two signs. -/
def two (b : UInt8) : List UInt8 := [sgn (b.toNat / 16), sgn (b.toNat % 16)]
/-- Bytes as signs. -/
def hexOf (bs : List UInt8) : List UInt8 := bs.flatMap two
theorem hexOf_length (bs : List UInt8) : (hexOf bs).length = 2 * bs.length := by
  induction bs with
  | nil => rfl
  | cons b bs ih => rw [hexOf, List.flatMap_cons, List.length_append, ← hexOf, ih]; simp [two]; omega
theorem hexOf_succ (bs : List UInt8) (k : Nat) (h : k < bs.length) : hexOf (bs.take (k + 1)) = hexOf (bs.take k) ++ two (bs.getD k 0) := by
  have e : bs.getD k 0 = bs[k] := by simp [h]
  rw [List.take_succ_eq_append_getElem h, e]
  unfold hexOf
  rw [List.flatMap_append, List.flatMap_singleton]
theorem idxS0 (W : World) : (Instr.index 9 (.string { data := #[48, 49, 50, 51, 52, 53, 54, 55, 56, 57, 97, 98, 99, 100, 101, 102] }) (.int .u8 ((0 : Nat) : Int))).run Tryd.prog W = .ok (.int .u8 (ub (sgn 0))) W := by kernel_rfl
theorem idxS1 (W : World) : (Instr.index 9 (.string { data := #[48, 49, 50, 51, 52, 53, 54, 55, 56, 57, 97, 98, 99, 100, 101, 102] }) (.int .u8 ((1 : Nat) : Int))).run Tryd.prog W = .ok (.int .u8 (ub (sgn 1))) W := by kernel_rfl
theorem idxS2 (W : World) : (Instr.index 9 (.string { data := #[48, 49, 50, 51, 52, 53, 54, 55, 56, 57, 97, 98, 99, 100, 101, 102] }) (.int .u8 ((2 : Nat) : Int))).run Tryd.prog W = .ok (.int .u8 (ub (sgn 2))) W := by kernel_rfl
theorem idxS3 (W : World) : (Instr.index 9 (.string { data := #[48, 49, 50, 51, 52, 53, 54, 55, 56, 57, 97, 98, 99, 100, 101, 102] }) (.int .u8 ((3 : Nat) : Int))).run Tryd.prog W = .ok (.int .u8 (ub (sgn 3))) W := by kernel_rfl
theorem idxS4 (W : World) : (Instr.index 9 (.string { data := #[48, 49, 50, 51, 52, 53, 54, 55, 56, 57, 97, 98, 99, 100, 101, 102] }) (.int .u8 ((4 : Nat) : Int))).run Tryd.prog W = .ok (.int .u8 (ub (sgn 4))) W := by kernel_rfl
theorem idxS5 (W : World) : (Instr.index 9 (.string { data := #[48, 49, 50, 51, 52, 53, 54, 55, 56, 57, 97, 98, 99, 100, 101, 102] }) (.int .u8 ((5 : Nat) : Int))).run Tryd.prog W = .ok (.int .u8 (ub (sgn 5))) W := by kernel_rfl
theorem idxS6 (W : World) : (Instr.index 9 (.string { data := #[48, 49, 50, 51, 52, 53, 54, 55, 56, 57, 97, 98, 99, 100, 101, 102] }) (.int .u8 ((6 : Nat) : Int))).run Tryd.prog W = .ok (.int .u8 (ub (sgn 6))) W := by kernel_rfl
theorem idxS7 (W : World) : (Instr.index 9 (.string { data := #[48, 49, 50, 51, 52, 53, 54, 55, 56, 57, 97, 98, 99, 100, 101, 102] }) (.int .u8 ((7 : Nat) : Int))).run Tryd.prog W = .ok (.int .u8 (ub (sgn 7))) W := by kernel_rfl
theorem idxS8 (W : World) : (Instr.index 9 (.string { data := #[48, 49, 50, 51, 52, 53, 54, 55, 56, 57, 97, 98, 99, 100, 101, 102] }) (.int .u8 ((8 : Nat) : Int))).run Tryd.prog W = .ok (.int .u8 (ub (sgn 8))) W := by kernel_rfl
theorem idxS9 (W : World) : (Instr.index 9 (.string { data := #[48, 49, 50, 51, 52, 53, 54, 55, 56, 57, 97, 98, 99, 100, 101, 102] }) (.int .u8 ((9 : Nat) : Int))).run Tryd.prog W = .ok (.int .u8 (ub (sgn 9))) W := by kernel_rfl
theorem idxS10 (W : World) : (Instr.index 9 (.string { data := #[48, 49, 50, 51, 52, 53, 54, 55, 56, 57, 97, 98, 99, 100, 101, 102] }) (.int .u8 ((10 : Nat) : Int))).run Tryd.prog W = .ok (.int .u8 (ub (sgn 10))) W := by kernel_rfl
theorem idxS11 (W : World) : (Instr.index 9 (.string { data := #[48, 49, 50, 51, 52, 53, 54, 55, 56, 57, 97, 98, 99, 100, 101, 102] }) (.int .u8 ((11 : Nat) : Int))).run Tryd.prog W = .ok (.int .u8 (ub (sgn 11))) W := by kernel_rfl
theorem idxS12 (W : World) : (Instr.index 9 (.string { data := #[48, 49, 50, 51, 52, 53, 54, 55, 56, 57, 97, 98, 99, 100, 101, 102] }) (.int .u8 ((12 : Nat) : Int))).run Tryd.prog W = .ok (.int .u8 (ub (sgn 12))) W := by kernel_rfl
theorem idxS13 (W : World) : (Instr.index 9 (.string { data := #[48, 49, 50, 51, 52, 53, 54, 55, 56, 57, 97, 98, 99, 100, 101, 102] }) (.int .u8 ((13 : Nat) : Int))).run Tryd.prog W = .ok (.int .u8 (ub (sgn 13))) W := by kernel_rfl
theorem idxS14 (W : World) : (Instr.index 9 (.string { data := #[48, 49, 50, 51, 52, 53, 54, 55, 56, 57, 97, 98, 99, 100, 101, 102] }) (.int .u8 ((14 : Nat) : Int))).run Tryd.prog W = .ok (.int .u8 (ub (sgn 14))) W := by kernel_rfl
theorem idxS15 (W : World) : (Instr.index 9 (.string { data := #[48, 49, 50, 51, 52, 53, 54, 55, 56, 57, 97, 98, 99, 100, 101, 102] }) (.int .u8 ((15 : Nat) : Int))).run Tryd.prog W = .ok (.int .u8 (ub (sgn 15))) W := by kernel_rfl
theorem idxS (n : Nat) (h : n < 16) (W : World) : (Instr.index 9 (.string { data := #[48, 49, 50, 51, 52, 53, 54, 55, 56, 57, 97, 98, 99, 100, 101, 102] }) (.int .u8 (n : Int))).run Tryd.prog W = .ok (.int .u8 (ub (sgn n))) W := by
  match n, h with
  | 0, _ => exact idxS0 W
  | 1, _ => exact idxS1 W
  | 2, _ => exact idxS2 W
  | 3, _ => exact idxS3 W
  | 4, _ => exact idxS4 W
  | 5, _ => exact idxS5 W
  | 6, _ => exact idxS6 W
  | 7, _ => exact idxS7 W
  | 8, _ => exact idxS8 W
  | 9, _ => exact idxS9 W
  | 10, _ => exact idxS10 W
  | 11, _ => exact idxS11 W
  | 12, _ => exact idxS12 W
  | 13, _ => exact idxS13 W
  | 14, _ => exact idxS14 W
  | 15, _ => exact idxS15 W
  | n + 16, h => omega
theorem mk_u8g (l c : Nat) (kl kc : IntKind) (li ci : Int) (hli : li = (l : Int)) (hci : ci = (c : Int)) (hlc : l ≤ c) (hc : c ≤ 140737488355328) (W : World) : (Instr.makeSlice 23 (.int kl li) (.int kc ci)).run Tryd.prog W = .ok (.slice (some ⟨W.heap.size, 0, none⟩) l c) (W.alloc (.cells (u8s (List.replicate c 0)) 5)) := by
  subst hli
  subst hci
  have h := run_make (P := Tryd.prog) W 23 5 ((Tryd.prog.info? 5).getD default) (.int .u8 0) Tryd.underlying23 (by kernel_rfl) (by kernel_rfl) kl kc (l : Int) (c : Int) (by omega) (by omega) (by rw [show ((Tryd.prog.info? 5).getD default).bytes = 1 by kernel_rfl]; omega) (by omega)
  rw [Int.toNat_natCast, Int.toNat_natCast, show ((Tryd.prog.info? 5).getD default).size = 1 by kernel_rfl] at h
  rw [h]
  show Result.ok _ (W.alloc (.cells (madeCells #[Value.int .u8 0] (c * 1)) 5)) = _
  rw [made_u8]
theorem own_made (W : World) (base c : Nat) (hb : base ≤ W.heap.size) (hc : c ≤ 140737488355328) : OwnB (W.alloc (.cells (u8s (List.replicate c 0)) 5)) base (.slice (some ⟨W.heap.size, 0, none⟩) 0 c) [] :=
  ⟨rfl, .inr ⟨W.heap.size, c, _, rfl, hb, hnew _ _ _ rfl, Nat.zero_le _, by simp only [maxLen]; omega, by rw [u8s_size]; simp, by simp [u8s]⟩⟩
theorem built (W : World) (ps : List UInt8) : Bytes (W.alloc (.cells (u8s ps) 5)) (.slice (some ⟨W.heap.size, 0, none⟩) ps.length ps.length) ps :=
  ⟨_, _, rfl, Nat.le_refl _, (fun h => by cases h), fun _ => ⟨W.heap.size, 0, rfl, fun j hj => by
    rw [cell_of_row _ _ _ _ _ _ (hnew W _ _ rfl), Nat.zero_add]; exact u8s_get _ _ hj⟩⟩
theorem built2 (W : World) (p q : UInt8) : Bytes ((W.alloc (.cells #[.int .u8 (ub p), .int .u8 (ub q)] 5)).drew) (.slice (some ⟨W.heap.size, 0, none⟩) 2 2) [p, q] := built W [p, q]
theorem below_ad {W : World} (o : Obj) : Below W.heap.size W ((W.alloc o).drew) := ((Below.refl _ _).alloc (Nat.le_refl _) _).drew
theorem Bytes.cell {w : World} {ps : List UInt8} {a : Option Addr} {n cap : Nat} (h : Bytes w (.slice a n cap) ps) (k : Nat) (hk : k < n) : ∃ c o, a = some ⟨c, o, none⟩ ∧ w.cell? ⟨c, o + k, none⟩ = some (.int .u8 (ub (ps.getD k 0))) := by
  obtain ⟨a', cap', hv, hc, hn, hr⟩ := h
  injection hv with e1 e2 e3
  subst e1
  obtain ⟨c, o, ha, hcell⟩ := hr (by omega)
  exact ⟨c, o, ha, hcell k (by omega)⟩
attribute [local go_sem ↓] Go.wp_at_zero Go.wp_at_succ
set_option maxRecDepth 100000 in
set_option maxHeartbeats 1000000 in
theorem hex_any (bs : List UInt8) (v : Value) (w : World) (hv : Bytes w v bs) (hn : bs.length ≤ 1099511627776) :
    Calls Tryd.prog 20 #[v] w fun e w' => e = .returned (.string ⟨(hexOf bs).toArray⟩) ∧ Below w.heap.size w w' := by
  have HV := Bx.mk hv
  obtain ⟨a, cap, rfl, -⟩ := hv
  obtain ⟨n, hnn⟩ : ∃ n, bs.length = n := ⟨_, rfl⟩
  have HN := Bx.mk hnn
  rw [hnn] at hn HV ⊢
  clear hnn
  have hn1 : (n : Int) ≤ 1099511627776 := by omega
  have hmk := fun W => mk_u8g 0 (2 * n) .i64 .i64 0 (2 * (n : Int)) rfl (by omega) (by omega) (by omega) W
  have H0 : Bx (OwnB (w.alloc (.cells (u8s (List.replicate (2 * n) 0)) 5)) w.heap.size (.slice (some ⟨w.heap.size, 0, none⟩) 0 (2 * n)) (hexOf (bs.take 0)) ∧ Below w.heap.size w (w.alloc (.cells (u8s (List.replicate (2 * n) 0)) 5))) := Bx.mk ⟨own_made w _ _ (Nat.le_refl _) (by omega), (Below.refl _ _).alloc (Nat.le_refl _) _⟩
  have HM := Bx.mk hn
  clear hn
  go_enter Tryd.func20, Tryd.ntmps20
  go_wp2
  go_loopw [3, 12] (fun o i wr => ∃ k : Nat, k ≤ n ∧ i = .int .i64 k ∧ OwnB wr w.heap.size o (hexOf (bs.take k)) ∧ Below w.heap.size w wr) (fun _ i _ => n - (intOf i).toNat)
  case atStart => exact ⟨0, Nat.zero_le _, rfl, H0.out⟩
  case round =>
    clear H0 hmk
    obtain ⟨k, hk, rfl, ho, hb⟩ := hrel
    have HO := Bx.mk ho
    have HB := Bx.mk hb
    clear ho hb
    by_cases hlt : k < n
    · obtain ⟨c, o, rfl, hcell⟩ := (HV.out.later HB.out).cell k hlt
      obtain ⟨x, hx⟩ : ∃ x, bs.getD k 0 = x := ⟨_, rfl⟩
      rw [hx] at hcell
      have HE : Bx (hexOf (bs.take (k + 1)) = hexOf (bs.take k) ++ two x) := Bx.mk (by rw [hexOf_succ bs k (by rw [HN.out]; exact hlt), hx])
      have HLen : Bx ((hexOf (bs.take k)).length ≤ 2199023255552) := Bx.mk (by have := HM.out; rw [hexOf_length, List.length_take]; omega)
      clear hx
      have hx8 := x.toNat_lt
      have e1 : ub x / 16 = ((x.toNat / 16 : Nat) : Int) := by unfold ub; omega
      have e2 : bits .and .u8 (ub x) 15 = ((x.toNat % 16 : Nat) : Int) := by rw [u8_and15 _ (ub_nonneg x) (by have := ub_le x; omega)]; unfold ub; omega
      have i1 := fun W => idxS (x.toNat / 16) (by omega) W
      have i2 := fun W => idxS (x.toNat % 16) (by omega) W
      have hlk : (k : Int) < (n : Int) := by omega
      have HOW : Bx (∀ W : World, Below wr.heap.size wr W → OwnB W w.heap.size u3 (hexOf (bs.take k))) := Bx.mk (fun W h => HO.out.later h (fun g hg => (HO.out.lt g hg).1))
      obtain ⟨p, hp⟩ : ∃ p, sgn (x.toNat / 16) = p := ⟨_, rfl⟩
      obtain ⟨q, hq⟩ : ∃ q, sgn (x.toNat % 16) = q := ⟨_, rfl⟩
      have HT : Bx (two x = [p, q]) := Bx.mk (by unfold two; rw [hp, hq])
      rw [hp] at i1
      rw [hq] at i2
      clear hp hq hx8
      generalize x.toNat / 16 = n1 at *
      generalize x.toNat % 16 = n2 at *
      go_wp2
      have HBs : Bx (∀ W : World, Below wr.heap.size wr W → w.heap.size ≤ W.heap.size) := Bx.mk (fun W h => Nat.le_trans HB.out.size h.size)
      have HLn : Bx ((hexOf (bs.take k)).length + [p, q].length ≤ 140737488355328) := Bx.mk (by have := HLen.out; simp only [List.length_cons, List.length_nil]; omega)
      go_region_held3 (fun _ => True) (trivial) ((refine step_ap (by rfl) _ _ (by rfl) w.heap.size _ _ (by rfl) (HOW.out _ (below_ad _)) _ [p, q] (by rfl) (built2 wr p q) HLn.out (HBs.out _ (below_ad _)) ?_; intro v1 w1 h1 h2 h3))
      all_goals
        have H1 : Bx (OwnB w1 w.heap.size v1 (hexOf (bs.take (k + 1))) ∧ Below w.heap.size w w1) := Bx.mk ⟨by rw [HE.out, HT.out]; exact h1, (HB.out.trans ((below_ad _).mono HB.out.size)).trans (own_below (HOW.out _ (below_ad _)) h2 (HBs.out _ (below_ad _)))⟩
        clear h1 h2 h3
        go_wp2
        go_roundw
        case rel => exact ⟨k + 1, by omega, by go_num, H1.out⟩
        case measure => simp [intOf]; omega
    · have hcv : Bx ((convert 23 9 u3).run Tryd.prog wr = .ok (.string ⟨(hexOf bs).toArray⟩) wr) := Bx.mk (by
        have e : bs.take k = bs := List.take_of_length_le (by rw [HN.out]; omega)
        have h := HO.out
        rw [e] at h
        exact run_str wr u3 _ h.bytes)
      obtain ⟨out, hout⟩ : ∃ out, hexOf bs = out := ⟨_, rfl⟩
      rw [hout] at hcv
      have HH := Bx.mk hout
      clear hout HO
      have hcv2 := hcv.out
      go_wp2
      go_ret
      exact ⟨by rw [HH.out]; rfl, HB.out⟩
end Go.Proofs.YtkfgpnigeknhmaaDoor
