/-
  The walks of what compares bytes, and of the bytes of signs.
-/
import Derived.Test.YtkfgpnigeknhmaaDoorWm
namespace Go.Proofs.YtkfgpnigeknhmaaDoor
open Go Go.RowKit
set_option maxRecDepth 100000 in
theorem same_any (xs bs : List UInt8) (va vb : Value) (w : World) (ha : Bytes w va xs) (hb : Bytes w vb bs) (hl : xs.length ≤ 140737488355328) (hl2 : bs.length ≤ 140737488355328) :
    Calls Tryd.prog 24 #[va, vb] w fun e w' => e = .returned (.bool (decide (xs = bs))) ∧ ∃ n, w' = w.drewN n := by
  have HA := Bx.mk ha
  have HB := Bx.mk hb
  obtain ⟨a, cap, rfl, -⟩ := ha
  obtain ⟨b, cap2, rfl, -⟩ := hb
  obtain ⟨n, hn⟩ : ∃ n, xs.length = n := ⟨_, rfl⟩
  obtain ⟨m, hm⟩ : ∃ m, bs.length = m := ⟨_, rfl⟩
  have HN := Bx.mk hn
  have HM := Bx.mk hm
  rw [hn] at hl HA ⊢
  rw [hm] at hl2 HB ⊢
  clear hn hm
  have hl1 : (n : Int) ≤ 140737488355328 := by omega
  by_cases hne : n = m
  · subst hne
    obtain ⟨r, hr⟩ : ∃ r, decide (xs = bs) = r := ⟨_, rfl⟩
    have HR := Bx.mk hr
    rw [hr]
    clear hr hl hl2
    have e0 : ((n : Int) != (n : Int)) = false := by simp
    go_enter Tryd.func24, Tryd.ntmps24
    go_wp2
    go_loopw [5] (fun i wr => ∃ k q : Nat, k ≤ n ∧ i = .int .i64 k ∧ Bx (∀ j, j < k → xs.getD j 0 = bs.getD j 0) ∧ wr = w.drewN q) (fun i _ => n - (intOf i).toNat)
    case atStart => exact ⟨0, 0, Nat.zero_le _, rfl, Bx.mk (fun j hj => by omega), rfl⟩
    case round =>
      obtain ⟨k, q, hk, rfl, HK, rfl⟩ := hrel
      by_cases hlt : k < n
      · obtain ⟨c, o, rfl, hca⟩ := HA.out.cell k hlt
        obtain ⟨d, p, rfl, hcb⟩ := HB.out.cell k hlt
        have hk1 : (k : Int) < (n : Int) := by omega
        by_cases he : xs.getD k 0 = bs.getD k 0
        · have HE : Bx (∀ j, j < k + 1 → xs.getD j 0 = bs.getD j 0) := Bx.mk (fun j hj => by
            by_cases h : j = k
            · rw [h]; exact he
            · exact HK.out j (by omega))
          rw [← he] at hcb
          clear he HK
          generalize xs.getD k 0 = x at *
          have e1 : (ub x != ub x) = false := by simp
          go_wp2
          go_quiet (fail)
          go_wp2
          go_roundw
          case rel => exact ⟨k + 1, _, by omega, by go_num, HE, rfl⟩
          case measure => simp [intOf]; omega
        · have HF : Bx (r = false) := Bx.mk (by rw [← HR.out]; exact decide_eq_false (fun h => he (by rw [h])))
          have e1 : (ub (xs.getD k 0) != ub (bs.getD k 0)) = true := by
            simp only [bne_iff_ne, ne_eq]
            exact fun h => he (ub_inj h)
          clear he HK
          generalize xs.getD k 0 = x at *
          generalize bs.getD k 0 = y at *
          go_wp2
          go_quiet (fail)
          go_wp2
          go_ret
          exact ⟨by rw [HF.out]; rfl, q + nq, by simp⟩
      · have HT : Bx (r = true) := Bx.mk (by rw [← HR.out]; exact decide_eq_true (ext_getD (by rw [HN.out, HM.out]) (fun j hj => HK.out j (by rw [HN.out] at hj; omega))))
        clear HK
        go_wp2
        go_ret
        exact ⟨by rw [HT.out]; rfl, _, rfl⟩
  · have HF : Bx (decide (xs = bs) = false) := Bx.mk (decide_eq_false (fun h => hne (by rw [← HN.out, ← HM.out, h])))
    have e0 : ((n : Int) != (m : Int)) = true := by simp only [bne_iff_ne, ne_eq]; omega
    obtain ⟨r, hr⟩ : ∃ r, decide (xs = bs) = r := ⟨_, rfl⟩
    rw [hr] at HF ⊢
    clear hr hne
    go_enter Tryd.func24, Tryd.ntmps24
    go_wp2
    go_ret
    exact ⟨by rw [HF.out]; rfl, 0, rfl⟩
/-- 's[i]' of a string. -/
theorem idx_str (l : List UInt8) (k : Nat) (ki : Int) (hki : ki = (k : Int)) (hk : k < l.length) (W : World) : (Instr.index 9 (.string ⟨l.toArray⟩) (.int .i64 ki)).run Tryd.prog W = .ok (.int .u8 (ub (l.getD k 0))) W := by
  subst hki
  have hs : (⟨l.toArray⟩ : ByteArray)[k]? = some (l.getD k 0) := by
    have h : k < (⟨l.toArray⟩ : ByteArray).size := hk
    rw [getElem?_pos (⟨l.toArray⟩ : ByteArray) k h]
    congr 1
    show l.toArray[k] = _
    simp [hk]
  simp only [Instr.index, asIntOf, run_underlying Tryd.underlying9, Sem.run_bind, Sem.run_pure, Result.andThen_ok]
  have h0 : (0 : Int) ≤ (k : Int) := by omega
  simp only [h0, if_true, Int.toNat_natCast, hs]
  rfl
theorem built1 (W : World) (p : UInt8) : Bytes (W.alloc (.cells #[.int .u8 (ub p)] 5)) (.slice (some ⟨W.heap.size, 0, none⟩) 1 1) [p] := built W [p]
theorem below_a {W : World} (o : Obj) : Below W.heap.size W (W.alloc o) := (Below.refl _ _).alloc (Nat.le_refl _) _
theorem join16 (x y : Nat) (hx : x < 16) (hy : y < 16) : bits .or .u8 ((x : Int) * 16) (y : Int) = ub (UInt8.ofNat (16 * x + y)) := by
  have h := u8_or_nat (16 * x) y (by omega) (by omega)
  have e : ((16 * x : Nat) : Int) = (x : Int) * 16 := by omega
  rw [e] at h
  rw [h]
  unfold ub
  rw [UInt8.toNat_ofNat']
  have hd : (16 * x) ||| y = 16 * x + y := by
    have := Nat.two_pow_add_eq_or_of_lt (i := 4) (b := y) (by omega) x
    rw [show 2 ^ 4 * x = 16 * x by omega] at this
    exact this.symm
  rw [hd]
  omega
/-- What the bytes of signs are. -/
def BytesR (l : List UInt8) (w : World) (e : Ending) (w' : World) : Prop :=
  (Good l ∧ (∃ v, e = .returned (.tuple #[v, .int .i64 0]) ∧ OwnB w' w.heap.size v (decN l (l.length / 2))) ∨ ¬ Good l ∧ e = .returned (.tuple #[.slice none 0 0, .int .i64 3])) ∧ Below w.heap.size w w'
def BytRel (l : List UInt8) (w : World) (o i : Value) (wr : World) : Prop :=
  ∃ j : Nat, 2 * j ≤ l.length ∧ i = .int .i64 (2 * j : Nat) ∧ OwnB wr w.heap.size o (decN l j) ∧ Below w.heap.size w wr ∧ ∀ i, i < 2 * j → (val (l.getD i 0)).isSome = true
set_option maxRecDepth 100000 in
set_option maxHeartbeats 1000000 in
theorem bytes_any (l : List UInt8) (w : World) (hl : l.length ≤ 140737488355328) : Calls Tryd.prog 22 #[.string ⟨l.toArray⟩] w fun e w' => BytesR l w e w' := by
  have e : (⟨l.toArray⟩ : ByteArray).size = l.length := rfl
  obtain ⟨n, hn⟩ : ∃ n, l.length = n := ⟨_, rfl⟩
  have HN := Bx.mk hn
  rw [hn] at e hl
  clear hn
  have hl1 : (n : Int) ≤ 140737488355328 := by omega
  by_cases hodd : n % 2 = 1
  · have e0 : ((n : Int) % 2 != 0) = true := by simp only [bne_iff_ne, ne_eq]; omega
    have HG : Bx (¬ Good l) := Bx.mk (fun h => by have := h.1; rw [HN.out] at this; omega)
    clear hodd
    go_enter Tryd.func22, Tryd.ntmps22
    go_wp2
    go_ret2
    exact ⟨.inr ⟨HG.out, rfl⟩, Below.refl _ _⟩
  · have e0 : ((n : Int) % 2 != 0) = false := by simp only [bne_eq_false_iff_eq]; omega
    have hmk := fun W => mk_u8g 0 (n / 2) .i64 .i64 0 ((n : Int) / 2) rfl (by omega) (by omega) (by omega) W
    have H0 : Bx (BytRel l w (.slice (some ⟨w.heap.size, 0, none⟩) 0 (n / 2)) (.int .i64 0) (w.alloc (.cells (u8s (List.replicate (n / 2) 0)) 5))) := Bx.mk ⟨0, by omega, rfl, own_made w _ _ (Nat.le_refl _) (by omega), below_a _, fun i hi => by omega⟩
    have HE : Bx (n % 2 = 0) := Bx.mk (by omega)
    clear hodd
    go_enter Tryd.func22, Tryd.ntmps22
    go_wp2
    go_loopw [4, 5] (fun o i wr => BytRel l w o i wr) (fun _ i _ => n - (intOf i).toNat)
    case atStart => exact H0.out
    case round =>
      clear H0 hmk
      obtain ⟨j, hj, rfl, ho, hb, hv⟩ := hrel
      have HO := Bx.mk ho
      have HB := Bx.mk hb
      have HV := Bx.mk hv
      have hj1 : 2 * j ≤ n := by have := HN.out; omega
      clear ho hb hv hj
      by_cases hlt : 2 * j < n
      · have hlt2 : 2 * j + 1 < n := by have := HE.out; omega
        obtain ⟨i, hi⟩ : ∃ i, 2 * j = i := ⟨_, rfl⟩
        have HI := Bx.mk hi
        rw [hi] at hlt hlt2 hj1 ⊢
        clear hi
        have i1 := fun W => idx_str l i (i : Int) rfl (by rw [HN.out]; exact hlt) W
        have i2 := fun W => idx_str l (i + 1) ((i : Int) + 1) (by omega) (by rw [HN.out]; exact hlt2) W
        have hk1 : (i : Int) < (n : Int) := by omega
        have hk2 : (i : Int) + 1 < (n : Int) := by omega
        obtain ⟨x, hx⟩ : ∃ x, l.getD i 0 = x := ⟨_, rfl⟩
        obtain ⟨y, hy⟩ : ∃ y, l.getD (i + 1) 0 = y := ⟨_, rfl⟩
        have HX := Bx.mk hx
        have HY := Bx.mk hy
        rw [hx] at i1
        rw [hy] at i2
        clear hx hy
        match hvx : val x with
        | none =>
          have HG : Bx (¬ Good l) := Bx.mk (fun h => by have := h.2 i (by rw [HN.out]; exact hlt); rw [HX.out, hvx] at this; cases this)
          have HC := Bx.mk (fun W => worth_none x W hvx)
          clear hvx
          go_wp2_with (go_at_call 44; refine (HC.out _).mono ?_; rintro e w' ⟨rfl, rfl⟩)
          go_ret2
          exact ⟨.inr ⟨HG.out, rfl⟩, HB.out⟩
        | some p =>
          match hvy : val y with
          | none =>
            have HG : Bx (¬ Good l) := Bx.mk (fun h => by have := h.2 (i + 1) (by rw [HN.out]; exact hlt2); rw [HY.out, hvy] at this; cases this)
            have HC := Bx.mk (fun W => worth_some x p W hvx)
            have HD := Bx.mk (fun W => worth_none y W hvy)
            clear hvx hvy
            go_wp2_with fail
            refine (HC.out _).mono ?_
            rintro e w' ⟨rfl, rfl⟩
            go_wp2_with fail
            refine (HD.out _).mono ?_
            rintro e w' ⟨rfl, rfl⟩
            go_wp2
            go_ret2
            exact ⟨.inr ⟨HG.out, rfl⟩, HB.out⟩
          | some q =>
            have hp := (val_lt x p hvx).1
            have hq := (val_lt y q hvy).1
            have HC := Bx.mk (fun W => worth_some x p W hvx)
            have HD := Bx.mk (fun W => worth_some y q W hvy)
            have HZ : Bx (decB l j = UInt8.ofNat (16 * p + q)) := Bx.mk (by unfold decB; rw [HI.out, HX.out, HY.out, hvx, hvy]; rfl)
            have HK : Bx (∀ k, k < 2 * (j + 1) → (val (l.getD k 0)).isSome = true) := Bx.mk (fun k hk => by
              by_cases h1 : k < 2 * j
              · exact HV.out k h1
              · have hi := HI.out
                by_cases h2 : k = i
                · rw [h2, HX.out, hvx]; rfl
                · rw [show k = i + 1 by omega, HY.out, hvy]; rfl)
            have ej := join16 p q hp hq
            have hp1 : (p : Int) < 16 := by omega
            have hq1 : (q : Int) < 16 := by omega
            obtain ⟨z, hz⟩ : ∃ z, UInt8.ofNat (16 * p + q) = z := ⟨_, rfl⟩
            rw [hz] at HZ ej
            have HLn : Bx ((decN l j).length + [z].length ≤ 140737488355328) := Bx.mk (by have := HI.out; rw [decN_length]; simp only [List.length_cons, List.length_nil]; omega)
            clear hvx hvy hz hp hq
            go_wp2_with fail
            refine (HC.out _).mono ?_
            rintro e w' ⟨rfl, rfl⟩
            go_wp2_with fail
            refine (HD.out _).mono ?_
            rintro e w' ⟨rfl, rfl⟩
            go_wp2_with (refine wpList_ap rfl _ _ rfl w.heap.size _ (decN l j) (by rfl) (HO.out.later (below_a _) (fun g hg => (HO.out.lt g hg).1)) _ [z] (by rfl) (built1 wr z) HLn.out (Nat.le_trans HB.out.size (below_a _).size) ?_; intro v1 w1 h1 h2 h3; have H1 : Bx (OwnB w1 w.heap.size v1 (decN l (j + 1)) ∧ Below w.heap.size w w1) := Bx.mk ⟨(by rw [decN_succ, HZ.out]; exact h1), (HB.out.trans ((below_a _).mono HB.out.size)).trans (own_below (HO.out.later (below_a _) (fun g hg => (HO.out.lt g hg).1)) h2 (Nat.le_trans HB.out.size (below_a _).size))⟩; clear h1 h2 h3)
            go_roundw
            case rel => exact ⟨j + 1, by have := HN.out; have := HI.out; omega, by have := HI.out; subst this; go_num, H1.out.1, H1.out.2, HK.out⟩
            case measure => simp [intOf]; omega
      · have HG : Bx (Good l) := Bx.mk ⟨by rw [HN.out]; exact HE.out, fun i hi => HV.out i (by rw [HN.out] at hi; omega)⟩
        have HW : Bx (OwnB wr w.heap.size u4 (decN l (l.length / 2))) := Bx.mk (by rw [HN.out, show n / 2 = j by omega]; exact HO.out)
        clear HO HV
        go_wp2
        go_ret2
        exact ⟨.inl ⟨HG.out, _, rfl, HW.out⟩, HB.out⟩
end Go.Proofs.YtkfgpnigeknhmaaDoor
