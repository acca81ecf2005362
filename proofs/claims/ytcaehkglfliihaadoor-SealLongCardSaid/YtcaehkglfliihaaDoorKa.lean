/-
  Keys: a key is made, copied, asked for its bytes, and whether it is blank.
-/
import Derived.Test.YtcaehkglfliihaaDoorAb
namespace Go.Proofs.YtcaehkglfliihaaDoor
open Go Go.RowKit
set_option maxRecDepth 100000 in
/-- append of bytes to bytes that the call owns, of any type of slices of bytes. -/
theorem run_apT (T : TypeId) (hu : Tryd.prog.underlying T = some (TypeDesc.slice 5)) (w : World) (base : Nat) (v : Value) (l : List UInt8) (hown : OwnB w base v l) (x : Value) (ps : List UInt8) (hx : Bytes w x ps) (hn : l.length + ps.length ≤ 140737488355328) (hbase : base ≤ w.heap.size) (ty : TypeId) :
    ∃ v' w', (Builtin.append_ #[T, T] ty #[v, x]).run Tryd.prog w = .ok v' w' ∧ OwnB w' base v' (l ++ ps) ∧ w.grownBy w' v.ownBlock ∧ (v'.ownBlock = v.ownBlock ∨ v'.ownBlock = some w.heap.size) := by
  have hi : Tryd.prog.info? 5 = some ((Tryd.prog.info? 5).getD default) := by kernel_rfl
  obtain ⟨a, cap, rfl, hc, hnone, hr⟩ := hx
  rcases a with _ | ad
  · have h0 : ps = [] := by have := hnone rfl; exact List.eq_nil_of_length_eq_zero (by omega)
    have hz := hnone rfl
    subst h0
    subst hz
    refine ⟨v, w, ?_, by rw [List.append_nil]; exact hown, World.grownBy.refl w _, .inl rfl⟩
    exact run_append_owned_none (P := Tryd.prog) (w := w) base T ty 5 _ 1 hu hi v l.length _ hown
  · have hnews : ∀ j u, (u8s ps).toList[j]? = some u → w.cell? (ad.add j) = some u := by
      intro j u hu
      have hj : j < ps.length := by have := (List.getElem?_eq_some_iff.1 hu).1; simpa [u8s_size] using this
      obtain ⟨c, o, ha, hcell⟩ := hr (by omega)
      injection ha with ha
      subst ha
      rw [Array.getElem?_toList, u8s_get ps j hj] at hu
      rw [show (⟨c, o, none⟩ : Addr).add j = ⟨c, o + j, none⟩ by unfold Addr.add; split <;> simp_all, hcell j hj]
      exact hu
    obtain ⟨v', w', hrun, h2, h3, _, h5⟩ := run_append_own_at (P := Tryd.prog) w base T ty 5 _ (.int .u8 0) 1 1 hu hi (by kernel_rfl) (by kernel_rfl) (by kernel_rfl) rfl (by omega) v l.length _ hown ad ps.length cap (u8s ps).toList (by rw [Array.length_toList, u8s_size]; omega) hnews
      (fun u hu => (Array.all_eq_true'.1 (one_u8s ps)) u (by simpa using hu)) (by simp only [maxLen]; omega) (by omega) hbase
    refine ⟨v', w', hrun, ?_, h3, h5⟩
    unfold OwnB
    rw [List.length_append]
    have e : (u8s (l ++ ps)).toList = (u8s l).toList ++ (u8s ps).toList := by simp [u8s]
    rw [e]
    exact h2
theorem wpList_apT (T : TypeId) (hu : Tryd.prog.underlying T = some (TypeDesc.slice 5)) {w : World} {ops : Array Oper} {rest : List Oper} {o : Oper} {a : Act} {Q : Exit → Act → World → Prop} (hgd : o.guard = none) (s x : Operand)
    (ho : o.op = .call { callee := .builtin .append, args := #[s, x], argTypes := #[T, T] }) (base : Nat) (v : Value) (l : List UInt8) (hs : a.eval s = v) (hown : OwnB w base v l) (xv : Value) (ps : List UInt8) (hx : a.eval x = xv) (hb : Bytes w xv ps)
    (hn : l.length + ps.length ≤ 140737488355328) (hbase : base ≤ w.heap.size)
    (h : ∀ v' w', OwnB w' base v' (l ++ ps) → w.grownBy w' v.ownBlock → (v'.ownBlock = v.ownBlock ∨ v'.ownBlock = some w.heap.size) → wpList Tryd.prog ops Q rest (a.put o.dst v') w') : wpList Tryd.prog ops Q (o :: rest) a w := by
  refine wpList_plain hgd fun K hK => ?_
  obtain ⟨v', w', hrun, h1, h2, h3⟩ := run_apT T hu w base v l hown xv ps hb hn hbase o.type
  unfold Oper.wp
  simp [execOp, ho, resolve, invoke, builtin, hs, hx, hrun, Result.andThen]
  exact hK _ _ (h v' w' h1 h2 h3)
set_option maxRecDepth 100000 in
set_option maxHeartbeats 400000 in
theorem copied_any (bs : List UInt8) (v : Value) (w : World) (hv : Bytes w v bs) (hl : bs.length ≤ 140737488355328) :
    Calls Tryd.prog 35 #[v] w fun e w' => ∃ v', e = .returned v' ∧ OwnB w' w.heap.size v' bs ∧ Below w.heap.size w w' := by
  have HV := Bx.mk hv
  have HL := Bx.mk hl
  clear hv hl
  go_enter Tryd.func35, Tryd.ntmps35
  go_wp2_with (refine wpList_apT 68 Tryd.underlying68 rfl _ _ rfl w.heap.size _ [] (by rfl) (OwnB.nil _ _) _ bs (by rfl) HV.out (by have := HL.out; simp; omega) (Nat.le_refl _) ?_; intro v1 w1 h1 g1 _; have H1 : Bx (OwnB w1 w.heap.size v1 bs ∧ Below w.heap.size w w1) := Bx.mk ⟨h1, own_below (OwnB.nil _ _) g1 (Nat.le_refl _)⟩; clear h1 g1)
  go_ret
  exact ⟨v1, rfl, H1.out⟩
/-- A key that has its own bytes, none of it older than base. -/
def KeyO (w : World) (base : Nat) (v : Value) (bs : List UInt8) : Prop :=
  ∃ p s, v = .pointer (some ⟨p, 0, none⟩) ∧ base ≤ p ∧ w.heap[p]? = some (.cells #[s] 71 (0, 0)) ∧ OwnB w base s bs
/-- A key. -/
def IsKey (w : World) (v : Value) (bs : List UInt8) : Prop :=
  ∃ p s, v = .pointer (some ⟨p, 0, none⟩) ∧ w.heap[p]? = some (.cells #[s] 71 (0, 0)) ∧ Bytes w s bs
theorem KeyO.key {w : World} {base : Nat} {v : Value} {bs : List UInt8} (h : KeyO w base v bs) : IsKey w v bs := by
  obtain ⟨p, s, hv, _, hr, ho⟩ := h
  exact ⟨p, s, hv, hr, ho.bytes⟩
theorem KeyO.weak {w : World} {base base' : Nat} {v : Value} {bs : List UInt8} (h : KeyO w base v bs) (hb : base' ≤ base) : KeyO w base' v bs := by
  obtain ⟨p, s, hv, hp, hr, h1, h2⟩ := h
  refine ⟨p, s, hv, by omega, hr, h1, ?_⟩
  rcases h2 with h0 | ⟨g, cap, cur, hv', hb', hg, hr'⟩
  · exact .inl h0
  · exact .inr ⟨g, cap, cur, hv', by omega, hg, hr'⟩
theorem IsKey.later {w w1 : World} {v : Value} {bs : List UInt8} (h : IsKey w v bs) (hb : Below w.heap.size w w1) : IsKey w1 v bs := by
  obtain ⟨p, s, hv, hr, ho⟩ := h
  exact ⟨p, s, hv, by rw [hb.block _ (Array.getElem?_eq_some_iff.1 hr).1]; exact hr, ho.later hb⟩
theorem KeyO.later {w w1 : World} {base : Nat} {v : Value} {bs : List UInt8} (h : KeyO w base v bs) (hb : Below w.heap.size w w1) : KeyO w1 base v bs := by
  obtain ⟨p, s, hv, hp, hr, ho⟩ := h
  exact ⟨p, s, hv, hp, by rw [hb.block _ (Array.getElem?_eq_some_iff.1 hr).1]; exact hr, ho.later hb (fun g hg => (ho.lt g hg).1)⟩
set_option maxRecDepth 100000 in
set_option maxHeartbeats 400000 in
theorem new_any (bs : List UInt8) (v : Value) (w : World) (hv : Bytes w v bs) (hl : bs.length ≤ 140737488355328) :
    Calls Tryd.prog 11 #[v] w fun e w' => ∃ v', e = .returned v' ∧ KeyO w' w.heap.size v' bs ∧ Below w.heap.size w w' := by
  have HV := Bx.mk hv
  have HL := Bx.mk hl
  obtain ⟨a, cap, rfl, -⟩ := hv
  obtain ⟨n, hn⟩ : ∃ n, bs.length = n := ⟨_, rfl⟩
  rw [hn] at HV ⊢
  clear hn hl
  go_enter Tryd.func11, Tryd.ntmps11
  go_wp2_with fail
  refine (copied_any bs _ w HV.out HL.out).mono ?_
  rintro e w1 ⟨v1, rfl, ho, hb⟩
  have H1 := Bx.mk (And.intro ho hb)
  obtain ⟨a1, c1, rfl, -⟩ := ho.bytes
  clear ho hb
  go_wp2
  go_ret
  refine ⟨_, rfl, ⟨_, _, rfl, H1.out.2.size, by rw [hnew _ _ _ rfl], ?_⟩, H1.out.2.alloc H1.out.2.size _⟩
  exact H1.out.1.later (below_a _) (fun g hg => (H1.out.1.lt g hg).1)
set_option maxRecDepth 100000 in
set_option maxHeartbeats 400000 in
theorem kbytes_any (bs : List UInt8) (v : Value) (w : World) (hv : IsKey w v bs) (hl : bs.length ≤ 140737488355328) :
    Calls Tryd.prog 18 #[v] w fun e w' => ∃ v', e = .returned v' ∧ OwnB w' w.heap.size v' bs ∧ Below w.heap.size w w' := by
  obtain ⟨p, s, rfl, hr, hv⟩ := hv
  have HV := Bx.mk hv
  have HL := Bx.mk hl
  have hc : w.cell? ⟨p, 0, none⟩ = some s := by rw [cell_of_row _ _ _ _ _ _ hr]; rfl
  obtain ⟨a, cap, rfl, -⟩ := hv
  obtain ⟨n, hn⟩ : ∃ n, bs.length = n := ⟨_, rfl⟩
  rw [hn] at HV hc
  clear hn hl hr
  go_enter Tryd.func18, Tryd.ntmps18
  go_wp2_with fail
  refine (copied_any bs _ w HV.out HL.out).mono ?_
  rintro e w1 ⟨v1, rfl, ho, hb⟩
  have H1 := Bx.mk (And.intro ho hb)
  clear ho hb
  go_wp2
  go_ret
  exact ⟨_, rfl, H1.out⟩
theorem kbytes_nil (w : World) : Calls Tryd.prog 18 #[.pointer none] w fun e w' => e = .returned (.slice none 0 0) ∧ w = w' := by
  go_enter Tryd.func18, Tryd.ntmps18
  go_wp2
  go_ret
  exact ⟨rfl, rfl⟩
/-- What bytes say together. -/
def ors (l : List UInt8) : Nat → UInt8
  | 0 => 0
  | k + 1 => ors l k ||| l.getD k 0
theorem or8_zero (a b : UInt8) : a ||| b = 0 ↔ a = 0 ∧ b = 0 := by
  constructor
  · intro h
    have h' := congrArg UInt8.toBitVec h
    rw [UInt8.toBitVec_or] at h'
    have h2 : a.toBitVec ||| b.toBitVec = 0#8 := h'
    exact ⟨UInt8.eq_of_toBitVec_eq (BitVec.or_eq_zero_iff.1 h2).1, UInt8.eq_of_toBitVec_eq (BitVec.or_eq_zero_iff.1 h2).2⟩
  · rintro ⟨rfl, rfl⟩; rfl
theorem ors_zero (l : List UInt8) (k : Nat) : ors l k = 0 ↔ ∀ i, i < k → l.getD i 0 = 0 := by
  induction k with
  | zero => simp [ors]
  | succ k ih =>
    rw [ors, or8_zero, ih]
    constructor
    · rintro ⟨h1, h2⟩ i hi
      by_cases h : i = k
      · rw [h]; exact h2
      · exact h1 i (by omega)
    · intro h
      exact ⟨fun i hi => h i (by omega), h k (by omega)⟩
/-- Whether all bytes are 0. -/
def blankB (l : List UInt8) : Bool := l.all (· == 0)
theorem ors_all (l : List UInt8) (n : Nat) (h : l.length = n) : (ub (ors l n) == 0) = blankB l := by
  unfold blankB
  rw [Bool.eq_iff_iff]
  simp only [beq_iff_eq, List.all_eq_true]
  constructor
  · intro h'
    have h0 : ors l n = 0 := ub_inj h'
    rw [ors_zero] at h0
    intro x hx
    obtain ⟨i, hi, rfl⟩ := List.getElem_of_mem hx
    have := h0 i (by omega)
    simpa [hi] using this
  · intro h'
    have h0 : ors l n = 0 := (ors_zero l n).2 fun i hi => by
      have hi' : i < l.length := by omega
      have := h' (l[i]) (List.getElem_mem hi')
      simp [hi', this]
    rw [h0]; rfl
theorem ub_or8 (x y : UInt8) : bits .or .u8 (ub x) (ub y) = ub (x ||| y) := by
  unfold ub
  rw [u8_or_nat _ _ x.toNat_lt y.toNat_lt, UInt8.toNat_or]
theorem ub_mod8 (x : UInt8) : ub x % 256 = ub x := by have := ub_nonneg x; have := ub_le x; omega
set_option maxRecDepth 100000 in
set_option maxHeartbeats 400000 in
theorem blank_any (bs : List UInt8) (v : Value) (w : World) (hv : Bytes w v bs) (hl : bs.length ≤ 140737488355328) :
    Calls Tryd.prog 41 #[v] w fun e w' => e = .returned (.bool (blankB bs)) ∧ w' = w := by
  have HA := Bx.mk hv
  obtain ⟨a, ca, rfl, -⟩ := hv
  obtain ⟨n, hn⟩ : ∃ n, bs.length = n := ⟨_, rfl⟩
  have HN := Bx.mk hn
  rw [hn] at HA hl ⊢
  have hl1 : (n : Int) ≤ 140737488355328 := by omega
  clear hn
  go_enter Tryd.func41, Tryd.ntmps41
  go_wp2
  go_loopw [3, 8] (fun u i wr => ∃ k : Nat, k ≤ n ∧ i = .int .i64 (k : Int) ∧ u = .int .u8 (ub (ors bs k)) ∧ wr = w) (fun _ i _ => n - (intOf i).toNat)
  case atStart => exact ⟨0, Nat.zero_le _, rfl, rfl, rfl⟩
  case round =>
    obtain ⟨k, hk, rfl, rfl, rfl⟩ := hrel
    by_cases hlt : k < n
    · obtain ⟨g, o, rfl, hcell⟩ := HA.out.cell k hlt
      have HU : Bx (ors bs (k + 1) = ors bs k ||| bs.getD k 0) := Bx.mk rfl
      generalize ors bs k = u0 at *
      generalize bs.getD k 0 = x0 at *
      have hk1 : (k : Int) < (n : Int) := by omega
      go_wp2
      go_roundw
      case rel => exact ⟨k + 1, by omega, by go_num, by rw [HU.out]; first | rw [ub_or8] | rw [ub_or8, ub_mod8], by first | rfl | trivial⟩
      case measure => simp [intOf]; omega
    · have ek : k = n := by omega
      have HE : Bx ((ub (ors bs k) == 0) = blankB bs) := Bx.mk (by rw [ek]; exact ors_all bs n HN.out)
      generalize ors bs k = u0 at *
      clear ek
      go_wp2
      go_ret
      exact ⟨by rw [← HE.out]; rfl, rfl⟩
set_option maxRecDepth 100000 in
set_option maxHeartbeats 400000 in
theorem zero_any (bs : List UInt8) (v : Value) (w : World) (hv : IsKey w v bs) (hl : bs.length ≤ 140737488355328) :
    Calls Tryd.prog 19 #[v] w fun e w' => e = .returned (.bool (blankB bs)) ∧ w' = w := by
  obtain ⟨p, s, rfl, hr, hv⟩ := hv
  have HV := Bx.mk hv
  have HL := Bx.mk hl
  have hc : w.cell? ⟨p, 0, none⟩ = some s := by rw [cell_of_row _ _ _ _ _ _ hr]; rfl
  obtain ⟨a, cap, rfl, -⟩ := hv
  obtain ⟨n, hn⟩ : ∃ n, bs.length = n := ⟨_, rfl⟩
  rw [hn] at HV hc
  clear hn hl hr
  go_enter Tryd.func19, Tryd.ntmps19
  go_wp2_with fail
  refine (blank_any bs _ w HV.out HL.out).mono ?_
  rintro e w1 ⟨rfl, rfl⟩
  go_wp2
  go_ret
  exact ⟨rfl, rfl⟩
theorem zero_nil (w : World) : Calls Tryd.prog 19 #[.pointer none] w fun e w' => e = .returned (.bool true) ∧ w = w' := by
  go_enter Tryd.func19, Tryd.ntmps19
  go_wp2
  go_ret
  exact ⟨rfl, rfl⟩
end Go.Proofs.YtcaehkglfliihaaDoor
