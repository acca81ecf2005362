/-
  isKind, Plain, isPlace, Check; the document's Check.
-/
import Derived.Test.YtaoekfomffebhaaDoorP1
namespace Go.Proofs.YtaoekfomffebhaaDoor
open Go Go.ChangeShapes Go.WideShapes Go.ChangeAt Go.RowKit
def kindB (k : Int) : Bool := decide (1 ≤ k) && decide (k ≤ 14)
def plainB (k : Int) : Bool := decide (k = 1) || decide (k = 2)
def placeB (k : Int) : Bool := decide (0 ≤ k) && decide (k ≤ 65535)
/-- What Check tells. -/
def chkP (x : Pk) : Int := if kindB x.k = false then 13 else if okC x.c = false then 10 else if placeB x.to = false then 10 else if okN x.n = false then 10 else if 512 < x.b.length then 2 else if plainB x.k = true ∧ x.t ≠ z32P then 3 else 0
set_option maxRecDepth 100000 in
set_option maxHeartbeats 4000000 in
theorem iskind14 (k : Int) (b : Bool) (h : kindB k = b) (w : World) : Calls Tryd.prog 41 #[.int .i64 k] w fun e w' => e = .returned (.bool b) ∧ w = w' := by
  rw [← h]
  unfold kindB
  by_cases h1 : 1 ≤ k
  · by_cases h2 : k ≤ 14
    · go_enter Tryd.func41, Tryd.ntmps41
      go_wp2
      go_ret
      refine ⟨ret_bool (Bool.eq_iff_iff.mpr ?_), rfl⟩
      try simp
      try omega
    · go_enter Tryd.func41, Tryd.ntmps41
      go_wp2
      go_ret
      refine ⟨ret_bool (Bool.eq_iff_iff.mpr ?_), rfl⟩
      try simp
      try omega
  · go_enter Tryd.func41, Tryd.ntmps41
    go_wp2
    go_ret
    refine ⟨ret_bool (Bool.eq_iff_iff.mpr ?_), rfl⟩
    try simp
    try omega
set_option maxRecDepth 100000 in
set_option maxHeartbeats 4000000 in
theorem plain14 (k : Int) (b : Bool) (h : plainB k = b) (w : World) : Calls Tryd.prog 20 #[.int .i64 k] w fun e w' => e = .returned (.bool b) ∧ w = w' := by
  rw [← h]
  unfold plainB
  by_cases h1 : k = 1
  · by_cases h2 : k = 2
    · go_enter Tryd.func20, Tryd.ntmps20
      go_wp2
      go_ret
      refine ⟨ret_bool (Bool.eq_iff_iff.mpr ?_), rfl⟩
      try simp
      try omega
    · go_enter Tryd.func20, Tryd.ntmps20
      go_wp2
      go_ret
      refine ⟨ret_bool (Bool.eq_iff_iff.mpr ?_), rfl⟩
      try simp
      try omega
  · go_enter Tryd.func20, Tryd.ntmps20
    go_wp2
    go_ret
    refine ⟨ret_bool (Bool.eq_iff_iff.mpr ?_), rfl⟩
    try simp
    try omega
set_option maxRecDepth 100000 in
set_option maxHeartbeats 4000000 in
theorem isplace14 (k : Int) (b : Bool) (h : placeB k = b) (w : World) : Calls Tryd.prog 63 #[.int .i64 k] w fun e w' => e = .returned (.bool b) ∧ w = w' := by
  rw [← h]
  unfold placeB
  by_cases h1 : 0 ≤ k
  · by_cases h2 : k ≤ 65535
    · go_enter Tryd.func63, Tryd.ntmps63
      go_wp2
      go_ret
      refine ⟨ret_bool (Bool.eq_iff_iff.mpr ?_), rfl⟩
      try simp
      try omega
    · go_enter Tryd.func63, Tryd.ntmps63
      go_wp2
      go_ret
      refine ⟨ret_bool (Bool.eq_iff_iff.mpr ?_), rfl⟩
      try simp
      try omega
  · go_enter Tryd.func63, Tryd.ntmps63
    go_wp2
    go_ret
    refine ⟨ret_bool (Bool.eq_iff_iff.mpr ?_), rfl⟩
    try simp
    try omega
theorem one_u8P (W : World) : (sizeOf 5).run Tryd.prog W = .ok 1 W := by kernel_rfl
theorem z32_is : u8s z32P = #[.int .u8 0, .int .u8 0, .int .u8 0, .int .u8 0, .int .u8 0, .int .u8 0, .int .u8 0, .int .u8 0, .int .u8 0, .int .u8 0, .int .u8 0, .int .u8 0, .int .u8 0, .int .u8 0, .int .u8 0, .int .u8 0, .int .u8 0, .int .u8 0, .int .u8 0, .int .u8 0, .int .u8 0, .int .u8 0, .int .u8 0, .int .u8 0, .int .u8 0, .int .u8 0, .int .u8 0, .int .u8 0, .int .u8 0, .int .u8 0, .int .u8 0, .int .u8 0] := by kernel_rfl
theorem ne_z32 (l m : List UInt8) (hl : l.length = 32) (hm : m.length = 32) (b : Bool) (h : (l == m) = b) (W : World) : (binOp .neq 27 (.agg (u8s l)) (.agg (u8s m))).run Tryd.prog W = .ok (.bool !b) W := by
  rw [u8s_cell, u8s_cell, ← h, run_neq_struct]
  have e2 := Go.run_equalIn_bytes (P := Tryd.prog) W 9998 27 5 32 Tryd.underlying27 Tryd.underlying5 one_u8P l m hl hm
  rw [e2]
  rfl
theorem wpList_load_midP {P : Program} {ops : Array Oper} {rest : List Oper} {op : Oper} {a : Act} {w : World} {Q : Exit → Act → World → Prop} (hw : Region.wanted op (yielded ops a.tmps) = true) (ty : TypeId) (x : Operand) (ho : op.op = .load ty x)
    (b o : Nat) (hx : a.eval x = .pointer (some ⟨b, o, none⟩)) (cs : List Value) (d : TypeDesc) (hr : w.rangeAt b o cs)
    (hu : P.underlying ty = some d) (hd : d.isRow = true) (hi : (P.info? ty).map (·.size) = some cs.length)
    (h : wpList P ops Q rest (a.put op.dst (.agg cs.toArray)) w) : wpList P ops Q (op :: rest) a w := by
  refine wpList_step fun K hK => ?_
  rw [if_pos hw]
  exact wp_load_mid ty x ho b o hx cs d hr hu hd hi (hK _ _ h)
set_option maxRecDepth 100000 in
set_option maxHeartbeats 4000000 in
theorem check14 (x : Pk) (v : Value) (w : World) (ht : x.t.length = 32) (hb : Bytes w v x.b) : Calls Tryd.prog 42 #[pkV x v] w fun e w' => e = .returned (.int .i64 (chkP x)) ∧ Below w.heap.size w w' := by
  obtain ⟨a0, c0, rfl, -, -⟩ := bytes_form hb
  have HC := Bx.mk fun (W : World) => ccheck_any x.c W
  have HN := Bx.mk fun (W : World) => check_any x.n W
  unfold clV at HC
  unfold nv at HN
  obtain ⟨B, hB⟩ : ∃ B, w.heap.size = B := ⟨_, rfl⟩
  have H0 := Bx.mk (PB.new hB 33 x (.slice a0 x.b.length c0))
  obtain ⟨tk, htk⟩ : ∃ tk, pkC x (.slice a0 x.b.length c0) = tk := ⟨_, rfl⟩
  have HU := Bx.mk (u8_info x.t ht)
  unfold pkV
  rw [htk] at ⊢
  have H0 : Bx (PB w B 33 x (.slice a0 x.b.length c0) (w.alloc (.cells tk 33))) := by rw [← htk]; exact H0
  rw [hB]
  clear hb htk
  unfold chkP
  cases hk : kindB x.k with
  | false =>
    rw [if_pos rfl]
    have k0 := H0.out.at.k
    go_enter Tryd.func42, Tryd.ntmps42
    go_wp2_with fail
    generalize w.alloc (.cells tk 33) = w0 at *
    refine (iskind14 x.k _ hk w0).mono ?_
    rintro e w1 ⟨rfl, rfl⟩
    go_wp2
    go_ret
    exact ⟨rfl, H0.out.below⟩
  | true =>
    rw [if_neg (by simp)]
    cases hc : okC x.c with
    | false =>
      rw [if_pos rfl]
      have k0 := H0.out.at.k
      go_enter Tryd.func42, Tryd.ntmps42
      go_wp2_with fail
      generalize w.alloc (.cells tk 33) = w0 at *
      refine (iskind14 x.k _ hk w0).mono ?_
      rintro e w1 ⟨rfl, rfl⟩
      go_wp2_with (refine wpList_load_mid rfl 30 _ rfl B 1 (by rfl) _ _ H0.out.at.c Tryd.underlying30 rfl (by kernel_rfl) ?_)
      refine (HC.out w0).mono ?_
      rintro e w2 ⟨rfl, hb2⟩
      rw [hc]
      have H2 := Bx.mk (H0.out.later hb2)
      clear hb2 H0 k0
      have k5 := H2.out.at.to
      go_wp2
      go_ret
      exact ⟨rfl, H2.out.below⟩
    | true =>
      rw [if_neg (by simp)]
      cases hp : placeB x.to with
      | false =>
        rw [if_pos rfl]
        have k0 := H0.out.at.k
        go_enter Tryd.func42, Tryd.ntmps42
        go_wp2_with fail
        generalize w.alloc (.cells tk 33) = w0 at *
        refine (iskind14 x.k _ hk w0).mono ?_
        rintro e w1 ⟨rfl, rfl⟩
        go_wp2_with (refine wpList_load_mid rfl 30 _ rfl B 1 (by rfl) _ _ H0.out.at.c Tryd.underlying30 rfl (by kernel_rfl) ?_)
        refine (HC.out w0).mono ?_
        rintro e w2 ⟨rfl, hb2⟩
        rw [hc]
        have H2 := Bx.mk (H0.out.later hb2)
        clear hb2 H0 k0
        have k5 := H2.out.at.to
        go_wp2_with fail
        refine (isplace14 x.to _ hp w2).mono ?_
        rintro e w3 ⟨rfl, rfl⟩
        clear k5
        go_wp2
        go_ret
        exact ⟨rfl, H2.out.below⟩
      | true =>
        rw [if_neg (by simp)]
        cases hn : okN x.n with
        | false =>
          rw [if_pos rfl]
          have k0 := H0.out.at.k
          go_enter Tryd.func42, Tryd.ntmps42
          go_wp2_with fail
          generalize w.alloc (.cells tk 33) = w0 at *
          refine (iskind14 x.k _ hk w0).mono ?_
          rintro e w1 ⟨rfl, rfl⟩
          go_wp2_with (refine wpList_load_mid rfl 30 _ rfl B 1 (by rfl) _ _ H0.out.at.c Tryd.underlying30 rfl (by kernel_rfl) ?_)
          refine (HC.out w0).mono ?_
          rintro e w2 ⟨rfl, hb2⟩
          rw [hc]
          have H2 := Bx.mk (H0.out.later hb2)
          clear hb2 H0 k0
          have k5 := H2.out.at.to
          go_wp2_with fail
          refine (isplace14 x.to _ hp w2).mono ?_
          rintro e w3 ⟨rfl, rfl⟩
          clear k5
          go_wp2_with (refine wpList_load_mid rfl 31 _ rfl B 6 (by rfl) _ _ H2.out.at.n Tryd.underlying31 rfl (by kernel_rfl) ?_)
          refine (HN.out w2).mono ?_
          rintro e w4 ⟨rfl, hb4⟩
          rw [hn]
          have H4 := Bx.mk (H2.out.later hb4)
          clear hb4 H2
          have k8 := H4.out.at.b
          go_wp2
          go_ret
          exact ⟨rfl, H4.out.below⟩
        | true =>
          rw [if_neg (by simp)]
          by_cases hl : 512 < x.b.length
          · rw [if_pos hl]
            have hd : decide ((512 : Int) < (x.b.length : Int)) = true := decide_eq_true (by omega)
            have k0 := H0.out.at.k
            go_enter Tryd.func42, Tryd.ntmps42
            go_wp2_with fail
            generalize w.alloc (.cells tk 33) = w0 at *
            refine (iskind14 x.k _ hk w0).mono ?_
            rintro e w1 ⟨rfl, rfl⟩
            go_wp2_with (refine wpList_load_mid rfl 30 _ rfl B 1 (by rfl) _ _ H0.out.at.c Tryd.underlying30 rfl (by kernel_rfl) ?_)
            refine (HC.out w0).mono ?_
            rintro e w2 ⟨rfl, hb2⟩
            rw [hc]
            have H2 := Bx.mk (H0.out.later hb2)
            clear hb2 H0 k0
            have k5 := H2.out.at.to
            go_wp2_with fail
            refine (isplace14 x.to _ hp w2).mono ?_
            rintro e w3 ⟨rfl, rfl⟩
            clear k5
            go_wp2_with (refine wpList_load_mid rfl 31 _ rfl B 6 (by rfl) _ _ H2.out.at.n Tryd.underlying31 rfl (by kernel_rfl) ?_)
            refine (HN.out w2).mono ?_
            rintro e w4 ⟨rfl, hb4⟩
            rw [hn]
            have H4 := Bx.mk (H2.out.later hb4)
            clear hb4 H2
            have k8 := H4.out.at.b
            go_wp2
            go_ret
            exact ⟨rfl, H4.out.below⟩
          · rw [if_neg hl]
            have hd : decide ((512 : Int) < (x.b.length : Int)) = false := decide_eq_false (by omega)
            cases hq : plainB x.k with
            | false =>
              rw [if_neg (by simp)]
              have k0 := H0.out.at.k
              go_enter Tryd.func42, Tryd.ntmps42
              go_wp2_with fail
              generalize w.alloc (.cells tk 33) = w0 at *
              refine (iskind14 x.k _ hk w0).mono ?_
              rintro e w1 ⟨rfl, rfl⟩
              go_wp2_with (refine wpList_load_mid rfl 30 _ rfl B 1 (by rfl) _ _ H0.out.at.c Tryd.underlying30 rfl (by kernel_rfl) ?_)
              refine (HC.out w0).mono ?_
              rintro e w2 ⟨rfl, hb2⟩
              rw [hc]
              have H2 := Bx.mk (H0.out.later hb2)
              clear hb2 H0 k0
              have k5 := H2.out.at.to
              go_wp2_with fail
              refine (isplace14 x.to _ hp w2).mono ?_
              rintro e w3 ⟨rfl, rfl⟩
              clear k5
              go_wp2_with (refine wpList_load_mid rfl 31 _ rfl B 6 (by rfl) _ _ H2.out.at.n Tryd.underlying31 rfl (by kernel_rfl) ?_)
              refine (HN.out w2).mono ?_
              rintro e w4 ⟨rfl, hb4⟩
              rw [hn]
              have H4 := Bx.mk (H2.out.later hb4)
              clear hb4 H2
              have k8 := H4.out.at.b
              have k0 := H4.out.at.k
              go_wp2_with fail
              refine (plain14 x.k _ hq w4).mono ?_
              rintro e w5 ⟨rfl, rfl⟩
              go_wp2
              go_ret
              exact ⟨rfl, H4.out.below⟩
            | true =>
              by_cases hz : x.t = z32P
              · rw [if_neg (by simp [hz])]
                have k0 := H0.out.at.k
                go_enter Tryd.func42, Tryd.ntmps42
                go_wp2_with fail
                generalize w.alloc (.cells tk 33) = w0 at *
                refine (iskind14 x.k _ hk w0).mono ?_
                rintro e w1 ⟨rfl, rfl⟩
                go_wp2_with (refine wpList_load_mid rfl 30 _ rfl B 1 (by rfl) _ _ H0.out.at.c Tryd.underlying30 rfl (by kernel_rfl) ?_)
                refine (HC.out w0).mono ?_
                rintro e w2 ⟨rfl, hb2⟩
                rw [hc]
                have H2 := Bx.mk (H0.out.later hb2)
                clear hb2 H0 k0
                have k5 := H2.out.at.to
                go_wp2_with fail
                refine (isplace14 x.to _ hp w2).mono ?_
                rintro e w3 ⟨rfl, rfl⟩
                clear k5
                go_wp2_with (refine wpList_load_mid rfl 31 _ rfl B 6 (by rfl) _ _ H2.out.at.n Tryd.underlying31 rfl (by kernel_rfl) ?_)
                refine (HN.out w2).mono ?_
                rintro e w4 ⟨rfl, hb4⟩
                rw [hn]
                have H4 := Bx.mk (H2.out.later hb4)
                clear hb4 H2
                have k8 := H4.out.at.b
                have k0 := H4.out.at.k
                go_wp2_with fail
                refine (plain14 x.k _ hq w4).mono ?_
                rintro e w5 ⟨rfl, rfl⟩
                obtain ⟨tt, htt⟩ : ∃ tt, u8s x.t = tt := ⟨_, rfl⟩
                have HT := H4.out.at.t
                have hne : ∀ W : World, (binOp .neq 27 (.agg (u8s x.t)) (.agg (u8s z32P))).run Tryd.prog W = .ok (.bool !true) W := fun W => ne_z32 x.t z32P ht rfl _ (by simp [hz]) W
                rw [htt] at HU HT hne
                rw [z32_is] at hne
                go_wp2_with (refine wpList_load_midP (by rfl) 27 _ rfl B 9 (by rfl) tt.toList _ HT Tryd.underlying27 rfl HU.out ?_; rw [Array.toArray_toList])
                skip -- M1
                go_ret
                exact ⟨rfl, H4.out.below⟩
              · rw [if_pos ⟨rfl, hz⟩]
                have k0 := H0.out.at.k
                go_enter Tryd.func42, Tryd.ntmps42
                go_wp2_with fail
                generalize w.alloc (.cells tk 33) = w0 at *
                refine (iskind14 x.k _ hk w0).mono ?_
                rintro e w1 ⟨rfl, rfl⟩
                go_wp2_with (refine wpList_load_mid rfl 30 _ rfl B 1 (by rfl) _ _ H0.out.at.c Tryd.underlying30 rfl (by kernel_rfl) ?_)
                refine (HC.out w0).mono ?_
                rintro e w2 ⟨rfl, hb2⟩
                rw [hc]
                have H2 := Bx.mk (H0.out.later hb2)
                clear hb2 H0 k0
                have k5 := H2.out.at.to
                go_wp2_with fail
                refine (isplace14 x.to _ hp w2).mono ?_
                rintro e w3 ⟨rfl, rfl⟩
                clear k5
                go_wp2_with (refine wpList_load_mid rfl 31 _ rfl B 6 (by rfl) _ _ H2.out.at.n Tryd.underlying31 rfl (by kernel_rfl) ?_)
                refine (HN.out w2).mono ?_
                rintro e w4 ⟨rfl, hb4⟩
                rw [hn]
                have H4 := Bx.mk (H2.out.later hb4)
                clear hb4 H2
                have k8 := H4.out.at.b
                have k0 := H4.out.at.k
                go_wp2_with fail
                refine (plain14 x.k _ hq w4).mono ?_
                rintro e w5 ⟨rfl, rfl⟩
                obtain ⟨tt, htt⟩ : ∃ tt, u8s x.t = tt := ⟨_, rfl⟩
                have HT := H4.out.at.t
                have hne : ∀ W : World, (binOp .neq 27 (.agg (u8s x.t)) (.agg (u8s z32P))).run Tryd.prog W = .ok (.bool !false) W := fun W => ne_z32 x.t z32P ht rfl _ (by simp [hz]) W
                rw [htt] at HU HT hne
                rw [z32_is] at hne
                go_wp2_with (refine wpList_load_midP (by rfl) 27 _ rfl B 9 (by rfl) tt.toList _ HT Tryd.underlying27 rfl HU.out ?_; rw [Array.toArray_toList])
                skip -- M1
                go_ret
                exact ⟨rfl, H4.out.below⟩
end Go.Proofs.YtaoekfomffebhaaDoor
namespace Go.Proofs.YtaoekfomffebhaaDoor
open Go Go.RowKit
/-- A writer's cells. -/
def wrC (out : List UInt8) (n : Nat) (e : Int) : Array Value := u8s out ++ #[.int .i64 (n : Int), .int .i64 e]
theorem wrC_out (out : List UInt8) (n : Nat) (e : Int) (h : out.length = 1024) (i : Nat) (hi : i < 1024) : (wrC out n e)[i]? = some (.int .u8 (ub (out.getD i 0))) := by
  unfold wrC
  rw [Array.getElem?_append_left (by rw [u8s_size]; omega), u8s_get _ _ (by omega)]
theorem wrC_used (out : List UInt8) (n : Nat) (e : Int) (h : out.length = 1024) : (wrC out n e)[1024]? = some (.int .i64 (n : Int)) := by
  unfold wrC
  rw [Array.getElem?_append_right (by rw [u8s_size]; omega), u8s_size, h]
  rfl
theorem wrC_err (out : List UInt8) (n : Nat) (e : Int) (h : out.length = 1024) : (wrC out n e)[1025]? = some (.int .i64 e) := by
  unfold wrC
  rw [Array.getElem?_append_right (by rw [u8s_size]; omega), u8s_size, h]
  rfl
theorem wrC_size (out : List UInt8) (n : Nat) (e : Int) (h : out.length = 1024) : (wrC out n e).size = 1026 := by
  unfold wrC
  rw [Array.size_append, u8s_size, h]
  rfl
theorem wrC_setE (out : List UInt8) (n : Nat) (e e' : Int) (h : out.length = 1024) : (wrC out n e).setIfInBounds 1025 (.int .i64 e') = wrC out n e' := by
  unfold wrC
  apply Array.ext_getElem?
  intro i
  rw [Array.getElem?_setIfInBounds, Array.getElem?_append, Array.getElem?_append, u8s_size, h]
  by_cases h1 : i < 1024
  · rw [if_neg (by omega), if_pos h1, if_pos h1]
  · rw [if_neg h1, if_neg h1]
    by_cases h2 : 1025 = i
    · subst h2
      rw [if_pos rfl, if_pos (by simp [u8s_size, h])]
      rfl
    · rw [if_neg h2]
      by_cases h3 : i = 1024
      · subst h3
        rfl
      · rw [Array.getElem?_eq_none (by simp; omega), Array.getElem?_eq_none (by simp; omega)]
theorem wrC_setN (out : List UInt8) (n n' : Nat) (e : Int) (h : out.length = 1024) : (wrC out n e).setIfInBounds 1024 (.int .i64 (n' : Int)) = wrC out n' e := by
  unfold wrC
  apply Array.ext_getElem?
  intro i
  rw [Array.getElem?_setIfInBounds, Array.getElem?_append, Array.getElem?_append, u8s_size, h]
  by_cases h1 : i < 1024
  · rw [if_neg (by omega), if_pos h1, if_pos h1]
  · rw [if_neg h1, if_neg h1]
    by_cases h2 : 1024 = i
    · subst h2
      rw [if_pos rfl, if_pos (by simp [u8s_size, h])]
      rfl
    · rw [if_neg h2]
      by_cases h3 : i = 1025
      · subst h3
        rfl
      · rw [Array.getElem?_eq_none (by simp; omega), Array.getElem?_eq_none (by simp; omega)]
/-- A writer, at block p. -/
def IsW (w : World) (p : Nat) (st : List UInt8 × Int) : Prop :=
  ∃ out : List UInt8, out.length = 1024 ∧ st.1.length ≤ 1024 ∧ out.take st.1.length = st.1 ∧ w.heap[p]? = some (.cells (wrC out st.1.length st.2) 118 (0, 0))
theorem IsW.lt {w : World} {p : Nat} {st : List UInt8 × Int} (h : IsW w p st) : p < w.heap.size := by
  obtain ⟨out, -, -, -, h⟩ := h
  exact (Array.getElem?_eq_some_iff.1 h).1
theorem IsW.later {w w1 : World} {p : Nat} {st : List UInt8 × Int} (h : IsW w p st) {B : Nat} (hb : Below B w w1) (hB : p < B) : IsW w1 p st := by
  obtain ⟨out, h1, h2, h3, h4⟩ := h
  exact ⟨out, h1, h2, h3, by rw [hb.block p hB]; exact h4⟩
theorem IsW.used {w : World} {p : Nat} {l : List UInt8} {e : Int} (h : IsW w p (l, e)) : w.cell? ⟨p, 1024, none⟩ = some (.int .i64 (l.length : Int)) := by
  obtain ⟨out, h1, h2, h3, h4⟩ := h
  rw [cell_of_row _ _ _ _ _ _ h4, wrC_used _ _ _ h1]
theorem IsW.err {w : World} {p : Nat} {l : List UInt8} {e : Int} (h : IsW w p (l, e)) : w.cell? ⟨p, 1025, none⟩ = some (.int .i64 e) := by
  obtain ⟨out, h1, h2, h3, h4⟩ := h
  rw [cell_of_row _ _ _ _ _ _ h4, wrC_err _ _ _ h1]
theorem IsW.le {w : World} {p : Nat} {l : List UInt8} {e : Int} (h : IsW w p (l, e)) : l.length ≤ 1024 := by
  obtain ⟨out, h1, h2, h3, h4⟩ := h
  exact h2
theorem IsW.bytes {w : World} {p : Nat} {l : List UInt8} {e : Int} (h : IsW w p (l, e)) : Bytes w (.slice (some ⟨p, 0, none⟩) l.length 1024) l := by
  obtain ⟨out, h1, h2, h3, h4⟩ := h
  refine ⟨_, _, rfl, h2, (fun hx => by cases hx), fun _ => ⟨p, 0, rfl, fun j hj => ?_⟩⟩
  simp only at h2 h3 h4
  rw [Nat.zero_add, cell_of_row _ _ _ _ _ _ h4, wrC_out _ _ _ h1 _ (by omega)]
  congr 3
  rw [List.getD_eq_getElem?_getD, List.getD_eq_getElem?_getD]
  congr 1
  rw [← h3, List.getElem?_take, if_pos hj]
/-- Why a field isn't put. -/
def rfs (st : List UInt8 × Int) (f : Fd) : Int := if st.2 ≠ 0 then st.2 else if chk f ≠ 0 then chk f else if 1024 < st.1.length + (enc f).length then 2 else 0
theorem wid_len (f : Fd) (h : chk f = 0) : (enc f).length ≤ 514 := by
  unfold enc
  rcases chk_ok h with ⟨h4, hn, hl⟩ | ⟨h0, h3, hb, hn0, hnm⟩
  · rw [if_pos h4, List.length_append, beN_length]; omega
  · rw [if_neg (by omega), beN_length]
    have := wid_le f.s
    omega
/-- The box of a field. -/
theorem box_range (W : World) (a b c : Value) (t : TypeId) : (W.alloc (.cells #[a, b, c] t (0, 0))).rangeAt W.heap.size 0 [a, b, c] := by
  intro j v hj
  rw [cell_of_row _ _ _ _ _ _ (hnew _ _ _ rfl), Nat.zero_add]
  simpa using hj
theorem range_later {w w1 : World} {b o : Nat} {cs : List Value} {B : Nat} (h : w.rangeAt b o cs) (hb : Below B w w1) (hB : b < B) : w1.rangeAt b o cs := by
  intro j v hj
  rw [hb.cell (p := ⟨b, o + j, none⟩) hB]
  exact h j v hj
set_option maxRecDepth 100000 in
set_option maxHeartbeats 1000000 in
theorem refuses_any (f : Fd) (v : Value) (p : Nat) (l : List UInt8) (er : Int) (w : World) (hw : IsW w p (l, er)) (hv : IsF w v f) (hn1 : -9223372036854775808 ≤ f.n) (hn2 : f.n ≤ 9223372036854775807) :
    Calls Tryd.prog 81 #[.pointer (some ⟨p, 0, none⟩), v] w fun e w' => e = .returned (.int .i64 (rfs (l, er) f)) ∧ Below w.heap.size w w' := by
  have HW := Bx.mk hw
  have hp := hw.lt
  obtain ⟨vb, rfl, hb⟩ := hv
  obtain ⟨s, n, b⟩ := f
  simp only at hb hn1 hn2
  have HB := Bx.mk hb
  obtain ⟨ab, cb, rfl, -⟩ := hb
  obtain ⟨L, hL⟩ : ∃ n, b.length = n := ⟨_, rfl⟩
  rw [hL] at HB ⊢
  have hX : Bx (Below w.heap.size w (w.alloc (.cells #[.int .i64 s, .int .i64 n, .slice ab L cb] 96)) ∧ (w.alloc (.cells #[.int .i64 s, .int .i64 n, .slice ab L cb] 96)).rangeAt w.heap.size 0 [.int .i64 s, .int .i64 n, .slice ab L cb] ∧ IsW (w.alloc (.cells #[.int .i64 s, .int .i64 n, .slice ab L cb] 96)) p (l, er)) := Bx.mk ⟨below_a _, box_range _ _ _ _ _, hw.later (below_a _) hp⟩
  have hE := hX.out.2.2.err
  clear hL hw
  by_cases he : er = 0
  · subst he
    by_cases hc : chk ⟨s, n, b⟩ = 0
    · have HC := Bx.mk hc
      have hu := hX.out.2.2.used
      have hu1 := HW.out.le
      have hR : Bx (rfs (l, 0) ⟨s, n, b⟩ = if 1024 < l.length + (enc ⟨s, n, b⟩).length then 2 else 0) := Bx.mk (by unfold rfs; rw [if_neg (by simp), if_neg (by simp [hc])])
      have hel := wid_len _ hc
      obtain ⟨el, hel1⟩ : ∃ k, (enc ⟨s, n, b⟩).length = k := ⟨_, rfl⟩
      have HEL := Bx.mk hel1
      rw [hel1] at hel hR
      obtain ⟨u, hu2⟩ : ∃ n, l.length = n := ⟨_, rfl⟩
      rw [hu2] at hu hu1 hR
      have hu3 : (u : Int) ≤ 1024 := by omega
      have hel3 : (el : Int) ≤ 514 := by omega
      have hwr : IntKind.i64.wrap (1024 - (u : Int)) = 1024 - (u : Int) := by rw [IntKind.wrap_i64]; omega
      have HCk := Bx.mk (wcheck_any ⟨s, n, b⟩ _ (w.alloc (.cells #[.int .i64 s, .int .i64 n, .slice ab L cb] 96)) ⟨_, rfl, HB.out.later hX.out.1⟩ hn1 hn2)
      clear hel1 hu2 hel hu1
      go_enter Tryd.func81, Tryd.ntmps81
      go_wp2_with fail
      refine HCk.out.mono ?_
      rintro e w1 ⟨rfl, hb1⟩
      obtain ⟨B, hw⟩ : ∃ B, w.heap.size = B := ⟨_, rfl⟩
      have Hw := Bx.mk hw
      have H1 : Bx (w1.cell? ⟨p, 1024, none⟩ = some (.int .i64 (u : Int)) ∧ w1.rangeAt B 0 [.int .i64 s, .int .i64 n, .slice ab L cb] ∧ Below B w w1) := Bx.mk ⟨by rw [hb1.cell (p := ⟨p, 1024, none⟩) (World.block_lt_of_cell? _ _ hu)]; exact hu, by rw [← hw]; exact range_later hX.out.2.1 hb1 (by simp), by rw [← hw]; exact hX.out.1.trans (hb1.mono hX.out.1.size)⟩
      rw [HC.out]
      clear hb1 hu hX HCk hE
      rw [hw]
      go_upto_region 6 with fail
      refine wp_region_noPanic ?_
      refine wp_region_held_drew (S := fun W => W.cell? ⟨p, 1024, none⟩ = some (.int .i64 (u : Int)) ∧ W.rangeAt B 0 [.int .i64 s, .int .i64 n, .slice ab L cb] ∧ Bx (Below B w W)) (by kernel_rfl) (⟨H1.out.1, H1.out.2.1, ⟨H1.out.2.2.drew⟩⟩) (fun hHeld => ?_)
      have H0 : Bx (w1.drew.cell? ⟨p, 1024, none⟩ = some (.int .i64 (u : Int)) ∧ w1.drew.rangeAt B 0 [.int .i64 s, .int .i64 n, .slice ab L cb] ∧ Below B w w1.drew) := Bx.mk ⟨H1.out.1, H1.out.2.1, H1.out.2.2.drew⟩
      clear H1
      generalize w1.drew = W0 at *
      by_cases hlg : 1024 < u + el
      · have hlg1 : (1024 : Int) - (u : Int) < (el : Int) := by omega
        refine takeL 0 rfl (by kernel_rfl) (by kernel_rfl) (by kernel_rfl) (fun _ _ _ h => h) (yieldsIf_load_mid (by rfl) _ _ rfl _ _ rfl _ _ (fun w hSw => hSw.2.1) Tryd.underlying96 rfl (by kernel_rfl)) hHeld ?_
        try simp only [Act.put, List.setIfInBounds_toArray, List.set_cons_zero, List.set_cons_succ]
        refine takeL 3 (v := ?_) rfl (by kernel_rfl) (by kernel_rfl) (by kernel_rfl) (fun _ _ _ h => h) (Or.inl ⟨by rfl, ?_⟩) hHeld ?_
        rotate_left 1
        · (intro w hSw; go_simp; try with_reducible rfl)
        try simp only [Act.put, List.setIfInBounds_toArray, List.set_cons_zero, List.set_cons_succ]
        refine takeL 4 (v := ?_) rfl (by kernel_rfl) (by kernel_rfl) (by kernel_rfl) (fun _ _ _ h => h) (Or.inl ⟨by rfl, ?_⟩) hHeld ?_
        rotate_left 1
        · (intro w hSw; go_simp; try with_reducible rfl)
        try simp only [Act.put, List.setIfInBounds_toArray, List.set_cons_zero, List.set_cons_succ]
        refine takeL 5 (v := ?_) rfl (by kernel_rfl) (by kernel_rfl) (by kernel_rfl) (fun _ _ _ h => h) (Or.inl ⟨by rfl, ?_⟩) hHeld ?_
        rotate_left 1
        · (intro w hSw; go_simp; try with_reducible rfl)
        try simp only [Act.put, List.setIfInBounds_toArray, List.set_cons_zero, List.set_cons_succ]
        refine takeL 6 (v := ?_) rfl (by kernel_rfl) (by kernel_rfl) (by kernel_rfl) (fun _ _ _ h => h) (Or.inl ⟨by rfl, ?_⟩) hHeld ?_
        rotate_left 1
        · (intro w hSw; go_simp; try with_reducible rfl)
        try simp only [Act.put, List.setIfInBounds_toArray, List.set_cons_zero, List.set_cons_succ]
        refine takeL 7 (v := ?_) rfl (by kernel_rfl) (by kernel_rfl) (by kernel_rfl) (fun _ _ _ h => h) (Or.inl ⟨by rfl, ?_⟩) hHeld ?_
        rotate_left 1
        · (intro w hSw; go_simp; try with_reducible rfl)
        try simp only [Act.put, List.setIfInBounds_toArray, List.set_cons_zero, List.set_cons_succ]
        refine stepL 1 (by kernel_rfl) rfl (fun K hK => ?_)
        go_simp
        refine (encoded_any ⟨s, n, b⟩ _ W0 ⟨_, rfl, HB.out.old Hw.out H0.out.2.2⟩ HC.out).mono ?_
        rintro e W1 ⟨v1, rfl, ho1, hb1⟩
        show K _ _
        obtain ⟨a1, c1, hv1, -⟩ := ho1.bytes
        rw [HEL.out] at hv1
        subst hv1
        have H1 : Bx (W1.cell? ⟨p, 1024, none⟩ = some (.int .i64 (u : Int)) ∧ W1.rangeAt B 0 [.int .i64 s, .int .i64 n, .slice ab L cb] ∧ Below B w W1) := Bx.mk ⟨by rw [hb1.cell (p := ⟨p, 1024, none⟩) (World.block_lt_of_cell? _ _ H0.out.1)]; exact H0.out.1, range_later H0.out.2.1 hb1 (World.block_lt_of_cell? _ _ (H0.out.2.1 0 _ rfl)), H0.out.2.2.trans (hb1.mono (Nat.le_of_lt (World.block_lt_of_cell? _ _ (H0.out.2.1 0 _ rfl))))⟩
        clear ho1 hb1 H0
        refine hK.out _ _ ⟨H1.out.1, H1.out.2.1, ⟨H1.out.2.2⟩⟩ (fun hHeld => ?_)
        clear hK K
        try simp only [Act.put, List.setIfInBounds_toArray, List.set_cons_zero, List.set_cons_succ]
        refine takeL 2 (v := ?_) rfl (by kernel_rfl) (by kernel_rfl) (by kernel_rfl) (fun _ _ _ h => h) (Or.inl ⟨by rfl, ?_⟩) hHeld ?_
        rotate_left 1
        · (intro w hSw; go_simp; try with_reducible rfl)
        try simp only [Act.put, List.setIfInBounds_toArray, List.set_cons_zero, List.set_cons_succ]
        refine takeL 8 (v := ?_) rfl (by kernel_rfl) (by kernel_rfl) (by kernel_rfl) (fun _ _ _ h => h) (Or.inl ⟨by rfl, ?_⟩) hHeld ?_
        rotate_left 1
        · (intro w hSw; go_simp; try with_reducible rfl)
        try simp only [Act.put, List.setIfInBounds_toArray, List.set_cons_zero, List.set_cons_succ]
        refine wpAnyH_done (by kernel_rfl) ?_ _
        refine NoPanic.normal ?_
        clear hHeld
        go_wp2
        go_ret
        exact ⟨by rw [hR.out, if_pos hlg]; rfl, by first | exact H1.out.2.2 | (rw [Hw.out]; exact H1.out.2.2)⟩
      · have hlg1 : ¬ (1024 : Int) - (u : Int) < (el : Int) := by omega
        refine takeL 0 rfl (by kernel_rfl) (by kernel_rfl) (by kernel_rfl) (fun _ _ _ h => h) (yieldsIf_load_mid (by rfl) _ _ rfl _ _ rfl _ _ (fun w hSw => hSw.2.1) Tryd.underlying96 rfl (by kernel_rfl)) hHeld ?_
        try simp only [Act.put, List.setIfInBounds_toArray, List.set_cons_zero, List.set_cons_succ]
        refine takeL 3 (v := ?_) rfl (by kernel_rfl) (by kernel_rfl) (by kernel_rfl) (fun _ _ _ h => h) (Or.inl ⟨by rfl, ?_⟩) hHeld ?_
        rotate_left 1
        · (intro w hSw; go_simp; try with_reducible rfl)
        try simp only [Act.put, List.setIfInBounds_toArray, List.set_cons_zero, List.set_cons_succ]
        refine takeL 4 (v := ?_) rfl (by kernel_rfl) (by kernel_rfl) (by kernel_rfl) (fun _ _ _ h => h) (Or.inl ⟨by rfl, ?_⟩) hHeld ?_
        rotate_left 1
        · (intro w hSw; go_simp; try with_reducible rfl)
        try simp only [Act.put, List.setIfInBounds_toArray, List.set_cons_zero, List.set_cons_succ]
        refine takeL 5 (v := ?_) rfl (by kernel_rfl) (by kernel_rfl) (by kernel_rfl) (fun _ _ _ h => h) (Or.inl ⟨by rfl, ?_⟩) hHeld ?_
        rotate_left 1
        · (intro w hSw; go_simp; try with_reducible rfl)
        try simp only [Act.put, List.setIfInBounds_toArray, List.set_cons_zero, List.set_cons_succ]
        refine takeL 6 (v := ?_) rfl (by kernel_rfl) (by kernel_rfl) (by kernel_rfl) (fun _ _ _ h => h) (Or.inl ⟨by rfl, ?_⟩) hHeld ?_
        rotate_left 1
        · (intro w hSw; go_simp; try with_reducible rfl)
        try simp only [Act.put, List.setIfInBounds_toArray, List.set_cons_zero, List.set_cons_succ]
        refine takeL 7 (v := ?_) rfl (by kernel_rfl) (by kernel_rfl) (by kernel_rfl) (fun _ _ _ h => h) (Or.inl ⟨by rfl, ?_⟩) hHeld ?_
        rotate_left 1
        · (intro w hSw; go_simp; try with_reducible rfl)
        try simp only [Act.put, List.setIfInBounds_toArray, List.set_cons_zero, List.set_cons_succ]
        refine stepL 1 (by kernel_rfl) rfl (fun K hK => ?_)
        go_simp
        refine (encoded_any ⟨s, n, b⟩ _ W0 ⟨_, rfl, HB.out.old Hw.out H0.out.2.2⟩ HC.out).mono ?_
        rintro e W1 ⟨v1, rfl, ho1, hb1⟩
        show K _ _
        obtain ⟨a1, c1, hv1, -⟩ := ho1.bytes
        rw [HEL.out] at hv1
        subst hv1
        have H1 : Bx (W1.cell? ⟨p, 1024, none⟩ = some (.int .i64 (u : Int)) ∧ W1.rangeAt B 0 [.int .i64 s, .int .i64 n, .slice ab L cb] ∧ Below B w W1) := Bx.mk ⟨by rw [hb1.cell (p := ⟨p, 1024, none⟩) (World.block_lt_of_cell? _ _ H0.out.1)]; exact H0.out.1, range_later H0.out.2.1 hb1 (World.block_lt_of_cell? _ _ (H0.out.2.1 0 _ rfl)), H0.out.2.2.trans (hb1.mono (Nat.le_of_lt (World.block_lt_of_cell? _ _ (H0.out.2.1 0 _ rfl))))⟩
        clear ho1 hb1 H0
        refine hK.out _ _ ⟨H1.out.1, H1.out.2.1, ⟨H1.out.2.2⟩⟩ (fun hHeld => ?_)
        clear hK K
        try simp only [Act.put, List.setIfInBounds_toArray, List.set_cons_zero, List.set_cons_succ]
        refine takeL 2 (v := ?_) rfl (by kernel_rfl) (by kernel_rfl) (by kernel_rfl) (fun _ _ _ h => h) (Or.inl ⟨by rfl, ?_⟩) hHeld ?_
        rotate_left 1
        · (intro w hSw; go_simp; try with_reducible rfl)
        try simp only [Act.put, List.setIfInBounds_toArray, List.set_cons_zero, List.set_cons_succ]
        refine takeL 8 (v := ?_) rfl (by kernel_rfl) (by kernel_rfl) (by kernel_rfl) (fun _ _ _ h => h) (Or.inl ⟨by rfl, ?_⟩) hHeld ?_
        rotate_left 1
        · (intro w hSw; go_simp; try with_reducible rfl)
        try simp only [Act.put, List.setIfInBounds_toArray, List.set_cons_zero, List.set_cons_succ]
        refine wpAnyH_done (by kernel_rfl) ?_ _
        refine NoPanic.normal ?_
        clear hHeld
        go_wp2
        go_ret
        exact ⟨by rw [hR.out, if_neg hlg]; rfl, by first | exact H1.out.2.2 | (rw [Hw.out]; exact H1.out.2.2)⟩
    · have hR : Bx (rfs (l, 0) ⟨s, n, b⟩ = chk ⟨s, n, b⟩) := Bx.mk (by unfold rfs; rw [if_neg (by simp), if_pos (by simp [hc])])
      have HCk := Bx.mk (wcheck_any ⟨s, n, b⟩ _ (w.alloc (.cells #[.int .i64 s, .int .i64 n, .slice ab L cb] 96)) ⟨_, rfl, HB.out.later hX.out.1⟩ hn1 hn2)
      generalize chk ⟨s, n, b⟩ = ck at *
      go_enter Tryd.func81, Tryd.ntmps81
      go_wp2_with fail
      refine HCk.out.mono ?_
      rintro e w1 ⟨rfl, hb1⟩
      have H1 := Bx.mk (hX.out.1.trans (hb1.mono hX.out.1.size))
      clear hX hb1 HCk hE
      go_wp2
      go_ret
      exact ⟨by rw [hR.out]; rfl, H1.out⟩
  · have hR : Bx (rfs (l, er) ⟨s, n, b⟩ = er) := Bx.mk (by unfold rfs; rw [if_pos he])
    go_enter Tryd.func81, Tryd.ntmps81
    go_wp2
    go_ret
    exact ⟨by rw [hR.out]; rfl, hX.out.1⟩
end Go.Proofs.YtaoekfomffebhaaDoor
namespace Go.Proofs.YtaoekfomffebhaaDoor
open Go Go.RowKit
theorem slice_arr (p n : Nat) (hn : n ≤ 1024) (W : World) : (Instr.sliceAt 116 (.pointer (some ⟨p, 0, none⟩)) none (some (.int .i64 (n : Int))) none).run Tryd.prog W = .ok (.slice (some ⟨p, 0, none⟩) n 1024) W := by
  have ha : Tryd.prog.arrayLen 116 = 1024 := by kernel_rfl
  have he : Tryd.prog.elem 116 = 5 := by kernel_rfl
  have hs : ((sizeOf 5).run Tryd.prog W) = .ok 1 W := by kernel_rfl
  rw [run_sliceAt_array_h W 116 ⟨p, 0, none⟩ (by rw [ha, he]; exact Tryd.underlying116) .i64 (n : Int) (by omega) (by rw [ha]; omega)]
  rw [he, hs, ha]
  simp [slicedAt, Result.andThen, Addr.add]
theorem slice_arl (p n : Nat) (hn : n < 1024) (W : World) : (Instr.sliceAt 116 (.pointer (some ⟨p, 0, none⟩)) (some (.int .i64 (n : Int))) none none).run Tryd.prog W = .ok (.slice (some ⟨p, n, none⟩) (1024 - n) (1024 - n)) W := by
  have ha : Tryd.prog.arrayLen 116 = 1024 := by kernel_rfl
  have he : Tryd.prog.elem 116 = 5 := by kernel_rfl
  have hs : ((sizeOf 5).run Tryd.prog W) = .ok 1 W := by kernel_rfl
  rw [run_sliceAt_array_l W 116 ⟨p, 0, none⟩ (by rw [ha, he]; exact Tryd.underlying116) .i64 (n : Int) (by omega) (by rw [ha]; omega)]
  rw [he, hs, ha]
  have h1 : ¬ (1024 = n) := by omega
  simp [slicedAt, h1, Result.andThen, Addr.add]
  intro h
  omega
set_option maxRecDepth 100000 in
set_option maxHeartbeats 1000000 in
theorem wout_ok (p : Nat) (l : List UInt8) (w : World) (hw : IsW w p (l, 0)) :
    Calls Tryd.prog 66 #[.pointer (some ⟨p, 0, none⟩)] w fun e w' => ∃ v', e = .returned (.tuple #[v', .int .i64 0]) ∧ OwnB w' w.heap.size v' l ∧ Below w.heap.size w w' := by
  have HW := Bx.mk hw
  have hE := hw.err
  have hu := hw.used
  have HU0 := Bx.mk hw.le
  have HU := Bx.mk hw.le
  have H0 : Bx (w.drew.cell? ⟨p, 1024, none⟩ = some (.int .i64 (l.length : Int)) ∧ Below w.heap.size w w.drew ∧ Bytes w.drew (.slice (some ⟨p, 0, none⟩) l.length 1024) l) := Bx.mk ⟨hu, (Below.refl _ _).drew, hw.bytes⟩
  obtain ⟨u, hu2⟩ : ∃ n, l.length = n := ⟨_, rfl⟩
  rw [hu2] at hu HU H0
  have hu1 := HU.out
  have hu3 : (u : Int) ≤ 1024 := by omega
  have hsl := fun W => slice_arr p u hu1 W
  clear hu2 hw hu1
  go_enter Tryd.func66, Tryd.ntmps66
  go_upto_region 5 with fail
  refine wp_region_noPanic ?_
  refine wp_region_held_drew (S := fun W => W.cell? ⟨p, 1024, none⟩ = some (.int .i64 (u : Int)) ∧ Bx (Below w.heap.size w W)) (by kernel_rfl) (⟨hu, ⟨(Below.refl _ _).drew⟩⟩) (fun hHeld => ?_)
  clear hE hu
  generalize w.drew = W0 at *
  refine takeL 0 (v := ?_) rfl (by kernel_rfl) (by kernel_rfl) (by kernel_rfl) (fun _ _ _ h => h) (Or.inl ⟨by rfl, ?_⟩) hHeld ?_
  rotate_left 1
  · (intro w hSw; go_simp; try with_reducible rfl)
  try simp only [Act.put, List.setIfInBounds_toArray, List.set_cons_zero, List.set_cons_succ]
  refine takeL 1 (v := ?_) rfl (by kernel_rfl) (by kernel_rfl) (by kernel_rfl) (fun _ _ _ h => h) (Or.inl ⟨by rfl, ?_⟩) hHeld ?_
  rotate_left 1
  · (intro w hSw; go_simp; try with_reducible rfl)
  try simp only [Act.put, List.setIfInBounds_toArray, List.set_cons_zero, List.set_cons_succ]
  refine takeL 2 (v := ?_) rfl (by kernel_rfl) (by kernel_rfl) (by kernel_rfl) (fun _ _ _ h => h) (Or.inl ⟨by rfl, ?_⟩) hHeld ?_
  rotate_left 1
  · (intro w hSw; go_simp; try with_reducible rfl)
  try simp only [Act.put, List.setIfInBounds_toArray, List.set_cons_zero, List.set_cons_succ]
  refine takeL 3 (v := ?_) rfl (by kernel_rfl) (by kernel_rfl) (by kernel_rfl) (fun _ _ _ h => h) (Or.inl ⟨by rfl, ?_⟩) hHeld ?_
  rotate_left 1
  · (intro w hSw; go_simp; try with_reducible rfl)
  try simp only [Act.put, List.setIfInBounds_toArray, List.set_cons_zero, List.set_cons_succ]
  refine takeL 4 (v := ?_) rfl (by kernel_rfl) (by kernel_rfl) (by kernel_rfl) (fun _ _ _ h => h) (Or.inl ⟨by rfl, ?_⟩) hHeld ?_
  rotate_left 1
  · (intro w hSw; go_simp; try with_reducible rfl)
  try simp only [Act.put, List.setIfInBounds_toArray, List.set_cons_zero, List.set_cons_succ]
  refine takeL 5 (v := ?_) rfl (by kernel_rfl) (by kernel_rfl) (by kernel_rfl) (fun _ _ _ h => h) (Or.inl ⟨by rfl, ?_⟩) hHeld ?_
  rotate_left 1
  · (intro w hSw; go_simp; try with_reducible rfl)
  try simp only [Act.put, List.setIfInBounds_toArray, List.set_cons_zero, List.set_cons_succ]
  refine takeL 6 (v := ?_) rfl (by kernel_rfl) (by kernel_rfl) (by kernel_rfl) (fun _ _ _ h => h) (Or.inl ⟨by rfl, ?_⟩) hHeld ?_
  rotate_left 1
  · (intro w hSw; go_simp; try with_reducible rfl)
  try simp only [Act.put, List.setIfInBounds_toArray, List.set_cons_zero, List.set_cons_succ]
  refine takeL 7 (v := ?_) rfl (by kernel_rfl) (by kernel_rfl) (by kernel_rfl) (fun _ _ _ h => h) (Or.inl ⟨by rfl, ?_⟩) hHeld ?_
  rotate_left 1
  · (intro w hSw; go_simp; try with_reducible rfl)
  try simp only [Act.put, List.setIfInBounds_toArray, List.set_cons_zero, List.set_cons_succ]
  refine stepL 8 (by kernel_rfl) rfl (fun K hK => ?_)
  go_simp
  refine (clone_any l _ W0 H0.out.2.2 (by have := HU0.out; omega)).mono ?_
  rintro e W1 ⟨v1, rfl, ho1, hb1⟩
  show K _ _
  have H1 : Bx (W1.cell? ⟨p, 1024, none⟩ = some (.int .i64 (u : Int)) ∧ Below w.heap.size w W1 ∧ OwnB W1 w.heap.size v1 l) := Bx.mk ⟨by rw [hb1.cell (p := ⟨p, 1024, none⟩) (World.block_lt_of_cell? _ _ H0.out.1)]; exact H0.out.1, H0.out.2.1.trans (hb1.mono H0.out.2.1.size), ho1.weak H0.out.2.1.size⟩
  clear ho1 hb1 H0
  refine hK.out _ _ ⟨H1.out.1, ⟨H1.out.2.1⟩⟩ (fun hHeld => ?_)
  clear hK K
  try simp only [Act.put, List.setIfInBounds_toArray, List.set_cons_zero, List.set_cons_succ]
  refine takeL 9 (v := ?_) rfl (by kernel_rfl) (by kernel_rfl) (by kernel_rfl) (fun _ _ _ h => h) (Or.inl ⟨by rfl, ?_⟩) hHeld ?_
  rotate_left 1
  · (intro w hSw; go_simp; try with_reducible rfl)
  try simp only [Act.put, List.setIfInBounds_toArray, List.set_cons_zero, List.set_cons_succ]
  refine takeL 10 (v := ?_) rfl (by kernel_rfl) (by kernel_rfl) (by kernel_rfl) (fun _ _ _ h => h) (Or.inl ⟨by rfl, ?_⟩) hHeld ?_
  rotate_left 1
  · (intro w hSw; go_simp; try with_reducible rfl)
  try simp only [Act.put, List.setIfInBounds_toArray, List.set_cons_zero, List.set_cons_succ]
  refine wpAnyH_done (by kernel_rfl) ?_ _
  refine NoPanic.normal ?_
  clear hHeld
  go_wp2
  go_ret2
  exact ⟨_, rfl, H1.out.2.2, H1.out.2.1⟩
end Go.Proofs.YtaoekfomffebhaaDoor
namespace Go.Proofs.YtaoekfomffebhaaDoor
open Go Go.RowKit
/-- Bytes that lie in no writer's block. -/
def BytesN (w : World) (p : Nat) (v : Value) (l : List UInt8) : Prop := Bytes w v l ∧ (0 < l.length → v.ownBlock ≠ some p)
theorem BytesN.grown {w w1 : World} {p : Nat} {v : Value} {l : List UInt8} (h : BytesN w p v l) (hg : w.grownBy w1 (some p)) : BytesN w1 p v l := by
  obtain ⟨⟨a, cap, hv, hc, hn, hr⟩, h2⟩ := h
  refine ⟨⟨a, cap, hv, hc, hn, fun hp => ?_⟩, h2⟩
  obtain ⟨c, o, ha, hcell⟩ := hr hp
  refine ⟨c, o, ha, fun j hj => ?_⟩
  have hlt := World.block_lt_of_cell? _ _ (hcell j hj)
  rw [World.cell?_of_block (hg.block c hlt (fun e => h2 hp (by rw [hv, ha]; exact e)))]
  exact hcell j hj
theorem range_grown {w w1 : World} {p b o : Nat} {cs : List Value} (h : w.rangeAt b o cs) (hg : w.grownBy w1 (some p)) (hne : b ≠ p) : w1.rangeAt b o cs := by
  intro j v hj
  have hlt := World.block_lt_of_cell? _ _ (h j v hj)
  rw [World.cell?_of_block (hg.block b hlt (fun e => hne (by injection e)))]
  exact h j v hj
/-- Nothing. -/
def Fd.zero : Fd := ⟨0, 0, []⟩
/-- A row of fields, outside a writer's block. -/
def FldsN (w : World) (p : Nat) (v : Value) (fs : List Fd) : Prop :=
  ∃ a cap, v = .slice a fs.length cap ∧ fs.length ≤ cap ∧ (0 < fs.length → ∃ g o, a = some ⟨g, o, none⟩ ∧ g ≠ p ∧ ∀ i, i < fs.length → ∃ vb, w.rangeAt g (o + i * 3) [.int .i64 (fs.getD i Fd.zero).s, .int .i64 (fs.getD i Fd.zero).n, vb] ∧ BytesN w p vb (fs.getD i Fd.zero).b)
theorem FldsN.grown {w w1 : World} {p : Nat} {v : Value} {fs : List Fd} (h : FldsN w p v fs) (hg : w.grownBy w1 (some p)) : FldsN w1 p v fs := by
  obtain ⟨a, cap, hv, hc, hr⟩ := h
  refine ⟨a, cap, hv, hc, fun hp => ?_⟩
  obtain ⟨g, o, ha, hne, hf⟩ := hr hp
  refine ⟨g, o, ha, hne, fun i hi => ?_⟩
  obtain ⟨vb, h1, h2⟩ := hf i hi
  exact ⟨vb, range_grown h1 hg hne, h2.grown hg⟩
theorem IsW.setE {w : World} {p : Nat} {l : List UInt8} {e : Int} (h : IsW w p (l, e)) (e' : Int) : IsW (w.setCell ⟨p, 1025, none⟩ (.int .i64 e')) p (l, e') := by
  obtain ⟨out, h1, h2, h3, h4⟩ := h
  exact ⟨out, h1, h2, h3, by rw [heap_setCell_same _ _ _ _ _ _ h4, wrC_setE _ _ _ _ h1]⟩
theorem IsW.thaw {w : World} {p : Nat} {l : List UInt8} {e : Int} (h : IsW w p (l, e)) (i : Nat) : w.frozen? ⟨p, i, none⟩ = false := by
  obtain ⟨out, h1, h2, h3, h4⟩ := h
  exact frozen_of_row _ _ _ _ _ h4
/-- A writer into which bytes were copied. -/
def IsC (w : World) (p : Nat) (l ps : List UInt8) (e : Int) : Prop :=
  ∃ out : List UInt8, out.length = 1024 ∧ l.length + ps.length ≤ 1024 ∧ out.take (l.length + ps.length) = l ++ ps ∧ w.heap[p]? = some (.cells (wrC out l.length e) 118 (0, 0))
theorem IsC.used {w : World} {p : Nat} {l ps : List UInt8} {e : Int} (h : IsC w p l ps e) : w.cell? ⟨p, 1024, none⟩ = some (.int .i64 (l.length : Int)) := by
  obtain ⟨out, h1, h2, h3, h4⟩ := h
  rw [cell_of_row _ _ _ _ _ _ h4, wrC_used _ _ _ h1]
theorem IsC.thaw {w : World} {p : Nat} {l ps : List UInt8} {e : Int} (h : IsC w p l ps e) (i : Nat) : w.frozen? ⟨p, i, none⟩ = false := by
  obtain ⟨out, h1, h2, h3, h4⟩ := h
  exact frozen_of_row _ _ _ _ _ h4
theorem IsC.set {w : World} {p : Nat} {l ps : List UInt8} {e : Int} (h : IsC w p l ps e) : IsW (w.setCell ⟨p, 1024, none⟩ (.int .i64 ((l.length + ps.length : Nat) : Int))) p (l ++ ps, e) := by
  obtain ⟨out, h1, h2, h3, h4⟩ := h
  refine ⟨out, h1, by rw [List.length_append]; exact h2, by rw [List.length_append]; exact h3, ?_⟩
  rw [heap_setCell_same _ _ _ _ _ _ h4, wrC_setN _ _ _ _ h1, List.length_append]
theorem wrC_mid (out ps : List UInt8) (n o : Nat) (e : Int) (h : out.length = 1024) (hl : o + ps.length ≤ 1024) :
    ((wrC out n e).toList.take o ++ (u8s ps).toList ++ (wrC out n e).toList.drop (o + ps.length)).toArray = wrC (out.take o ++ ps ++ out.drop (o + ps.length)) n e := by
  have h1 : (wrC out n e).toList = (out.map fun x => Value.int .u8 (ub x)) ++ [.int .i64 (n : Int), .int .i64 e] := by simp [wrC, u8s]
  rw [h1, List.take_append_of_le_length (by simp; omega), List.drop_append_of_le_length (by simp; omega)]
  simp [wrC, u8s, List.map_take, List.map_drop]
theorem run_copyW (w : World) (p : Nat) (l : List UInt8) (er : Int) (hW : IsW w p (l, er)) (v : Value) (ps : List UInt8) (hv : Bytes w v ps) (h0 : 0 < ps.length) (hl : l.length + ps.length ≤ 1024) (u m : Nat) (hu : l.length = u) (hm : ps.length = m) (ty : TypeId) :
    ∃ w', (Builtin.copy_ #[26, 26] ty #[.slice (some ⟨p, u, none⟩) (1024 - u) (1024 - u), v]).run Tryd.prog w = .ok (.int .i64 (m : Int)) w' ∧ IsC w' p l ps er ∧ w.grownBy w' (some p) := by
  obtain ⟨out, h1, h2, h3, h4⟩ := hW
  obtain ⟨ad, cap, rfl, hc, hz, hr⟩ := hv
  obtain ⟨c, off, rfl, hcell⟩ := hr h0
  subst hu
  subst hm
  simp only at h2 h3 h4
  have lc : (u8s ps).toList.length = ps.length := by rw [Array.length_toList, u8s_size]
  have hrun := run_copy_row (P := Tryd.prog) w 26 26 ty 5 p l.length (1024 - l.length) (1024 - l.length) ⟨c, off, none⟩ ps.length cap _ _ (u8s ps).toList Tryd.underlying26 (by kernel_rfl) h4 (by rw [lc]; exact (Nat.min_eq_left (by omega)).symm)
    (fun j x hu => by
      have hj : j < ps.length := by have := (List.getElem?_eq_some_iff.1 hu).1; omega
      rw [Array.getElem?_toList, u8s_get _ _ hj] at hu
      rw [show (⟨c, off, none⟩ : Addr).add j = ⟨c, off + j, none⟩ by simp [Addr.add], hcell j hj, ← hu])
    (by rw [lc, wrC_size _ _ _ h1]; omega)
    (fun x hx => (Array.all_eq_true'.1 (one_u8s ps)) x (by simpa using hx))
  rw [lc, wrC_mid _ _ _ _ _ h1 hl] at hrun
  refine ⟨_, hrun, ⟨out.take l.length ++ ps ++ out.drop (l.length + ps.length), by simp; omega, hl, ?_, ?_⟩, ?_⟩
  · rw [h3, List.take_append_of_le_length (by simp), List.take_of_length_le (by simp)]
  · show (w.heap.modify p _)[p]? = _; rw [Array.getElem?_modify, if_pos rfl, h4]; rfl
  · exact ⟨rfl, rfl, rfl, by simp [World.setRow], fun i _ hne => setRow_other w p i _ (fun e => hne (by rw [e]))⟩
theorem step_copyW {w : World} {ops : Array Oper} {o : Oper} {a : Act} {K : Act → World → Prop} {Q : Exit → Act → World → Prop} {E : Prop} (hgd : o.guard = none) (d s : Operand)
    (ho : o.op = .call { callee := .builtin .copy, args := #[d, s], argTypes := #[26, 26] }) (p : Nat) (l : List UInt8) (er : Int) (hW : IsW w p (l, er)) (v : Value) (ps : List UInt8) (u m : Nat) (hu : l.length = u) (hm : ps.length = m) (hd : a.eval d = .slice (some ⟨p, u, none⟩) (1024 - u) (1024 - u)) (hs : a.eval s = v) (hv : Bytes w v ps)
    (h0 : 0 < ps.length) (hl : l.length + ps.length ≤ 1024)
    (h : ∀ w', IsC w' p l ps er → w.grownBy w' (some p) → K (a.put o.dst (.int .i64 (m : Int))) w') :
    if Region.wanted o (yielded ops a.tmps) = true then Oper.wp Tryd.prog o a w K Q else E := by
  have hw : Region.wanted o (yielded ops a.tmps) = true := by simp [Region.wanted, hgd]
  rw [if_pos hw]
  obtain ⟨w', hrun, h1, h2⟩ := run_copyW w p l er hW v ps hv h0 hl u m hu hm o.type
  unfold Oper.wp
  simp [execOp, ho, resolve, invoke, builtin, hs, hd, hrun, Result.andThen]
  exact h w' h1 h2
theorem putS_rfs (l : List UInt8) (e : Int) (f : Fd) : putS (l, e) f = if rfs (l, e) f = 0 then (l ++ enc f, 0) else (l, rfs (l, e) f) := by
  unfold putS rfs
  by_cases h1 : e = 0
  · subst h1
    by_cases h2 : chk f = 0
    · by_cases h3 : 1024 < l.length + (enc f).length
      · simp [h2, h3]
      · simp [h2, h3]
    · simp [h2]
  · simp [h1]
theorem rfs_zero {l : List UInt8} {e : Int} {f : Fd} (h : rfs (l, e) f = 0) : e = 0 ∧ chk f = 0 ∧ l.length + (enc f).length ≤ 1024 := by
  unfold rfs at h
  by_cases h1 : e = 0
  · subst h1
    by_cases h2 : chk f = 0
    · by_cases h3 : 1024 < l.length + (enc f).length
      · simp [h2, h3] at h
      · exact ⟨rfl, h2, by omega⟩
    · simp [h2] at h
  · simp [h1] at h
theorem enc_pos {f : Fd} (h : chk f = 0) : 0 < (enc f).length := by
  unfold enc
  rcases chk_ok h with ⟨h4, hn, hl⟩ | ⟨h0, h3, hb, hn0, hnm⟩
  · rw [if_pos h4, List.length_append, beN_length]; omega
  · rw [if_neg (by omega), beN_length]
    have := wid_le f.s
    omega
theorem putS_stuck {st : List UInt8 × Int} (h : st.2 ≠ 0) (f : Fd) : putS st f = st := by unfold putS; rw [if_pos h]
theorem fold_stuck (fs : List Fd) {st : List UInt8 × Int} (h : st.2 ≠ 0) : fs.foldl putS st = st := by
  induction fs with
  | nil => rfl
  | cons f fs ih => rw [List.foldl_cons, putS_stuck h, ih]
theorem fold_take (fs : List Fd) (st : List UInt8 × Int) (k : Nat) (hk : k < fs.length) : (fs.take (k + 1)).foldl putS st = putS ((fs.take k).foldl putS st) (fs.getD k Fd.zero) := by
  rw [List.take_add_one, List.foldl_append, List.getElem?_eq_getElem hk, List.getD_eq_getElem?_getD, List.getElem?_eq_getElem hk]
  rfl
theorem fold_from (fs : List Fd) (st : List UInt8 × Int) (k : Nat) : fs.foldl putS st = (fs.drop k).foldl putS ((fs.take k).foldl putS st) := by
  rw [← List.foldl_append, List.take_append_drop]
end Go.Proofs.YtaoekfomffebhaaDoor
namespace Go.Proofs.YtaoekfomffebhaaDoor
open Go Go.RowKit
/-- Bytes that lie in a block of bytes. -/
def BytesU (w : World) (v : Value) (l : List UInt8) : Prop := 0 < l.length → ∀ g, v.ownBlock = some g → ∃ cs fr, w.heap[g]? = some (.cells cs 5 fr)
theorem BytesU.nil (w : World) (v : Value) : BytesU w v [] := fun h => absurd h (by simp)
theorem BytesU.grown {w w1 : World} {p : Nat} {v : Value} {l : List UInt8} (h : BytesU w v l) (hg : w.grownBy w1 (some p)) (hn : 0 < l.length → v.ownBlock ≠ some p) : BytesU w1 v l := fun h0 g hv => by
  obtain ⟨cs, fr, hc⟩ := h h0 g hv
  exact ⟨cs, fr, by rw [hg.block g (Array.getElem?_eq_some_iff.1 hc).1 (fun e => hn h0 (by rw [hv, e]))]; exact hc⟩
/-- A reader, at block q. -/
def IsR (w : World) (q : Nat) (l : List UInt8) (e : Int) : Prop := ∃ v, w.heap[q]? = some (.cells #[v, .int .i64 e] 106 (0, 0)) ∧ BytesN w q v l ∧ BytesU w v l
theorem IsR.lt {w : World} {q : Nat} {l : List UInt8} {e : Int} (h : IsR w q l e) : q < w.heap.size := by
  obtain ⟨v, h, -⟩ := h
  exact (Array.getElem?_eq_some_iff.1 h).1
theorem IsR.later {w w1 : World} {q : Nat} {l : List UInt8} {e : Int} (h : IsR w q l e) (hb : Below w.heap.size w w1) : IsR w1 q l e := by
  have hq := h.lt
  obtain ⟨v, h1, h2⟩ := h
  exact ⟨v, by rw [hb.block q hq]; exact h1, h2.1.grown (kb_below _ hb), h2.2.grown (kb_below _ hb) h2.1.2⟩
theorem IsR.err {w : World} {q : Nat} {l : List UInt8} {e : Int} (h : IsR w q l e) : w.cell? ⟨q, 1, none⟩ = some (.int .i64 e) := by
  obtain ⟨v, h1, h2⟩ := h
  rw [cell_of_row _ _ _ _ _ _ h1]
  rfl
theorem IsR.rest {w : World} {q : Nat} {l : List UInt8} {e : Int} (h : IsR w q l e) : ∃ a c, w.cell? ⟨q, 0, none⟩ = some (.slice a l.length c) ∧ BytesN w q (.slice a l.length c) l := by
  obtain ⟨v, h1, h2, -⟩ := h
  have h3 := h2
  obtain ⟨⟨a, c, rfl, -⟩, -⟩ := h2
  exact ⟨a, c, by rw [cell_of_row _ _ _ _ _ _ h1]; rfl, h3⟩
theorem IsR.thaw {w : World} {q : Nat} {l : List UInt8} {e : Int} (h : IsR w q l e) (i : Nat) : w.frozen? ⟨q, i, none⟩ = false := by
  obtain ⟨v, h1, h2⟩ := h
  exact frozen_of_row _ _ _ _ _ h1
theorem IsR.set {w : World} {q : Nat} {l l' : List UInt8} {e : Int} (h : IsR w q l e) {v' : Value} (hv : BytesN w q v' l') (hu : BytesU w v' l') : IsR (w.setCell ⟨q, 0, none⟩ v') q l' e := by
  obtain ⟨v, h1, h2⟩ := h
  exact ⟨v', by rw [heap_setCell_same _ _ _ _ _ _ h1]; rfl, hv.grown (kb_set1 _ _ _ _), hu.grown (kb_set1 _ _ _ _) hv.2⟩
theorem IsR.setE {w : World} {q : Nat} {l : List UInt8} {e : Int} (h : IsR w q l e) (e' : Int) : IsR (w.setCell ⟨q, 1, none⟩ (.int .i64 e')) q l e' := by
  obtain ⟨v, h1, h2⟩ := h
  exact ⟨v, by rw [heap_setCell_same _ _ _ _ _ _ h1]; rfl, h2.1.grown (kb_set1 _ _ _ _), h2.2.grown (kb_set1 _ _ _ _) h2.1.2⟩
end Go.Proofs.YtaoekfomffebhaaDoor
namespace Go.Proofs.YtaoekfomffebhaaDoor
open Go Go.RowKit
theorem BytesN.take {w : World} {p : Nat} {a : Option Addr} {n cap : Nat} {l : List UInt8} (h : BytesN w p (.slice a n cap) l) (m : Nat) (hm : m ≤ n) : BytesN w p (.slice a m cap) (l.take m) := by
  refine ⟨h.1.take m hm, fun h0 => ?_⟩
  have h1 := h.2 (by simp at h0; omega)
  rcases a with _ | ad
  · intro e
    cases e
  · exact h1
theorem BytesN.drop {w : World} {p : Nat} {a : Option Addr} {n cap : Nat} {l : List UInt8} (h : BytesN w p (.slice a n cap) l) (m : Nat) (hm : m ≤ n) : BytesN w p (.slice (if cap = m then a else a.map (·.add m)) (n - m) (cap - m)) (l.drop m) := by
  have hl : l.length = n := by obtain ⟨⟨a', cap', hv, -⟩, -⟩ := h; injection hv with _ e2 _; exact e2.symm
  by_cases hlt : m < n
  · have h0 : 0 < l.length := by omega
    obtain ⟨⟨a', cap', hv, hc, hn, hr⟩, h2⟩ := h
    injection hv with e1 e2 e3
    subst e1 e3
    obtain ⟨c, o, rfl, hcell⟩ := hr h0
    have e : (if cap = m then some (⟨c, o, none⟩ : Addr) else (some (⟨c, o, none⟩ : Addr)).map (·.add m)) = some ⟨c, o + m, none⟩ := by
      rw [if_neg (by omega)]
      simp [Addr.add]
    rw [e]
    exact ⟨Bytes.drop ⟨_, _, by rw [e2], hc, hn, hr⟩ m hlt, fun _ => h2 h0⟩
  · obtain rfl : m = n := by omega
    have e : l.drop m = [] := by rw [← hl]; simp
    rw [e, Nat.sub_self]
    refine ⟨⟨_, _, rfl, Nat.zero_le _, fun hnn => ?_, fun h => absurd h (by simp)⟩, fun h => absurd h (by simp)⟩
    obtain ⟨⟨a', cap', hv, hc, hn, hr⟩, h2⟩ := h
    injection hv with e1 e2 e3
    subst e1 e3
    rcases a with _ | ad
    · have := hn rfl
      omega
    · exfalso
      split at hnn
      · cases hnn
      · cases hnn
theorem BytesN.cap {w : World} {p : Nat} {a : Option Addr} {n cap : Nat} {l : List UInt8} (h : BytesN w p (.slice a n cap) l) : n ≤ cap ∧ (a = none → cap = 0) := by
  obtain ⟨⟨a', cap', hv, hc, hn, hr⟩, h2⟩ := h
  injection hv with e1 e2 e3
  subst e1 e3
  exact ⟨by omega, hn⟩
end Go.Proofs.YtaoekfomffebhaaDoor
namespace Go.Proofs.YtaoekfomffebhaaDoor
open Go Go.RowKit
/-- Bytes lie in no field's block. -/
theorem Bytes.off {w : World} {D : Nat} {a b : Int} {c : Value} {t : TypeId} {fr : Nat × Nat} {v : Value} {l : List UInt8} (h : Bytes w v l) (hr : w.heap[D]? = some (.cells #[.int .i64 a, .int .i64 b, c] t fr)) (hc : ∀ x, c ≠ .int .u8 x) (h0 : 0 < l.length) : v.ownBlock ≠ some D := by
  obtain ⟨ad, cap, rfl, -, -, hr2⟩ := h
  obtain ⟨g, o, rfl, hcell⟩ := hr2 h0
  intro e
  injection e with e
  simp only at e
  subst e
  have h1 := hcell 0 h0
  rw [cell_of_row _ _ _ _ _ _ hr, Nat.add_zero] at h1
  match o, h1 with
  | 0, h1 => simp at h1
  | 1, h1 => simp at h1
  | 2, h1 =>
    simp at h1
    exact hc _ h1
  | o + 3, h1 => simp at h1
theorem BytesN.aside {w w1 : World} {q D : Nat} {a b : Int} {c : Value} {t : TypeId} {fr : Nat × Nat} {v : Value} {l : List UInt8} (h : BytesN w q v l) (hr : w.heap[D]? = some (.cells #[.int .i64 a, .int .i64 b, c] t fr)) (hc : ∀ x, c ≠ .int .u8 x) (hg : w.grownBy w1 (some D)) : BytesN w1 q v l :=
  ⟨(BytesN.grown (p := D) ⟨h.1, h.1.off hr hc⟩ hg).1, h.2⟩
theorem IsR.aside {w w1 : World} {q D : Nat} {a b : Int} {c : Value} {t : TypeId} {fr : Nat × Nat} {l : List UInt8} {e : Int} (h : IsR w q l e) (hr : w.heap[D]? = some (.cells #[.int .i64 a, .int .i64 b, c] t fr)) (hc : ∀ x, c ≠ .int .u8 x) (hg : w.grownBy w1 (some D)) (hne : q ≠ D) : IsR w1 q l e := by
  have hq := h.lt
  obtain ⟨v, h1, h2⟩ := h
  exact ⟨v, by rw [hg.block q hq (fun e => hne (by injection e))]; exact h1, h2.1.aside hr hc hg, h2.2.grown hg (h2.1.1.off hr hc)⟩
theorem kb_new {w w1 w2 : World} {q D : Nat} (h : w.grownBy w1 (some q)) (hg : w1.grownBy w2 (some D)) (hD : w.heap.size ≤ D) : w.grownBy w2 (some q) :=
  ⟨hg.os.trans h.os, hg.tape.trans h.tape, hg.output.trans h.output, Nat.le_trans h.size hg.size, fun k hk hne => by
    rw [hg.block k (Nat.lt_of_lt_of_le hk h.size) (fun e => by injection e with e; omega)]
    exact h.block k hk hne⟩
theorem enc_four (b : List UInt8) : enc ⟨4, 0, b⟩ = beN 2 b.length ++ b := rfl
end Go.Proofs.YtaoekfomffebhaaDoor
