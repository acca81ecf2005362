/-
  The walks of a field that is got.
-/
import Derived.Test.YtiengbmnfbbgoaaDoorIn
namespace Go.Proofs.YtiengbmnfbbgoaaDoor
open Go Go.RowKit
theorem OwnB.bytesN {w : World} {base q : Nat} {v : Value} {l : List UInt8} (h : OwnB w base v l) (hq : q < base) : BytesN w q v l := ⟨h.bytes, fun _ e => by have := (h.lt q e).2; omega⟩
/-- Bytes lie in no field's block. -/
theorem Bytes.off {w : World} {D : Nat} {a b : Int} {c : Value} {t : TypeId} {fr : Nat × Nat} {v : Value} {l : List UInt8} (h : Bytes w v l) (hr : w.heap[D]? = some (.cells #[.int .i64 a, .int .i64 b, c] t fr)) (hc : ∀ x, c ≠ .int .u8 x) (h0 : 0 < l.length) : v.ownBlock ≠ some D := by
  obtain ⟨ad, cap, rfl, -, -, hr2⟩ := h
  obtain ⟨g, o, rfl, hcell⟩ := hr2 h0
  intro e
  injection e with e
  simp only at e
  subst e
  have h1 := hcell 0 h0
  rw [cell_of_row _ _ _ _ _ _ hr, Nat.add_zero] at h1
  match o, h1 with
  | 0, h1 => simp at h1
  | 1, h1 => simp at h1
  | 2, h1 =>
    simp at h1
    exact hc _ h1
  | o + 3, h1 => simp at h1
theorem BytesN.aside {w w1 : World} {q D : Nat} {a b : Int} {c : Value} {t : TypeId} {fr : Nat × Nat} {v : Value} {l : List UInt8} (h : BytesN w q v l) (hr : w.heap[D]? = some (.cells #[.int .i64 a, .int .i64 b, c] t fr)) (hc : ∀ x, c ≠ .int .u8 x) (hg : w.grownBy w1 (some D)) : BytesN w1 q v l :=
  ⟨(BytesN.grown (p := D) ⟨h.1, h.1.off hr hc⟩ hg).1, h.2⟩
theorem IsR.aside {w w1 : World} {q D : Nat} {a b : Int} {c : Value} {t : TypeId} {fr : Nat × Nat} {l : List UInt8} {e : Int} (h : IsR w q l e) (hr : w.heap[D]? = some (.cells #[.int .i64 a, .int .i64 b, c] t fr)) (hc : ∀ x, c ≠ .int .u8 x) (hg : w.grownBy w1 (some D)) (hne : q ≠ D) : IsR w1 q l e := by
  have hq := h.lt
  obtain ⟨v, h1, h2⟩ := h
  exact ⟨v, by rw [hg.block q hq (fun e => hne (by injection e))]; exact h1, h2.aside hr hc hg⟩
theorem kb_new {w w1 w2 : World} {q D : Nat} (h : w.grownBy w1 (some q)) (hg : w1.grownBy w2 (some D)) (hD : w.heap.size ≤ D) : w.grownBy w2 (some q) :=
  ⟨hg.os.trans h.os, hg.tape.trans h.tape, hg.output.trans h.output, Nat.le_trans h.size hg.size, fun k hk hne => by
    rw [hg.block k (Nat.lt_of_lt_of_le hk h.size) (fun e => by injection e with e; omega)]
    exact h.block k hk hne⟩
theorem results_pair {fn : Func} {p u : Tmp} {ty : TypeId} (h : fn.results = #[.cell p ty, .tmp u]) (tmps : Array Value) (P : Program) (w : World) (g : Nat) (cs : Array Value)
    (hp : tmps.getD p undef = .pointer (some ⟨g, 0, none⟩)) (hl : (loadVar ty ⟨g, 0, none⟩).run P w = .ok (.agg cs) w) : (results fn tmps).run P w = .ok (.tuple #[.agg cs, tmps.getD u undef]) w := by
  have hp' : tmps[p]?.getD undef = .pointer (some ⟨g, 0, none⟩) := by simpa using hp
  simp [results, h, hp', asAddr, hl]
set_option maxRecDepth 100000 in
set_option maxHeartbeats 1000000 in
theorem some_ok (q : Nat) (b more : List UInt8) (er : Int) (w : World) (hb : b.length ≤ 512) (h : IsR w q (beN 2 b.length ++ (b ++ more)) er) (hl : more.length ≤ 5000) :
    Calls Tryd.prog 101 #[.pointer (some ⟨q, 0, none⟩)] w fun e w' => ∃ v', e = .returned (.tuple #[v', .int .i64 0]) ∧ BytesN w' q v' b ∧ IsR w' q more er ∧ w.grownBy w' (some q) := by
  have HN := Bx.mk (rnumber_ok q 1 b.length (b ++ more) er w (by omega) (by omega) (by simp [wid]; omega) (by omega) h (by rw [List.length_append]; omega))
  have HL : Bx (b.length ≤ 512 ∧ more.length ≤ 5000) := Bx.mk ⟨hb, hl⟩
  obtain ⟨L, hL⟩ : ∃ n, b.length = n := ⟨_, rfl⟩
  have HLe := Bx.mk hL
  rw [hL] at HN hb
  have hb1 : (L : Int) ≤ 512 := by omega
  clear h hl hL hb
  go_enter Tryd.func101, Tryd.ntmps101
  go_wp2_with fail
  refine HN.out.mono ?_
  rintro e w1 ⟨rfl, hr1, hg1⟩
  have H1 := Bx.mk (And.intro hr1 hg1)
  have HT := Bx.mk (take_ok q _ er L w1 hr1 (by rw [List.length_append, HLe.out]; omega) (by have := HL.out; rw [List.length_append]; omega))
  have e1 : (b ++ more).take L = b := by rw [List.take_left' HLe.out]
  have e2 : (b ++ more).drop L = more := by rw [List.drop_left' HLe.out]
  rw [e1, e2] at HT
  clear hr1 hg1 HN e1 e2
  go_wp2_with fail
  refine HT.out.mono ?_
  rintro e w2 ⟨v2, rfl, hb2, hr2, hg2⟩
  have H2 := Bx.mk (And.intro hb2 (And.intro hr2 (kb_trans H1.out.2 hg2)))
  obtain ⟨⟨a2, c2, rfl, -⟩, -⟩ := hb2
  rw [HLe.out] at H2
  rw [HLe.out]
  clear hr2 hg2 H1 HT
  go_wp2_with fail
  refine (clone_any b _ w2 H2.out.1.1 (by have := HL.out; omega)).mono ?_
  rintro e w3 ⟨v3, rfl, ho3, hb3⟩
  have H3 : Bx (BytesN w3 q v3 b ∧ IsR w3 q more er ∧ w.grownBy w3 (some q)) := Bx.mk ⟨ho3.bytesN H2.out.2.1.lt, H2.out.2.1.later hb3, kb_trans H2.out.2.2 (kb_below _ hb3)⟩
  clear ho3 hb3 H2
  go_wp2
  go_ret2
  exact ⟨_, rfl, H3.out⟩
theorem enc_four (b : List UInt8) : enc ⟨4, 0, b⟩ = beN 2 b.length ++ b := rfl
theorem enc_num {s n : Int} (h0 : 0 ≤ s) (h3 : s ≤ 3) (b : List UInt8) : enc ⟨s, n, b⟩ = beN (wid s) n.toNat := by unfold enc; rw [if_neg (by simp only; omega)]
set_option maxRecDepth 100000 in
set_option maxHeartbeats 1000000 in
theorem field_ok (q : Nat) (f : Fd) (more : List UInt8) (er : Int) (w : World) (hc : chk f = 0) (h : IsR w q (enc f ++ more) er) (hl : more.length ≤ 5000) :
    Calls Tryd.prog 93 #[.pointer (some ⟨q, 0, none⟩), .int .i64 f.s] w fun e w' => ∃ v', e = .returned (.tuple #[v', .int .i64 0]) ∧ (∃ vb, v' = .agg #[.int .i64 f.s, .int .i64 f.n, vb] ∧ BytesN w' q vb f.b) ∧ IsR w' q more er ∧ w.grownBy w' (some q) := by
  obtain ⟨s, n, b⟩ := f
  have hq := h.lt
  have HA : Bx (Below w.heap.size w (w.alloc (.cells #[.int .i64 0, .int .i64 0, .slice none 0 0] 141))) := Bx.mk (below_a _)
  rcases chk_ok hc with ⟨h4, hn, hbl⟩ | ⟨h0, h3, hbn, hn0, hnm⟩
  · simp only at h4 hn hbl ⊢
    subst h4
    subst hn
    rw [enc_four, List.append_assoc] at h
    have HS := Bx.mk (some_ok q b more er _ hbl (h.later HA.out) hl)
    have hkk : (decide ((0 : Int) ≤ 4) && decide ((4 : Int) ≤ 4)) = true := by simp
    clear hc h hl hbl
    go_enter Tryd.func93, Tryd.ntmps93
    go_wp2_with fail
    refine (known_any 4 _).mono ?_
    rintro e w1 ⟨rfl, rfl⟩
    rw [hkk]
    go_wp2_with fail
    refine HS.out.mono ?_
    rintro e w2 ⟨v2, rfl, hb2, hr2, hg2⟩
    have HR2 : Bx (w2.heap[w.heap.size]? = some (.cells #[.int .i64 0, .int .i64 0, .slice none 0 0] 141 (0, 0))) := Bx.mk (by rw [hg2.block _ (by simp) (fun e => by injection e with e; omega), hnew _ _ _ rfl])
    have H2 := Bx.mk (And.intro hb2 (And.intro hr2 (kb_trans (kb_below (some q) HA.out) hg2)))
    obtain ⟨⟨a2, c2, rfl, -⟩, -⟩ := hb2
    clear hr2 hg2 HS HA
    generalize b.length = L at *
    obtain ⟨D, hD⟩ : ∃ D, w.heap.size = D := ⟨_, rfl⟩
    have HD : Bx (w.heap.size = D ∧ q ≠ D) := Bx.mk ⟨hD, by omega⟩
    rw [hD] at HR2 ⊢
    clear hD hq
    go_wp2_with (refine wpList_store_new rfl 141 _ _ rfl D #[.int .i64 4, .int .i64 0, .slice a2 L c2] _ _ (by rfl) (by rfl) HR2.out rfl (by kernel_rfl) (by simp [Value.oneCell']) ?_; intro w3 hw3 hr3; have hg3 : Bx (w2.grownBy w3 (some D)) := Bx.mk (by rw [hw3]; exact kb_setCells _ _ _); have HR3 := Bx.mk hr3; clear hw3 hr3)
    have hg3 := hg3.out
    have hr3 := HR3.out
    have H3 := Bx.mk (And.intro (H2.out.1.aside HR2.out (fun x e => by cases e) hg3) (And.intro (H2.out.2.1.aside HR2.out (fun x e => by cases e) hg3 HD.out.2) (kb_new H2.out.2.2 hg3 (Nat.le_of_eq HD.out.1))))
    refine bodyPost_ret (results_pair rfl _ _ _ D _ rfl (run_loadVar_row _ D _ _ _ _ _ hr3 Tryd.underlying141 rfl (by kernel_rfl))) rfl ?_
    exact ⟨_, rfl, ⟨_, rfl, H3.out.1⟩, H3.out.2⟩
  · simp only at h0 h3 hbn hn0 hnm ⊢
    subst hbn
    rw [enc_num h0 h3] at h
    have HS := Bx.mk (rnumber_ok q s n.toNat more er _ h0 h3 (wid_pow h0 h3 hn0 hnm) (by have := most_le s; omega) (h.later HA.out) (by omega))
    have hnn : ((n.toNat : Nat) : Int) = n := by omega
    rw [hnn] at HS
    have hkk : (decide (0 ≤ s) && decide (s ≤ 4)) = true := by simp; omega
    have hs4 : (s == 4) = false := by simp; omega
    clear hc h hl hn0 hnm h0 h3
    go_enter Tryd.func93, Tryd.ntmps93
    go_wp2_with fail
    refine (known_any s _).mono ?_
    rintro e w1 ⟨rfl, rfl⟩
    rw [hkk]
    go_wp2_with fail
    refine HS.out.mono ?_
    rintro e w2 ⟨rfl, hr2, hg2⟩
    have HR2 : Bx (w2.heap[w.heap.size]? = some (.cells #[.int .i64 0, .int .i64 0, .slice none 0 0] 141 (0, 0))) := Bx.mk (by rw [hg2.block _ (by simp) (fun e => by injection e with e; omega), hnew _ _ _ rfl])
    have H2 := Bx.mk (And.intro hr2 (kb_trans (kb_below (some q) HA.out) hg2))
    clear hr2 hg2 HS HA
    obtain ⟨D, hD⟩ : ∃ D, w.heap.size = D := ⟨_, rfl⟩
    have HD : Bx (w.heap.size = D ∧ q ≠ D) := Bx.mk ⟨hD, by omega⟩
    rw [hD] at HR2 ⊢
    clear hD hq
    go_wp2_with (refine wpList_store_new rfl 141 _ _ rfl D #[.int .i64 s, .int .i64 n, .slice none 0 0] _ _ (by rfl) (by rfl) HR2.out rfl (by kernel_rfl) (by simp [Value.oneCell']) ?_; intro w3 hw3 hr3; have hg3 : Bx (w2.grownBy w3 (some D)) := Bx.mk (by rw [hw3]; exact kb_setCells _ _ _); have HR3 := Bx.mk hr3; clear hw3 hr3)
    have hg3 := hg3.out
    have hr3 := HR3.out
    have H3 := Bx.mk (And.intro (H2.out.1.aside HR2.out (fun x e => by cases e) hg3 HD.out.2) (kb_new H2.out.2 hg3 (Nat.le_of_eq HD.out.1)))
    refine bodyPost_ret (results_pair rfl _ _ _ D _ rfl (run_loadVar_row _ D _ _ _ _ _ hr3 Tryd.underlying141 rfl (by kernel_rfl))) rfl ?_
    exact ⟨_, rfl, ⟨_, rfl, ⟨Bytes.nil _, fun h => absurd h (by simp)⟩⟩, H3.out⟩
end Go.Proofs.YtiengbmnfbbgoaaDoor
