/-
  The walks of a reader, whole.
  The walks of numbers that are read of any bytes.
  The walks of fields that are got of any bytes.
  The walks of a reader over any bytes.
  The walks of a reader's numbers and bytes, and of its end.
-/
import Derived.Test.YtaoekfomffebhaaDoorIm
import Derived.Test.YtaoekfomffebhaaDoorIi
namespace Go.Proofs.YtaoekfomffebhaaDoor
open Go Go.RowKit
set_option maxRecDepth 100000 in
set_option maxHeartbeats 1000000 in
theorem get_ok (q : Nat) (f : Fd) (more : List UInt8) (w : World) (hc : chk f = 0) (h : IsR w q (enc f ++ more) 0) (hl : more.length ≤ 5000) :
    Calls Tryd.prog 78 #[.pointer (some ⟨q, 0, none⟩), .int .i64 f.s] w fun e w' => ∃ v', e = .returned v' ∧ IsF w' v' f ∧ IsR w' q more 0 ∧ w.grownBy w' (some q) := by
  obtain ⟨s, n, b⟩ := f
  simp only
  have hq := h.lt
  have HA : Bx (Below w.heap.size w (w.alloc (.cells #[.int .i64 0, .int .i64 0, .slice none 0 0] 96))) := Bx.mk (below_a _)
  have HR := Bx.mk (h.later HA.out)
  have HF := Bx.mk (field_ok q ⟨s, n, b⟩ more 0 _ hc (h.later HA.out) hl)
  simp only at HF
  clear hc h hl
  go_enter Tryd.func78, Tryd.ntmps78
  go_wp2_with fail
  refine (rerr_any q _ 0 _ HR.out).mono ?_
  rintro e w1 ⟨rfl, rfl⟩
  go_wp2_with fail
  refine HF.out.mono ?_
  rintro e w2 ⟨v2, rfl, ⟨vb, rfl, hb2⟩, hr2, hg2⟩
  have HR2 : Bx (w2.heap[w.heap.size]? = some (.cells #[.int .i64 0, .int .i64 0, .slice none 0 0] 96 (0, 0))) := Bx.mk (by rw [hg2.block _ (by simp) (fun e => by injection e with e; omega), hnew _ _ _ rfl])
  obtain ⟨D, hD⟩ : ∃ D, w.heap.size = D := ⟨_, rfl⟩
  have HD : Bx (w.heap.size = D ∧ q ≠ D) := Bx.mk ⟨hD, by omega⟩
  rw [hD] at HR2 ⊢
  have hD2 : D < w2.heap.size := (Array.getElem?_eq_some_iff.1 HR2.out).1
  obtain ⟨⟨a2, c2, hvb, -⟩, -⟩ := id hb2
  subst hvb
  have H3 : Bx (BytesN (w2.alloc (.cells #[.int .i64 s, .int .i64 n, .slice a2 b.length c2] 96)) q (.slice a2 b.length c2) b ∧ IsR (w2.alloc (.cells #[.int .i64 s, .int .i64 n, .slice a2 b.length c2] 96)) q more 0 ∧ w.grownBy (w2.alloc (.cells #[.int .i64 s, .int .i64 n, .slice a2 b.length c2] 96)) (some q) ∧ (w2.alloc (.cells #[.int .i64 s, .int .i64 n, .slice a2 b.length c2] 96)).heap[D]? = some (.cells #[.int .i64 0, .int .i64 0, .slice none 0 0] 96 (0, 0))) :=
    Bx.mk ⟨hb2.grown (kb_below _ (below_a _)), hr2.later (below_a _), kb_trans (kb_trans (kb_below (some q) HA.out) hg2) (kb_below _ (below_a _)), by rw [(below_a _).block D hD2]; exact HR2.out⟩
  clear hb2 hr2 hg2 HR2 HA HR HF hD hq
  generalize b.length = L at *
  have HX := Bx.mk (box_range w2 (.int .i64 s) (.int .i64 n) (.slice a2 L c2) 96)
  have hE : D ≠ w2.heap.size := by omega
  go_upto_region 4 with fail
  generalize w2.alloc (.cells #[.int .i64 s, .int .i64 n, .slice a2 L c2] 96) = wB at *
  generalize w2.heap.size = E at *
  clear hD2
  go_wp2_with (first | refine wpList_load_mid rfl 96 _ rfl E 0 (by rfl) _ _ HX.out Tryd.underlying96 rfl (by kernel_rfl) ?_ | (refine wpList_store_new rfl 96 _ _ rfl D #[.int .i64 s, .int .i64 n, .slice a2 L c2] _ _ (by rfl) (by rfl) H3.out.2.2.2 rfl (by kernel_rfl) (by simp [Value.oneCell']) ?_; intro w3 hw3 hr3; have hg3 : Bx (wB.grownBy w3 (some D)) := Bx.mk (by rw [hw3]; exact kb_setCells _ _ _); have HR3 := Bx.mk hr3; clear hw3 hr3))
  have hg3 := hg3.out
  have hr3 := HR3.out
  have H4 := Bx.mk (And.intro (H3.out.1.aside H3.out.2.2.2 (fun x e => by cases e) hg3) (And.intro (H3.out.2.1.aside H3.out.2.2.2 (fun x e => by cases e) hg3 HD.out.2) (kb_new H3.out.2.2.1 hg3 (Nat.le_of_eq HD.out.1))))
  refine bodyPost_ret (results_cell_row rfl _ _ D _ _ _ _ rfl hr3 Tryd.underlying96 rfl (by kernel_rfl)) rfl ?_
  exact ⟨_, rfl, ⟨_, rfl, H4.out.1.1⟩, H4.out.2⟩
/-- The zero field. -/
def fZero : Value := .agg #[.int .i64 0, .int .i64 0, .slice none 0 0]
theorem get_bad (q : Nat) (l : List UInt8) (er z : Int) (w : World) (h : IsR w q l er) (he : er ≠ 0) : Calls Tryd.prog 78 #[.pointer (some ⟨q, 0, none⟩), .int .i64 z] w fun e w' => e = .returned fZero ∧ Below w.heap.size w w' := by
  have HR2 : Bx ((w.alloc (.cells #[.int .i64 0, .int .i64 0, .slice none 0 0] 96)).heap[w.heap.size]? = some (.cells #[.int .i64 0, .int .i64 0, .slice none 0 0] 96 (0, 0))) := Bx.mk (hnew _ _ _ rfl)
  have HB : Bx (Below w.heap.size w (w.alloc (.cells #[.int .i64 0, .int .i64 0, .slice none 0 0] 96))) := Bx.mk (below_a _)
  have HR := Bx.mk (h.later HB.out)
  clear h
  go_enter Tryd.func78, Tryd.ntmps78
  go_wp2_with fail
  refine (rerr_any q l er _ HR.out).mono ?_
  rintro e w1 ⟨rfl, hw1⟩
  obtain ⟨D, hD⟩ : ∃ D, w.heap.size = D := ⟨_, rfl⟩
  have HD := Bx.mk hD
  rw [← hw1, hD] at HR2
  rw [← hw1] at HB
  rw [hD]
  clear hw1 hD HR
  go_wp2_with (refine wpList_store_new rfl 96 _ _ rfl D #[.int .i64 0, .int .i64 0, .slice none 0 0] _ _ (by rfl) (by rfl) HR2.out rfl (by kernel_rfl) (by simp [Value.oneCell']) ?_; intro w3 hw3 hr3; have hg3 : Bx (w1.grownBy w3 (some D)) := Bx.mk (by rw [hw3]; exact kb_setCells _ _ _); have HR3 := Bx.mk hr3; clear hw3 hr3)
  refine bodyPost_ret (results_cell_row rfl _ _ D _ _ _ _ rfl HR3.out Tryd.underlying96 rfl (by kernel_rfl)) rfl ?_
  exact ⟨rfl, by
    have h := HB.out
    rw [HD.out] at h ⊢
    exact h.trans (grown_below hg3.out (Nat.le_refl _) (Nat.le_of_lt (Array.getElem?_eq_some_iff.1 HR2.out).1))⟩
set_option maxRecDepth 100000 in
theorem new_ok (b : List UInt8) (v : Value) (w : World) (hv : Bytes w v b) (hl : b.length ≤ 1024) : Calls Tryd.prog 38 #[v] w fun e w' => e = .returned (.pointer (some ⟨w.heap.size, 0, none⟩)) ∧ IsR w' w.heap.size b 0 ∧ Below w.heap.size w w' := by
  have HV := Bx.mk hv
  have HL := Bx.mk hl
  have HA : Bx (Below w.heap.size w (w.alloc (.cells #[.slice none 0 0, .int .i64 0] 106)) ∧ IsR (w.alloc (.cells #[.slice none 0 0, .int .i64 0] 106)) w.heap.size [] 0) := Bx.mk ⟨below_a _, ⟨_, by rw [hnew _ _ _ rfl], BytesN.nil _ _, BytesU.nil _ _⟩⟩
  obtain ⟨a, c, rfl, -⟩ := hv
  obtain ⟨L, hL⟩ : ∃ n, b.length = n := ⟨_, rfl⟩
  rw [hL] at HV hl ⊢
  have hl1 : ¬ (1024 : Int) < (L : Int) := by omega
  clear hL hl
  go_enter Tryd.func38, Tryd.ntmps38
  go_wp2_with fail
  refine (clone_any b _ _ (HV.out.later HA.out.1) (by have := HL.out; omega)).mono ?_
  rintro e w2 ⟨v2, rfl, ho2, hb2⟩
  obtain ⟨q, hq⟩ : ∃ q, w.heap.size = q := ⟨_, rfl⟩
  have HQ := Bx.mk hq
  have HU2 := Bx.mk ho2.bytesU
  have H2 : Bx (IsR w2 q [] 0 ∧ BytesN w2 q v2 b ∧ Below q w w2) := Bx.mk ⟨by rw [← hq]; exact HA.out.2.later hb2, ho2.bytesN (by rw [← hq]; exact HA.out.2.lt), by rw [← hq]; exact HA.out.1.trans (hb2.mono HA.out.1.size)⟩
  rw [hq]
  clear ho2 hb2 HA hq
  have hf0 := H2.out.1.thaw 0
  obtain ⟨a0, c0, hc0, -⟩ := H2.out.1.rest
  have H3 : Bx (IsR (w2.setCell ⟨q, 0, none⟩ v2) q b 0 ∧ Below q w (w2.setCell ⟨q, 0, none⟩ v2)) := Bx.mk ⟨H2.out.1.set H2.out.2.1 HU2.out, H2.out.2.2.setCell (Nat.le_refl _) _⟩
  obtain ⟨a2, c2, hv2, -⟩ := H2.out.2.1.1
  subst hv2
  clear H2
  go_wp2
  go_ret
  rw [HQ.out]
  exact ⟨rfl, H3.out⟩
end Go.Proofs.YtaoekfomffebhaaDoor
namespace Go.Proofs.YtaoekfomffebhaaDoor
open Go Go.RowKit
/-- The number that bytes say, the highest first. -/
def valN (l : List UInt8) : Nat := l.foldl (fun a x => a * 256 + x.toNat) 0
theorem valN_snoc (l : List UInt8) (x : UInt8) : valN (l ++ [x]) = valN l * 256 + x.toNat := by simp [valN]
theorem fold_lt (l : List UInt8) : ∀ a : Nat, l.foldl (fun a x => a * 256 + x.toNat) a < (a + 1) * 256 ^ l.length := by
  induction l with
  | nil => intro a; simp
  | cons x l ih =>
    intro a
    have h := ih (a * 256 + x.toNat)
    have hx := x.toNat_lt
    rw [List.foldl_cons, List.length_cons, Nat.pow_succ']
    refine Nat.lt_of_lt_of_le h ?_
    rw [← Nat.mul_assoc]
    exact Nat.mul_le_mul_right _ (by omega)
theorem valN_lt (l : List UInt8) : valN l < 256 ^ l.length := by
  have h := fold_lt l 0
  rw [Nat.zero_add, Nat.one_mul] at h
  exact h
theorem valN_take (l : List UInt8) (k : Nat) (hk : k < l.length) : valN (l.take (k + 1)) = valN (l.take k) * 256 + (l.getD k 0).toNat := by
  rw [List.take_add_one, List.getElem?_eq_getElem hk, List.getD_eq_getElem?_getD, List.getElem?_eq_getElem hk]
  exact valN_snoc _ _
/-- Seven bytes and one more. -/
theorem or_wrap (x y : Nat) (hx : x < 72057594037927936) (hy : y < 256) : bits .or .i64 (IntKind.i64.wrap ((x : Int) * 256)) (y : Int) = IntKind.i64.wrap (((x * 256 + y : Nat)) : Int) := by
  show IntKind.i64.wrap ((BitVec.ofInt 64 (IntKind.i64.wrap ((x : Int) * 256)) ||| BitVec.ofInt 64 (y : Int)).toNat : Int) = _
  have e0 : BitVec.ofInt 64 (IntKind.i64.wrap ((x : Int) * 256)) = BitVec.ofNat 64 (x * 256) := by
    apply BitVec.eq_of_toNat_eq
    rw [BitVec.toNat_ofInt, BitVec.toNat_ofNat, IntKind.wrap_i64]
    omega
  rw [e0, BitVec.toNat_or, BitVec.ofInt_natCast, BitVec.toNat_ofNat, BitVec.toNat_ofNat, Nat.mod_eq_of_lt (by omega), Nat.mod_eq_of_lt (by omega)]
  have h := Nat.two_pow_add_eq_or_of_lt (i := 8) (b := y) (by omega) x
  have e : x * 256 ||| y = x * 256 + y := by
    rw [Nat.mul_comm x 256]
    exact h.symm
  rw [e]
theorem take_end (q : Nat) (l : List UInt8) (er : Int) (m : Nat) (w : World) (h : IsR w q l er) (hm : l.length < m) (hl : m ≤ 1000000) :
    Calls Tryd.prog 102 #[.pointer (some ⟨q, 0, none⟩), .int .i64 (m : Int)] w fun e w' => e = .returned (.tuple #[.slice none 0 0, .int .i64 4]) ∧ w' = w := by
  obtain ⟨a, c, hc, -⟩ := h.rest
  obtain ⟨L, hL⟩ : ∃ n, l.length = n := ⟨_, rfl⟩
  rw [hL] at hc hm
  have hm1 : (L : Int) < (m : Int) := by omega
  have hl1 : (m : Int) ≤ 1000000 := by omega
  clear h hL
  go_enter Tryd.func102, Tryd.ntmps102
  go_wp2
  go_ret2
  exact ⟨rfl, rfl⟩
theorem rnumber_end (q : Nat) (s : Int) (l : List UInt8) (er : Int) (w : World) (h0 : 0 ≤ s) (h3 : s ≤ 3) (h : IsR w q l er) (hl : l.length < wid s) :
    Calls Tryd.prog 95 #[.pointer (some ⟨q, 0, none⟩), .int .i64 s] w fun e w' => e = .returned (.tuple #[.int .i64 0, .int .i64 4]) ∧ w' = w := by
  have hW := wid_le s
  have hWd := fun w => width_any s w h0 h3
  have HT := Bx.mk (take_end q l er (wid s) w h hl (by omega))
  clear h h0 h3 hl
  generalize wid s = W at *
  go_enter Tryd.func95, Tryd.ntmps95
  go_wp2_with fail
  refine (hWd w).mono ?_
  rintro e w1 ⟨rfl, rfl⟩
  go_wp2_with fail
  refine HT.out.mono ?_
  rintro e w2 ⟨rfl, rfl⟩
  go_wp2
  go_ret2
  exact ⟨rfl, rfl⟩
/-- What comes of a number: itself, or an error. -/
def numT (x : Nat) : Value := if 9223372036854775807 < x then .tuple #[.int .i64 0, .int .i64 3] else .tuple #[.int .i64 (x : Int), .int .i64 0]
set_option maxRecDepth 100000 in
set_option maxHeartbeats 1000000 in
theorem rnumber_any (q : Nat) (s : Int) (l : List UInt8) (er : Int) (w : World) (h0 : 0 ≤ s) (h3 : s ≤ 3) (h : IsR w q l er) (hl : wid s ≤ l.length) (hb : l.length ≤ 100000) :
    Calls Tryd.prog 95 #[.pointer (some ⟨q, 0, none⟩), .int .i64 s] w fun e w' =>
      e = .returned (numT (valN (l.take (wid s)))) ∧ IsR w' q (l.drop (wid s)) er ∧ w.grownBy w' (some q) := by
  have hW := wid_le s
  have hWd := fun w => width_any s w h0 h3
  have HT := Bx.mk (take_ok q l er (wid s) w h hl (by omega))
  clear h h0 h3
  generalize wid s = W at *
  have hw8 : (W : Int) ≤ 8 := by omega
  obtain ⟨bs, hbs⟩ : ∃ bs, l.take W = bs := ⟨_, rfl⟩
  have hbl : bs.length = W := by rw [← hbs, List.length_take]; omega
  rw [hbs] at HT ⊢
  have HBl := Bx.mk hbl
  generalize l.drop W = more at *
  have HTl : Bx (bs.take W = bs) := Bx.mk (List.take_of_length_le (by omega))
  have HVl : Bx (valN bs < 18446744073709551616) := Bx.mk (by have h := valN_lt bs; rw [hbl] at h; exact Nat.lt_of_lt_of_le h (Nat.le_trans (Nat.pow_le_pow_right (by omega) hW.2) (by decide)))
  obtain ⟨xx, hxx⟩ : ∃ x, valN bs = x := ⟨_, rfl⟩
  have HX := Bx.mk hxx
  rw [hxx]
  clear hbs hl hb hbl hxx
  go_enter Tryd.func95, Tryd.ntmps95
  go_wp2_with fail
  refine (hWd w).mono ?_
  rintro e w1 ⟨rfl, rfl⟩
  go_wp2_with fail
  refine HT.out.mono ?_
  rintro e w2 ⟨v2, rfl, hb2, hr2, hg2⟩
  have H2 := Bx.mk (And.intro hr2 hg2)
  have HB := Bx.mk hb2
  obtain ⟨⟨a2, c2, rfl, -⟩, -⟩ := hb2
  rw [HBl.out] at HB ⊢
  clear hr2 hg2 HT
  go_wp2
  go_loopw [8, 10, 23] (fun u x i wr => ∃ k : Nat, k ≤ W ∧ i = .int .i64 (k : Int) ∧ u = .int .i64 (IntKind.i64.wrap ((valN (bs.take k) : Nat) : Int)) ∧ wr = w2) (fun _ _ i _ => W - (intOf i).toNat)
  case atStart => exact ⟨0, Nat.zero_le _, rfl, rfl, rfl⟩
  case round =>
    obtain ⟨k, hk, rfl, rfl, rfl⟩ := hrel
    by_cases hlt : k < W
    · have hk1 : (k : Int) < (W : Int) := by omega
      obtain ⟨g, o, rfl, hcell⟩ := HB.out.1.cell k hlt
      have HA := Bx.mk (valN_take bs k (by rw [HBl.out]; exact hlt))
      have hx : valN (bs.take k) < 72057594037927936 := by
        have h := valN_lt (bs.take k)
        rw [List.length_take, HBl.out] at h
        exact Nat.lt_of_lt_of_le h (Nat.le_trans (Nat.pow_le_pow_right (by omega) (show min k W ≤ 7 by omega)) (by decide))
      have hub : ub (bs.getD k 0) = (((bs.getD k 0).toNat : Nat) : Int) := rfl
      have hy := (bs.getD k 0).toNat_lt
      rw [hub] at hcell
      generalize (bs.getD k 0).toNat = y at *
      generalize valN (bs.take k) = x at *
      have hor := or_wrap x y hx (by omega)
      have hwx : IntKind.i64.wrap (x : Int) = (x : Int) := by rw [IntKind.wrap_i64]; omega
      rw [hwx]
      have hx1 : (x : Int) < 72057594037927936 := by omega
      have hy1 : (y : Int) < 256 := by omega
      clear hub
      go_wp2
      go_roundw
      case rel => exact ⟨k + 1, by omega, by go_num, by rw [HA.out, ← hor]; first | rfl | (rw [show RowKit.wrap64 ((x : Int) * 256) = IntKind.i64.wrap ((x : Int) * 256) by rw [IntKind.wrap_i64]; unfold RowKit.wrap64; omega]), by first | rfl | trivial⟩
      case measure => simp [intOf]; omega
    · obtain rfl : k = W := by omega
      have hv := HVl.out
      rw [HX.out] at hv
      rw [HTl.out, HX.out]
      obtain ⟨x, rfl⟩ : ∃ x, x = xx := ⟨_, rfl⟩
      by_cases hbig : 9223372036854775807 < x
      · have hwx : IntKind.i64.wrap (x : Int) = (x : Int) - 18446744073709551616 := by rw [IntKind.wrap_i64]; omega
        have hneg : (x : Int) - 18446744073709551616 < 0 := by omega
        rw [hwx]
        go_wp2
        go_ret2
        exact ⟨by unfold numT; rw [if_pos hbig]; rfl, H2.out⟩
      · have hwx : IntKind.i64.wrap (x : Int) = (x : Int) := by rw [IntKind.wrap_i64]; omega
        have hpos : ¬ (x : Int) < 0 := by omega
        rw [hwx]
        go_wp2
        go_ret2
        exact ⟨by unfold numT; rw [if_neg hbig]; rfl, H2.out⟩
end Go.Proofs.YtaoekfomffebhaaDoor
namespace Go.Proofs.YtaoekfomffebhaaDoor
open Go Go.RowKit
/-- What a field is that isn't there: some value, and the error. -/
def BadF (w w' : World) (q : Nat) (s c er : Int) (e : Ending) : Prop := ∃ n vb, e = .returned (.tuple #[.agg #[.int .i64 s, .int .i64 n, vb], .int .i64 c]) ∧ (∃ b, Bytes w' vb b) ∧ (∃ l, IsR w' q l er) ∧ w.grownBy w' (some q)
theorem clone_nil (w : World) : Calls Tryd.prog 29 #[.slice none 0 0] w fun e w' => e = .returned (.slice none 0 0) ∧ w' = w := by
  have hq := nil_nil
  go_enter Tryd.func29, Tryd.ntmps29
  go_wp2
  go_ret
  exact ⟨rfl, rfl⟩
theorem some_end (q : Nat) (l : List UInt8) (er : Int) (w : World) (h : IsR w q l er) (hl : l.length < 2) :
    Calls Tryd.prog 94 #[.pointer (some ⟨q, 0, none⟩)] w fun e w' => e = .returned (.tuple #[.slice none 0 0, .int .i64 4]) ∧ w' = w := by
  have HN := Bx.mk (rnumber_end q 1 l er w (by omega) (by omega) h (by exact hl))
  clear h hl
  go_enter Tryd.func94, Tryd.ntmps94
  go_wp2_with fail
  refine HN.out.mono ?_
  rintro e w1 ⟨rfl, rfl⟩
  go_wp2
  go_ret2
  exact ⟨rfl, rfl⟩
/-- The count of bytes. -/
theorem two_lt (l : List UInt8) : valN (l.take 2) < 65536 := by
  have h := valN_lt (l.take 2)
  exact Nat.lt_of_lt_of_le h (Nat.le_trans (Nat.pow_le_pow_right (by omega) (by rw [List.length_take]; omega : (l.take 2).length ≤ 2)) (by decide))
theorem numT_small (x : Nat) (h : x ≤ 9223372036854775807) : numT x = .tuple #[.int .i64 (x : Int), .int .i64 0] := by unfold numT; rw [if_neg (by omega)]
theorem numT_big (x : Nat) (h : 9223372036854775807 < x) : numT x = .tuple #[.int .i64 0, .int .i64 3] := by unfold numT; rw [if_pos h]
set_option maxRecDepth 100000 in
theorem some_long (q : Nat) (l : List UInt8) (er : Int) (w : World) (h : IsR w q l er) (hl : 2 ≤ l.length) (hb : l.length ≤ 100000) (hc : 512 < valN (l.take 2)) :
    Calls Tryd.prog 94 #[.pointer (some ⟨q, 0, none⟩)] w fun e w' => e = .returned (.tuple #[.slice none 0 0, .int .i64 3]) ∧ IsR w' q (l.drop 2) er ∧ w.grownBy w' (some q) := by
  have HN := Bx.mk (rnumber_any q 1 l er w (by omega) (by omega) h (by exact hl) hb)
  rw [show wid 1 = 2 from rfl, numT_small _ (by have := two_lt l; omega)] at HN
  have hlt := two_lt l
  generalize valN (l.take 2) = c at *
  have hc1 : (512 : Int) < (c : Int) := by omega
  have hc2 : (c : Int) < 65536 := by omega
  clear h hl hb
  go_enter Tryd.func94, Tryd.ntmps94
  go_wp2_with fail
  refine HN.out.mono ?_
  rintro e w1 ⟨rfl, hr1, hg1⟩
  have H1 := Bx.mk (And.intro hr1 hg1)
  clear hr1 hg1 HN
  go_wp2
  go_ret2
  exact ⟨rfl, H1.out⟩
set_option maxRecDepth 100000 in
theorem some_miss (q : Nat) (l : List UInt8) (er : Int) (w : World) (h : IsR w q l er) (hl : 2 ≤ l.length) (hb : l.length ≤ 100000) (hc : valN (l.take 2) ≤ 512) (hm : l.length - 2 < valN (l.take 2)) :
    Calls Tryd.prog 94 #[.pointer (some ⟨q, 0, none⟩)] w fun e w' => e = .returned (.tuple #[.slice none 0 0, .int .i64 4]) ∧ IsR w' q (l.drop 2) er ∧ w.grownBy w' (some q) := by
  have HN := Bx.mk (rnumber_any q 1 l er w (by omega) (by omega) h (by exact hl) hb)
  rw [show wid 1 = 2 from rfl, numT_small _ (by have := two_lt l; omega)] at HN
  have hd : (l.drop 2).length = l.length - 2 := List.length_drop
  generalize valN (l.take 2) = c at *
  generalize l.drop 2 = r at *
  have HT := Bx.mk (fun w1 (h1 : IsR w1 q r er) => take_end q r er c w1 h1 (by omega) (by omega))
  have hc1 : ¬ (512 : Int) < (c : Int) := by omega
  have hc2 : (c : Int) ≤ 512 := by omega
  clear h hl hb hm hd
  go_enter Tryd.func94, Tryd.ntmps94
  go_wp2_with fail
  refine HN.out.mono ?_
  rintro e w1 ⟨rfl, hr1, hg1⟩
  have H1 := Bx.mk (And.intro hr1 hg1)
  clear hr1 hg1 HN
  go_wp2_with fail
  refine (HT.out w1 H1.out.1).mono ?_
  rintro e w2 ⟨rfl, rfl⟩
  go_wp2_with fail
  refine (clone_nil _).mono ?_
  rintro e w3 ⟨rfl, rfl⟩
  go_wp2
  go_ret2
  exact ⟨rfl, H1.out⟩
set_option maxRecDepth 100000 in
set_option maxHeartbeats 1000000 in
/-- A number that isn't there: the contract of what it calls, in the world behind the result's cell. -/
theorem field_badN (q : Nat) (s c er : Int) (w : World) (h0 : 0 ≤ s) (h3 : s ≤ 3) (hq : q < w.heap.size)
    (hs : Calls Tryd.prog 95 #[.pointer (some ⟨q, 0, none⟩), .int .i64 s] (w.alloc (.cells #[.int .i64 0, .int .i64 0, .slice none 0 0] 96)) fun e w' => e = .returned (.tuple #[.int .i64 0, .int .i64 c]) ∧ (∃ l, IsR w' q l er) ∧ (w.alloc (.cells #[.int .i64 0, .int .i64 0, .slice none 0 0] 96)).grownBy w' (some q)) :
    Calls Tryd.prog 86 #[.pointer (some ⟨q, 0, none⟩), .int .i64 s] w fun e w' => BadF w w' q s c er e := by
  have HA : Bx (Below w.heap.size w (w.alloc (.cells #[.int .i64 0, .int .i64 0, .slice none 0 0] 96))) := Bx.mk (below_a _)
  have HS := Bx.mk hs
  have hkk : (decide (0 ≤ s) && decide (s ≤ 4)) = true := by simp; omega
  have hs4 : (s == 4) = false := by simp; omega
  clear h0 h3 hs
  go_enter Tryd.func86, Tryd.ntmps86
  go_wp2_with fail
  refine (known_any s _).mono ?_
  rintro e w1 ⟨rfl, rfl⟩
  rw [hkk]
  go_wp2_with fail
  refine HS.out.mono ?_
  rintro e w2 ⟨rfl, ⟨l2, hr2⟩, hg2⟩
  have HR2 : Bx (w2.heap[w.heap.size]? = some (.cells #[.int .i64 0, .int .i64 0, .slice none 0 0] 96 (0, 0))) := Bx.mk (by rw [hg2.block _ (by simp) (fun e => by injection e with e; omega), hnew _ _ _ rfl])
  have H2 := Bx.mk (And.intro hr2 (kb_trans (kb_below (some q) HA.out) hg2))
  clear hr2 hg2 HS HA
  obtain ⟨D, hD⟩ : ∃ D, w.heap.size = D := ⟨_, rfl⟩
  have HD : Bx (w.heap.size = D ∧ q ≠ D) := Bx.mk ⟨hD, by omega⟩
  rw [hD] at HR2 ⊢
  clear hD hq
  go_wp2_with (refine wpList_store_new rfl 96 _ _ rfl D #[.int .i64 s, .int .i64 0, .slice none 0 0] _ _ (by rfl) (by rfl) HR2.out rfl (by kernel_rfl) (by simp [Value.oneCell']) ?_; intro w3 hw3 hr3; have hg3 : Bx (w2.grownBy w3 (some D)) := Bx.mk (by rw [hw3]; exact kb_setCells _ _ _); have HR3 := Bx.mk hr3; clear hw3 hr3)
  have hg3 := hg3.out
  have hr3 := HR3.out
  have H3 := Bx.mk (And.intro (H2.out.1.aside HR2.out (fun x e => by cases e) hg3 HD.out.2) (kb_new H2.out.2 hg3 (Nat.le_of_eq HD.out.1)))
  refine bodyPost_ret (results_pair rfl _ _ _ D _ rfl (run_loadVar_row _ D _ _ _ _ _ hr3 Tryd.underlying96 rfl (by kernel_rfl))) rfl ?_
  exact ⟨0, _, rfl, ⟨_, Bytes.nil _⟩, ⟨_, H3.out.1⟩, H3.out.2⟩
set_option maxRecDepth 100000 in
set_option maxHeartbeats 1000000 in
theorem field_badS (q : Nat) (c er : Int) (w : World) (hq : q < w.heap.size)
    (hs : Calls Tryd.prog 94 #[.pointer (some ⟨q, 0, none⟩)] (w.alloc (.cells #[.int .i64 0, .int .i64 0, .slice none 0 0] 96)) fun e w' => e = .returned (.tuple #[.slice none 0 0, .int .i64 c]) ∧ (∃ l, IsR w' q l er) ∧ (w.alloc (.cells #[.int .i64 0, .int .i64 0, .slice none 0 0] 96)).grownBy w' (some q)) :
    Calls Tryd.prog 86 #[.pointer (some ⟨q, 0, none⟩), .int .i64 4] w fun e w' => BadF w w' q 4 c er e := by
  have HA : Bx (Below w.heap.size w (w.alloc (.cells #[.int .i64 0, .int .i64 0, .slice none 0 0] 96))) := Bx.mk (below_a _)
  have HS := Bx.mk hs
  have hkk : (decide ((0 : Int) ≤ 4) && decide ((4 : Int) ≤ 4)) = true := by simp
  clear hs
  go_enter Tryd.func86, Tryd.ntmps86
  go_wp2_with fail
  refine (known_any 4 _).mono ?_
  rintro e w1 ⟨rfl, rfl⟩
  rw [hkk]
  go_wp2_with fail
  refine HS.out.mono ?_
  rintro e w2 ⟨rfl, ⟨l2, hr2⟩, hg2⟩
  have HR2 : Bx (w2.heap[w.heap.size]? = some (.cells #[.int .i64 0, .int .i64 0, .slice none 0 0] 96 (0, 0))) := Bx.mk (by rw [hg2.block _ (by simp) (fun e => by injection e with e; omega), hnew _ _ _ rfl])
  have H2 := Bx.mk (And.intro hr2 (kb_trans (kb_below (some q) HA.out) hg2))
  clear hr2 hg2 HS HA
  obtain ⟨D, hD⟩ : ∃ D, w.heap.size = D := ⟨_, rfl⟩
  have HD : Bx (w.heap.size = D ∧ q ≠ D) := Bx.mk ⟨hD, by omega⟩
  rw [hD] at HR2 ⊢
  clear hD hq
  go_wp2_with (refine wpList_store_new rfl 96 _ _ rfl D #[.int .i64 4, .int .i64 0, .slice none 0 0] _ _ (by rfl) (by rfl) HR2.out rfl (by kernel_rfl) (by simp [Value.oneCell']) ?_; intro w3 hw3 hr3; have hg3 : Bx (w2.grownBy w3 (some D)) := Bx.mk (by rw [hw3]; exact kb_setCells _ _ _); have HR3 := Bx.mk hr3; clear hw3 hr3)
  have hg3 := hg3.out
  have hr3 := HR3.out
  have H3 := Bx.mk (And.intro (H2.out.1.aside HR2.out (fun x e => by cases e) hg3 HD.out.2) (kb_new H2.out.2 hg3 (Nat.le_of_eq HD.out.1)))
  refine bodyPost_ret (results_pair rfl _ _ _ D _ rfl (run_loadVar_row _ D _ _ _ _ _ hr3 Tryd.underlying96 rfl (by kernel_rfl))) rfl ?_
  exact ⟨0, _, rfl, ⟨_, Bytes.nil _⟩, ⟨_, H3.out.1⟩, H3.out.2⟩
end Go.Proofs.YtaoekfomffebhaaDoor
namespace Go.Proofs.YtaoekfomffebhaaDoor
open Go Go.RowKit
theorem fold_acc (l : List UInt8) : ∀ a : Nat, l.foldl (fun a x => a * 256 + x.toNat) a = a * 256 ^ l.length + valN l := by
  induction l with
  | nil => intro a; simp [valN]
  | cons x l ih =>
    intro a
    have h1 := ih (a * 256 + x.toNat)
    have h2 := ih (0 * 256 + x.toNat)
    have h3 : valN (x :: l) = (0 * 256 + x.toNat) * 256 ^ l.length + valN l := h2
    rw [List.foldl_cons, h1, h3, List.length_cons, Nat.pow_succ', Nat.add_mul, Nat.zero_mul, Nat.zero_add, Nat.mul_assoc, Nat.add_assoc]
theorem valN_cons (x : UInt8) (l : List UInt8) : valN (x :: l) = x.toNat * 256 ^ l.length + valN l := by
  have h : valN (x :: l) = (0 * 256 + x.toNat) * 256 ^ l.length + valN l := fold_acc l (0 * 256 + x.toNat)
  rw [h, Nat.zero_mul, Nat.zero_add]
theorem beN_mod (k : Nat) : ∀ (d v x : Nat), beN k (x * 256 ^ (k + d) + v) = beN k v := by
  induction k with
  | zero => intro d v x; rfl
  | succ k ih =>
    intro d v x
    rw [beN_succ, beN_succ]
    have e1 : x * 256 ^ (k + 1 + d) + v = x * 256 ^ (k + (d + 1)) + v := by rw [show k + 1 + d = k + (d + 1) by omega]
    rw [e1, ih (d + 1) v x]
    congr 2
    rw [Nat.pow_add, show x * (256 ^ k * 256 ^ (d + 1)) + v = v + 256 ^ k * (x * 256 ^ (d + 1)) by rw [Nat.add_comm, Nat.mul_left_comm], Nat.add_mul_div_left _ _ (Nat.pow_pos (by omega)), Nat.pow_succ, ← Nat.mul_assoc, Nat.add_mul_mod_self_right]
theorem beN_val (l : List UInt8) : beN l.length (valN l) = l := by
  induction l with
  | nil => rfl
  | cons x l ih =>
    rw [List.length_cons, beN_succ, valN_cons]
    have hv := valN_lt l
    have hp : 0 < 256 ^ l.length := Nat.pow_pos (by omega)
    have hx := x.toNat_lt
    have h1 : (x.toNat * 256 ^ l.length + valN l) / 256 ^ l.length % 256 = x.toNat := by
      rw [Nat.add_comm, Nat.add_mul_div_right _ _ hp, Nat.div_eq_of_lt hv]
      omega
    have h2 := beN_mod l.length 0 (valN l) x.toNat
    rw [Nat.add_zero] at h2
    rw [h1, h2, ih]
    congr 1
    exact UInt8.toNat_inj.mp (by rw [UInt8.toNat_ofNat']; omega)
/-- What is got of bytes: the field, the bytes behind it, the error. -/
def getF (l : List UInt8) (s : Int) : Fd × List UInt8 × Int :=
  if s < 0 ∨ 4 < s then (Fd.zero, [], 13)
  else if s = 4 then
    (if l.length < 2 then (Fd.zero, [], 4) else if 512 < valN (l.take 2) then (Fd.zero, [], 3) else if l.length - 2 < valN (l.take 2) then (Fd.zero, [], 4)
     else (⟨4, 0, (l.drop 2).take (valN (l.take 2))⟩, (l.drop 2).drop (valN (l.take 2)), 0))
  else if l.length < wid s then (Fd.zero, [], 4) else if 9223372036854775807 < valN (l.take (wid s)) then (Fd.zero, [], 3) else (⟨s, (valN (l.take (wid s)) : Int), []⟩, l.drop (wid s), 0)
set_option maxRecDepth 100000 in
set_option maxHeartbeats 1000000 in
theorem get_fails (q : Nat) (s c : Int) (l : List UInt8) (w : World) (hc : c ≠ 0) (h : IsR w q l 0)
    (hf : Calls Tryd.prog 86 #[.pointer (some ⟨q, 0, none⟩), .int .i64 s] (w.alloc (.cells #[.int .i64 0, .int .i64 0, .slice none 0 0] 96)) fun e w' => BadF (w.alloc (.cells #[.int .i64 0, .int .i64 0, .slice none 0 0] 96)) w' q s c 0 e) :
    Calls Tryd.prog 78 #[.pointer (some ⟨q, 0, none⟩), .int .i64 s] w fun e w' => e = .returned fZero ∧ IsR w' q [] c ∧ w.grownBy w' (some q) := by
  have hq := h.lt
  have HA : Bx (Below w.heap.size w (w.alloc (.cells #[.int .i64 0, .int .i64 0, .slice none 0 0] 96))) := Bx.mk (below_a _)
  have HR := Bx.mk (h.later HA.out)
  have HF := Bx.mk hf
  have hc0 : (c != 0) = true := by simp; exact hc
  clear h hf
  go_enter Tryd.func78, Tryd.ntmps78
  go_wp2_with fail
  refine (rerr_any q _ 0 _ HR.out).mono ?_
  rintro e w1 ⟨rfl, rfl⟩
  go_wp2_with fail
  refine HF.out.mono ?_
  rintro e w2 ⟨n, vb, rfl, ⟨b, hvb⟩, ⟨l2, hr2⟩, hg2⟩
  obtain ⟨ab, cb, rfl, -⟩ := hvb
  generalize b.length = L at *
  have HR2 : Bx (w2.heap[w.heap.size]? = some (.cells #[.int .i64 0, .int .i64 0, .slice none 0 0] 96 (0, 0))) := Bx.mk (by rw [hg2.block _ (by simp) (fun e => by injection e with e; omega), hnew _ _ _ rfl])
  obtain ⟨D, hD⟩ : ∃ D, w.heap.size = D := ⟨_, rfl⟩
  have HD : Bx (w.heap.size = D ∧ q ≠ D) := Bx.mk ⟨hD, by omega⟩
  rw [hD] at HR2 ⊢
  have hD2 : D < w2.heap.size := (Array.getElem?_eq_some_iff.1 HR2.out).1
  have H3 : Bx (IsR (w2.alloc (.cells #[.int .i64 s, .int .i64 n, .slice ab L cb] 96)) q l2 0 ∧ w.grownBy (w2.alloc (.cells #[.int .i64 s, .int .i64 n, .slice ab L cb] 96)) (some q) ∧ (w2.alloc (.cells #[.int .i64 s, .int .i64 n, .slice ab L cb] 96)).heap[D]? = some (.cells #[.int .i64 0, .int .i64 0, .slice none 0 0] 96 (0, 0))) :=
    Bx.mk ⟨hr2.later (below_a _), kb_trans (kb_trans (kb_below (some q) HA.out) hg2) (kb_below _ (below_a _)), by rw [(below_a _).block D hD2]; exact HR2.out⟩
  clear hr2 hg2 HR2 HA HR HF hD hq
  go_wp2_with fail
  generalize w2.alloc (.cells #[.int .i64 s, .int .i64 n, .slice ab L cb] 96) = wB at *
  generalize w2.heap.size = E at *
  refine (fail_ok q l2 c wB H3.out.1).mono ?_
  rintro e w3 ⟨⟨v3, rfl⟩, hr3, hg3⟩
  have H4 : Bx (IsR w3 q [] c ∧ w.grownBy w3 (some q) ∧ w3.heap[D]? = some (.cells #[.int .i64 0, .int .i64 0, .slice none 0 0] 96 (0, 0))) := Bx.mk ⟨hr3, kb_trans H3.out.2.1 hg3, by rw [hg3.block D (Array.getElem?_eq_some_iff.1 H3.out.2.2).1 (fun e => by injection e with e; exact HD.out.2 e.symm)]; exact H3.out.2.2⟩
  clear hr3 hg3 H3 hD2
  go_wp2_with (refine wpList_store_new rfl 96 _ _ rfl D #[.int .i64 0, .int .i64 0, .slice none 0 0] _ _ (by rfl) (by rfl) H4.out.2.2 rfl (by kernel_rfl) (by simp [Value.oneCell']) ?_; intro w4 hw4 hr4; have hg4 : Bx (w3.grownBy w4 (some D)) := Bx.mk (by rw [hw4]; exact kb_setCells _ _ _); have HR4 := Bx.mk hr4; clear hw4 hr4)
  refine bodyPost_ret (results_cell_row rfl _ _ D _ _ _ _ rfl HR4.out Tryd.underlying96 rfl (by kernel_rfl)) rfl ?_
  exact ⟨rfl, H4.out.1.aside H4.out.2.2 (fun x e => by cases e) hg4.out HD.out.2, kb_new H4.out.2.1 hg4.out (Nat.le_of_eq HD.out.1)⟩
theorem zero_isF (W : World) : IsF W fZero Fd.zero := ⟨_, rfl, Bytes.nil _⟩
/-- Get of any size, over any bytes. -/
theorem get_any (q : Nat) (s : Int) (l : List UInt8) (w : World) (h : IsR w q l 0) (hl : l.length ≤ 5000) (hk : 0 ≤ s ∧ s ≤ 4) :
    Calls Tryd.prog 78 #[.pointer (some ⟨q, 0, none⟩), .int .i64 s] w fun e w' => ∃ v', e = .returned v' ∧ IsF w' v' (getF l s).1 ∧ IsR w' q (getF l s).2.1 (getF l s).2.2 ∧ w.grownBy w' (some q) := by
  have hA := h.later (below_a (.cells #[.int .i64 0, .int .i64 0, .slice none 0 0] 96))
  have hA2 := hA.later (below_a (.cells #[.int .i64 0, .int .i64 0, .slice none 0 0] 96))
  have hq := hA.lt
  unfold getF
  rw [if_neg (by omega)]
  by_cases h4 : s = 4
  · subst h4
    rw [if_pos rfl]
    by_cases h2 : l.length < 2
    · rw [if_pos h2]
      exact (get_fails q 4 4 l w (by omega) h (field_badS q 4 0 _ hq ((some_end q l 0 _ hA2 h2).mono fun e w' ⟨he, hw⟩ => ⟨he, ⟨l, by rw [hw]; exact hA2⟩, by rw [hw]; exact kb_refl _ _⟩))).mono fun e w' ⟨he, hr, hg⟩ => ⟨_, he, zero_isF _, hr, hg⟩
    · rw [if_neg h2]
      by_cases hc : 512 < valN (l.take 2)
      · rw [if_pos hc]
        exact (get_fails q 4 3 l w (by omega) h (field_badS q 3 0 _ hq ((some_long q l 0 _ hA2 (by omega) (by omega) hc).mono fun e w' ⟨he, hr, hg⟩ => ⟨he, ⟨_, hr⟩, hg⟩))).mono fun e w' ⟨he, hr, hg⟩ => ⟨_, he, zero_isF _, hr, hg⟩
      · rw [if_neg hc]
        by_cases hm : l.length - 2 < valN (l.take 2)
        · rw [if_pos hm]
          exact (get_fails q 4 4 l w (by omega) h (field_badS q 4 0 _ hq ((some_miss q l 0 _ hA2 (by omega) (by omega) (by omega) hm).mono fun e w' ⟨he, hr, hg⟩ => ⟨he, ⟨_, hr⟩, hg⟩))).mono fun e w' ⟨he, hr, hg⟩ => ⟨_, he, zero_isF _, hr, hg⟩
        · rw [if_neg hm]
          have hbl : ((l.drop 2).take (valN (l.take 2))).length = valN (l.take 2) := by rw [List.length_take, List.length_drop]; omega
          have he : enc ⟨4, 0, (l.drop 2).take (valN (l.take 2))⟩ ++ (l.drop 2).drop (valN (l.take 2)) = l := by
            have h2l : (l.take 2).length = 2 := by rw [List.length_take]; omega
            have hv := beN_val (l.take 2)
            rw [h2l] at hv
            rw [enc_four, hbl, hv, List.append_assoc, List.take_append_drop, List.take_append_drop]
          refine get_ok q ⟨4, 0, (l.drop 2).take (valN (l.take 2))⟩ _ w ?_ (by rw [he]; exact h) (by rw [List.length_drop, List.length_drop]; omega)
          rw [chk_four rfl, if_neg (by simp), if_neg (by rw [hbl]; omega)]
  · rw [if_neg h4]
    by_cases h2 : l.length < wid s
    · rw [if_pos h2]
      exact (get_fails q s 4 l w (by omega) h (field_badN q s 4 0 _ (by omega) (by omega) hq ((rnumber_end q s l 0 _ (by omega) (by omega) hA2 h2).mono fun e w' ⟨he, hw⟩ => ⟨he, ⟨l, by rw [hw]; exact hA2⟩, by rw [hw]; exact kb_refl _ _⟩))).mono fun e w' ⟨he, hr, hg⟩ => ⟨_, he, zero_isF _, hr, hg⟩
    · rw [if_neg h2]
      by_cases hb : 9223372036854775807 < valN (l.take (wid s))
      · rw [if_pos hb]
        exact (get_fails q s 3 l w (by omega) h (field_badN q s 3 0 _ (by omega) (by omega) hq ((rnumber_any q s l 0 _ (by omega) (by omega) hA2 (by omega) (by omega)).mono fun e w' ⟨he, hr, hg⟩ => ⟨by rw [he, numT_big _ hb], ⟨_, hr⟩, hg⟩))).mono fun e w' ⟨he, hr, hg⟩ => ⟨_, he, zero_isF _, hr, hg⟩
      · rw [if_neg hb]
        have hwl : (l.take (wid s)).length = wid s := by rw [List.length_take]; omega
        have hv := beN_val (l.take (wid s))
        rw [hwl] at hv
        have he : enc ⟨s, (valN (l.take (wid s)) : Int), []⟩ ++ l.drop (wid s) = l := by rw [enc_num (by omega) (by omega), Int.toNat_natCast, hv, List.take_append_drop]
        have hlt := valN_lt (l.take (wid s))
        rw [hwl] at hlt
        refine get_ok q ⟨s, (valN (l.take (wid s)) : Int), []⟩ _ w ?_ (by rw [he]; exact h) (by rw [List.length_drop]; omega)
        rw [chk_num (by exact hk.1) (by show s ≤ 3; omega), if_neg]
        simp only
        rcases size_cases hk.1 (show s ≤ 3 by omega) with rfl | rfl | rfl | rfl
        all_goals
          simp [wid, most] at hlt hb ⊢
          omega
end Go.Proofs.YtaoekfomffebhaaDoor
namespace Go.Proofs.YtaoekfomffebhaaDoor
open Go Go.RowKit
theorem fld1g (a b : Int) (x : Option Addr) (n c : Nat) (W : World) : (Instr.field 96 (.agg #[.int .i64 a, .int .i64 b, .slice x n c]) 1).run Tryd.prog W = .ok (.int .i64 b) W := by kernel_rfl
theorem fld2g (a b : Int) (x : Option Addr) (n c : Nat) (W : World) : (Instr.field 96 (.agg #[.int .i64 a, .int .i64 b, .slice x n c]) 2).run Tryd.prog W = .ok (.slice x n c) W := by kernel_rfl
/-- What a reader's Get does: nothing behind an error. -/
def getR (l : List UInt8) (er s : Int) : Fd × List UInt8 × Int := if er ≠ 0 then (Fd.zero, l, er) else getF l s
theorem get_all (q : Nat) (s : Int) (l : List UInt8) (er : Int) (w : World) (h : IsR w q l er) (hl : l.length ≤ 5000) (hk : 0 ≤ s ∧ s ≤ 4) :
    Calls Tryd.prog 78 #[.pointer (some ⟨q, 0, none⟩), .int .i64 s] w fun e w' => ∃ v', e = .returned v' ∧ IsF w' v' (getR l er s).1 ∧ IsR w' q (getR l er s).2.1 (getR l er s).2.2 ∧ w.grownBy w' (some q) := by
  unfold getR
  by_cases he : er = 0
  · subst he
    rw [if_neg (by simp)]
    exact get_any q s l w h hl hk
  · rw [if_pos he]
    exact (get_bad q l er s w h he).mono fun e w' ⟨he, hb⟩ => ⟨_, he, zero_isF _, h.later hb, kb_below _ hb⟩
set_option maxRecDepth 100000 in
theorem rnum_any (q : Nat) (s : Int) (l : List UInt8) (er : Int) (w : World) (h : IsR w q l er) (hl : l.length ≤ 5000) (hk : 0 ≤ s ∧ s ≤ 3) :
    Calls Tryd.prog 57 #[.pointer (some ⟨q, 0, none⟩), .int .i64 s] w fun e w' => e = .returned (.int .i64 (getR l er s).1.n) ∧ IsR w' q (getR l er s).2.1 (getR l er s).2.2 ∧ w.grownBy w' (some q) := by
  have HG := Bx.mk (get_all q s l er w h hl ⟨hk.1, by omega⟩)
  have hs4 : (s == 4) = false := by simp; omega
  clear h hl hk
  generalize getR l er s = g at *
  obtain ⟨⟨fs, fn, fb⟩, l', er'⟩ := g
  simp only at HG ⊢
  have hf := fld1g
  go_enter Tryd.func57, Tryd.ntmps57
  go_wp2_with fail
  refine HG.out.mono ?_
  rintro e w1 ⟨v1, rfl, ⟨vb, rfl, hb1⟩, hr1, hg1⟩
  have H1 := Bx.mk (And.intro hr1 hg1)
  obtain ⟨ab, cb, rfl, -⟩ := hb1
  clear hr1 hg1 HG
  generalize (Fd.mk fs fn fb).b.length = L at *
  go_wp2
  go_ret
  exact ⟨rfl, H1.out⟩
/-- What a reader's Bytes does. -/
def bytR (l : List UInt8) (er longest : Int) : List UInt8 × List UInt8 × Int :=
  if longest < ((getR l er 4).1.b.length : Int) then ([], if (getR l er 4).2.2 = 0 then ([], 3) else ((getR l er 4).2.1, (getR l er 4).2.2)) else ((getR l er 4).1.b, (getR l er 4).2)
theorem fail_bad (q : Nat) (l : List UInt8) (er c : Int) (w : World) (h : IsR w q l er) (he : er ≠ 0) : Calls Tryd.prog 56 #[.pointer (some ⟨q, 0, none⟩), .int .i64 c] w fun e w' => (∃ v, e = .returned v) ∧ w' = w := by
  have H := Bx.mk h
  have he1 : (er == 0) = false := by simp; exact he
  go_enter Tryd.func56, Tryd.ntmps56
  go_wp2_with fail
  refine (rerr_any q l er w H.out).mono ?_
  rintro e w1 ⟨rfl, rfl⟩
  go_wp2
  go_end0
  exact ⟨⟨_, rfl⟩, rfl⟩
theorem fail_any (q : Nat) (l : List UInt8) (er c : Int) (w : World) (h : IsR w q l er) : Calls Tryd.prog 56 #[.pointer (some ⟨q, 0, none⟩), .int .i64 c] w fun e w' => (∃ v, e = .returned v) ∧ IsR w' q (if er = 0 then ([], c) else (l, er)).1 (if er = 0 then ([], c) else (l, er)).2 ∧ w.grownBy w' (some q) := by
  by_cases he : er = 0
  · subst he
    rw [if_pos rfl]
    exact fail_ok q l c w h
  · rw [if_neg he]
    exact (fail_bad q l er c w h he).mono fun e w' ⟨hv, hw⟩ => ⟨hv, by rw [hw]; exact h, by rw [hw]; exact kb_refl _ _⟩
/-- Bytes lie in no block of other cells. -/
theorem Bytes.offA {w : World} {D : Nat} {cs : Array Value} {t : TypeId} {fr : Nat × Nat} {v : Value} {l : List UInt8} (h : Bytes w v l) (hr : w.heap[D]? = some (.cells cs t fr)) (hc : ∀ (i : Nat) x, cs[i]? ≠ some (.int .u8 x)) (h0 : 0 < l.length) : v.ownBlock ≠ some D := by
  obtain ⟨ad, cap, rfl, -, -, hr2⟩ := h
  obtain ⟨g, o, rfl, hcell⟩ := hr2 h0
  intro e
  injection e with e
  simp only at e
  subst e
  have h1 := hcell 0 h0
  rw [cell_of_row _ _ _ _ _ _ hr] at h1
  exact hc _ _ h1
theorem IsR.asideA {w w1 : World} {q D : Nat} {cs : Array Value} {t : TypeId} {fr : Nat × Nat} {l : List UInt8} {e : Int} (h : IsR w q l e) (hr : w.heap[D]? = some (.cells cs t fr)) (hc : ∀ (i : Nat) x, cs[i]? ≠ some (.int .u8 x)) (hg : w.grownBy w1 (some D)) (hne : q ≠ D) : IsR w1 q l e := by
  have hq := h.lt
  obtain ⟨v, h1, h2⟩ := h
  exact ⟨v, by rw [hg.block q hq (fun e => hne (by injection e))]; exact h1, ⟨(BytesN.grown (p := D) ⟨h2.1.1, h2.1.1.offA hr hc⟩ hg).1, h2.1.2⟩, h2.2.grown hg (h2.1.1.offA hr hc)⟩
/-- A reader stays where a block that isn't one of bytes changes. -/
theorem IsR.asideT {w w1 : World} {q D : Nat} {cs : Array Value} {t : TypeId} {fr : Nat × Nat} {l : List UInt8} {e : Int} (h : IsR w q l e) (hr : w.heap[D]? = some (.cells cs t fr)) (ht : t ≠ 5) (hg : w.grownBy w1 (some D)) (hne : q ≠ D) : IsR w1 q l e := by
  have hq := h.lt
  obtain ⟨v, h1, h2, h3⟩ := h
  have hn : 0 < l.length → v.ownBlock ≠ some D := fun h0 hv => by
    obtain ⟨cs', fr', hc⟩ := h3 h0 D hv
    rw [hr] at hc
    injection hc with hc
    injection hc with _ hc
    exact ht hc
  exact ⟨v, by rw [hg.block q hq (fun e => hne (by injection e))]; exact h1, ⟨(BytesN.grown (p := D) ⟨h2.1, hn⟩ hg).1, h2.2⟩, h3.grown hg hn⟩
/-- A reader's bytes and error, a field on. -/
def stepR (p : List UInt8 × Int) (s : Int) : List UInt8 × Int := (getR p.1 p.2 s).2
/-- The number that is read. -/
def numR (p : List UInt8 × Int) (s : Int) : Int := (getR p.1 p.2 s).1.n
theorem stepR_len (p : List UInt8 × Int) (s : Int) : (stepR p s).1.length ≤ p.1.length := by
  unfold stepR getR getF
  split
  · exact Nat.le_refl _
  · split
    · simp
    · split
      · split
        · simp
        · split
          · simp
          · split
            · simp
            · simp
      · split
        · simp
        · split
          · simp
          · simp
theorem wid3 (s : Int) (h : s = 0 ∨ s = 1 ∨ s = 2) : wid s ≤ 4 := by rcases h with rfl | rfl | rfl <;> decide
theorem getR_short (l : List UInt8) (s : Int) (h : s = 0 ∨ s = 1 ∨ s = 2) (hl : l.length < wid s) : getR l 0 s = (Fd.zero, [], 4) := by
  unfold getR getF
  rw [if_neg (by simp), if_neg (by omega), if_neg (by omega), if_pos hl]
theorem getR_long (l : List UInt8) (s : Int) (h : s = 0 ∨ s = 1 ∨ s = 2) (hl : wid s ≤ l.length) : getR l 0 s = (⟨s, (valN (l.take (wid s)) : Int), []⟩, l.drop (wid s), 0) := by
  have h1 := valN_lt (l.take (wid s))
  have h2 : 256 ^ (l.take (wid s)).length ≤ 256 ^ 4 := Nat.pow_le_pow_right (by omega) (by rw [List.length_take]; have := wid3 s h; omega)
  unfold getR getF
  rw [if_neg (by simp), if_neg (by omega), if_neg (by omega), if_neg (by omega), if_neg (by omega)]
theorem stepR_bad (l : List UInt8) (e s : Int) (he : e ≠ 0) : stepR (l, e) s = (l, e) := by
  unfold stepR getR
  simp only
  rw [if_pos he]
theorem stepR_short (l : List UInt8) (s : Int) (h : s = 0 ∨ s = 1 ∨ s = 2) (hl : l.length < wid s) : stepR (l, 0) s = ([], 4) := by
  show (getR l 0 s).2 = _
  rw [getR_short l s h hl]
theorem stepR_long (l : List UInt8) (s : Int) (h : s = 0 ∨ s = 1 ∨ s = 2) (hl : wid s ≤ l.length) : stepR (l, 0) s = (l.drop (wid s), 0) := by
  show (getR l 0 s).2 = _
  rw [getR_long l s h hl]
theorem numR_long (l : List UInt8) (s : Int) (h : s = 0 ∨ s = 1 ∨ s = 2) (hl : wid s ≤ l.length) : numR (l, 0) s = (valN (l.take (wid s)) : Int) := by
  show (getR l 0 s).1.n = _
  rw [getR_long l s h hl]
end Go.Proofs.YtaoekfomffebhaaDoor
