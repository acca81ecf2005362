/-
  CookieCounts: a round of its loop.
-/
import Derived.Test.YtncbhnkhbohejaaDoorX22
import Derived.Deep.QuietTactic
import Derived.BigQuiet
import Derived.Test.YtncbhnkhbohejaaDoorGa
import Derived.Test.YtncbhnkhbohejaaDoorRows
import Derived.ProofKit
import Derived.OpenShut
import Derived.ShutString
import Derived.ChangeOld
import Derived.Below
import Derived.Deep.DeepHandedRow
import Derived.Lib.LaidTab
import Derived.Deep.Matrix
import Derived.Test.YtncbhnkhbohejaaDoorAc
import Derived.Deep.Slices
namespace Go.Proofs.YtncbhnkhbohejaaDoor
open Go Go.RowKit
set_option maxRecDepth 100000 in
theorem open117 {a : Act} (h : Fr 117 a) : ∃ x : Nat → Value, a = ⟨List.toArray (x 0 :: x 1 :: x 2 :: x 3 :: x 4 :: x 5 :: x 6 :: x 7 :: x 8 :: x 9 :: x 10 :: x 11 :: x 12 :: x 13 :: x 14 :: x 15 :: x 16 :: x 17 :: x 18 :: x 19 :: x 20 :: x 21 :: x 22 :: x 23 :: x 24 :: x 25 :: x 26 :: x 27 :: x 28 :: x 29 :: x 30 :: x 31 :: x 32 :: x 33 :: x 34 :: x 35 :: x 36 :: x 37 :: x 38 :: x 39 :: x 40 :: x 41 :: x 42 :: x 43 :: x 44 :: x 45 :: x 46 :: x 47 :: x 48 :: x 49 :: x 50 :: x 51 :: x 52 :: x 53 :: x 54 :: x 55 :: x 56 :: x 57 :: x 58 :: x 59 :: x 60 :: x 61 :: x 62 :: x 63 :: x 64 :: x 65 :: x 66 :: x 67 :: x 68 :: x 69 :: x 70 :: x 71 :: x 72 :: x 73 :: x 74 :: x 75 :: x 76 :: x 77 :: x 78 :: x 79 :: x 80 :: x 81 :: x 82 :: x 83 :: x 84 :: x 85 :: x 86 :: x 87 :: x 88 :: x 89 :: x 90 :: x 91 :: x 92 :: x 93 :: x 94 :: x 95 :: x 96 :: x 97 :: x 98 :: x 99 :: x 100 :: x 101 :: x 102 :: x 103 :: x 104 :: x 105 :: x 106 :: x 107 :: x 108 :: x 109 :: x 110 :: x 111 :: x 112 :: x 113 :: x 114 :: x 115 :: x 116 :: []), []⟩ ∧ ∀ i, a.eval (.tmp i) = x i := ⟨fun i => a.tmps.getD i undef, h.form, fun _ => rfl⟩
theorem lowQ (a : Int) (m : Nat) (hm : 0 < m) (hm2 : m ≤ 1000000) : ∃ x : Nat, x < m ∧ wrap64 ((IntKind.u64.wrap a).tmod (m : Int)) = (x : Int) := by
  have h0 : 0 ≤ IntKind.u64.wrap a := by rw [IntKind.wrap_u64]; omega
  rw [Int.tmod_eq_emod_of_nonneg h0]
  generalize IntKind.u64.wrap a = z at h0
  have h1 := Int.emod_lt_of_pos z (show (0 : Int) < (m : Int) by omega)
  have h2 := Int.emod_nonneg z (show (m : Int) ≠ 0 by omega)
  refine ⟨(z % (m : Int)).toNat, by omega, ?_⟩
  rw [IntWalk.wrap64_in _ (by omega)]
  omega
/-- Two bakers of one key, made ahead; what is handed in. -/
structure CB (w w0 : World) (p r kp : Nat) (kq : List UInt8) (vl : Value) (ns : List Int) : Prop where
  below : Below w.heap.size w w0
  ge : w.heap.size ≤ p
  gr : w.heap.size ≤ r
  ne : r ≠ p
  a : Bk w0 p p 0 0 kq
  b : Bk w0 p r 0 0 kq
  c : w0.cell? ⟨p, 2, none⟩ = some (.pointer (some ⟨kp, 0, none⟩))
  key : ∀ W1, w0.grownBy W1 (some p) → IsKey W1 (.pointer (some ⟨kp, 0, none⟩)) kq
  l : IntsQ w vl ns
  lk : kq.length ≤ 70
/-- What stays in the frame. -/
structure FK (vl : Value) (p r : Nat) (a : Act) : Prop where
  fr : Fr 117 a
  s1 : a.eval (.tmp 1) = vl
  s5 : a.eval (.tmp 5) = .pointer (some ⟨p, 0, none⟩)
  s7 : a.eval (.tmp 7) = .pointer (some ⟨r, 0, none⟩)
/-- What stays in memory. -/
def FM (w0 : World) (p kp k m : Nat) (W : World) : Prop :=
  w0.grownBy W (some p) ∧ W.heap[p]? = some (.cells #[.int .i64 (k : Int), .int .i64 (m : Int), .pointer (some ⟨kp, 0, none⟩)] 66 (0, 0))
theorem FM.later {w0 W W1 : World} {p kp k m : Nat} (h : FM w0 p kp k m W) (hb : Below W.heap.size W W1) : FM w0 p kp k m W1 :=
  ⟨kb_trans h.1 (kb_below _ hb), by rw [hb.block p (Array.getElem?_eq_some_iff.1 h.2).1]; exact h.2⟩
theorem FM.set {w0 W W1 : World} {p kp k m D : Nat} (h : FM w0 p kp k m W) (hg : W.grownBy W1 (some D)) (hD : w0.heap.size ≤ D) (hp : p < w0.heap.size) : FM w0 p kp k m W1 :=
  ⟨kb_pastC h.1 hg hD, by rw [hg.block p (Array.getElem?_eq_some_iff.1 h.2).1 (fun e => by injection e; omega)]; exact h.2⟩
theorem FM.a {w w0 W : World} {p r kp k m : Nat} {kq : List UInt8} {vl : Value} {ns : List Int} (c : CB w w0 p r kp kq vl ns) (h : FM w0 p kp k m W) : Bk W p p k m kq :=
  ⟨kp, h.2, fun W1 h1 => c.key W1 (kb_trans h.1 h1)⟩
theorem FM.b {w w0 W : World} {p r kp k m : Nat} {kq : List UInt8} {vl : Value} {ns : List Int} (c : CB w w0 p r kp kq vl ns) (h : FM w0 p kp k m W) : Bk W p r 0 0 kq := c.b.beside c.ne h.1
theorem FM.below {w w0 W : World} {p r kp k m : Nat} {kq : List UInt8} {vl : Value} {ns : List Int} (c : CB w w0 p r kp kq vl ns) (h : FM w0 p kp k m W) : Below w.heap.size w W := c.below.trans (grown_belowC h.1 c.ge c.below.size)
theorem FM.step {w0 W W1 : World} {p kp k m k1 m1 : Nat} {kq : List UInt8} (h : FM w0 p kp k m W) (hk : Bk W1 p p k1 m1 kq) (hg : W.grownBy W1 (some p)) (hc : W1.cell? ⟨p, 2, none⟩ = W.cell? ⟨p, 2, none⟩) : FM w0 p kp k1 m1 W1 := by
  refine ⟨kb_trans h.1 hg, ?_⟩
  obtain ⟨k', hr, -⟩ := hk
  rw [cell_of_row _ _ _ _ _ _ hr, cell_of_row _ _ _ _ _ _ h.2] at hc
  have e : k' = kp := by simpa using hc
  rw [hr, e]
structure IC (vl : Value) (w0 : World) (p r kp k : Nat) (a : Act) (W : World) : Prop where
  kf : FK vl p r a
  st : ∃ m, m ≤ k ∧ a.eval (.tmp 9) = .int .i64 (k : Int) ∧ a.eval (.tmp 10) = .int .i64 (m : Int) ∧ a.eval (.tmp 11) = .int .i64 (k : Int) ∧ FM w0 p kp k m W
theorem set16 {W : World} {D : Nat} {l : List UInt8} (h : W.heap[D]? = some (.cells (u8s l) 28 (0, 0))) (k : Nat) (x : UInt8) : (W.setCell ⟨D, k, none⟩ (.int .u8 (ub x))).heap[D]? = some (.cells (u8s (l.set k x)) 28 (0, 0)) := by
  rw [heap_setCell_same _ _ _ _ _ _ h, u8s_set]
set_option maxRecDepth 100000 in
set_option maxHeartbeats 4000000 in
theorem roundC_true (w w0 : World) (p r kp : Nat) (kq : List UInt8) (vl : Value) (ns : List Int) (c : CB w w0 p r kp kq vl ns) (hnl : ns.length ≤ 9223372036854775807) (hTb : Tab w) (hg : 0 < w.heap.size)
    (Q : Exit → Act → World → Prop) (k m : Nat) (a : Act) (wr : World) (hk : k < 12) (hkn : k < ns.length) (hf : FK vl p r a) (hm : m ≤ k) (s9 : a.eval (.tmp 9) = .int .i64 (k : Int)) (s10 : a.eval (.tmp 10) = .int .i64 (m : Int)) (s11 : a.eval (.tmp 11) = .int .i64 (k : Int)) (hst : FM w0 p kp k m wr)
    (x9 y5 : Nat) (hx9 : x9 < 9) (hy5 : y5 < 500) (ex : wrap64 ((IntKind.u64.wrap (ns.getD k 0)).tmod ((9 : Nat) : Int)) = (x9 : Int)) (ey : wrap64 ((IntKind.u64.wrap (ns.getD k 0)).tmod ((500 : Nat) : Int)) = (y5 : Int))
    (hfr : freK kq (y5 / 64) x9 [] ((cookK kq (y5 / 64) x9 []).set k ((cookK kq (y5 / 64) x9 []).getD k 0 ^^^ 1)) = true) :
    Code.wp Tryd.prog (loopAt (Tryd.f5.body) 0) (Exit.then (fun a' w' => IC vl w0 p r kp (k + 1) a' w') Q) a wr := by
  obtain ⟨z16, hz16⟩ : ∃ z, u8s (List.replicate 16 0) = z := ⟨_, rfl⟩
  have hz16v := (z16_facts hz16).1
  have ex' : wrap64 ((IntKind.u64.wrap (ns.getD k 0)).tmod 9) = (x9 : Int) := ex
  have ey' : wrap64 ((IntKind.u64.wrap (ns.getD k 0)).tmod 500) = (y5 : Int) := ey
  have hr : rightQ (x9 : Int) (y5 : Int) = true := decide_eq_true (by omega)
  have HT : Bx (∀ W, Below w.heap.size w W → Tab W ∧ 0 < W.heap.size) := Bx.mk fun W hb => ⟨hTb.later hb hg, Nat.lt_of_lt_of_le hg hb.size⟩
  have HLK := Bx.mk c.lk
  have HBk := Bx.mk fun (W : World) (h : FM w0 p kp k m W) => bake_ok3 kq x9 y5 p k m [] (.slice none 0 0) W (h.a c) (fun W1 _ => noParts W1) hr (by omega) (by have := HLK.out; omega) (by simp) (by simp) (HT.out W (h.below c)).1 (HT.out W (h.below c)).2
  have HCb := Bx.mk fun (W : World) (vc' : Value) (h : FM w0 p kp (k + 1) m W) (hv' : Bytes W vc' (cookK kq (y5 / 64) x9 [])) => check_ok r (h.b c).parts.choose y5 x9 kq _ [] vc' (.slice none 0 0) W hv' (cookK_length _ _ _ _) (h.b c).parts.choose_spec.2.2.1 (h.b c).parts.choose_spec.2.2.2.2 (noParts W) hr (by have := HLK.out; omega) (by simp) (by simp) (HT.out W (h.below c)).1 (HT.out W (h.below c)).2 (fre_self kq y5 x9 [])
  have HCa := Bx.mk fun (W : World) (vc' : Value) (h : FM w0 p kp (k + 1) m W) (hv' : Bytes W vc' ((cookK kq (y5 / 64) x9 []).set k ((cookK kq (y5 / 64) x9 []).getD k 0 ^^^ 1))) => check_ok p (h.a c).parts.choose y5 x9 kq _ [] vc' (.slice none 0 0) W hv' (by rw [List.length_set, cookK_length]) (h.a c).parts.choose_spec.2.2.1 (h.a c).parts.choose_spec.2.2.2.2 (noParts W) hr (by have := HLK.out; omega) (by simp) (by simp) (HT.out W (h.below c)).1 (HT.out W (h.below c)).2 hfr
  have HCo := Bx.mk fun (W : World) (h : FM w0 p kp (k + 1) m W) => counts_any p p (k + 1) m kq W (h.a c) (by omega) (by omega)
  have HL : Bx ((cookK kq (y5 / 64) x9 []).length = 16) := Bx.mk (cookK_length _ _ _ _)
  generalize cookK kq (y5 / 64) x9 [] = ck at *
  have HI : Bx ((Tryd.prog.info? 28).map (·.size) = some (u8s ck).size ∧ (u8s ck).size = z16.size ∧ ck.length = 16) := Bx.mk (by
    have h16 : (u8s ck).size = 16 := by rw [u8s_size, HL.out]
    refine ⟨by rw [h16]; kernel_rfl, by rw [h16, ← hz16]; rfl, HL.out⟩)
  have HC := Bx.mk (And.intro c.a.lt c.b.lt)
  have HBl := Bx.mk fun (k m : Nat) (W : World) (h : FM w0 p kp k m W) => h.below c
  have HS := Bx.mk hst
  obtain ⟨la, lcap, rfl, -, -, hcell⟩ := c.l
  obtain ⟨n, hn⟩ : ∃ n, ns.length = n := ⟨_, rfl⟩
  rw [hn] at hkn hnl hf hcell ⊢
  obtain ⟨g1, o1, rfl, hcl⟩ := hcell (by omega)
  have hcw : wr.cell? ⟨g1, o1 + k, none⟩ = some (.int .i64 (ns.getD k 0)) := by
    rw [(hst.below c).cell (p := ⟨g1, o1 + k, none⟩) (World.block_lt_of_cell? _ _ (hcl k hkn))]
    exact hcl k hkn
  generalize ns.getD k 0 = nk at *
  obtain ⟨x, rfl, hx⟩ := open117 hf.fr
  have e1 := (hx 1).symm.trans hf.s1
  have e5 := (hx 5).symm.trans hf.s5
  have e7 := (hx 7).symm.trans hf.s7
  have e9 := (hx 9).symm.trans s9
  have e10 := (hx 10).symm.trans s10
  have e11 := (hx 11).symm.trans s11
  clear hf hx s9 s10 s11 hcl hcell c hTb hg hr hfr hst hz16 ex ey hn
  rw [e1, e5, e7, e9, e10, e11]
  clear e1 e5 e7 e9 e10 e11
  have hk1 : (k : Int) < 12 := by omega
  have hk2 : (k : Int) < (n : Int) := by omega
  have hk0 : (0 : Int) ≤ (k : Int) := by omega
  have hm1 : (m : Int) ≤ (k : Int) := by omega
  have hm0 : (0 : Int) ≤ (m : Int) := by omega
  have hn1 : (n : Int) ≤ 9223372036854775807 := by omega
  have hk16 : (k : Int) < 16 := by omega
  conv => arg 2; whnf
  go_wp2
  go_quiet (fail)
  clear hcw
  have S1 : Bx (FM w0 p kp k m (wr.drewN nq)) := Bx.mk (HS.out.later (below_drewN (Below.refl _ _) _))
  clear HS
  generalize wr.drewN nq = w1 at *
  skip -- M1
  go_wp2_with fail
  simp only [ex', ey']
  skip -- M2
  refine (HBk.out w1 S1.out).mono ?_
  rintro e w2 ⟨rfl, hk, hgr, hc2⟩
  have S2 : Bx (FM w0 p kp (k + 1) m w2) := Bx.mk (S1.out.step hk hgr hc2)
  clear hk hgr hc2 S1 HBk
  go_upto_region 11 with (refine wpList_store_var rfl 28 _ _ rfl w2 _ _ rfl (by rfl) (u8s ck) (by rfl) HI.out.2.1 HI.out.1 (one_u8s _) ?_; intro w3 hb hr hl)
  obtain ⟨D, hD⟩ : ∃ D, w2.heap.size = D := ⟨_, rfl⟩
  have S3 : Bx (FM w0 p kp (k + 1) m w3 ∧ w3.heap[D]? = some (.cells (u8s ck) 28 (0, 0)) ∧ w0.heap.size ≤ D) := Bx.mk ⟨S2.out.later hb, by rw [← hD]; exact hr, by rw [← hD]; exact S2.out.1.size⟩
  rw [hD]
  clear hb hr hl S2 hD
  go_wp2_with fail
  refine (HCb.out w3 _ S3.out.1 (row_bytes S3.out.2.1 HI.out.2.2)).mono ?_
  rintro e w4 ⟨rfl, hb⟩
  have S4 : Bx (FM w0 p kp (k + 1) m w4 ∧ w4.heap[D]? = some (.cells (u8s ck) 28 (0, 0)) ∧ w0.heap.size ≤ D) := Bx.mk ⟨S3.out.1.later hb, by rw [hb.block D (Array.getElem?_eq_some_iff.1 S3.out.2.1).1]; exact S3.out.2.1, S3.out.2.2⟩
  clear hb S3 HCb
  have hcD : w4.cell? ⟨D, k, none⟩ = some (.int .u8 (ub (ck.getD k 0))) := by
    rw [cell_of_row _ _ _ _ _ _ S4.out.2.1]
    exact u8s_get _ _ (by have := HI.out.2.2; omega)
  have hfD : w4.frozen? ⟨D, k, none⟩ = false := frozen_of_row _ _ _ _ _ S4.out.2.1
  have hux : bits .xor .u8 (ub (ck.getD k 0)) 1 = ub (ck.getD k 0 ^^^ 1) := ub_xor _ 1
  have HD := Bx.mk fun (y : UInt8) => And.intro (show FM w0 p kp (k + 1) m (w4.setCell ⟨D, k, none⟩ (.int .u8 (ub y))) from S4.out.1.set (kb_set1 _ _ _ _) S4.out.2.2 HC.out.1) (set16 S4.out.2.1 k y)
  generalize ck.getD k 0 = y0 at *
  skip -- M3
  go_upto_region 15 with fail
  try rw [hux]
  have S5 := Bx.mk (HD.out (y0 ^^^ 1))
  generalize y0 ^^^ 1 = y1 at *
  clear HD hcD hfD S4 hux
  generalize w4.setCell ⟨D, k, none⟩ (.int .u8 (ub y1)) = w5 at *
  go_wp2_with fail
  skip -- M4
  refine (HCa.out w5 _ S5.out.1 (row_bytes S5.out.2 (by rw [List.length_set]; exact HI.out.2.2))).mono ?_
  rintro e w6 ⟨rfl, hb⟩
  have S6 : Bx (FM w0 p kp (k + 1) m w6) := Bx.mk (S5.out.1.later hb)
  clear hb S5 HCa
  go_wp2_with fail
  refine (HCo.out w6 S6.out).mono ?_
  rintro e w7 ⟨rfl, hb⟩
  have S7 := Bx.mk (S6.out.later hb)
  clear hb S6 HCo
  skip -- M5
  go_wp2
  exact ⟨⟨⟨rfl, rfl⟩, rfl, rfl, rfl⟩, m, by omega, by first | rfl | go_num, by first | rfl | go_num, by first | rfl | go_num, S7.out⟩
set_option maxRecDepth 100000 in
set_option maxHeartbeats 4000000 in
theorem roundC_false (w w0 : World) (p r kp : Nat) (kq : List UInt8) (vl : Value) (ns : List Int) (c : CB w w0 p r kp kq vl ns) (hnl : ns.length ≤ 9223372036854775807) (hTb : Tab w) (hg : 0 < w.heap.size)
    (Q : Exit → Act → World → Prop) (k m : Nat) (a : Act) (wr : World) (hk : k < 12) (hkn : k < ns.length) (hf : FK vl p r a) (hm : m ≤ k) (s9 : a.eval (.tmp 9) = .int .i64 (k : Int)) (s10 : a.eval (.tmp 10) = .int .i64 (m : Int)) (s11 : a.eval (.tmp 11) = .int .i64 (k : Int)) (hst : FM w0 p kp k m wr)
    (x9 y5 : Nat) (hx9 : x9 < 9) (hy5 : y5 < 500) (ex : wrap64 ((IntKind.u64.wrap (ns.getD k 0)).tmod ((9 : Nat) : Int)) = (x9 : Int)) (ey : wrap64 ((IntKind.u64.wrap (ns.getD k 0)).tmod ((500 : Nat) : Int)) = (y5 : Int))
    (hfr : freK kq (y5 / 64) x9 [] ((cookK kq (y5 / 64) x9 []).set k ((cookK kq (y5 / 64) x9 []).getD k 0 ^^^ 1)) = false) :
    Code.wp Tryd.prog (loopAt (Tryd.f5.body) 0) (Exit.then (fun a' w' => IC vl w0 p r kp (k + 1) a' w') Q) a wr := by
  obtain ⟨z16, hz16⟩ : ∃ z, u8s (List.replicate 16 0) = z := ⟨_, rfl⟩
  have hz16v := (z16_facts hz16).1
  have ex' : wrap64 ((IntKind.u64.wrap (ns.getD k 0)).tmod 9) = (x9 : Int) := ex
  have ey' : wrap64 ((IntKind.u64.wrap (ns.getD k 0)).tmod 500) = (y5 : Int) := ey
  have hr : rightQ (x9 : Int) (y5 : Int) = true := decide_eq_true (by omega)
  have HT : Bx (∀ W, Below w.heap.size w W → Tab W ∧ 0 < W.heap.size) := Bx.mk fun W hb => ⟨hTb.later hb hg, Nat.lt_of_lt_of_le hg hb.size⟩
  have HLK := Bx.mk c.lk
  have HBk := Bx.mk fun (W : World) (h : FM w0 p kp k m W) => bake_ok3 kq x9 y5 p k m [] (.slice none 0 0) W (h.a c) (fun W1 _ => noParts W1) hr (by omega) (by have := HLK.out; omega) (by simp) (by simp) (HT.out W (h.below c)).1 (HT.out W (h.below c)).2
  have HCb := Bx.mk fun (W : World) (vc' : Value) (h : FM w0 p kp (k + 1) m W) (hv' : Bytes W vc' (cookK kq (y5 / 64) x9 [])) => check_ok r (h.b c).parts.choose y5 x9 kq _ [] vc' (.slice none 0 0) W hv' (cookK_length _ _ _ _) (h.b c).parts.choose_spec.2.2.1 (h.b c).parts.choose_spec.2.2.2.2 (noParts W) hr (by have := HLK.out; omega) (by simp) (by simp) (HT.out W (h.below c)).1 (HT.out W (h.below c)).2 (fre_self kq y5 x9 [])
  have HCa := Bx.mk fun (W : World) (vc' : Value) (h : FM w0 p kp (k + 1) m W) (hv' : Bytes W vc' ((cookK kq (y5 / 64) x9 []).set k ((cookK kq (y5 / 64) x9 []).getD k 0 ^^^ 1))) => check_old3 p y5 x9 (k + 1) m kq _ [] vc' (.slice none 0 0) W hv' (by rw [List.length_set, cookK_length]) (h.a c) (noParts W) hr (by omega) (by have := HLK.out; omega) (by simp) (by simp) (HT.out W (h.below c)).1 (HT.out W (h.below c)).2 hfr
  have HCo := Bx.mk fun (W : World) (h : FM w0 p kp (k + 1) (m + 1) W) => counts_any p p (k + 1) (m + 1) kq W (h.a c) (by omega) (by omega)
  have HL : Bx ((cookK kq (y5 / 64) x9 []).length = 16) := Bx.mk (cookK_length _ _ _ _)
  generalize cookK kq (y5 / 64) x9 [] = ck at *
  have HI : Bx ((Tryd.prog.info? 28).map (·.size) = some (u8s ck).size ∧ (u8s ck).size = z16.size ∧ ck.length = 16) := Bx.mk (by
    have h16 : (u8s ck).size = 16 := by rw [u8s_size, HL.out]
    refine ⟨by rw [h16]; kernel_rfl, by rw [h16, ← hz16]; rfl, HL.out⟩)
  have HC := Bx.mk (And.intro c.a.lt c.b.lt)
  have HBl := Bx.mk fun (k m : Nat) (W : World) (h : FM w0 p kp k m W) => h.below c
  have HS := Bx.mk hst
  obtain ⟨la, lcap, rfl, -, -, hcell⟩ := c.l
  obtain ⟨n, hn⟩ : ∃ n, ns.length = n := ⟨_, rfl⟩
  rw [hn] at hkn hnl hf hcell ⊢
  obtain ⟨g1, o1, rfl, hcl⟩ := hcell (by omega)
  have hcw : wr.cell? ⟨g1, o1 + k, none⟩ = some (.int .i64 (ns.getD k 0)) := by
    rw [(hst.below c).cell (p := ⟨g1, o1 + k, none⟩) (World.block_lt_of_cell? _ _ (hcl k hkn))]
    exact hcl k hkn
  generalize ns.getD k 0 = nk at *
  obtain ⟨x, rfl, hx⟩ := open117 hf.fr
  have e1 := (hx 1).symm.trans hf.s1
  have e5 := (hx 5).symm.trans hf.s5
  have e7 := (hx 7).symm.trans hf.s7
  have e9 := (hx 9).symm.trans s9
  have e10 := (hx 10).symm.trans s10
  have e11 := (hx 11).symm.trans s11
  clear hf hx s9 s10 s11 hcl hcell c hTb hg hr hfr hst hz16 ex ey hn
  rw [e1, e5, e7, e9, e10, e11]
  clear e1 e5 e7 e9 e10 e11
  have hk1 : (k : Int) < 12 := by omega
  have hk2 : (k : Int) < (n : Int) := by omega
  have hk0 : (0 : Int) ≤ (k : Int) := by omega
  have hm1 : (m : Int) ≤ (k : Int) := by omega
  have hm0 : (0 : Int) ≤ (m : Int) := by omega
  have hn1 : (n : Int) ≤ 9223372036854775807 := by omega
  have hk16 : (k : Int) < 16 := by omega
  conv => arg 2; whnf
  go_wp2
  go_quiet (fail)
  clear hcw
  have S1 : Bx (FM w0 p kp k m (wr.drewN nq)) := Bx.mk (HS.out.later (below_drewN (Below.refl _ _) _))
  clear HS
  generalize wr.drewN nq = w1 at *
  skip -- M1
  go_wp2_with fail
  simp only [ex', ey']
  skip -- M2
  refine (HBk.out w1 S1.out).mono ?_
  rintro e w2 ⟨rfl, hk, hgr, hc2⟩
  have S2 : Bx (FM w0 p kp (k + 1) m w2) := Bx.mk (S1.out.step hk hgr hc2)
  clear hk hgr hc2 S1 HBk
  go_upto_region 11 with (refine wpList_store_var rfl 28 _ _ rfl w2 _ _ rfl (by rfl) (u8s ck) (by rfl) HI.out.2.1 HI.out.1 (one_u8s _) ?_; intro w3 hb hr hl)
  obtain ⟨D, hD⟩ : ∃ D, w2.heap.size = D := ⟨_, rfl⟩
  have S3 : Bx (FM w0 p kp (k + 1) m w3 ∧ w3.heap[D]? = some (.cells (u8s ck) 28 (0, 0)) ∧ w0.heap.size ≤ D) := Bx.mk ⟨S2.out.later hb, by rw [← hD]; exact hr, by rw [← hD]; exact S2.out.1.size⟩
  rw [hD]
  clear hb hr hl S2 hD
  go_wp2_with fail
  refine (HCb.out w3 _ S3.out.1 (row_bytes S3.out.2.1 HI.out.2.2)).mono ?_
  rintro e w4 ⟨rfl, hb⟩
  have S4 : Bx (FM w0 p kp (k + 1) m w4 ∧ w4.heap[D]? = some (.cells (u8s ck) 28 (0, 0)) ∧ w0.heap.size ≤ D) := Bx.mk ⟨S3.out.1.later hb, by rw [hb.block D (Array.getElem?_eq_some_iff.1 S3.out.2.1).1]; exact S3.out.2.1, S3.out.2.2⟩
  clear hb S3 HCb
  have hcD : w4.cell? ⟨D, k, none⟩ = some (.int .u8 (ub (ck.getD k 0))) := by
    rw [cell_of_row _ _ _ _ _ _ S4.out.2.1]
    exact u8s_get _ _ (by have := HI.out.2.2; omega)
  have hfD : w4.frozen? ⟨D, k, none⟩ = false := frozen_of_row _ _ _ _ _ S4.out.2.1
  have hux : bits .xor .u8 (ub (ck.getD k 0)) 1 = ub (ck.getD k 0 ^^^ 1) := ub_xor _ 1
  have HD := Bx.mk fun (y : UInt8) => And.intro (show FM w0 p kp (k + 1) m (w4.setCell ⟨D, k, none⟩ (.int .u8 (ub y))) from S4.out.1.set (kb_set1 _ _ _ _) S4.out.2.2 HC.out.1) (set16 S4.out.2.1 k y)
  generalize ck.getD k 0 = y0 at *
  skip -- M3
  go_upto_region 15 with fail
  try rw [hux]
  have S5 := Bx.mk (HD.out (y0 ^^^ 1))
  generalize y0 ^^^ 1 = y1 at *
  clear HD hcD hfD S4 hux
  generalize w4.setCell ⟨D, k, none⟩ (.int .u8 (ub y1)) = w5 at *
  go_wp2_with fail
  skip -- M4
  refine (HCa.out w5 _ S5.out.1 (row_bytes S5.out.2 (by rw [List.length_set]; exact HI.out.2.2))).mono ?_
  rintro e w6 ⟨rfl, hk, hgr, hc2⟩
  have S6 : Bx (FM w0 p kp (k + 1) (m + 1) w6) := Bx.mk (S5.out.1.step hk hgr hc2)
  clear hk hgr hc2 S5 HCa
  go_wp2_with fail
  refine (HCo.out w6 S6.out).mono ?_
  rintro e w7 ⟨rfl, hb⟩
  have S7 := Bx.mk (S6.out.later hb)
  clear hb S6 HCo
  skip -- M5
  go_wp2
  exact ⟨⟨⟨rfl, rfl⟩, rfl, rfl, rfl⟩, m + 1, by omega, by first | rfl | go_num, by first | rfl | go_num, by first | rfl | go_num, S7.out⟩
end Go.Proofs.YtncbhnkhbohejaaDoor
namespace Go.Proofs.YtncbhnkhbohejaaDoor
open Go Go.RowKit
theorem roundC (w w0 : World) (p r kp : Nat) (kq : List UInt8) (vl : Value) (ns : List Int) (c : CB w w0 p r kp kq vl ns) (hnl : ns.length ≤ 9223372036854775807) (hTb : Tab w) (hg : 0 < w.heap.size)
    (Q : Exit → Act → World → Prop) (k : Nat) (a : Act) (wr : World) (hk : k < 12) (hkn : k < ns.length) (h : IC vl w0 p r kp k a wr) :
    Code.wp Tryd.prog (loopAt (Tryd.f5.body) 0) (Exit.then (fun a' w' => IC vl w0 p r kp (k + 1) a' w') Q) a wr := by
  obtain ⟨hf, m, hm, s9, s10, s11, hst⟩ := h
  obtain ⟨x9, hx9, ex⟩ := lowQ (ns.getD k 0) 9 (by omega) (by omega)
  obtain ⟨y5, hy5, ey⟩ := lowQ (ns.getD k 0) 500 (by omega) (by omega)
  cases hfr : freK kq (y5 / 64) x9 [] ((cookK kq (y5 / 64) x9 []).set k ((cookK kq (y5 / 64) x9 []).getD k 0 ^^^ 1)) with
  | true => exact roundC_true w w0 p r kp kq vl ns c hnl hTb hg Q k m a wr hk hkn hf hm s9 s10 s11 hst x9 y5 hx9 hy5 ex ey hfr
  | false => exact roundC_false w w0 p r kp kq vl ns c hnl hTb hg Q k m a wr hk hkn hf hm s9 s10 s11 hst x9 y5 hx9 hy5 ex ey hfr
set_option maxRecDepth 100000 in
set_option maxHeartbeats 1000000 in
theorem lastC (p r kp : Nat) (w0 : World) (vl : Value) (a0 : Option Addr) (n cap k : Nat) (hvl : vl = .slice a0 n cap) (hn : n ≤ 9223372036854775807) (hk : k ≤ n) (hk12 : k ≤ 12) (hend : n ≤ k ∨ k = 12)
    (Q : Exit → Act → World → Prop) (N : Act → World → Prop)
    (hq : ∀ a' w' m, FK vl p r a' → FM w0 p kp k m w' → Q (.exit 0) a' w') (a : Act) (wr : World) (h : IC vl w0 p r kp k a wr) :
    Code.wp Tryd.prog (loopAt (Tryd.f5.body) 0) (Exit.then N Q) a wr := by
  obtain ⟨hf, m, hm, s9, s10, s11, hst⟩ := h
  have HS := Bx.mk hst
  have HQ := Bx.mk hq
  subst hvl
  obtain ⟨x, rfl, hx⟩ := open117 hf.fr
  have e1 := (hx 1).symm.trans hf.s1
  have e5 := (hx 5).symm.trans hf.s5
  have e7 := (hx 7).symm.trans hf.s7
  have e11 := (hx 11).symm.trans s11
  clear hx hq hst hf s9 s10 s11 hm
  rw [e1, e5, e7, e11]
  clear e1 e5 e7 e11
  have hn1 : (n : Int) ≤ 9223372036854775807 := by omega
  have hk0 : (0 : Int) ≤ (k : Int) := by omega
  by_cases hlt : k < n
  · have h1 : (k : Int) < (n : Int) := by omega
    have h2 : ¬ (k : Int) < 12 := by omega
    clear hend hlt hk hk12
    conv => arg 2; whnf
    go_wp2
    exact HQ.out _ _ m ⟨⟨rfl, rfl⟩, rfl, rfl, rfl⟩ HS.out
  · have h1 : ¬ (k : Int) < (n : Int) := by omega
    clear hend hlt hk hk12
    conv => arg 2; whnf
    go_wp2
    exact HQ.out _ _ m ⟨⟨rfl, rfl⟩, rfl, rfl, rfl⟩ HS.out
theorem loopC (w w0 : World) (p r kp : Nat) (kq : List UInt8) (vl : Value) (ns : List Int) (c : CB w w0 p r kp kq vl ns) (hnl : ns.length ≤ 9223372036854775807) (hTb : Tab w) (hg : 0 < w.heap.size)
    (Q : Exit → Act → World → Prop) (a : Act) (wr : World) (h : IC vl w0 p r kp 0 a wr) (hq : ∀ a' w' k m, FK vl p r a' → FM w0 p kp k m w' → Q (.exit 0) a' w') :
    Code.wp Tryd.prog (.loop (loopAt (Tryd.f5.body) 0)) Q a wr := by
  obtain ⟨a0, cap, hvl, -, -, -⟩ := c.l
  exact wp_count (min ns.length 12) (fun k a w' => IC vl w0 p r kp k a w') 0 (Nat.zero_le _) h (fun k a w' hk hI => roundC w w0 p r kp kq vl ns c hnl hTb hg Q k a w' (by omega) (by omega) hI) (fun a w' hI => lastC p r kp w0 vl a0 ns.length cap _ hvl hnl (by omega) (by omega) (by omega) Q _ (fun a' w' m h1 h2 => hq a' w' _ m h1 h2) a w' hI)
set_option maxRecDepth 100000 in
set_option maxHeartbeats 2000000 in
theorem ccnt_any (bs : List UInt8) (ns : List Int) (v vl : Value) (w : World) (hv : Bytes w v bs) (hl : bs.length ≤ 9223372036854775807) (hns : IntsQ w vl ns) (hnl : ns.length ≤ 9223372036854775807) (hTb : Tab w) (hg : 0 < w.heap.size) :
    Calls Tryd.prog 5 #[v, vl] w fun e w' => e = .returned (.bool true) ∧ Below w.heap.size w w' := by
  have HBa := Bx.mk fun (W : World) (hb : Below w.heap.size w W) => baker10_any bs v W (hv.later hb) hl
  have HKn := Bx.mk fun (W : World) (hb : Below w.heap.size w W) => known10_any W (hTb.later hb hg) (Nat.lt_of_lt_of_le hg hb.size)
  have HLo := Bx.mk fun (w0 : World) (p r kp : Nat) (c : CB w w0 p r kp (keyQ bs) vl ns) => loopC w w0 p r kp (keyQ bs) vl ns c hnl hTb hg
  have HN := Bx.mk hns
  obtain ⟨la, lcap, hvl, -, -, -⟩ := hns
  clear hv hl hTb hg hnl
  go_enter Tryd.func5, Tryd.ntmps5
  go_wp2_with fail
  refine (HBa.out w (Below.refl _ _)).mono ?_
  rintro e w1 ⟨p, vk, rfl, h1, h2, h3, h4, h5⟩
  have H1 := Bx.mk (And.intro h2 (And.intro h3 (h4 p (.inr (Nat.le_refl _)))))
  clear h1 h2 h3 h4 h5
  go_wp2_with fail
  refine (HBa.out w1 H1.out.2.1).mono ?_
  rintro e w2 ⟨r, vk2, rfl, h1, h2, h3, h4, h5⟩
  have hpl := H1.out.2.2.lt
  have HC : Bx (∃ kp, CB w w2 p r kp (keyQ bs) vl ns) := Bx.mk (by
    have ha := H1.out.2.2.later h3
    have ha' := ha
    obtain ⟨kp, hr, hk⟩ := ha
    exact ⟨kp, H1.out.2.1.trans (h3.mono H1.out.2.1.size), H1.out.1, Nat.le_trans H1.out.2.1.size h2, by omega, ha', h4 p (.inl hpl), by rw [cell_of_row _ _ _ _ _ _ hr]; rfl, hk, HN.out, (keyQ_le bs).1⟩)
  obtain ⟨kp, hC⟩ := HC.out
  have H2 := Bx.mk hC
  have H3 : Bx (FM w2 p kp 0 0 w2) := Bx.mk ⟨kb_refl _ _, by
    obtain ⟨k', hr, -⟩ := hC.a
    have hc := hC.c
    rw [cell_of_row _ _ _ _ _ _ hr] at hc
    have e : k' = kp := by simpa using hc
    rw [hr, e]⟩
  clear h1 h2 h3 h4 h5 HC H1 HBa HN hC hpl
  go_wp2
  skip -- M1
  refine HLo.out w2 p r kp H2.out _ _ _ ⟨⟨⟨rfl, rfl⟩, hvl.symm, rfl, rfl⟩, 0, by omega, rfl, rfl, rfl, H3.out⟩ ?_
  intro a' w3 k m hf hst
  have H4 := Bx.mk (And.intro (hst.below H2.out) (hst.b H2.out))
  clear hst HLo H2 H3
  obtain ⟨x, rfl, hx⟩ := open117 hf.fr
  have e5 := (hx 5).symm.trans hf.s5
  have e7 := (hx 7).symm.trans hf.s7
  rw [e5, e7]
  clear e5 e7 hx hf
  go_wp2_with fail
  skip -- M2
  refine (counts_any r p 0 0 (keyQ bs) w3 H4.out.2 (by omega) (by omega)).mono ?_
  rintro e w4 ⟨rfl, hb⟩
  have H5 := Bx.mk (H4.out.1.trans (hb.mono H4.out.1.size))
  clear hb H4
  go_wp2_with fail
  refine (HKn.out w4 H5.out).mono ?_
  rintro e w5 ⟨rfl, hb⟩
  have H6 := Bx.mk (H5.out.trans (hb.mono H5.out.size))
  clear hb H5
  go_wp2
  go_ret
  exact ⟨rfl, H6.out⟩
end Go.Proofs.YtncbhnkhbohejaaDoor
namespace Go.Proofs.YtncbhnkhbohejaaDoor
open Go Go.ChangeShapes Go.WideShapes Go.ChangeAt Go.RowKit
theorem own : ownKnob Tryd.prog.godebug = none := by kernel_rfl
theorem laidOut : laidOutB Tryd.prog = true := by kernel_rfl
/-- A slice of bytes that came in. -/
def IsRow (w : World) (a : Option Addr) (len cap : Nat) (zs : List Int) : Prop :=
  (a = none ∧ len = 0 ∧ cap = 0 ∧ zs = []) ∨
  ∃ x, a = some x ∧ len ≤ cap ∧ cap ≤ maxLen ∧ zs.length = cap ∧ (∀ i, i < zs.length → w.cell? (x.add i) = some (.int .u8 (zs.getD i 0))) ∧ ∀ n ∈ zs, (Lit.int .u8 n).wf = true
theorem IsRow.bytes {w : World} {a : Option Addr} {len cap : Nat} {zs : List Int} (h : IsRow w a len cap zs) : ∃ bs, Bytes w (.slice a len cap) bs ∧ bs.length = len ∧ len ≤ 9223372036854775807 := by
  rcases h with ⟨rfl, rfl, rfl, rfl⟩ | ⟨x, rfl, hl, hm, hz, hc, hw⟩
  · exact ⟨[], ⟨none, 0, rfl, Nat.le_refl _, fun _ => rfl, fun h => by simp at h⟩, rfl, by omega⟩
  · have hm' : cap ≤ 9223372036854775807 := hm
    refine ⟨(zs.take len).map (fun z => UInt8.ofNat z.toNat), ⟨some x, cap, ?_, ?_, (fun h => by cases h), fun hp => ?_⟩, ?_, by omega⟩
    · rw [List.length_map, List.length_take, Nat.min_eq_left (by omega)]
    · rw [List.length_map, List.length_take]; omega
    · rw [List.length_map, List.length_take] at hp
      obtain ⟨b, off, rfl, hc'⟩ := ints_at hc (by omega)
      refine ⟨b, off, rfl, fun j hj => ?_⟩
      rw [List.length_map, List.length_take] at hj
      rw [hc' j (by omega)]
      congr 2
      have hjz : j < zs.length := by omega
      have hr : 0 ≤ zs[j] ∧ zs[j] ≤ 255 := bounds_u8 (hw _ (List.getElem_mem hjz))
      have e1 : zs.getD j 0 = zs[j] := by simp [hjz]
      have e2 : ((zs.take len).map (fun z => UInt8.ofNat z.toNat)).getD j 0 = UInt8.ofNat (zs[j]).toNat := by
        simp [hjz, show j < len by omega]
      rw [e1, e2]
      unfold ub
      rw [UInt8.toNat_ofNat']
      omega
    · rw [List.length_map, List.length_take]; omega
theorem open_bytes {H : Type} {enc : TypeId × Value → H} {W : World} {a : Option Addr} {len cap : Nat} {d : DataW H} {p : List MemPlace} (h : DataW.Trod enc Tryd.prog W 0 (fun _ => true) true 22 (.slice a len cap) d p) :
    ∃ bs, Bytes W (.slice a len cap) bs ∧ bs.length ≤ 9223372036854775807 := by
  obtain ⟨z0, w0⟩ : ∃ zs, IsRow W a len cap zs := by
    obtain ⟨fuel, hf⟩ := h
    rcases open_ints Tryd.underlying22 Tryd.underlying5 (by kernel_rfl) hf with ⟨hcs, _⟩ | ⟨x, l, c, zs, hcs, _, hl, hm, hz, _, hcell, hwz⟩
    · simp [Value.cells] at hcs
      obtain ⟨rfl, rfl, rfl⟩ := hcs
      exact ⟨[], .inl ⟨rfl, rfl, rfl, rfl⟩⟩
    · simp [Value.cells] at hcs
      obtain ⟨rfl, rfl, rfl⟩ := hcs
      exact ⟨zs, .inr ⟨_, rfl, hl, hm, by simpa using hz, hcell, hwz⟩⟩
  obtain ⟨bs, hb, hbl, hbm⟩ := w0.bytes
  exact ⟨bs, hb, by omega⟩
end Go.Proofs.YtncbhnkhbohejaaDoor
namespace Go.Proofs.YtncbhnkhbohejaaDoor
open Go Go.ChangeShapes Go.WideShapes Go.ChangeAt Go.RowKit
theorem gTab : Tryd.prog.globalNamed "vigil/digest.table" = some 0 := by kernel_rfl
theorem gTabType : (Tryd.prog.globals[0]?).map (·.type) = some 38 := by kernel_rfl
theorem cellsTab : Tryd.prog.cellsOf 38 = 64 := by kernel_rfl
theorem cellsWord : Tryd.prog.cellsOf 37 = 1 := by kernel_rfl
theorem laid_is : (Rows.laid_vigil_digest_table : DataW Unit) = Lib.tabData .u32 (kTab.map uv) := by kernel_rfl
/-- The listed variable's cells hold the table. -/
theorem tab_of {W : World} (h : laidMet Tryd.prog [("vigil/digest.table", Rows.laid_vigil_digest_table)] W) : Tab W := by
  rw [laid_is] at h
  have t := Lib.tabIs_of_head (rest := []) gTab gTabType Tryd.underlying38 Tryd.underlying37 cellsWord cellsTab h
  intro i hi
  rw [t.cell gTab i (by simpa [kTab] using hi)]
  congr 2
  have hk : i < kTab.length := hi
  simp [hk]
/-- A world for the witness: the settled one, the table holding what its initialiser lays. -/
noncomputable def laidWorld (os : Os) : World :=
  { World.holding Tryd.prog os ⟨#[], #[], []⟩ with heap := (World.holding Tryd.prog os ⟨#[], #[], []⟩).heap.modify 0 fun
      | .cells _ t frozen => .cells (u32s kTab) t frozen
      | o => o }
end Go.Proofs.YtncbhnkhbohejaaDoor
namespace Go.Proofs.YtncbhnkhbohejaaDoor
open Go Go.ChangeShapes Go.WideShapes Go.ChangeAt Go.RowKit
end Go.Proofs.YtncbhnkhbohejaaDoor
namespace Go.Proofs.YtncbhnkhbohejaaDoor
open Go Go.ChangeShapes Go.WideShapes Go.ChangeAt Go.RowKit
/-- A number that an int holds. -/
def in64Q (n : Int) : Prop := -9223372036854775808 ≤ n ∧ n ≤ 9223372036854775807
/-- A slice of numbers. -/
theorem open_nsQ {H : Type} {enc : TypeId × Value → H} {W : World} {a : Option Addr} {len cap : Nat} {d : DataW H} {p : List MemPlace} (h : DataW.Trod enc Tryd.prog W 0 (fun _ => true) true 50 (.slice a len cap) d p) :
    ∃ ns, IntsQ W (.slice a len cap) ns ∧ ns.length ≤ 9223372036854775807 ∧ ∀ n ∈ ns, in64Q n := by
  obtain ⟨fuel, hf⟩ := h
  rcases open_ints Tryd.underlying50 Tryd.underlying3 (by kernel_rfl) hf with ⟨hcs, _⟩ | ⟨x, l, c, zs, hcs, _, hl, hm, hz, _, hcell, hwz⟩
  · simp [Value.cells] at hcs
    obtain ⟨rfl, rfl, rfl⟩ := hcs
    exact ⟨[], ⟨none, 0, rfl, Nat.le_refl _, fun _ => rfl, fun h => by simp at h⟩, by simp, fun n hn => by simp at hn⟩
  · simp [Value.cells] at hcs
    obtain ⟨rfl, rfl, rfl⟩ := hcs
    have hz' : zs.length = cap := by simpa using hz
    have hm' : cap ≤ 9223372036854775807 := hm
    refine ⟨zs.take len, ⟨some x, cap, ?_, ?_, (fun h => by cases h), fun hp => ?_⟩, by rw [List.length_take]; omega, fun n hn => lit_i64 n (hwz n (List.mem_of_mem_take hn))⟩
    · rw [List.length_take, Nat.min_eq_left (by omega)]
    · rw [List.length_take]; omega
    · rw [List.length_take] at hp
      obtain ⟨b, off, rfl, hc'⟩ := ints_at hcell (by omega)
      refine ⟨b, off, rfl, fun j hj => ?_⟩
      rw [List.length_take] at hj
      rw [hc' j (by omega)]
      have hjz : j < zs.length := by omega
      simp [hjz, show j < len by omega]
end Go.Proofs.YtncbhnkhbohejaaDoor
