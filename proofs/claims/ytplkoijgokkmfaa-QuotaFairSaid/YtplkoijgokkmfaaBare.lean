/-
  Quotas: Drop, and the chapter's example.
-/
import Derived.Test.YtplkoijgokkmfaaB3
import Derived.Test.YtplkoijgokkmfaaProg
import Derived.Shelf.AbstractIn
import Derived.Shelf.SlIterI.Nil
import Derived.Shelf.SortM.Plain
import Derived.Shelf.SortM.SortNone
import Derived.Test.YtplkoijgokkmfaaB1
import Derived.Test.YtplkoijgokkmfaaRows
import Derived.ProofKit
import Derived.OpenShut
import Derived.ChangeOld
import Derived.Below
import Derived.Deep.DeepHandedRow
import Derived.Deep.Matrix
import Derived.Deep.Slices
namespace Go.Proofs.Ytplkoijgokkmfaa
open Go Go.RowKit
theorem grown_belowQ {w w1 : World} {p : Nat} (h : w.grownBy w1 (some p)) {B : Nat} (hB : B ≤ p) (hs : B ≤ w.heap.size) : Below B w w1 := ⟨h.os, h.tape, h.output, h.size, fun i hi => h.block i (by omega) (fun e => by injection e with e; omega)⟩
theorem tk1 : takeE [] 1 9 5 = 0 ∧ takeN [] 1 9 5 = [⟨9, 0, 1⟩] ∧ takeE [⟨9, 0, 1⟩] 1 9 31 = 15 ∧ takeN [⟨9, 0, 1⟩] 1 9 31 = [⟨9, 0, 1⟩] ∧ takeE [⟨9, 0, 1⟩] 1 9 32 = 0 := by
  have e1 : takeE [] 1 9 5 = 0 := by decide +kernel
  have e2 : takeE [⟨9, 0, 1⟩] 1 9 31 = 15 := by decide +kernel
  refine ⟨e1, ?_, e2, ?_, by decide +kernel⟩
  · unfold takeN; rw [if_pos e1]; rfl
  · unfold takeN; rw [if_neg (by rw [e2]; decide)]
set_option maxRecDepth 100000 in
set_option maxHeartbeats 4000000 in
theorem known11_any (w : World) : Calls Try.prog 9 #[] w fun e w' => e = .returned (.bool true) ∧ Below w.heap.size w w' := by
  have HN := Bx.mk (qnew_ok 1 w (by omega) (by omega))
  have HT := Bx.mk fun (q M : Nat) (l : List En) (s t : Int) (W : World) (h : QB W q M 1 l) (hs : in64 s) (ht : in64 t) (hok : OkQ 1 l) => qtake_any q M 1 l s t W h hs ht hok (by omega) (by omega)
  obtain ⟨e1, e2, e3, e4, e5⟩ := tk1
  have HE := Bx.mk (And.intro e1 (And.intro e2 (And.intro e3 (And.intro e4 e5))))
  clear e1 e2 e3 e4 e5
  go_enter Try.func9, Try.ntmps9
  go_wp2_with fail
  refine HN.out.mono ?_
  rintro e w1 ⟨q, M, rfl, hq, hM, hb, h⟩
  have R1 := Bx.mk (And.intro (And.intro hq hM) (And.intro hb h))
  clear hq hM hb h HN
  go_wp2_with fail
  have T1 := HT.out q M [] 9 5 w1 R1.out.2.2 (by unfold in64; omega) (by unfold in64; omega) (ok_nil 1)
  rw [HE.out.1, HE.out.2.1] at T1
  refine T1.mono ?_
  rintro e w2 ⟨rfl, h, hg⟩
  have R2 := Bx.mk (And.intro R1.out.1 (And.intro (R1.out.2.1.trans (grown_belowQ hg R1.out.1.2 R1.out.2.1.size)) h))
  clear h hg T1 R1
  have hok : OkQ 1 [⟨9, 0, 1⟩] := fun x hx => by obtain rfl : x = ⟨9, 0, 1⟩ := by simpa using hx
                                                 exact ⟨Int.le_refl _, Int.le_refl _, Int.le_refl _⟩
  have HO := Bx.mk hok
  clear hok
  go_wp2_with fail
  have T2 := HT.out q M [⟨9, 0, 1⟩] 9 31 w2 R2.out.2.2 (by unfold in64; omega) (by unfold in64; omega) HO.out
  rw [HE.out.2.2.1, HE.out.2.2.2.1] at T2
  refine T2.mono ?_
  rintro e w3 ⟨rfl, h, hg⟩
  have R3 := Bx.mk (And.intro R2.out.1 (And.intro (R2.out.2.1.trans (grown_belowQ hg R2.out.1.2 R2.out.2.1.size)) h))
  clear h hg T2 R2
  go_wp2_with fail
  have T3 := HT.out q M [⟨9, 0, 1⟩] 9 32 w3 R3.out.2.2 (by unfold in64; omega) (by unfold in64; omega) HO.out
  rw [HE.out.2.2.2.2] at T3
  refine T3.mono ?_
  rintro e w4 ⟨rfl, h, hg⟩
  have R4 := Bx.mk (R3.out.2.1.trans (grown_belowQ hg R3.out.1.2 R3.out.2.1.size))
  clear h hg T3 R3
  go_wp2
  go_ret
  exact ⟨rfl, R4.out⟩
end Go.Proofs.Ytplkoijgokkmfaa
namespace Go.Proofs.Ytplkoijgokkmfaa
open Go Go.ChangeShapes Go.WideShapes Go.ChangeAt Go.RowKit
/-- A call: its kind, a sender, a tick. -/
structure AcQ where
  k : Int
  s : Int
  t : Int
def AcQ.zero : AcQ := ⟨0, 0, 0⟩
/-- A call's numbers are numbers. -/
def AcQ.fit (a : AcQ) : Prop := in64 a.k ∧ in64 a.s ∧ in64 a.t
/-- Calls behind a slice. -/
def ActsQ (w : World) (v : Value) (acs : List AcQ) : Prop :=
  ∃ a cap, v = .slice a acs.length cap ∧ acs.length ≤ cap ∧ (a = none → cap = 0) ∧ (0 < acs.length → ∃ b o, a = some ⟨b, o, none⟩ ∧ ∀ i, i < acs.length → w.rangeAt b (o + i * 3) [.int .i64 (acs.getD i AcQ.zero).k, .int .i64 (acs.getD i AcQ.zero).s, .int .i64 (acs.getD i AcQ.zero).t] ∧ (acs.getD i AcQ.zero).fit)
theorem range_actsQ {w w1 : World} {b o : Nat} {x : Value} {l : List Value} (h : w.rangeAt b o (x :: l)) (hb : Below w.heap.size w w1) : w1.rangeAt b o (x :: l) := fun j u hj => by
  have h1 := h j u hj
  rw [hb.cell (World.block_lt_of_cell? _ _ h1)]
  exact h1
theorem ActsQ.later {w w1 : World} {v : Value} {acs : List AcQ} (h : ActsQ w v acs) (hb : Below w.heap.size w w1) : ActsQ w1 v acs := by
  obtain ⟨a, cap, hv, hc, hn, hr⟩ := h
  refine ⟨a, cap, hv, hc, hn, fun hp => ?_⟩
  obtain ⟨b, o, ha, hi⟩ := hr hp
  refine ⟨b, o, ha, fun i hil => ?_⟩
  obtain ⟨h1, h3⟩ := hi i hil
  exact ⟨range_actsQ h1 hb, h3⟩
set_option maxRecDepth 100000 in
theorem act_inQ {H : Type} {enc : TypeId × Value → H} {W : World} {fuel : Nat} {cs : List Value} {x : DataW H × List MemPlace} (h : DataW.trod enc Try.prog W 0 (fun _ => true) true fuel 31 cs = some x) :
    ∃ a : AcQ, cs = [.int .i64 a.k, .int .i64 a.s, .int .i64 a.t] ∧ a.fit := by
  obtain ⟨xs, n, -, -, hlen, hxl, hf⟩ := DataW.trod_struct Try.underlying31 h
  have hl3 : cs.length = 3 := hlen.trans (by kernel_rfl)
  have hx3 : xs.length = 3 := hxl
  match cs, hl3, xs, hx3 with
  | [c0, c1, c2], _, [y0, y1, y2], _ =>
    have g0 : DataW.trod enc Try.prog W 0 (fun _ => true) true n 3 [c0] = some y0 := hf 0 _ rfl
    have g1 : DataW.trod enc Try.prog W 0 (fun _ => true) true n 3 [c1] = some y1 := hf 1 _ rfl
    have g2 : DataW.trod enc Try.prog W 0 (fun _ => true) true n 3 [c2] = some y2 := hf 2 _ rfl
    obtain ⟨s, e0, -, w0⟩ := DataW.trod_int Try.underlying3 g0
    obtain ⟨m, e1, -, w1⟩ := DataW.trod_int Try.underlying3 g1
    obtain ⟨q, e2, -, w2⟩ := DataW.trod_int Try.underlying3 g2
    simp at e0 e1 e2
    subst e0 e1 e2
    exact ⟨⟨s, m, q⟩, rfl, lit_i64 s w0, lit_i64 m w1, lit_i64 q w2⟩
set_option maxRecDepth 100000 in
theorem open_actsQ {H : Type} {enc : TypeId × Value → H} {W : World} {a : Option Addr} {len cap : Nat} {d : DataW H} {p : List MemPlace} (h : DataW.Trod enc Try.prog W 0 (fun _ => true) true 22 (.slice a len cap) d p) :
    ∃ acs, ActsQ W (.slice a len cap) acs ∧ acs.length ≤ 9223372036854775807 := by
  obtain ⟨fuel, hf⟩ := h
  rcases Deep.open_slice Try.underlying22 hf with ⟨hcs, _⟩ | ⟨x, l, c, m, n, D, Pl, hcs, _, hl, hm, hmm, _, hi⟩
  · simp [Value.cells] at hcs
    obtain ⟨rfl, rfl, rfl⟩ := hcs
    exact ⟨[], ⟨none, 0, rfl, Nat.le_refl _, fun _ => rfl, fun h => absurd h (by simp)⟩, by simp⟩
  · simp [Value.cells] at hcs
    obtain ⟨rfl, rfl, rfl⟩ := hcs
    have hcm : cap ≤ 9223372036854775807 := hm
    have hm2 : m = cap := by simpa using hmm
    have hC : Try.prog.cellsOf 31 = 3 := by kernel_rfl
    have hrow : ∀ i, i < len → ∃ A : AcQ, (∀ j y, [Value.int .i64 A.k, .int .i64 A.s, .int .i64 A.t][j]? = some y → W.cell? (x.add (i * 3 + j)) = some y) ∧ A.fit := fun i hil => by
      obtain ⟨cs', hc', ht⟩ := hi i (by omega)
      rw [hC] at hc'
      obtain ⟨_, hcl, hat⟩ := World.cells?_some hc'
      obtain ⟨o, e, hr⟩ := act_inQ ht
      refine ⟨o, fun j y hj => ?_, hr⟩
      have hj3 : j < 3 := by have := (List.getElem?_eq_some_iff.1 hj).1; simpa using this
      rw [← Deep.add_add, hat j hj3, e]
      exact hj
    haveI : Inhabited AcQ := ⟨AcQ.zero⟩
    obtain ⟨f, hfb⟩ := Deep.choose_lt hrow
    have hlen : ((List.range len).map f).length = len := by simp
    refine ⟨(List.range len).map f, ⟨some x, cap, by rw [hlen], by rw [hlen]; exact hl, (fun h => by cases h), fun hp => ?_⟩, by rw [hlen]; omega⟩
    rw [hlen] at hp
    obtain ⟨hc0, -⟩ := hfb 0 hp
    have h00 := hc0 0 _ rfl
    obtain ⟨b, off, spot⟩ := x
    have hspot : spot = none := by simpa [Addr.add] using World.cell?_spot h00
    subst hspot
    refine ⟨b, off, rfl, fun i hi2 => ?_⟩
    rw [hlen] at hi2
    have e : ((List.range len).map f).getD i AcQ.zero = f i := by simp [hi2]
    rw [e]
    obtain ⟨hc1, hr1⟩ := hfb i hi2
    refine ⟨fun j y hj => ?_, hr1⟩
    have := hc1 j y hj
    rw [Go.WideShapes.add_plain] at this
    show W.cell? ⟨b, off + i * 3 + j, none⟩ = some y
    rw [Nat.add_assoc]
    exact this
/-- A call's three cells. -/
theorem ActsQ.cells {w : World} {b o n cap : Nat} {acs : List AcQ} (h : ActsQ w (.slice (some ⟨b, o, none⟩) n cap) acs) (i : Nat) (hi : i < acs.length) :
    w.cell? ⟨b, o + i * 3, none⟩ = some (.int .i64 (acs.getD i AcQ.zero).k) ∧ w.cell? ⟨b, o + i * 3 + 1, none⟩ = some (.int .i64 (acs.getD i AcQ.zero).s) ∧ w.cell? ⟨b, o + i * 3 + 2, none⟩ = some (.int .i64 (acs.getD i AcQ.zero).t) ∧ (acs.getD i AcQ.zero).fit := by
  obtain ⟨a', cap', hv, hc, hn, hr⟩ := h
  obtain ⟨b', o', ha, hx⟩ := hr (by omega)
  injection hv with e1 e2 e3
  rw [ha] at e1
  injection e1 with e1
  injection e1 with e4 e5
  subst e4 e5
  obtain ⟨h1, h2⟩ := hx i hi
  exact ⟨h1 0 _ rfl, h1 1 _ rfl, h1 2 _ rfl, h2⟩
theorem ActsQ.some {w : World} {v : Value} {acs : List AcQ} (h : ActsQ w v acs) (hp : 0 < acs.length) : ∃ b o cap, v = .slice (some ⟨b, o, none⟩) acs.length cap := by
  obtain ⟨a', cap', hv, hc, hn, hr⟩ := h
  obtain ⟨b, o, ha, -⟩ := hr hp
  exact ⟨b, o, cap', by rw [hv, ha]⟩
theorem ActsQ.form {w : World} {v : Value} {acs : List AcQ} (h : ActsQ w v acs) : ∃ a cap, v = .slice a acs.length cap := by
  obtain ⟨a', cap', hv, -⟩ := h
  exact ⟨a', cap', hv⟩
end Go.Proofs.Ytplkoijgokkmfaa
namespace Go.Proofs.Ytplkoijgokkmfaa
open Go Go.RowKit
set_option maxRecDepth 100000 in
theorem open92 {a : Act} (h : Fr 92 a) : ∃ x : Nat → Value, a = ⟨List.toArray (x 0 :: x 1 :: x 2 :: x 3 :: x 4 :: x 5 :: x 6 :: x 7 :: x 8 :: x 9 :: x 10 :: x 11 :: x 12 :: x 13 :: x 14 :: x 15 :: x 16 :: x 17 :: x 18 :: x 19 :: x 20 :: x 21 :: x 22 :: x 23 :: x 24 :: x 25 :: x 26 :: x 27 :: x 28 :: x 29 :: x 30 :: x 31 :: x 32 :: x 33 :: x 34 :: x 35 :: x 36 :: x 37 :: x 38 :: x 39 :: x 40 :: x 41 :: x 42 :: x 43 :: x 44 :: x 45 :: x 46 :: x 47 :: x 48 :: x 49 :: x 50 :: x 51 :: x 52 :: x 53 :: x 54 :: x 55 :: x 56 :: x 57 :: x 58 :: x 59 :: x 60 :: x 61 :: x 62 :: x 63 :: x 64 :: x 65 :: x 66 :: x 67 :: x 68 :: x 69 :: x 70 :: x 71 :: x 72 :: x 73 :: x 74 :: x 75 :: x 76 :: x 77 :: x 78 :: x 79 :: x 80 :: x 81 :: x 82 :: x 83 :: x 84 :: x 85 :: x 86 :: x 87 :: x 88 :: x 89 :: x 90 :: x 91 :: []), []⟩ ∧ ∀ i, a.eval (.tmp i) = x i := ⟨fun i => a.tmps.getD i undef, h.form, fun _ => rfl⟩
theorem atQ_map (l : List En) (c : En) (s : Int) : atQ (l.map fun x => if x.s = c.s then c else x) s = if s = c.s then (if hasQ l s = true then some c else none) else atQ l s := by
  unfold hasQ
  induction l with
  | nil => simp [atQ]
  | cons x l ih =>
    unfold atQ at ih ⊢
    rw [List.map_cons, List.find?_cons, List.find?_cons]
    by_cases hx : x.s = c.s
    · rw [if_pos hx]
      by_cases hs : s = c.s
      · rw [if_pos hs, show decide (c.s = s) = true from decide_eq_true hs.symm, show decide (x.s = s) = true from decide_eq_true (hx.trans hs.symm)]
        simp
      · rw [if_neg hs, show decide (c.s = s) = false from decide_eq_false (fun e => hs e.symm), show decide (x.s = s) = false from decide_eq_false (fun e => hs (e.symm.trans hx))]
        rw [if_neg hs] at ih
        exact ih
    · rw [if_neg hx]
      by_cases hs : s = c.s
      · rw [if_pos hs] at ih ⊢
        rw [show decide (x.s = s) = false from decide_eq_false (fun e => hx (e.trans hs))]
        exact ih
      · rw [if_neg hs] at ih ⊢
        cases decide (x.s = s)
        · exact ih
        · rfl
theorem atQ_put (l : List En) (c : En) (s : Int) : atQ (putQ l c) s = if s = c.s then some c else atQ l s := by
  unfold putQ
  split
  · rename_i h
    rw [atQ_map]
    by_cases hs : s = c.s
    · rw [if_pos hs, if_pos hs, hs, if_pos h]
    · rw [if_neg hs, if_neg hs]
  · rename_i h
    have h0 : atQ l c.s = none := by
      unfold hasQ at h
      cases h1 : atQ l c.s with
      | none => rfl
      | some x => rw [h1] at h; simp at h
    by_cases hs : s = c.s
    · subst hs
      rw [if_pos rfl]
      unfold atQ at h0 ⊢
      rw [List.find?_append, h0]
      simp
    · rw [if_neg hs]
      unfold atQ
      rw [List.find?_append]
      have : ([c].find? fun x => decide (x.s = s)) = none := by
        rw [List.find?_cons, show decide (c.s = s) = false from decide_eq_false (fun e => hs e.symm)]
        rfl
      rw [this]
      simp
theorem atQ_take (l : List En) (n s t u : Int) (h : u ≠ s) : atQ (takeN l n s t) u = atQ l u := by
  unfold takeN
  split
  · rw [atQ_put, if_neg h]
  · rfl
/-- Two quotas that hold the same of a sender. -/
structure AlikeQ (l m : List En) (s : Int) : Prop where
  e : atQ l s = atQ m s
  i : hasQ l s = true
theorem AlikeQ.per {l m : List En} {s : Int} (h : AlikeQ l m s) : perQ l s = perQ m s := by unfold perQ; rw [h.e]
theorem AlikeQ.tms {l m : List En} {s p : Int} (h : AlikeQ l m s) : tmsQ l s p = tmsQ m s p := by unfold tmsQ cntQ; rw [h.per, h.e]
theorem AlikeQ.has {l m : List En} {s : Int} (h : AlikeQ l m s) : hasQ m s = true := by have := h.i; unfold hasQ at this ⊢; rw [← h.e]; exact this
theorem AlikeQ.ref {l m : List En} {s t : Int} (h : AlikeQ l m s) : refK l s t = refK m s t := by unfold refK; rw [h.per]
theorem AlikeQ.take {l m : List En} {s n t : Int} (h : AlikeQ l m s) : takeE l n s t = takeE m n s t := by
  unfold takeE
  rw [h.ref, h.tms, h.i, h.has]
  simp
theorem AlikeQ.left {l m : List En} {s n t : Int} (h : AlikeQ l m s) : leftK l n s t = leftK m n s t := by unfold leftK; rw [h.ref, h.tms]
theorem has_put (l : List En) (c : En) (s : Int) : hasQ (putQ l c) s = (decide (s = c.s) || hasQ l s) := by
  unfold hasQ
  rw [atQ_put]
  by_cases hs : s = c.s
  · rw [if_pos hs, decide_eq_true hs]; rfl
  · rw [if_neg hs, decide_eq_false hs]; rfl
theorem AlikeQ.next {l m : List En} {s n t : Int} (h : AlikeQ l m s) : AlikeQ (takeN l n s t) (takeN m n s t) s := by
  unfold takeN
  rw [← h.take]
  split
  · refine ⟨?_, ?_⟩
    · rw [atQ_put, atQ_put, if_pos rfl, if_pos rfl, h.tms]
    · rw [has_put]; simp
  · exact h
theorem AlikeQ.other {l m : List En} {s u n t : Int} (h : AlikeQ l m s) (hu : s ≠ u) : AlikeQ (takeN l n u t) m s := by
  refine ⟨by rw [atQ_take _ _ _ _ _ hu]; exact h.e, ?_⟩
  have := h.i
  unfold hasQ at this ⊢
  rw [atQ_take _ _ _ _ _ hu]; exact this
theorem lowR (a : Int) (m : Nat) (hm : 0 < m) (hm2 : m ≤ 1000000) : ∃ x : Nat, x < m ∧ wrap64 ((IntKind.u64.wrap a).tmod (m : Int)) = (x : Int) := by
  have h0 : 0 ≤ IntKind.u64.wrap a := by rw [IntKind.wrap_u64]; omega
  rw [Int.tmod_eq_emod_of_nonneg h0]
  generalize IntKind.u64.wrap a = z at h0
  have h1 := Int.emod_lt_of_pos z (show (0 : Int) < (m : Int) by omega)
  have h2 := Int.emod_nonneg z (show (m : Int) ≠ 0 by omega)
  refine ⟨(z % (m : Int)).toNat, by omega, ?_⟩
  rw [IntWalk.wrap64_in _ (by omega)]
  omega
/-- Two quotas in one world. -/
structure TF (w : World) (q1 M1 q2 M2 : Nat) (n : Int) (la lb : List En) (W : World) : Prop where
  below : Below w.heap.size w W
  a : QB W q1 M1 n la
  b : QB W q2 M2 n lb
  ne : q2 ≠ M1 ∧ M2 ≠ M1 ∧ q1 ≠ M2
  ge : w.heap.size ≤ M1 ∧ w.heap.size ≤ M2
  oa : OkQ n la
  ob : OkQ n lb
theorem TF.later {w : World} {q1 M1 q2 M2 : Nat} {n : Int} {la lb : List En} {W W1 : World} (h : TF w q1 M1 q2 M2 n la lb W) (hb : Below W.heap.size W W1) : TF w q1 M1 q2 M2 n la lb W1 :=
  ⟨h.below.trans (hb.mono h.below.size), h.a.later hb, h.b.later hb, h.ne, h.ge, h.oa, h.ob⟩
theorem TF.takeA {w : World} {q1 M1 q2 M2 : Nat} {n : Int} {la lb l1 : List En} {W W1 : World} (h : TF w q1 M1 q2 M2 n la lb W) (ha : QB W1 q1 M1 n l1) (hg : W.grownBy W1 (some M1)) (ho : OkQ n l1) : TF w q1 M1 q2 M2 n l1 lb W1 :=
  ⟨h.below.trans (grown_belowQ hg h.ge.1 h.below.size), ha, h.b.aside hg h.ne.1 h.ne.2.1, h.ne, h.ge, ho, h.ob⟩
theorem TF.takeB {w : World} {q1 M1 q2 M2 : Nat} {n : Int} {la lb l1 : List En} {W W1 : World} (h : TF w q1 M1 q2 M2 n la lb W) (hb : QB W1 q2 M2 n l1) (hg : W.grownBy W1 (some M2)) (ho : OkQ n l1) : TF w q1 M1 q2 M2 n la l1 W1 :=
  ⟨h.below.trans (grown_belowQ hg h.ge.2 h.below.size), h.a.aside hg h.ne.2.2 (fun e => h.ne.2.1 e.symm), hb, h.ne, h.ge, h.oa, ho⟩
/-- What stays in the frame. -/
structure FQ (v1 v5 v7 : Value) (a : Act) : Prop where
  fr : Fr 92 a
  s1 : a.eval (.tmp 1) = v1
  s5 : a.eval (.tmp 5) = v5
  s7 : a.eval (.tmp 7) = v7
/-- Between two rounds. -/
structure IF (w : World) (q1 M1 q2 M2 : Nat) (n : Int) (v1 : Value) (k : Nat) (a : Act) (W : World) : Prop where
  fq : FQ v1 (.pointer (some ⟨q1, 0, none⟩)) (.pointer (some ⟨q2, 0, none⟩)) a
  s9 : a.eval (.tmp 9) = .int .i64 (k : Int)
  st : ∃ la lb, TF w q1 M1 q2 M2 n la lb W ∧ AlikeQ la lb 1
set_option maxRecDepth 100000 in
set_option maxHeartbeats 4000000 in
theorem roundF (w : World) (acs : List AcQ) (q1 M1 q2 M2 : Nat) (n : Int) (v1 : Value) (hv : ActsQ w v1 acs) (hn : acs.length ≤ 9223372036854775807) (n1 : 1 ≤ n) (n2 : n ≤ 255)
    (Q : Exit → Act → World → Prop) (k : Nat) (a : Act) (wr : World) (hk : k < acs.length) (hk6 : k < 60) (h : IF w q1 M1 q2 M2 n v1 k a wr) :
    Code.wp Try.prog (loopAt (Try.f7.body) 0) (Exit.then (fun a' w' => IF w q1 M1 q2 M2 n v1 (k + 1) a' w') Q) a wr := by
  obtain ⟨hf, s9, la, lb, hT, hA⟩ := h
  have HN := Bx.mk (And.intro n1 n2)
  have HTk := Bx.mk fun (q M : Nat) (l : List En) (s t : Int) (W : World) (h : QB W q M n l) (ho : OkQ n l) (hs : in64 s) (ht : in64 t) => qtake_any q M n l s t W h hs ht ho n1 n2
  have HLf := Bx.mk fun (q M : Nat) (l : List En) (s t : Int) (W : World) (h : QB W q M n l) (ho : OkQ n l) (hs : in64 s) (ht : in64 t) => left_any q M n l s t W h hs ht ho (by omega) n2
  obtain ⟨b, o, cap, rfl⟩ := hv.some (by omega)
  obtain ⟨m, hm⟩ : ∃ m, acs.length = m := ⟨_, rfl⟩
  obtain ⟨c0, c1, c2, cf⟩ := (hv.later hT.below).cells k hk
  rw [hm] at hk hn hf ⊢
  generalize acs.getD k AcQ.zero = ac at *
  obtain ⟨ak, sd, at'⟩ := ac
  obtain ⟨x, hx9, ex⟩ := lowR at' 1000 (by omega) (by omega)
  have ex' : wrap64 ((IntKind.u64.wrap at').tmod 1000) = (x : Int) := ex
  have HX : Bx (in64 (x : Int) ∧ in64 1 ∧ in64 2) := Bx.mk ⟨by unfold in64; omega, by unfold in64; omega, by unfold in64; omega⟩
  have R0 := Bx.mk (And.intro hT hA)
  have HBl : Bx (∀ i v, wr.cell? ⟨b, i, none⟩ = some v → b < w.heap.size) := Bx.mk fun _ _ _ => World.block_lt_of_cell? _ _ (hv.cells k (by rw [hm]; exact hk)).1
  have k1 : (k : Int) < 60 := by omega
  have k2 : (k : Int) < (m : Int) := by omega
  have k0 : (0 : Int) ≤ (k : Int) := by omega
  have m1 : (m : Int) ≤ 9223372036854775807 := by omega
  clear hk hk6 hn hm hT hA hv cf ex c0 n1 n2
  obtain ⟨y, rfl, hx⟩ := open92 hf.fr
  have e1 := (hx 1).symm.trans hf.s1
  have e5 := (hx 5).symm.trans hf.s5
  have e7 := (hx 7).symm.trans hf.s7
  have e9 := (hx 9).symm.trans s9
  clear hf hx s9
  rw [e1, e5, e7, e9]
  clear e1 e5 e7 e9
  conv => arg 2; whnf
  go_wp2_with fail
  refine (HTk.out q1 M1 la 2 (x : Int) wr R0.out.1.a R0.out.1.oa HX.out.2.2 HX.out.1).mono ?_
  rintro e w1 ⟨rfl, hq, hg⟩
  have R1 := Bx.mk (And.intro (R0.out.1.takeA hq hg (takeN_ok R0.out.1.oa HN.out.1 2 (x : Int))) (R0.out.2.other (n := n) (t := (x : Int)) (by decide : (1 : Int) ≠ 2)))
  have hc1 : w1.cell? ⟨b, o + k * 3 + 1, none⟩ = some (.int .i64 sd) := by rw [(grown_belowQ hg R0.out.1.ge.1 R0.out.1.below.size).cell (p := ⟨b, o + k * 3 + 1, none⟩) (HBl.out _ _ c1)]; exact c1
  clear hq hg R0 c1 c2
  generalize takeN la n 2 (x : Int) = la1 at *
  generalize takeE la n 2 (x : Int) = ea at *
  by_cases hs : bits .and .i64 sd 1 = 0
  · go_wp2
    exact ⟨⟨⟨rfl, rfl⟩, rfl, rfl, rfl⟩, by first | rfl | go_num, _, _, R1.out⟩
  · go_wp2_with fail
    refine (HTk.out q1 M1 la1 1 (x : Int) w1 R1.out.1.a R1.out.1.oa HX.out.2.1 HX.out.1).mono ?_
    rintro e w2 ⟨rfl, hq, hg⟩
    have R2 := Bx.mk (R1.out.1.takeA hq hg (takeN_ok R1.out.1.oa HN.out.1 1 (x : Int)))
    have hE1 := R1.out.2.take (n := n) (t := (x : Int))
    have HA2 := Bx.mk (R1.out.2.next (n := n) (t := (x : Int)))
    clear hq hg R1
    rw [hE1]
    generalize takeN la1 n 1 (x : Int) = la2 at *
    go_wp2_with fail
    refine (HTk.out q2 M2 lb 1 (x : Int) w2 R2.out.b R2.out.ob HX.out.2.1 HX.out.1).mono ?_
    rintro e w3 ⟨rfl, hq, hg⟩
    have R3 := Bx.mk (R2.out.takeB hq hg (takeN_ok R2.out.ob HN.out.1 1 (x : Int)))
    clear hq hg R2 hE1
    generalize takeN lb n 1 (x : Int) = lb2 at *
    generalize takeE lb n 1 (x : Int) = eb at *
    go_wp2_with fail
    refine (HLf.out q1 M1 la2 1 (x : Int) w3 R3.out.a R3.out.oa HX.out.2.1 HX.out.1).mono ?_
    rintro e w4 ⟨rfl, hb⟩
    have R4 := Bx.mk (R3.out.later hb)
    clear hb R3
    rw [HA2.out.left]
    go_wp2_with fail
    refine (HLf.out q2 M2 lb2 1 (x : Int) w4 R4.out.b R4.out.ob HX.out.2.1 HX.out.1).mono ?_
    rintro e w5 ⟨rfl, hb⟩
    have R5 := Bx.mk (R4.out.later hb)
    clear hb R4
    generalize leftK lb2 n 1 (x : Int) = lf at *
    go_wp2
    exact ⟨⟨⟨rfl, rfl⟩, rfl, rfl, rfl⟩, by first | rfl | go_num, _, _, R5.out, HA2.out⟩
set_option maxRecDepth 100000 in
set_option maxHeartbeats 4000000 in
theorem lastF (w : World) (acs : List AcQ) (q1 M1 q2 M2 : Nat) (n : Int) (v1 : Value) (hv : ActsQ w v1 acs) (hn : acs.length ≤ 9223372036854775807) (k : Nat) (hk : k ≤ acs.length) (hk6 : k ≤ 60) (hend : acs.length ≤ k ∨ k = 60)
    (Q : Exit → Act → World → Prop) (N : Act → World → Prop) (hq : ∀ a' w', Fr 92 a' → Below w.heap.size w w' → Q (.exit 0) a' w') (a : Act) (wr : World) (h : IF w q1 M1 q2 M2 n v1 k a wr) :
    Code.wp Try.prog (loopAt (Try.f7.body) 0) (Exit.then N Q) a wr := by
  obtain ⟨hf, s9, la, lb, hT, -⟩ := h
  have HB := Bx.mk hT.below
  have HQ := Bx.mk hq
  obtain ⟨a0, cap, rfl⟩ := hv.form
  obtain ⟨m, hm⟩ : ∃ m, acs.length = m := ⟨_, rfl⟩
  rw [hm] at hk hn hf hend
  have k0 : (0 : Int) ≤ (k : Int) := by omega
  have m1 : (m : Int) ≤ 9223372036854775807 := by omega
  obtain ⟨y, rfl, hx⟩ := open92 hf.fr
  have e1 := (hx 1).symm.trans hf.s1
  have e5 := (hx 5).symm.trans hf.s5
  have e7 := (hx 7).symm.trans hf.s7
  have e9 := (hx 9).symm.trans s9
  clear hf hx s9 hT hq hv hm
  rw [e1, e5, e7, e9]
  clear e1 e5 e7 e9
  conv => arg 2; whnf
  by_cases hlt : k < m
  · have h1 : (k : Int) < (m : Int) := by omega
    have h2 : ¬ (k : Int) < 60 := by omega
    clear hend hlt hk hk6 hn
    go_wp2
    exact HQ.out _ _ ⟨rfl, rfl⟩ HB.out
  · have h1 : ¬ (k : Int) < (m : Int) := by omega
    clear hend hlt hk hk6 hn
    go_wp2
    exact HQ.out _ _ ⟨rfl, rfl⟩ HB.out
theorem loopF (w : World) (acs : List AcQ) (q1 M1 q2 M2 : Nat) (n : Int) (v1 : Value) (hv : ActsQ w v1 acs) (hn : acs.length ≤ 9223372036854775807) (n1 : 1 ≤ n) (n2 : n ≤ 255)
    (Q : Exit → Act → World → Prop) (a : Act) (wr : World) (h : IF w q1 M1 q2 M2 n v1 0 a wr) (hq : ∀ a' w', Fr 92 a' → Below w.heap.size w w' → Q (.exit 0) a' w') :
    Code.wp Try.prog (.loop (loopAt (Try.f7.body) 0)) Q a wr :=
  wp_count (min acs.length 60) (fun k a w' => IF w q1 M1 q2 M2 n v1 k a w') 0 (Nat.zero_le _) h (fun k a w' hk hI => roundF w acs q1 M1 q2 M2 n v1 hv hn n1 n2 Q k a w' (by omega) (by omega) hI) (fun a w' hI => lastF w acs q1 M1 q2 M2 n v1 hv hn _ (by omega) (by omega) (by omega) Q _ hq a w' hI)
end Go.Proofs.Ytplkoijgokkmfaa
namespace Go.Proofs.Ytplkoijgokkmfaa
open Go Go.RowKit
theorem fair1 (n : Int) (h1 : 1 ≤ n) (s : Int) (hs : s = 1 ∨ s = 2) (l : List En) (hl : l.length ≤ 1) (hh : ∀ x ∈ l, x.s ≠ s) : takeE l n s 0 = 0 ∧ takeN l n s 0 = l ++ [⟨s, 0, 1⟩] := by
  have hat := atQ_none hh
  have hp : perQ l s = 0 := by unfold perQ; rw [hat]
  have hc : cntQ l s = 0 := by unfold cntQ; rw [hat]
  have h0 : perT 0 = 0 := by decide
  have hr : refK l s 0 = 0 := by
    unfold refK
    rw [hp, h0, if_neg (by omega), if_neg (by omega)]
  have ht : tmsQ l s (perT 0) = 0 := by
    unfold tmsQ
    rw [hc]
    split <;> rfl
  have he : takeE l n s 0 = 0 := by
    unfold takeE
    rw [if_pos hr, ht, if_neg (by omega), if_neg (fun h => by omega)]
  refine ⟨he, ?_⟩
  unfold takeN
  rw [if_pos he, ht, h0]
  unfold putQ
  rw [if_neg (by rw [(hasQ_false l s).2 hh]; simp)]
  rfl
set_option maxRecDepth 100000 in
set_option maxHeartbeats 4000000 in
theorem fair_all (tm : Int) (acs : List AcQ) (v : Value) (w : World) (hv : ActsQ w v acs) (hn : acs.length ≤ 9223372036854775807) :
    Calls Try.prog 7 #[.int .i64 tm, v] w fun e w' => e = .returned (.bool true) ∧ Below w.heap.size w w' := by
  obtain ⟨x5, hx5, ex⟩ := lowR tm 5 (by omega) (by omega)
  have ex' : wrap64 ((IntKind.u64.wrap tm).tmod 5) = (x5 : Int) := ex
  obtain ⟨n, hnn⟩ : ∃ n : Int, 1 + (x5 : Int) = n := ⟨_, rfl⟩
  have hw5 : IntKind.i64.wrap (1 + (x5 : Int)) = n := by rw [← hnn]; simp [IntKind.wrap_i64]; omega
  have hw6 : wrap64 (1 + (x5 : Int)) = n := by rw [← hnn]; unfold wrap64; omega
  have n1 : 1 ≤ n := by omega
  have n2 : n ≤ 255 := by omega
  have HNw := Bx.mk fun (W : World) => qnew_ok n W n1 n2
  have HTk := Bx.mk fun (q M : Nat) (l : List En) (s t : Int) (W : World) (h : QB W q M n l) (ho : OkQ n l) (hs : in64 s) (ht : in64 t) => qtake_any q M n l s t W h hs ht ho n1 n2
  have HLo := Bx.mk fun (q1 M1 q2 M2 : Nat) (Q : Exit → Act → World → Prop) (a : Act) (wr : World) => loopF w acs q1 M1 q2 M2 n v hv hn n1 n2 Q a wr
  have HN := Bx.mk n1
  have H64 : Bx (in64 0 ∧ in64 1 ∧ in64 2) := Bx.mk ⟨by unfold in64; omega, by unfold in64; omega, by unfold in64; omega⟩
  have F1 : Bx (takeE [] n 1 0 = 0 ∧ takeN [] n 1 0 = [⟨1, 0, 1⟩]) := Bx.mk (fair1 n n1 1 (.inl rfl) [] (by simp) (by simp))
  have F2 := Bx.mk (fair1 n n1 2 (.inr rfl) [⟨1, 0, 1⟩] (by simp) (by simp))
  have HKn := Bx.mk fun (W : World) => known11_any W
  obtain ⟨pa, pc, rfl⟩ := hv.form
  generalize acs.length = pn at *
  clear hv hn ex hx5 hnn n1 n2
  go_enter Try.func7, Try.ntmps7
  go_wp2_with fail
  skip -- M1
  refine (HNw.out w).mono ?_
  rintro e w1 ⟨q1, M1, rfl, g1, g2, hb, hq⟩
  have R1 := Bx.mk (And.intro (And.intro g1 g2) (And.intro hb hq))
  clear g1 g2 hb hq
  go_wp2_with fail
  refine (HNw.out w1).mono ?_
  rintro e w2 ⟨q2, M2, rfl, g1, g2, hb, hq⟩
  have R2 : Bx (TF w q1 M1 q2 M2 n [] [] w2) := Bx.mk (by
    have h1 := R1.out.2.2.lt
    have h2 := R1.out.2.1.size
    exact ⟨R1.out.2.1.trans (hb.mono R1.out.2.1.size), R1.out.2.2.later hb, hq, ⟨by omega, by omega, by omega⟩, ⟨R1.out.1.2, by omega⟩, ok_nil n, ok_nil n⟩)
  clear g1 g2 hb hq R1 HNw
  go_wp2_with fail
  have T1 := HTk.out q1 M1 [] 1 0 w2 R2.out.a R2.out.oa H64.out.2.1 H64.out.1
  have O1 := takeN_ok R2.out.oa HN.out 1 0
  rw [F1.out.1, F1.out.2] at T1
  rw [F1.out.2] at O1
  refine T1.mono ?_
  rintro e w3 ⟨rfl, hq, hg⟩
  have R3 := Bx.mk (R2.out.takeA hq hg O1)
  clear hq hg T1 O1 R2
  go_wp2_with fail
  have T1 := HTk.out q2 M2 [] 1 0 w3 R3.out.b R3.out.ob H64.out.2.1 H64.out.1
  have O1 := takeN_ok R3.out.ob HN.out 1 0
  rw [F1.out.1, F1.out.2] at T1
  rw [F1.out.2] at O1
  refine T1.mono ?_
  rintro e w4 ⟨rfl, hq, hg⟩
  have R4 := Bx.mk (R3.out.takeB hq hg O1)
  clear hq hg T1 O1 R3
  go_wp2_with fail
  have T1 := HTk.out q1 M1 [⟨1, 0, 1⟩] 2 0 w4 R4.out.a R4.out.oa H64.out.2.2 H64.out.1
  have O1 := takeN_ok R4.out.oa HN.out 2 0
  rw [F2.out.1, F2.out.2] at T1
  rw [F2.out.2] at O1
  refine T1.mono ?_
  rintro e w5 ⟨rfl, hq, hg⟩
  have R5 := Bx.mk (R4.out.takeA hq hg O1)
  clear hq hg T1 O1 R4
  have HA : Bx (AlikeQ ([⟨1, 0, 1⟩] ++ [⟨2, 0, 1⟩]) [⟨1, 0, 1⟩] 1) := Bx.mk ⟨rfl, rfl⟩
  go_wp2
  skip -- M2
  refine HLo.out q1 M1 q2 M2 _ _ _ ⟨⟨⟨rfl, rfl⟩, rfl, rfl, rfl⟩, rfl, _, _, R5.out, HA.out⟩ ?_
  intro a6 w6 hf hb
  have HB := Bx.mk hb
  clear hb HLo R5 HA
  obtain ⟨y, rfl, hx⟩ := open92 hf
  clear hf hx
  go_wp2_with fail
  refine (HKn.out w6).mono ?_
  rintro e w7 ⟨rfl, hb⟩
  have HB7 := Bx.mk (HB.out.trans (hb.mono HB.out.size))
  clear hb HB
  go_wp2
  go_ret
  exact ⟨rfl, HB7.out⟩
end Go.Proofs.Ytplkoijgokkmfaa
namespace Go.Proofs.Ytplkoijgokkmfaa
open Go
/-- A world to begin with. -/
noncomputable def laidWorld (os : Os) : World := World.holding Try.prog os ⟨#[], #[], []⟩
end Go.Proofs.Ytplkoijgokkmfaa
