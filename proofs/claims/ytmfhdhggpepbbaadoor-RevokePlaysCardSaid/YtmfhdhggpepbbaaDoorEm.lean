/-
  Revocations: what a delta may say; joined, once more.
-/
import Derived.Test.YtmfhdhggpepbbaaDoorEl
namespace Go.Proofs.YtmfhdhggpepbbaaDoor
open Go Go.RowKit
/-- The versions of a set that takes nothing more. -/
def Full (w : World) : Prop := w.rangeAt 0 0 [.int .i64 256, .int .i64 256, .int .i64 256, .int .i64 256]
theorem Full.later {w w1 : World} (h : Full w) {B : Nat} (hb : Below B w w1) (h0 : 0 < B) : Full w1 := fun j v hv => by
  rw [hb.cell (p := ⟨0, 0 + j, none⟩) h0]
  exact h j v hv
def full4 : V4 := ⟨256, 256, 256, 256⟩
def withinB (v : V4) (l : L4) : Bool := allS l.a && (allS l.b && (allS l.c && (allS l.d && (covV v V4.zero && covV full4 v))))
structure Most (l : L4) (n : Nat) : Prop where
  a : l.a.length ≤ n
  b : l.b.length ≤ n
  c : l.c.length ≤ n
  d : l.d.length ≤ n
def okJ (l1 : List Int) (n : Nat) (l2 : List Int) : Bool := decide (fitL l1 n l2) && !dupB (l1 ++ l2.drop (bothN l1 n l2))
def newJ (l1 : List Int) (n : Nat) (l2 : List Int) : List Int := l1 ++ l2.drop (bothN l1 n l2)
theorem newJ_in {l1 l2 : List Int} {n : Nat} (h1 : ∀ x ∈ l1, okS x = true) (h2 : ∀ x ∈ l2, okS x = true) : ∀ x ∈ newJ l1 n l2, okS x = true := fun x hx => by
  rcases List.mem_append.1 hx with hx | hx
  · exact h1 x hx
  · exact h2 x (List.mem_of_mem_drop hx)
theorem newJ_len (l1 l2 : List Int) (n : Nat) : (newJ l1 n l2).length ≤ l1.length + l2.length := by
  unfold newJ
  rw [List.length_append, List.length_drop]
  omega
theorem joined_yes (l1 l2 : List Int) (n : Nat) (v1 v2 : Value) (w : World) (h1 : IsL w v1 l1) (h2 : IsL w v2 l2) (hn : n ≤ l1.length) (hs1 : l1.length ≤ 1000) (hs2 : l2.length ≤ 1000) (hk1 : ∀ x ∈ l1, okS x = true) (hk2 : ∀ x ∈ l2, okS x = true) (hj : okJ l1 n l2 = true) :
    Calls Tryd.prog 46 #[v1, .int .i64 (n : Int), v2] w fun e w' => ∃ v, e = .returned (.tuple #[v, .bool true]) ∧ IsL w' v (newJ l1 n l2) ∧ Below w.heap.size w w' := by
  unfold okJ at hj
  simp only [Bool.and_eq_true, decide_eq_true_eq, Bool.not_eq_true'] at hj
  refine (joined_ok l1 l2 _ n v1 v2 w h1 h2 hn hs1 hs2 hj.1 rfl (fun x hx => okS_in (newJ_in hk1 hk2 x hx))).mono ?_
  rintro e w' ⟨v, rfl, h⟩
  rw [hj.2]
  exact ⟨v, rfl, h⟩
theorem joined_no (l1 l2 : List Int) (n : Nat) (v1 v2 : Value) (w : World) (h1 : IsL w v1 l1) (h2 : IsL w v2 l2) (hn : n ≤ l1.length) (hs1 : l1.length ≤ 1000) (hs2 : l2.length ≤ 1000) (hk1 : ∀ x ∈ l1, okS x = true) (hk2 : ∀ x ∈ l2, okS x = true) (hj : okJ l1 n l2 = false) :
    Calls Tryd.prog 46 #[v1, .int .i64 (n : Int), v2] w fun e w' => ∃ a n c, e = .returned (.tuple #[.slice a n c, .bool false]) ∧ Below w.heap.size w w' := by
  unfold okJ at hj
  by_cases hf : fitL l1 n l2
  · rw [decide_eq_true hf, Bool.true_and] at hj
    refine (joined_ok l1 l2 _ n v1 v2 w h1 h2 hn hs1 hs2 hf rfl (fun x hx => okS_in (newJ_in hk1 hk2 x hx))).mono ?_
    rintro e w' ⟨v, rfl, hv, hb⟩
    rw [hj]
    obtain ⟨a, c, rfl⟩ := hv.form
    exact ⟨_, _, _, rfl, hb⟩
  · refine (joined_bad l1 l2 n v1 v2 w h1 h2 hn hs1 hs2 hf).mono ?_
    rintro e w' ⟨rfl, hb⟩
    exact ⟨_, _, _, rfl, hb⟩
theorem dRng {W : World} {g : Nat} {a b c d e f h i : Value} {t : TypeId} (hr : W.heap[g]? = some (.cells #[a, b, c, d, e, f, h, i] t (0, 0))) : W.rangeAt g 0 [a, b, c, d] := fun j v hv => by
  rw [cell_of_row _ _ _ _ _ _ hr, Nat.zero_add]
  match j, hv with
  | 0, hv => simpa using hv
  | 1, hv => simpa using hv
  | 2, hv => simpa using hv
  | 3, hv => simpa using hv
set_option maxRecDepth 100000 in
set_option maxHeartbeats 2000000 in
theorem within_any (v : V4) (x : VV) (l : L4) (w : World) (hx : Rows4 w x l) (hm : Most l 1000) (hF : Full w) (hg : 0 < w.heap.size) : Calls Tryd.prog 45 #[.agg (dC v x)] w fun e w' => e = .returned (.bool (withinB v l)) ∧ Below w.heap.size w w' := by
  obtain ⟨z, hz⟩ : ∃ z, withinB v l = z := ⟨_, rfl⟩
  rw [hz]
  have HZ := Bx.mk hz
  obtain ⟨E, hE⟩ : ∃ E, w.heap.size = E := ⟨_, rfl⟩
  have HX : Bx (∀ W, Below w.heap.size w W → Rows4 W x l) := ⟨fun W h => hx.later h⟩
  have HF : Bx (∀ W, Below w.heap.size w W → Full W) := ⟨fun W h => hF.later h hg⟩
  have HM := Bx.mk hm
  obtain ⟨p1, q1, t1, s1, a1, b1, c1, d1, rfl⟩ := hx.forms
  clear hz hx hm hF hg
  unfold dC
  simp only
  have K0 : Bx (KR w E [(E, (.cells #[.int .i64 v.a, .int .i64 v.b, .int .i64 v.c, .int .i64 v.d, .slice p1 l.a.length a1, .slice q1 l.b.length b1, .slice t1 l.c.length c1, .slice s1 l.d.length d1] 41))] (w.alloc (.cells #[.int .i64 v.a, .int .i64 v.b, .int .i64 v.c, .int .i64 v.d, .slice p1 l.a.length a1, .slice q1 l.b.length b1, .slice t1 l.c.length c1, .slice s1 l.d.length d1] 41))) := Bx.mk (by
    subst hE
    exact (KR.start w).new (.cells #[.int .i64 v.a, .int .i64 v.b, .int .i64 v.c, .int .i64 v.d, .slice p1 l.a.length a1, .slice q1 l.b.length b1, .slice t1 l.c.length c1, .slice s1 l.d.length d1] 41))
  have hc : ∀ i u, (#[.int .i64 v.a, .int .i64 v.b, .int .i64 v.c, .int .i64 v.d, .slice p1 l.a.length a1, .slice q1 l.b.length b1, .slice t1 l.c.length c1, .slice s1 l.d.length d1] : Array Value)[i]? = some u → (w.alloc (.cells #[.int .i64 v.a, .int .i64 v.b, .int .i64 v.c, .int .i64 v.d, .slice p1 l.a.length a1, .slice q1 l.b.length b1, .slice t1 l.c.length c1, .slice s1 l.d.length d1] 41)).cell? ⟨E, i, none⟩ = some u := fun i u h => by
    rw [cell_of_row _ _ _ _ _ _ (K0.out.rows _ (.head _))]
    exact h
  have k4 := hc 4 _ rfl
  have k5 := hc 5 _ rfl
  have k6 := hc 6 _ rfl
  have k7 := hc 7 _ rfl
  have i0 := idxL0 (.slice p1 l.a.length a1) (.slice q1 l.b.length b1) (.slice t1 l.c.length c1) (.slice s1 l.d.length d1)
  have i1 := idxL1 (.slice p1 l.a.length a1) (.slice q1 l.b.length b1) (.slice t1 l.c.length c1) (.slice s1 l.d.length d1)
  have i2 := idxL2 (.slice p1 l.a.length a1) (.slice q1 l.b.length b1) (.slice t1 l.c.length c1) (.slice s1 l.d.length d1)
  have i3 := idxL3 (.slice p1 l.a.length a1) (.slice q1 l.b.length b1) (.slice t1 l.c.length c1) (.slice s1 l.d.length d1)
  clear hc
  rw [hE] at HX HF ⊢
  go_enter Tryd.func45, Tryd.ntmps45
  go_wp2
  generalize w.alloc (.cells #[.int .i64 v.a, .int .i64 v.b, .int .i64 v.c, .int .i64 v.d, .slice p1 l.a.length a1, .slice q1 l.b.length b1, .slice t1 l.c.length c1, .slice s1 l.d.length d1] 41) = w0 at *
  clear k4 k5 k6 k7
  refine wp_loop_rounds 5 ?_
  rw [rounds_succ]
  go_wp2_with fail
  refine (allSerials_any l.a _ w0 (HX.out w0 K0.out.below).a (by have := HM.out.a; omega)).mono ?_
  rintro e w1 ⟨rfl, hb⟩
  have K1 := Bx.mk (K0.out.later hb)
  clear hb K0
  cases h0 : allS l.a with
  | false =>
    have HE : Bx (z = false) := ⟨by rw [← HZ.out]; unfold withinB; rw [h0]; simp⟩
    go_wp2
    go_ret
    exact ⟨by rw [HE.out]; rfl, K1.out.below⟩
  | true =>
  go_wp2
  rw [rounds_succ]
  go_wp2_with fail
  refine (allSerials_any l.b _ w1 (HX.out w1 K1.out.below).b (by have := HM.out.b; omega)).mono ?_
  rintro e w2 ⟨rfl, hb⟩
  have K2 := Bx.mk (K1.out.later hb)
  clear hb K1
  cases h1 : allS l.b with
  | false =>
    have HE : Bx (z = false) := ⟨by rw [← HZ.out]; unfold withinB; rw [h1]; simp⟩
    go_wp2
    go_ret
    exact ⟨by rw [HE.out]; rfl, K2.out.below⟩
  | true =>
  go_wp2
  rw [rounds_succ]
  go_wp2_with fail
  refine (allSerials_any l.c _ w2 (HX.out w2 K2.out.below).c (by have := HM.out.c; omega)).mono ?_
  rintro e w3 ⟨rfl, hb⟩
  have K3 := Bx.mk (K2.out.later hb)
  clear hb K2
  cases h2 : allS l.c with
  | false =>
    have HE : Bx (z = false) := ⟨by rw [← HZ.out]; unfold withinB; rw [h2]; simp⟩
    go_wp2
    go_ret
    exact ⟨by rw [HE.out]; rfl, K3.out.below⟩
  | true =>
  go_wp2
  rw [rounds_succ]
  go_wp2_with fail
  refine (allSerials_any l.d _ w3 (HX.out w3 K3.out.below).d (by have := HM.out.d; omega)).mono ?_
  rintro e w4 ⟨rfl, hb⟩
  have K4 := Bx.mk (K3.out.later hb)
  clear hb K3
  cases h3 : allS l.d with
  | false =>
    have HE : Bx (z = false) := ⟨by rw [← HZ.out]; unfold withinB; rw [h3]; simp⟩
    go_wp2
    go_ret
    exact ⟨by rw [HE.out]; rfl, K4.out.below⟩
  | true =>
  go_wp2
  rw [rounds_succ]
  have HZ2 : Bx (z = (covV v V4.zero && covV full4 v)) := ⟨by rw [← HZ.out]; unfold withinB; rw [h0, h1, h2, h3]; simp⟩
  clear h0 h1 h2 h3 HZ i0 i1 i2 i3 HX
  have HC1 := Bx.mk (fun W => covers_any8 v V4.zero W)
  have HC2 := Bx.mk (fun W => covers_any8 full4 v W)
  unfold V4.v at HC1 HC2
  simp only [V4.zero, full4] at HC1 HC2 HZ2
  generalize covV v ⟨0, 0, 0, 0⟩ = y1 at *
  generalize covV ⟨256, 256, 256, 256⟩ v = y2 at *
  have hbv := build_vers
  have k0 : w4.cell? ⟨E, 0, none⟩ = some (.int .i64 v.a) := by rw [cell_of_row _ _ _ _ _ _ (K4.out.rows _ (.head _))]; rfl
  have k1 : w4.cell? ⟨E, 1, none⟩ = some (.int .i64 v.b) := by rw [cell_of_row _ _ _ _ _ _ (K4.out.rows _ (.head _))]; rfl
  have k2 : w4.cell? ⟨E, 2, none⟩ = some (.int .i64 v.c) := by rw [cell_of_row _ _ _ _ _ _ (K4.out.rows _ (.head _))]; rfl
  have k3 : w4.cell? ⟨E, 3, none⟩ = some (.int .i64 v.d) := by rw [cell_of_row _ _ _ _ _ _ (K4.out.rows _ (.head _))]; rfl
  have f0 : w4.cell? ⟨0, 0, none⟩ = some (.int .i64 256) := (HF.out _ K4.out.below) 0 _ rfl
  have f1 : w4.cell? ⟨0, 1, none⟩ = some (.int .i64 256) := (HF.out _ K4.out.below) 1 _ rfl
  have f2 : w4.cell? ⟨0, 2, none⟩ = some (.int .i64 256) := (HF.out _ K4.out.below) 2 _ rfl
  have f3 : w4.cell? ⟨0, 3, none⟩ = some (.int .i64 256) := (HF.out _ K4.out.below) 3 _ rfl
  cases y1 with
  | false =>
    go_wp2_with fail
    refine (HC1.out w4).mono ?_
    rintro e w5 ⟨rfl, hb⟩
    have K5 := Bx.mk (K4.out.later hb)
    clear hb K4
    clear k0 f0 k1 f1 k2 f2 k3 f3
    have k0 : w5.cell? ⟨E, 0, none⟩ = some (.int .i64 v.a) := by rw [cell_of_row _ _ _ _ _ _ (K5.out.rows _ (.head _))]; rfl
    have k1 : w5.cell? ⟨E, 1, none⟩ = some (.int .i64 v.b) := by rw [cell_of_row _ _ _ _ _ _ (K5.out.rows _ (.head _))]; rfl
    have k2 : w5.cell? ⟨E, 2, none⟩ = some (.int .i64 v.c) := by rw [cell_of_row _ _ _ _ _ _ (K5.out.rows _ (.head _))]; rfl
    have k3 : w5.cell? ⟨E, 3, none⟩ = some (.int .i64 v.d) := by rw [cell_of_row _ _ _ _ _ _ (K5.out.rows _ (.head _))]; rfl
    have f0 : w5.cell? ⟨0, 0, none⟩ = some (.int .i64 256) := (HF.out _ K5.out.below) 0 _ rfl
    have f1 : w5.cell? ⟨0, 1, none⟩ = some (.int .i64 256) := (HF.out _ K5.out.below) 1 _ rfl
    have f2 : w5.cell? ⟨0, 2, none⟩ = some (.int .i64 256) := (HF.out _ K5.out.below) 2 _ rfl
    have f3 : w5.cell? ⟨0, 3, none⟩ = some (.int .i64 256) := (HF.out _ K5.out.below) 3 _ rfl
    go_wp2
    go_ret
    exact ⟨ret_bool (by rw [HZ2.out]; rfl), K5.out.below⟩
  | true =>
    go_wp2_with fail
    refine (HC1.out w4).mono ?_
    rintro e w5 ⟨rfl, hb⟩
    have K5 := Bx.mk (K4.out.later hb)
    clear hb K4
    clear k0 f0 k1 f1 k2 f2 k3 f3
    have k0 : w5.cell? ⟨E, 0, none⟩ = some (.int .i64 v.a) := by rw [cell_of_row _ _ _ _ _ _ (K5.out.rows _ (.head _))]; rfl
    have k1 : w5.cell? ⟨E, 1, none⟩ = some (.int .i64 v.b) := by rw [cell_of_row _ _ _ _ _ _ (K5.out.rows _ (.head _))]; rfl
    have k2 : w5.cell? ⟨E, 2, none⟩ = some (.int .i64 v.c) := by rw [cell_of_row _ _ _ _ _ _ (K5.out.rows _ (.head _))]; rfl
    have k3 : w5.cell? ⟨E, 3, none⟩ = some (.int .i64 v.d) := by rw [cell_of_row _ _ _ _ _ _ (K5.out.rows _ (.head _))]; rfl
    have f0 : w5.cell? ⟨0, 0, none⟩ = some (.int .i64 256) := (HF.out _ K5.out.below) 0 _ rfl
    have f1 : w5.cell? ⟨0, 1, none⟩ = some (.int .i64 256) := (HF.out _ K5.out.below) 1 _ rfl
    have f2 : w5.cell? ⟨0, 2, none⟩ = some (.int .i64 256) := (HF.out _ K5.out.below) 2 _ rfl
    have f3 : w5.cell? ⟨0, 3, none⟩ = some (.int .i64 256) := (HF.out _ K5.out.below) 3 _ rfl
    go_wp2_with fail
    refine (HC2.out w5).mono ?_
    rintro e w6 ⟨rfl, hb⟩
    have K6 := Bx.mk (K5.out.later hb)
    clear hb K5
    clear k0 f0 k1 f1 k2 f2 k3 f3
    go_wp2
    go_ret
    exact ⟨ret_bool (by rw [HZ2.out]; rfl), K6.out.below⟩
end Go.Proofs.YtmfhdhggpepbbaaDoor
