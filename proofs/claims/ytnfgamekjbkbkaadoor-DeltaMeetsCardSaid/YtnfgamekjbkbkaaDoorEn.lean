/-
  Revocations: a delta applied.
-/
import Derived.Test.YtnfgamekjbkbkaaDoorEk
namespace Go.Proofs.YtnfgamekjbkbkaaDoor
open Go Go.RowKit
def newL (l : L4) (v : V4) (m : L4) : L4 := ⟨newJ l.a v.a.toNat m.a, newJ l.b v.b.toNat m.b, newJ l.c v.c.toNat m.c, newJ l.d v.d.toNat m.d⟩
def okL (l : L4) (v : V4) (m : L4) : Bool := okJ l.a v.a.toNat m.a && (okJ l.b v.b.toNat m.b && (okJ l.c v.c.toNat m.c && okJ l.d v.d.toNat m.d))
def cntL (l : L4) : Nat := l.a.length + l.b.length + l.c.length + l.d.length
/-- What applying answers, and the logs then. -/
def applyL (l : L4) (v : V4) (m : L4) : Int × Int × L4 :=
  if withinB v m = true then if covV l.ver v = true then if okL l v m = true then if covV full4 (newL l v m).ver = true then ((cntL (newL l v m) : Int) - (cntL l : Int), 0, newL l v m) else (0, 6, l) else (0, 3, l) else (0, 9, l) else (0, 10, l)
set_option maxRecDepth 100000 in
set_option maxHeartbeats 2000000 in
theorem apply_range (v : V4) (x : VV) (m l : L4) (p : Nat) (w : World) (hx : Rows4 w x m) (hm : Most m 1000) (hs : SetAt w p l) (hF : Full w) (hgl : 0 < w.heap.size) (h0 : withinB v m = false) : Calls Tryd.prog 73 #[.pointer (some ⟨p, 0, none⟩), .agg (dC v x)] w fun e w' => e = .returned (.tuple #[.int .i64 0, .int .i64 10]) ∧ Below w.heap.size w w' := by
  obtain ⟨E, hE⟩ : ∃ E, w.heap.size = E := ⟨_, rfl⟩
  have HX : Bx (∀ W, Below w.heap.size w W → Rows4 W x m) := ⟨fun W h => hx.later h⟩
  have HS : Bx (∀ W, Below w.heap.size w W → SetAt W p l) := ⟨fun W h => hs.later h⟩
  have HF : Bx (∀ W, Below w.heap.size w W → Full W) := ⟨fun W h => hF.later h hgl⟩
  have HW : Bx (∀ W, Full W → 0 < W.heap.size → Rows4 W x m → Calls Tryd.prog 46 #[.agg (dC v x)] W fun e w' => e = .returned (.bool (withinB v m)) ∧ Below W.heap.size W w') := ⟨fun W h1 h2 h3 => within_any v x m W h3 hm h1 h2⟩
  have HVs : Bx (∀ W, Below w.heap.size w W → Calls Tryd.prog 36 #[.pointer (some ⟨p, 0, none⟩)] W fun e w' => e = .returned l.ver.v ∧ Below W.heap.size W w') := ⟨fun W h => versions_any (.pointer (some ⟨p, 0, none⟩)) l W (.inr ⟨p, rfl, hs.later h⟩)⟩
  have HC1 := Bx.mk (fun W => covers_any8 l.ver v W)
  obtain ⟨p2, q2, t2, s2, a2, b2, c2, d2, rfl⟩ := hx.forms
  have HGl := Bx.mk hgl
  have HPl := Bx.mk hs.lt
  unfold dC at HW ⊢
  simp only at HW ⊢
  have K0 : Bx (KR w E [(E, (.cells #[.int .i64 v.a, .int .i64 v.b, .int .i64 v.c, .int .i64 v.d, .slice p2 m.a.length a2, .slice q2 m.b.length b2, .slice t2 m.c.length c2, .slice s2 m.d.length d2] 30))] (w.alloc (.cells #[.int .i64 v.a, .int .i64 v.b, .int .i64 v.c, .int .i64 v.d, .slice p2 m.a.length a2, .slice q2 m.b.length b2, .slice t2 m.c.length c2, .slice s2 m.d.length d2] 30))) := Bx.mk (by
    subst hE
    exact (KR.start w).new (.cells #[.int .i64 v.a, .int .i64 v.b, .int .i64 v.c, .int .i64 v.d, .slice p2 m.a.length a2, .slice q2 m.b.length b2, .slice t2 m.c.length c2, .slice s2 m.d.length d2] 30))
  rw [h0] at HW
  clear hx hm hs hF hgl h0
  rw [hE] at HX HS HF HVs HGl HPl
  go_enter Tryd.func73, Tryd.ntmps73
  go_wp2_with (refine wpList_load_row rfl 30 _ rfl E (by rfl) _ #[.int .i64 v.a, .int .i64 v.b, .int .i64 v.c, .int .i64 v.d, .slice p2 m.a.length a2, .slice q2 m.b.length b2, .slice t2 m.c.length c2, .slice s2 m.d.length d2] (0, 0) _ (K0.out.rows _ (.head _)) Tryd.underlying30 rfl (by kernel_rfl) ?_)
  generalize w.alloc (.cells #[.int .i64 v.a, .int .i64 v.b, .int .i64 v.c, .int .i64 v.d, .slice p2 m.a.length a2, .slice q2 m.b.length b2, .slice t2 m.c.length c2, .slice s2 m.d.length d2] 30) = w0 at *
  refine (HW.out w0 (HF.out w0 K0.out.below) (Nat.lt_of_lt_of_le HGl.out K0.out.le) (HX.out w0 K0.out.below)).mono ?_
  rintro e w1 ⟨rfl, hb⟩
  have K1 := Bx.mk (K0.out.later hb)
  clear hb K0 HW
  go_wp2
  go_ret2
  exact ⟨rfl, by rw [hE]; exact K1.out.below⟩
set_option maxRecDepth 100000 in
set_option maxHeartbeats 2000000 in
theorem apply_old (v : V4) (x : VV) (m l : L4) (p : Nat) (w : World) (hx : Rows4 w x m) (hm : Most m 1000) (hs : SetAt w p l) (hF : Full w) (hgl : 0 < w.heap.size) (h0 : withinB v m = true) (h1 : covV l.ver v = false) : Calls Tryd.prog 73 #[.pointer (some ⟨p, 0, none⟩), .agg (dC v x)] w fun e w' => e = .returned (.tuple #[.int .i64 0, .int .i64 9]) ∧ Below w.heap.size w w' := by
  obtain ⟨E, hE⟩ : ∃ E, w.heap.size = E := ⟨_, rfl⟩
  have HX : Bx (∀ W, Below w.heap.size w W → Rows4 W x m) := ⟨fun W h => hx.later h⟩
  have HS : Bx (∀ W, Below w.heap.size w W → SetAt W p l) := ⟨fun W h => hs.later h⟩
  have HF : Bx (∀ W, Below w.heap.size w W → Full W) := ⟨fun W h => hF.later h hgl⟩
  have HW : Bx (∀ W, Full W → 0 < W.heap.size → Rows4 W x m → Calls Tryd.prog 46 #[.agg (dC v x)] W fun e w' => e = .returned (.bool (withinB v m)) ∧ Below W.heap.size W w') := ⟨fun W h1 h2 h3 => within_any v x m W h3 hm h1 h2⟩
  have HVs : Bx (∀ W, Below w.heap.size w W → Calls Tryd.prog 36 #[.pointer (some ⟨p, 0, none⟩)] W fun e w' => e = .returned l.ver.v ∧ Below W.heap.size W w') := ⟨fun W h => versions_any (.pointer (some ⟨p, 0, none⟩)) l W (.inr ⟨p, rfl, hs.later h⟩)⟩
  have HC1 := Bx.mk (fun W => covers_any8 l.ver v W)
  obtain ⟨p2, q2, t2, s2, a2, b2, c2, d2, rfl⟩ := hx.forms
  have HGl := Bx.mk hgl
  have HPl := Bx.mk hs.lt
  unfold dC at HW ⊢
  simp only at HW ⊢
  have K0 : Bx (KR w E [(E, (.cells #[.int .i64 v.a, .int .i64 v.b, .int .i64 v.c, .int .i64 v.d, .slice p2 m.a.length a2, .slice q2 m.b.length b2, .slice t2 m.c.length c2, .slice s2 m.d.length d2] 30))] (w.alloc (.cells #[.int .i64 v.a, .int .i64 v.b, .int .i64 v.c, .int .i64 v.d, .slice p2 m.a.length a2, .slice q2 m.b.length b2, .slice t2 m.c.length c2, .slice s2 m.d.length d2] 30))) := Bx.mk (by
    subst hE
    exact (KR.start w).new (.cells #[.int .i64 v.a, .int .i64 v.b, .int .i64 v.c, .int .i64 v.d, .slice p2 m.a.length a2, .slice q2 m.b.length b2, .slice t2 m.c.length c2, .slice s2 m.d.length d2] 30))
  rw [h0] at HW
  rw [h1] at HC1
  clear hx hm hs hF hgl h0 h1
  rw [hE] at HX HS HF HVs HGl HPl
  go_enter Tryd.func73, Tryd.ntmps73
  go_wp2_with (refine wpList_load_row rfl 30 _ rfl E (by rfl) _ #[.int .i64 v.a, .int .i64 v.b, .int .i64 v.c, .int .i64 v.d, .slice p2 m.a.length a2, .slice q2 m.b.length b2, .slice t2 m.c.length c2, .slice s2 m.d.length d2] (0, 0) _ (K0.out.rows _ (.head _)) Tryd.underlying30 rfl (by kernel_rfl) ?_)
  generalize w.alloc (.cells #[.int .i64 v.a, .int .i64 v.b, .int .i64 v.c, .int .i64 v.d, .slice p2 m.a.length a2, .slice q2 m.b.length b2, .slice t2 m.c.length c2, .slice s2 m.d.length d2] 30) = w0 at *
  refine (HW.out w0 (HF.out w0 K0.out.below) (Nat.lt_of_lt_of_le HGl.out K0.out.le) (HX.out w0 K0.out.below)).mono ?_
  rintro e w1 ⟨rfl, hb⟩
  have K1 := Bx.mk (K0.out.later hb)
  clear hb K0 HW
  go_wp2_with fail
  refine (HVs.out w1 K1.out.below).mono ?_
  rintro e w2 ⟨rfl, hb⟩
  have K2a := Bx.mk (K1.out.later hb)
  clear hb K1 HVs
  obtain ⟨V, hV⟩ : ∃ V, w2.heap.size = V := ⟨_, rfl⟩
  have K2 : Bx (KR w E [(V, (.cells #[.int .i64 (l.a.length : Int), .int .i64 (l.b.length : Int), .int .i64 (l.c.length : Int), .int .i64 (l.d.length : Int)] 28)), (E, (.cells #[.int .i64 v.a, .int .i64 v.b, .int .i64 v.c, .int .i64 v.d, .slice p2 m.a.length a2, .slice q2 m.b.length b2, .slice t2 m.c.length c2, .slice s2 m.d.length d2] 30))] (w2.alloc (.cells #[.int .i64 (l.a.length : Int), .int .i64 (l.b.length : Int), .int .i64 (l.c.length : Int), .int .i64 (l.d.length : Int)] 28))) := Bx.mk (by
    subst hV
    exact K2a.out.new (.cells #[.int .i64 (l.a.length : Int), .int .i64 (l.b.length : Int), .int .i64 (l.c.length : Int), .int .i64 (l.d.length : Int)] 28))
  have HEV : Bx (E < V) := ⟨by rw [← hV]; exact K2a.out.lt (.head _)⟩
  clear K2a
  unfold V4.v L4.ver at *
  simp only at HC1
  have hk : ∀ i u, (#[.int .i64 (l.a.length : Int), .int .i64 (l.b.length : Int), .int .i64 (l.c.length : Int), .int .i64 (l.d.length : Int)] : Array Value)[i]? = some u → (w2.alloc (.cells #[.int .i64 (l.a.length : Int), .int .i64 (l.b.length : Int), .int .i64 (l.c.length : Int), .int .i64 (l.d.length : Int)] 28)).cell? ⟨V, i, none⟩ = some u := fun i u h => by
    rw [cell_of_row _ _ _ _ _ _ (K2.out.rows _ (.head _))]
    exact h
  have y0 := hk 0 _ rfl
  have y1 := hk 1 _ rfl
  have y2 := hk 2 _ rfl
  have y3 := hk 3 _ rfl
  clear hk
  have k0 : (w2.alloc (.cells #[.int .i64 (l.a.length : Int), .int .i64 (l.b.length : Int), .int .i64 (l.c.length : Int), .int .i64 (l.d.length : Int)] 28)).cell? ⟨E, 0, none⟩ = some (.int .i64 v.a) := by rw [cell_of_row _ _ _ _ _ _ (K2.out.rows _ (.tail _ (.head _)))]; rfl
  have k1 : (w2.alloc (.cells #[.int .i64 (l.a.length : Int), .int .i64 (l.b.length : Int), .int .i64 (l.c.length : Int), .int .i64 (l.d.length : Int)] 28)).cell? ⟨E, 1, none⟩ = some (.int .i64 v.b) := by rw [cell_of_row _ _ _ _ _ _ (K2.out.rows _ (.tail _ (.head _)))]; rfl
  have k2 : (w2.alloc (.cells #[.int .i64 (l.a.length : Int), .int .i64 (l.b.length : Int), .int .i64 (l.c.length : Int), .int .i64 (l.d.length : Int)] 28)).cell? ⟨E, 2, none⟩ = some (.int .i64 v.c) := by rw [cell_of_row _ _ _ _ _ _ (K2.out.rows _ (.tail _ (.head _)))]; rfl
  have k3 : (w2.alloc (.cells #[.int .i64 (l.a.length : Int), .int .i64 (l.b.length : Int), .int .i64 (l.c.length : Int), .int .i64 (l.d.length : Int)] 28)).cell? ⟨E, 3, none⟩ = some (.int .i64 v.d) := by rw [cell_of_row _ _ _ _ _ _ (K2.out.rows _ (.tail _ (.head _)))]; rfl
  go_wp2_with fail
  generalize w2.alloc (.cells #[.int .i64 (l.a.length : Int), .int .i64 (l.b.length : Int), .int .i64 (l.c.length : Int), .int .i64 (l.d.length : Int)] 28) = w3 at *
  refine (HC1.out w3).mono ?_
  rintro e w4 ⟨rfl, hb⟩
  have K4 := Bx.mk (K2.out.later hb)
  clear hb K2 HC1 y0 y1 y2 y3 k0 k1 k2 k3 hV
  go_wp2
  go_ret2
  exact ⟨rfl, by rw [hE]; exact K4.out.below⟩
set_option maxRecDepth 100000 in
set_option maxHeartbeats 4000000 in
theorem apply_in (v : V4) (x : VV) (m l : L4) (p : Nat) (w : World) (hx : Rows4 w x m) (hm : Most m 1000) (hs : SetAt w p l) (hF : Full w) (hgl : 0 < w.heap.size) (hg : Good l) (h0 : withinB v m = true) (h1 : covV l.ver v = true) : Calls Tryd.prog 73 #[.pointer (some ⟨p, 0, none⟩), .agg (dC v x)] w fun e w' =>
    e = .returned (.tuple #[.int .i64 (applyL l v m).1, .int .i64 (applyL l v m).2.1]) ∧ SetAt w' p (applyL l v m).2.2 ∧ w.grownBy w' (some p) := by
  obtain ⟨q, hq⟩ : ∃ q, applyL l v m = q := ⟨_, rfl⟩
  rw [hq]
  unfold applyL at hq
  rw [if_pos h0, if_pos h1] at hq
  have hv : 0 ≤ v.a ∧ v.a ≤ (l.a.length : Int) ∧ 0 ≤ v.b ∧ v.b ≤ (l.b.length : Int) ∧ 0 ≤ v.c ∧ v.c ≤ (l.c.length : Int) ∧ 0 ≤ v.d ∧ v.d ≤ (l.d.length : Int) := by
    have h2 := h0
    have h3 := h1
    unfold withinB at h2
    simp only [Bool.and_eq_true] at h2
    have h4 := h2.2.2.2.2.1
    unfold covV at h3 h4
    have h3 := of_decide_eq_true h3
    have h4 := of_decide_eq_true h4
    simp only [L4.ver, V4.zero] at h3 h4
    omega
  have hkm : (∀ x ∈ m.a, okS x = true) ∧ (∀ x ∈ m.b, okS x = true) ∧ (∀ x ∈ m.c, okS x = true) ∧ (∀ x ∈ m.d, okS x = true) := by
    have h2 := h0
    unfold withinB at h2
    simp only [Bool.and_eq_true] at h2
    exact ⟨allS_in h2.1, allS_in h2.2.1, allS_in h2.2.2.1, allS_in h2.2.2.2.1⟩
  obtain ⟨n0, e0⟩ : ∃ n, v.a.toNat = n := ⟨_, rfl⟩
  obtain ⟨n1, e1⟩ : ∃ n, v.b.toNat = n := ⟨_, rfl⟩
  obtain ⟨n2, e2⟩ : ∃ n, v.c.toNat = n := ⟨_, rfl⟩
  obtain ⟨n3, e3⟩ : ∃ n, v.d.toNat = n := ⟨_, rfl⟩
  unfold okL newL at hq
  rw [e0, e1, e2, e3] at hq
  have hv0 : v.a = (n0 : Int) := by omega
  have hl0 : n0 ≤ l.a.length := by omega
  obtain ⟨r0, hr0⟩ : ∃ r, newJ l.a n0 m.a = r := ⟨_, rfl⟩
  have HR0 : Bx (newJ l.a n0 m.a = r0 ∧ r0.length ≤ 1256) := ⟨⟨hr0, by rw [← hr0]; have := newJ_len l.a m.a n0; have := hm.a; have := hg.a; omega⟩⟩
  have HJy0 : Bx (okJ l.a n0 m.a = true → ∀ (v1 v2 : Value) (W : World), IsL W v1 l.a → IsL W v2 m.a → Calls Tryd.prog 91 #[v1, .int .i64 (n0 : Int), v2] W fun e w' => ∃ v, e = .returned (.tuple #[v, .bool true]) ∧ IsL w' v r0 ∧ Below W.heap.size W w') := ⟨fun h v1 v2 W i1 i2 => by rw [← hr0]; exact joined_yes l.a m.a n0 v1 v2 W i1 i2 hl0 (by have := hg.a; omega) hm.a (fun x h => hg.s x (.inl h)) hkm.1 h⟩
  have HJn0 : Bx (okJ l.a n0 m.a = false → ∀ (v1 v2 : Value) (W : World), IsL W v1 l.a → IsL W v2 m.a → Calls Tryd.prog 91 #[v1, .int .i64 (n0 : Int), v2] W fun e w' => ∃ a n c, e = .returned (.tuple #[.slice a n c, .bool false]) ∧ Below W.heap.size W w') := ⟨fun h v1 v2 W i1 i2 => joined_no l.a m.a n0 v1 v2 W i1 i2 hl0 (by have := hg.a; omega) hm.a (fun x h => hg.s x (.inl h)) hkm.1 h⟩
  have hv1 : v.b = (n1 : Int) := by omega
  have hl1 : n1 ≤ l.b.length := by omega
  obtain ⟨r1, hr1⟩ : ∃ r, newJ l.b n1 m.b = r := ⟨_, rfl⟩
  have HR1 : Bx (newJ l.b n1 m.b = r1 ∧ r1.length ≤ 1256) := ⟨⟨hr1, by rw [← hr1]; have := newJ_len l.b m.b n1; have := hm.b; have := hg.b; omega⟩⟩
  have HJy1 : Bx (okJ l.b n1 m.b = true → ∀ (v1 v2 : Value) (W : World), IsL W v1 l.b → IsL W v2 m.b → Calls Tryd.prog 91 #[v1, .int .i64 (n1 : Int), v2] W fun e w' => ∃ v, e = .returned (.tuple #[v, .bool true]) ∧ IsL w' v r1 ∧ Below W.heap.size W w') := ⟨fun h v1 v2 W i1 i2 => by rw [← hr1]; exact joined_yes l.b m.b n1 v1 v2 W i1 i2 hl1 (by have := hg.b; omega) hm.b (fun x h => hg.s x (.inr (.inl h))) hkm.2.1 h⟩
  have HJn1 : Bx (okJ l.b n1 m.b = false → ∀ (v1 v2 : Value) (W : World), IsL W v1 l.b → IsL W v2 m.b → Calls Tryd.prog 91 #[v1, .int .i64 (n1 : Int), v2] W fun e w' => ∃ a n c, e = .returned (.tuple #[.slice a n c, .bool false]) ∧ Below W.heap.size W w') := ⟨fun h v1 v2 W i1 i2 => joined_no l.b m.b n1 v1 v2 W i1 i2 hl1 (by have := hg.b; omega) hm.b (fun x h => hg.s x (.inr (.inl h))) hkm.2.1 h⟩
  have hv2 : v.c = (n2 : Int) := by omega
  have hl2 : n2 ≤ l.c.length := by omega
  obtain ⟨r2, hr2⟩ : ∃ r, newJ l.c n2 m.c = r := ⟨_, rfl⟩
  have HR2 : Bx (newJ l.c n2 m.c = r2 ∧ r2.length ≤ 1256) := ⟨⟨hr2, by rw [← hr2]; have := newJ_len l.c m.c n2; have := hm.c; have := hg.c; omega⟩⟩
  have HJy2 : Bx (okJ l.c n2 m.c = true → ∀ (v1 v2 : Value) (W : World), IsL W v1 l.c → IsL W v2 m.c → Calls Tryd.prog 91 #[v1, .int .i64 (n2 : Int), v2] W fun e w' => ∃ v, e = .returned (.tuple #[v, .bool true]) ∧ IsL w' v r2 ∧ Below W.heap.size W w') := ⟨fun h v1 v2 W i1 i2 => by rw [← hr2]; exact joined_yes l.c m.c n2 v1 v2 W i1 i2 hl2 (by have := hg.c; omega) hm.c (fun x h => hg.s x (.inr (.inr (.inl h)))) hkm.2.2.1 h⟩
  have HJn2 : Bx (okJ l.c n2 m.c = false → ∀ (v1 v2 : Value) (W : World), IsL W v1 l.c → IsL W v2 m.c → Calls Tryd.prog 91 #[v1, .int .i64 (n2 : Int), v2] W fun e w' => ∃ a n c, e = .returned (.tuple #[.slice a n c, .bool false]) ∧ Below W.heap.size W w') := ⟨fun h v1 v2 W i1 i2 => joined_no l.c m.c n2 v1 v2 W i1 i2 hl2 (by have := hg.c; omega) hm.c (fun x h => hg.s x (.inr (.inr (.inl h)))) hkm.2.2.1 h⟩
  have hv3 : v.d = (n3 : Int) := by omega
  have hl3 : n3 ≤ l.d.length := by omega
  obtain ⟨r3, hr3⟩ : ∃ r, newJ l.d n3 m.d = r := ⟨_, rfl⟩
  have HR3 : Bx (newJ l.d n3 m.d = r3 ∧ r3.length ≤ 1256) := ⟨⟨hr3, by rw [← hr3]; have := newJ_len l.d m.d n3; have := hm.d; have := hg.d; omega⟩⟩
  have HJy3 : Bx (okJ l.d n3 m.d = true → ∀ (v1 v2 : Value) (W : World), IsL W v1 l.d → IsL W v2 m.d → Calls Tryd.prog 91 #[v1, .int .i64 (n3 : Int), v2] W fun e w' => ∃ v, e = .returned (.tuple #[v, .bool true]) ∧ IsL w' v r3 ∧ Below W.heap.size W w') := ⟨fun h v1 v2 W i1 i2 => by rw [← hr3]; exact joined_yes l.d m.d n3 v1 v2 W i1 i2 hl3 (by have := hg.d; omega) hm.d (fun x h => hg.s x (.inr (.inr (.inr h)))) hkm.2.2.2 h⟩
  have HJn3 : Bx (okJ l.d n3 m.d = false → ∀ (v1 v2 : Value) (W : World), IsL W v1 l.d → IsL W v2 m.d → Calls Tryd.prog 91 #[v1, .int .i64 (n3 : Int), v2] W fun e w' => ∃ a n c, e = .returned (.tuple #[.slice a n c, .bool false]) ∧ Below W.heap.size W w') := ⟨fun h v1 v2 W i1 i2 => joined_no l.d m.d n3 v1 v2 W i1 i2 hl3 (by have := hg.d; omega) hm.d (fun x h => hg.s x (.inr (.inr (.inr h)))) hkm.2.2.2 h⟩
  rw [hr0, hr1, hr2, hr3] at hq
  have HQ := Bx.mk hq
  have HLl : Bx (Most l 256) := ⟨⟨hg.a, hg.b, hg.c, hg.d⟩⟩
  have HNv : Bx (v.a = (n0 : Int) ∧ v.b = (n1 : Int) ∧ v.c = (n2 : Int) ∧ v.d = (n3 : Int)) := ⟨⟨hv0, hv1, hv2, hv3⟩⟩
  obtain ⟨E, hE⟩ : ∃ E, w.heap.size = E := ⟨_, rfl⟩
  have HX : Bx (∀ W, Below w.heap.size w W → Rows4 W x m) := ⟨fun W h => hx.later h⟩
  have HS : Bx (∀ W, Below w.heap.size w W → SetAt W p l) := ⟨fun W h => hs.later h⟩
  have HF : Bx (∀ W, Below w.heap.size w W → Full W) := ⟨fun W h => hF.later h hgl⟩
  have HW : Bx (∀ W, Full W → 0 < W.heap.size → Rows4 W x m → Calls Tryd.prog 46 #[.agg (dC v x)] W fun e w' => e = .returned (.bool (withinB v m)) ∧ Below W.heap.size W w') := ⟨fun W h1 h2 h3 => within_any v x m W h3 hm h1 h2⟩
  have HVs : Bx (∀ W, Below w.heap.size w W → Calls Tryd.prog 36 #[.pointer (some ⟨p, 0, none⟩)] W fun e w' => e = .returned l.ver.v ∧ Below W.heap.size W w') := ⟨fun W h => versions_any (.pointer (some ⟨p, 0, none⟩)) l W (.inr ⟨p, rfl, hs.later h⟩)⟩
  have HC1 := Bx.mk (fun W => covers_any8 l.ver v W)
  obtain ⟨p2, q2, t2, s2, a2, b2, c2, d2, rfl⟩ := hx.forms
  have HGl := Bx.mk hgl
  have HPl := Bx.mk hs.lt
  unfold dC at HW ⊢
  simp only at HW ⊢
  have K0 : Bx (KR w E [(E, (.cells #[.int .i64 v.a, .int .i64 v.b, .int .i64 v.c, .int .i64 v.d, .slice p2 m.a.length a2, .slice q2 m.b.length b2, .slice t2 m.c.length c2, .slice s2 m.d.length d2] 30))] (w.alloc (.cells #[.int .i64 v.a, .int .i64 v.b, .int .i64 v.c, .int .i64 v.d, .slice p2 m.a.length a2, .slice q2 m.b.length b2, .slice t2 m.c.length c2, .slice s2 m.d.length d2] 30))) := Bx.mk (by
    subst hE
    exact (KR.start w).new (.cells #[.int .i64 v.a, .int .i64 v.b, .int .i64 v.c, .int .i64 v.d, .slice p2 m.a.length a2, .slice q2 m.b.length b2, .slice t2 m.c.length c2, .slice s2 m.d.length d2] 30))
  rw [h0] at HW
  rw [h1] at HC1
  have HSn := Bx.mk hs
  obtain ⟨y, hy, hyr⟩ := id hs
  obtain ⟨p1, q1, t1, s1, a1, b1, c1, d1, rfl⟩ := hyr.forms
  have HYp : Bx (∀ W, Below w.heap.size w W → W.heap[p]? = _) := ⟨fun W h => (h.block p (Array.getElem?_eq_some_iff.1 hy).1).trans hy⟩
  have HYR : Bx (∀ W, Below w.heap.size w W → Rows4 W _ l) := ⟨fun W h => hyr.later h⟩
  simp only at HYp
  rw [hE] at HYp HYR
  clear hy hyr hx hm hs hF hgl h0 h1 hg hq hv hkm e0 e1 e2 e3 hv0 hv1 hv2 hv3 hl0 hl1 hl2 hl3 hr0 hr1 hr2 hr3
  rw [hE] at HX HS HF HVs HGl HPl
  go_enter Tryd.func73, Tryd.ntmps73
  go_wp2_with (refine wpList_load_row rfl 30 _ rfl E (by rfl) _ #[.int .i64 v.a, .int .i64 v.b, .int .i64 v.c, .int .i64 v.d, .slice p2 m.a.length a2, .slice q2 m.b.length b2, .slice t2 m.c.length c2, .slice s2 m.d.length d2] (0, 0) _ (K0.out.rows _ (.head _)) Tryd.underlying30 rfl (by kernel_rfl) ?_)
  generalize w.alloc (.cells #[.int .i64 v.a, .int .i64 v.b, .int .i64 v.c, .int .i64 v.d, .slice p2 m.a.length a2, .slice q2 m.b.length b2, .slice t2 m.c.length c2, .slice s2 m.d.length d2] 30) = w0 at *
  refine (HW.out w0 (HF.out w0 K0.out.below) (Nat.lt_of_lt_of_le HGl.out K0.out.le) (HX.out w0 K0.out.below)).mono ?_
  rintro e w1 ⟨rfl, hb⟩
  have K1 := Bx.mk (K0.out.later hb)
  clear hb K0 HW
  go_wp2_with fail
  refine (HVs.out w1 K1.out.below).mono ?_
  rintro e w2 ⟨rfl, hb⟩
  have K2a := Bx.mk (K1.out.later hb)
  clear hb K1 HVs
  obtain ⟨V, hV⟩ : ∃ V, w2.heap.size = V := ⟨_, rfl⟩
  have K2 : Bx (KR w E [(V, (.cells #[.int .i64 (l.a.length : Int), .int .i64 (l.b.length : Int), .int .i64 (l.c.length : Int), .int .i64 (l.d.length : Int)] 28)), (E, (.cells #[.int .i64 v.a, .int .i64 v.b, .int .i64 v.c, .int .i64 v.d, .slice p2 m.a.length a2, .slice q2 m.b.length b2, .slice t2 m.c.length c2, .slice s2 m.d.length d2] 30))] (w2.alloc (.cells #[.int .i64 (l.a.length : Int), .int .i64 (l.b.length : Int), .int .i64 (l.c.length : Int), .int .i64 (l.d.length : Int)] 28))) := Bx.mk (by
    subst hV
    exact K2a.out.new (.cells #[.int .i64 (l.a.length : Int), .int .i64 (l.b.length : Int), .int .i64 (l.c.length : Int), .int .i64 (l.d.length : Int)] 28))
  have HEV : Bx (E < V) := ⟨by rw [← hV]; exact K2a.out.lt (.head _)⟩
  clear K2a
  unfold V4.v L4.ver at *
  simp only at HC1
  have hk : ∀ i u, (#[.int .i64 (l.a.length : Int), .int .i64 (l.b.length : Int), .int .i64 (l.c.length : Int), .int .i64 (l.d.length : Int)] : Array Value)[i]? = some u → (w2.alloc (.cells #[.int .i64 (l.a.length : Int), .int .i64 (l.b.length : Int), .int .i64 (l.c.length : Int), .int .i64 (l.d.length : Int)] 28)).cell? ⟨V, i, none⟩ = some u := fun i u h => by
    rw [cell_of_row _ _ _ _ _ _ (K2.out.rows _ (.head _))]
    exact h
  have y0 := hk 0 _ rfl
  have y1 := hk 1 _ rfl
  have y2 := hk 2 _ rfl
  have y3 := hk 3 _ rfl
  clear hk
  have k0 : (w2.alloc (.cells #[.int .i64 (l.a.length : Int), .int .i64 (l.b.length : Int), .int .i64 (l.c.length : Int), .int .i64 (l.d.length : Int)] 28)).cell? ⟨E, 0, none⟩ = some (.int .i64 v.a) := by rw [cell_of_row _ _ _ _ _ _ (K2.out.rows _ (.tail _ (.head _)))]; rfl
  have k1 : (w2.alloc (.cells #[.int .i64 (l.a.length : Int), .int .i64 (l.b.length : Int), .int .i64 (l.c.length : Int), .int .i64 (l.d.length : Int)] 28)).cell? ⟨E, 1, none⟩ = some (.int .i64 v.b) := by rw [cell_of_row _ _ _ _ _ _ (K2.out.rows _ (.tail _ (.head _)))]; rfl
  have k2 : (w2.alloc (.cells #[.int .i64 (l.a.length : Int), .int .i64 (l.b.length : Int), .int .i64 (l.c.length : Int), .int .i64 (l.d.length : Int)] 28)).cell? ⟨E, 2, none⟩ = some (.int .i64 v.c) := by rw [cell_of_row _ _ _ _ _ _ (K2.out.rows _ (.tail _ (.head _)))]; rfl
  have k3 : (w2.alloc (.cells #[.int .i64 (l.a.length : Int), .int .i64 (l.b.length : Int), .int .i64 (l.c.length : Int), .int .i64 (l.d.length : Int)] 28)).cell? ⟨E, 3, none⟩ = some (.int .i64 v.d) := by rw [cell_of_row _ _ _ _ _ _ (K2.out.rows _ (.tail _ (.head _)))]; rfl
  go_wp2_with fail
  generalize w2.alloc (.cells #[.int .i64 (l.a.length : Int), .int .i64 (l.b.length : Int), .int .i64 (l.c.length : Int), .int .i64 (l.d.length : Int)] 28) = w3 at *
  refine (HC1.out w3).mono ?_
  rintro e w4 ⟨rfl, hb⟩
  have K4 := Bx.mk (K2.out.later hb)
  clear hb K2 HC1 y0 y1 y2 y3 k0 k1 k2 k3 hV
  go_upto_region 8 with fail
  obtain ⟨D, hD⟩ : ∃ D, w4.heap.size = D := ⟨_, rfl⟩
  have K5 : Bx (KR w E [(D, (.cells #[.slice none 0 0, .slice none 0 0, .slice none 0 0, .slice none 0 0] 129)), (V, (.cells #[.int .i64 (l.a.length : Int), .int .i64 (l.b.length : Int), .int .i64 (l.c.length : Int), .int .i64 (l.d.length : Int)] 28)), (E, (.cells #[.int .i64 v.a, .int .i64 v.b, .int .i64 v.c, .int .i64 v.d, .slice p2 m.a.length a2, .slice q2 m.b.length b2, .slice t2 m.c.length c2, .slice s2 m.d.length d2] 30))] (w4.alloc (.cells #[.slice none 0 0, .slice none 0 0, .slice none 0 0, .slice none 0 0] 129))) := Bx.mk (by
    subst hD
    exact K4.out.new (.cells #[.slice none 0 0, .slice none 0 0, .slice none 0 0, .slice none 0 0] 129))
  have HVD : Bx (V < D ∧ E < D ∧ E < V) := ⟨⟨by rw [← hD]; exact K4.out.lt (.head _), by rw [← hD]; exact K4.out.lt (.tail _ (.head _)), HEV.out⟩⟩
  clear K4 HEV
  have hyp := HYp.out _ K5.out.below
  have i0 := idxL0 (.slice p1 l.a.length a1) (.slice q1 l.b.length b1) (.slice t1 l.c.length c1) (.slice s1 l.d.length d1)
  have i1 := idxL1 (.slice p1 l.a.length a1) (.slice q1 l.b.length b1) (.slice t1 l.c.length c1) (.slice s1 l.d.length d1)
  have i2 := idxL2 (.slice p1 l.a.length a1) (.slice q1 l.b.length b1) (.slice t1 l.c.length c1) (.slice s1 l.d.length d1)
  have i3 := idxL3 (.slice p1 l.a.length a1) (.slice q1 l.b.length b1) (.slice t1 l.c.length c1) (.slice s1 l.d.length d1)
  go_wp2_with (refine wpList_load_row rfl 24 _ rfl p (by rfl) _ #[.slice p1 l.a.length a1, .slice q1 l.b.length b1, .slice t1 l.c.length c1, .slice s1 l.d.length d1] (0, 0) _ hyp Tryd.underlying24 rfl (by kernel_rfl) ?_)
  clear hyp
  generalize w4.alloc (.cells #[.slice none 0 0, .slice none 0 0, .slice none 0 0, .slice none 0 0] 129) = y0 at *
  clear hD
  refine wp_loop_rounds 5 ?_
  rw [rounds_succ]
  cases hj0 : okJ l.a n0 m.a with
  | false =>
    go_upto_region 12 with fail
    have R0 := Bx.mk K5.out.drew
    refine wp_region_noPanic ?_
    refine wp_region_held_drew (S := fun W => W.cell? ⟨E, 0, none⟩ = some (.int .i64 (n0 : Int)) ∧ W.cell? ⟨E, 4, none⟩ = some (.slice p2 m.a.length a2)) (by kernel_rfl) (⟨by rw [cell_of_row _ _ _ _ _ _ (R0.out.rows _ (.tail _ (.tail _ (.head _)))), ← HNv.out.1]; rfl, by rw [cell_of_row _ _ _ _ _ _ (R0.out.rows _ (.tail _ (.tail _ (.head _))))]; rfl⟩) (fun hHeld => ?_)
    generalize y0.drew = y1 at *
    refine takeL 0 (v := ?_) rfl (by kernel_rfl) (by kernel_rfl) (by kernel_rfl) (fun _ _ _ h => h) (Or.inl ⟨by rfl, ?_⟩) hHeld ?_
    rotate_left 1
    · (intro w hSw; go_simp; try with_reducible rfl)
    try simp only [Act.put, List.setIfInBounds_toArray, List.set_cons_zero, List.set_cons_succ]
    refine takeL 1 (v := ?_) rfl (by kernel_rfl) (by kernel_rfl) (by kernel_rfl) (fun _ _ _ h => h) (Or.inl ⟨by rfl, ?_⟩) hHeld ?_
    rotate_left 1
    · (intro w hSw; go_simp; try with_reducible rfl)
    try simp only [Act.put, List.setIfInBounds_toArray, List.set_cons_zero, List.set_cons_succ]
    refine takeL 2 (v := ?_) rfl (by kernel_rfl) (by kernel_rfl) (by kernel_rfl) (fun _ _ _ h => h) (Or.inl ⟨by rfl, ?_⟩) hHeld ?_
    rotate_left 1
    · (intro w hSw; go_simp; try with_reducible rfl)
    try simp only [Act.put, List.setIfInBounds_toArray, List.set_cons_zero, List.set_cons_succ]
    refine takeL 3 (v := ?_) rfl (by kernel_rfl) (by kernel_rfl) (by kernel_rfl) (fun _ _ _ h => h) (Or.inl ⟨by rfl, ?_⟩) hHeld ?_
    rotate_left 1
    · (intro w hSw; go_simp; try with_reducible rfl)
    try simp only [Act.put, List.setIfInBounds_toArray, List.set_cons_zero, List.set_cons_succ]
    refine takeL 4 (v := ?_) rfl (by kernel_rfl) (by kernel_rfl) (by kernel_rfl) (fun _ _ _ h => h) (Or.inl ⟨by rfl, ?_⟩) hHeld ?_
    rotate_left 1
    · (intro w hSw; have h := hSw.1; go_simp; try with_reducible rfl)
    try simp only [Act.put, List.setIfInBounds_toArray, List.set_cons_zero, List.set_cons_succ]
    refine takeL 5 (v := ?_) rfl (by kernel_rfl) (by kernel_rfl) (by kernel_rfl) (fun _ _ _ h => h) (Or.inl ⟨by rfl, ?_⟩) hHeld ?_
    rotate_left 1
    · (intro w hSw; go_simp; try with_reducible rfl)
    try simp only [Act.put, List.setIfInBounds_toArray, List.set_cons_zero, List.set_cons_succ]
    refine takeL 6 (v := ?_) rfl (by kernel_rfl) (by kernel_rfl) (by kernel_rfl) (fun _ _ _ h => h) (Or.inl ⟨by rfl, ?_⟩) hHeld ?_
    rotate_left 1
    · (intro w hSw; go_simp; try with_reducible rfl)
    try simp only [Act.put, List.setIfInBounds_toArray, List.set_cons_zero, List.set_cons_succ]
    refine takeL 7 (v := ?_) rfl (by kernel_rfl) (by kernel_rfl) (by kernel_rfl) (fun _ _ _ h => h) (Or.inl ⟨by rfl, ?_⟩) hHeld ?_
    rotate_left 1
    · (intro w hSw; go_simp; try with_reducible rfl)
    try simp only [Act.put, List.setIfInBounds_toArray, List.set_cons_zero, List.set_cons_succ]
    refine takeL 8 (v := ?_) rfl (by kernel_rfl) (by kernel_rfl) (by kernel_rfl) (fun _ _ _ h => h) (Or.inl ⟨by rfl, ?_⟩) hHeld ?_
    rotate_left 1
    · (intro w hSw; have h := hSw.2; go_simp; try with_reducible rfl)
    try simp only [Act.put, List.setIfInBounds_toArray, List.set_cons_zero, List.set_cons_succ]
    refine stepL 9 (by kernel_rfl) rfl (fun K hK => ?_)
    go_simp
    refine (HJn0.out hj0 _ _ y1 (HYR.out y1 R0.out.below).a (HX.out y1 R0.out.below).a).mono ?_
    rintro e y2 ⟨xa, xn, xc, rfl, hb⟩
    show K _ _
    have R1 := Bx.mk (R0.out.later hb)
    clear hb R0
    refine hK.out _ _ (⟨by rw [cell_of_row _ _ _ _ _ _ (R1.out.rows _ (.tail _ (.tail _ (.head _)))), ← HNv.out.1]; rfl, by rw [cell_of_row _ _ _ _ _ _ (R1.out.rows _ (.tail _ (.tail _ (.head _))))]; rfl⟩) (fun hHeld => ?_)
    clear hK K
    try simp only [Act.put, List.setIfInBounds_toArray, List.set_cons_zero, List.set_cons_succ]
    refine takeL 10 (v := ?_) rfl (by kernel_rfl) (by kernel_rfl) (by kernel_rfl) (fun _ _ _ h => h) (Or.inl ⟨by rfl, ?_⟩) hHeld ?_
    rotate_left 1
    · (intro w hSw; go_simp; try with_reducible rfl)
    try simp only [Act.put, List.setIfInBounds_toArray, List.set_cons_zero, List.set_cons_succ]
    refine takeL 11 (v := ?_) rfl (by kernel_rfl) (by kernel_rfl) (by kernel_rfl) (fun _ _ _ h => h) (Or.inl ⟨by rfl, ?_⟩) hHeld ?_
    rotate_left 1
    · (intro w hSw; go_simp; try with_reducible rfl)
    try simp only [Act.put, List.setIfInBounds_toArray, List.set_cons_zero, List.set_cons_succ]
    refine takeL 12 (v := ?_) rfl (by kernel_rfl) (by kernel_rfl) (by kernel_rfl) (fun _ _ _ h => h) (Or.inl ⟨by rfl, ?_⟩) hHeld ?_
    rotate_left 1
    · (intro w hSw; go_simp; try with_reducible rfl)
    try simp only [Act.put, List.setIfInBounds_toArray, List.set_cons_zero, List.set_cons_succ]
    refine takeL 13 (v := ?_) rfl (by kernel_rfl) (by kernel_rfl) (by kernel_rfl) (fun _ _ _ h => h) (Or.inl ⟨by rfl, ?_⟩) hHeld ?_
    rotate_left 1
    · (intro w hSw; go_simp; try with_reducible rfl)
    try simp only [Act.put, List.setIfInBounds_toArray, List.set_cons_zero, List.set_cons_succ]
    refine takeL 14 (v := ?_) rfl (by kernel_rfl) (by kernel_rfl) (by kernel_rfl) (fun _ _ _ h => h) (Or.inl ⟨by rfl, ?_⟩) hHeld ?_
    rotate_left 1
    · (intro w hSw; go_simp; try with_reducible rfl)
    try simp only [Act.put, List.setIfInBounds_toArray, List.set_cons_zero, List.set_cons_succ]
    refine wpAnyH_done (by kernel_rfl) ?_ _
    refine NoPanic.normal ?_
    clear hHeld
    have hq : q = (0, 3, l) := by
      rw [← HQ.out, if_neg]
      rw [hj0]
      simp
    go_wp2
    go_ret2
    rw [hq]
    exact ⟨rfl, HSn.out.later (by rw [hE]; exact R1.out.below), kb_below _ (by rw [hE]; exact R1.out.below)⟩
  | true =>
  go_upto_region 12 with fail
  have R0 := Bx.mk K5.out.drew
  clear K5
  refine wp_region_noPanic ?_
  refine wp_region_held_drew (S := fun W => W.cell? ⟨E, 0, none⟩ = some (.int .i64 (n0 : Int)) ∧ W.cell? ⟨E, 4, none⟩ = some (.slice p2 m.a.length a2)) (by kernel_rfl) (⟨by rw [cell_of_row _ _ _ _ _ _ (R0.out.rows _ (.tail _ (.tail _ (.head _)))), ← HNv.out.1]; rfl, by rw [cell_of_row _ _ _ _ _ _ (R0.out.rows _ (.tail _ (.tail _ (.head _))))]; rfl⟩) (fun hHeld => ?_)
  generalize y0.drew = y1 at *
  refine takeL 0 (v := ?_) rfl (by kernel_rfl) (by kernel_rfl) (by kernel_rfl) (fun _ _ _ h => h) (Or.inl ⟨by rfl, ?_⟩) hHeld ?_
  rotate_left 1
  · (intro w hSw; go_simp; try with_reducible rfl)
  try simp only [Act.put, List.setIfInBounds_toArray, List.set_cons_zero, List.set_cons_succ]
  refine takeL 1 (v := ?_) rfl (by kernel_rfl) (by kernel_rfl) (by kernel_rfl) (fun _ _ _ h => h) (Or.inl ⟨by rfl, ?_⟩) hHeld ?_
  rotate_left 1
  · (intro w hSw; go_simp; try with_reducible rfl)
  try simp only [Act.put, List.setIfInBounds_toArray, List.set_cons_zero, List.set_cons_succ]
  refine takeL 2 (v := ?_) rfl (by kernel_rfl) (by kernel_rfl) (by kernel_rfl) (fun _ _ _ h => h) (Or.inl ⟨by rfl, ?_⟩) hHeld ?_
  rotate_left 1
  · (intro w hSw; go_simp; try with_reducible rfl)
  try simp only [Act.put, List.setIfInBounds_toArray, List.set_cons_zero, List.set_cons_succ]
  refine takeL 3 (v := ?_) rfl (by kernel_rfl) (by kernel_rfl) (by kernel_rfl) (fun _ _ _ h => h) (Or.inl ⟨by rfl, ?_⟩) hHeld ?_
  rotate_left 1
  · (intro w hSw; go_simp; try with_reducible rfl)
  try simp only [Act.put, List.setIfInBounds_toArray, List.set_cons_zero, List.set_cons_succ]
  refine takeL 4 (v := ?_) rfl (by kernel_rfl) (by kernel_rfl) (by kernel_rfl) (fun _ _ _ h => h) (Or.inl ⟨by rfl, ?_⟩) hHeld ?_
  rotate_left 1
  · (intro w hSw; have h := hSw.1; go_simp; try with_reducible rfl)
  try simp only [Act.put, List.setIfInBounds_toArray, List.set_cons_zero, List.set_cons_succ]
  refine takeL 5 (v := ?_) rfl (by kernel_rfl) (by kernel_rfl) (by kernel_rfl) (fun _ _ _ h => h) (Or.inl ⟨by rfl, ?_⟩) hHeld ?_
  rotate_left 1
  · (intro w hSw; go_simp; try with_reducible rfl)
  try simp only [Act.put, List.setIfInBounds_toArray, List.set_cons_zero, List.set_cons_succ]
  refine takeL 6 (v := ?_) rfl (by kernel_rfl) (by kernel_rfl) (by kernel_rfl) (fun _ _ _ h => h) (Or.inl ⟨by rfl, ?_⟩) hHeld ?_
  rotate_left 1
  · (intro w hSw; go_simp; try with_reducible rfl)
  try simp only [Act.put, List.setIfInBounds_toArray, List.set_cons_zero, List.set_cons_succ]
  refine takeL 7 (v := ?_) rfl (by kernel_rfl) (by kernel_rfl) (by kernel_rfl) (fun _ _ _ h => h) (Or.inl ⟨by rfl, ?_⟩) hHeld ?_
  rotate_left 1
  · (intro w hSw; go_simp; try with_reducible rfl)
  try simp only [Act.put, List.setIfInBounds_toArray, List.set_cons_zero, List.set_cons_succ]
  refine takeL 8 (v := ?_) rfl (by kernel_rfl) (by kernel_rfl) (by kernel_rfl) (fun _ _ _ h => h) (Or.inl ⟨by rfl, ?_⟩) hHeld ?_
  rotate_left 1
  · (intro w hSw; have h := hSw.2; go_simp; try with_reducible rfl)
  try simp only [Act.put, List.setIfInBounds_toArray, List.set_cons_zero, List.set_cons_succ]
  refine stepL 9 (by kernel_rfl) rfl (fun K hK => ?_)
  go_simp
  refine (HJy0.out hj0 _ _ y1 (HYR.out y1 R0.out.below).a (HX.out y1 R0.out.below).a).mono ?_
  rintro e y2 ⟨vv, rfl, hu, hb⟩
  show K _ _
  have R1 := Bx.mk (R0.out.later hb)
  obtain ⟨u0, g0, hv⟩ := hu.form
  subst hv
  have U0a := Bx.mk hu
  clear hu
  clear hb R0
  refine hK.out _ _ (⟨by rw [cell_of_row _ _ _ _ _ _ (R1.out.rows _ (.tail _ (.tail _ (.head _)))), ← HNv.out.1]; rfl, by rw [cell_of_row _ _ _ _ _ _ (R1.out.rows _ (.tail _ (.tail _ (.head _))))]; rfl⟩) (fun hHeld => ?_)
  clear hK K
  try simp only [Act.put, List.setIfInBounds_toArray, List.set_cons_zero, List.set_cons_succ]
  refine takeL 10 (v := ?_) rfl (by kernel_rfl) (by kernel_rfl) (by kernel_rfl) (fun _ _ _ h => h) (Or.inl ⟨by rfl, ?_⟩) hHeld ?_
  rotate_left 1
  · (intro w hSw; go_simp; try with_reducible rfl)
  try simp only [Act.put, List.setIfInBounds_toArray, List.set_cons_zero, List.set_cons_succ]
  refine takeL 11 (v := ?_) rfl (by kernel_rfl) (by kernel_rfl) (by kernel_rfl) (fun _ _ _ h => h) (Or.inl ⟨by rfl, ?_⟩) hHeld ?_
  rotate_left 1
  · (intro w hSw; go_simp; try with_reducible rfl)
  try simp only [Act.put, List.setIfInBounds_toArray, List.set_cons_zero, List.set_cons_succ]
  refine takeL 12 (v := ?_) rfl (by kernel_rfl) (by kernel_rfl) (by kernel_rfl) (fun _ _ _ h => h) (Or.inl ⟨by rfl, ?_⟩) hHeld ?_
  rotate_left 1
  · (intro w hSw; go_simp; try with_reducible rfl)
  try simp only [Act.put, List.setIfInBounds_toArray, List.set_cons_zero, List.set_cons_succ]
  refine takeL 13 (v := ?_) rfl (by kernel_rfl) (by kernel_rfl) (by kernel_rfl) (fun _ _ _ h => h) (Or.inl ⟨by rfl, ?_⟩) hHeld ?_
  rotate_left 1
  · (intro w hSw; go_simp; try with_reducible rfl)
  try simp only [Act.put, List.setIfInBounds_toArray, List.set_cons_zero, List.set_cons_succ]
  refine takeL 14 (v := ?_) rfl (by kernel_rfl) (by kernel_rfl) (by kernel_rfl) (fun _ _ _ h => h) (Or.inl ⟨by rfl, ?_⟩) hHeld ?_
  rotate_left 1
  · (intro w hSw; go_simp; try with_reducible rfl)
  try simp only [Act.put, List.setIfInBounds_toArray, List.set_cons_zero, List.set_cons_succ]
  refine wpAnyH_done (by kernel_rfl) ?_ _
  refine NoPanic.normal ?_
  clear hHeld
  go_wp2_with (refine wpList_cellS rfl _ _ rfl D 0 u0 r0.length g0 #[.slice none 0 0, .slice none 0 0, .slice none 0 0, .slice none 0 0] #[.slice u0 r0.length g0, .slice none 0 0, .slice none 0 0, .slice none 0 0] 129 (by rfl) (by rfl) (R1.out.rows _ (.head _)) (by simp) rfl ?_; intro y3 hg hr; have K6 := Bx.mk (R1.out.set hg hr (by have := HVD.out; omega) (by have := HVD.out; intro z hz; simp at hz; rcases hz with rfl | rfl <;> simp <;> omega)); have U0 := Bx.mk (U0a.out.grown hg (R1.out.rows _ (.head _)) set_int); clear hg hr R1 U0a)
  rw [rounds_succ]
  cases hj1 : okJ l.b n1 m.b with
  | false =>
    go_upto_region 12 with fail
    have R0 := Bx.mk K6.out.drew
    refine wp_region_noPanic ?_
    refine wp_region_held_drew (S := fun W => W.cell? ⟨E, 1, none⟩ = some (.int .i64 (n1 : Int)) ∧ W.cell? ⟨E, 5, none⟩ = some (.slice q2 m.b.length b2)) (by kernel_rfl) (⟨by rw [cell_of_row _ _ _ _ _ _ (R0.out.rows _ (.tail _ (.tail _ (.head _)))), ← HNv.out.2.1]; rfl, by rw [cell_of_row _ _ _ _ _ _ (R0.out.rows _ (.tail _ (.tail _ (.head _))))]; rfl⟩) (fun hHeld => ?_)
    generalize y3.drew = y4 at *
    refine takeL 0 (v := ?_) rfl (by kernel_rfl) (by kernel_rfl) (by kernel_rfl) (fun _ _ _ h => h) (Or.inl ⟨by rfl, ?_⟩) hHeld ?_
    rotate_left 1
    · (intro w hSw; go_simp; try with_reducible rfl)
    try simp only [Act.put, List.setIfInBounds_toArray, List.set_cons_zero, List.set_cons_succ]
    refine takeL 1 (v := ?_) rfl (by kernel_rfl) (by kernel_rfl) (by kernel_rfl) (fun _ _ _ h => h) (Or.inl ⟨by rfl, ?_⟩) hHeld ?_
    rotate_left 1
    · (intro w hSw; go_simp; try with_reducible rfl)
    try simp only [Act.put, List.setIfInBounds_toArray, List.set_cons_zero, List.set_cons_succ]
    refine takeL 2 (v := ?_) rfl (by kernel_rfl) (by kernel_rfl) (by kernel_rfl) (fun _ _ _ h => h) (Or.inl ⟨by rfl, ?_⟩) hHeld ?_
    rotate_left 1
    · (intro w hSw; go_simp; try with_reducible rfl)
    try simp only [Act.put, List.setIfInBounds_toArray, List.set_cons_zero, List.set_cons_succ]
    refine takeL 3 (v := ?_) rfl (by kernel_rfl) (by kernel_rfl) (by kernel_rfl) (fun _ _ _ h => h) (Or.inl ⟨by rfl, ?_⟩) hHeld ?_
    rotate_left 1
    · (intro w hSw; go_simp; try with_reducible rfl)
    try simp only [Act.put, List.setIfInBounds_toArray, List.set_cons_zero, List.set_cons_succ]
    refine takeL 4 (v := ?_) rfl (by kernel_rfl) (by kernel_rfl) (by kernel_rfl) (fun _ _ _ h => h) (Or.inl ⟨by rfl, ?_⟩) hHeld ?_
    rotate_left 1
    · (intro w hSw; have h := hSw.1; go_simp; try with_reducible rfl)
    try simp only [Act.put, List.setIfInBounds_toArray, List.set_cons_zero, List.set_cons_succ]
    refine takeL 5 (v := ?_) rfl (by kernel_rfl) (by kernel_rfl) (by kernel_rfl) (fun _ _ _ h => h) (Or.inl ⟨by rfl, ?_⟩) hHeld ?_
    rotate_left 1
    · (intro w hSw; go_simp; try with_reducible rfl)
    try simp only [Act.put, List.setIfInBounds_toArray, List.set_cons_zero, List.set_cons_succ]
    refine takeL 6 (v := ?_) rfl (by kernel_rfl) (by kernel_rfl) (by kernel_rfl) (fun _ _ _ h => h) (Or.inl ⟨by rfl, ?_⟩) hHeld ?_
    rotate_left 1
    · (intro w hSw; go_simp; try with_reducible rfl)
    try simp only [Act.put, List.setIfInBounds_toArray, List.set_cons_zero, List.set_cons_succ]
    refine takeL 7 (v := ?_) rfl (by kernel_rfl) (by kernel_rfl) (by kernel_rfl) (fun _ _ _ h => h) (Or.inl ⟨by rfl, ?_⟩) hHeld ?_
    rotate_left 1
    · (intro w hSw; go_simp; try with_reducible rfl)
    try simp only [Act.put, List.setIfInBounds_toArray, List.set_cons_zero, List.set_cons_succ]
    refine takeL 8 (v := ?_) rfl (by kernel_rfl) (by kernel_rfl) (by kernel_rfl) (fun _ _ _ h => h) (Or.inl ⟨by rfl, ?_⟩) hHeld ?_
    rotate_left 1
    · (intro w hSw; have h := hSw.2; go_simp; try with_reducible rfl)
    try simp only [Act.put, List.setIfInBounds_toArray, List.set_cons_zero, List.set_cons_succ]
    refine stepL 9 (by kernel_rfl) rfl (fun K hK => ?_)
    go_simp
    refine (HJn1.out hj1 _ _ y4 (HYR.out y4 R0.out.below).b (HX.out y4 R0.out.below).b).mono ?_
    rintro e y5 ⟨xa, xn, xc, rfl, hb⟩
    show K _ _
    have R1 := Bx.mk (R0.out.later hb)
    clear hb R0
    refine hK.out _ _ (⟨by rw [cell_of_row _ _ _ _ _ _ (R1.out.rows _ (.tail _ (.tail _ (.head _)))), ← HNv.out.2.1]; rfl, by rw [cell_of_row _ _ _ _ _ _ (R1.out.rows _ (.tail _ (.tail _ (.head _))))]; rfl⟩) (fun hHeld => ?_)
    clear hK K
    try simp only [Act.put, List.setIfInBounds_toArray, List.set_cons_zero, List.set_cons_succ]
    refine takeL 10 (v := ?_) rfl (by kernel_rfl) (by kernel_rfl) (by kernel_rfl) (fun _ _ _ h => h) (Or.inl ⟨by rfl, ?_⟩) hHeld ?_
    rotate_left 1
    · (intro w hSw; go_simp; try with_reducible rfl)
    try simp only [Act.put, List.setIfInBounds_toArray, List.set_cons_zero, List.set_cons_succ]
    refine takeL 11 (v := ?_) rfl (by kernel_rfl) (by kernel_rfl) (by kernel_rfl) (fun _ _ _ h => h) (Or.inl ⟨by rfl, ?_⟩) hHeld ?_
    rotate_left 1
    · (intro w hSw; go_simp; try with_reducible rfl)
    try simp only [Act.put, List.setIfInBounds_toArray, List.set_cons_zero, List.set_cons_succ]
    refine takeL 12 (v := ?_) rfl (by kernel_rfl) (by kernel_rfl) (by kernel_rfl) (fun _ _ _ h => h) (Or.inl ⟨by rfl, ?_⟩) hHeld ?_
    rotate_left 1
    · (intro w hSw; go_simp; try with_reducible rfl)
    try simp only [Act.put, List.setIfInBounds_toArray, List.set_cons_zero, List.set_cons_succ]
    refine takeL 13 (v := ?_) rfl (by kernel_rfl) (by kernel_rfl) (by kernel_rfl) (fun _ _ _ h => h) (Or.inl ⟨by rfl, ?_⟩) hHeld ?_
    rotate_left 1
    · (intro w hSw; go_simp; try with_reducible rfl)
    try simp only [Act.put, List.setIfInBounds_toArray, List.set_cons_zero, List.set_cons_succ]
    refine takeL 14 (v := ?_) rfl (by kernel_rfl) (by kernel_rfl) (by kernel_rfl) (fun _ _ _ h => h) (Or.inl ⟨by rfl, ?_⟩) hHeld ?_
    rotate_left 1
    · (intro w hSw; go_simp; try with_reducible rfl)
    try simp only [Act.put, List.setIfInBounds_toArray, List.set_cons_zero, List.set_cons_succ]
    refine wpAnyH_done (by kernel_rfl) ?_ _
    refine NoPanic.normal ?_
    clear hHeld
    have hq : q = (0, 3, l) := by
      rw [← HQ.out, if_neg]
      rw [hj0, hj1]
      simp
    go_wp2
    go_ret2
    rw [hq]
    exact ⟨rfl, HSn.out.later (by rw [hE]; exact R1.out.below), kb_below _ (by rw [hE]; exact R1.out.below)⟩
  | true =>
  go_upto_region 12 with fail
  have R0 := Bx.mk K6.out.drew
  have U0b := Bx.mk (U0.out.later (Below.refl _ _).drew)
  clear U0
  clear K6
  refine wp_region_noPanic ?_
  refine wp_region_held_drew (S := fun W => W.cell? ⟨E, 1, none⟩ = some (.int .i64 (n1 : Int)) ∧ W.cell? ⟨E, 5, none⟩ = some (.slice q2 m.b.length b2)) (by kernel_rfl) (⟨by rw [cell_of_row _ _ _ _ _ _ (R0.out.rows _ (.tail _ (.tail _ (.head _)))), ← HNv.out.2.1]; rfl, by rw [cell_of_row _ _ _ _ _ _ (R0.out.rows _ (.tail _ (.tail _ (.head _))))]; rfl⟩) (fun hHeld => ?_)
  generalize y3.drew = y4 at *
  refine takeL 0 (v := ?_) rfl (by kernel_rfl) (by kernel_rfl) (by kernel_rfl) (fun _ _ _ h => h) (Or.inl ⟨by rfl, ?_⟩) hHeld ?_
  rotate_left 1
  · (intro w hSw; go_simp; try with_reducible rfl)
  try simp only [Act.put, List.setIfInBounds_toArray, List.set_cons_zero, List.set_cons_succ]
  refine takeL 1 (v := ?_) rfl (by kernel_rfl) (by kernel_rfl) (by kernel_rfl) (fun _ _ _ h => h) (Or.inl ⟨by rfl, ?_⟩) hHeld ?_
  rotate_left 1
  · (intro w hSw; go_simp; try with_reducible rfl)
  try simp only [Act.put, List.setIfInBounds_toArray, List.set_cons_zero, List.set_cons_succ]
  refine takeL 2 (v := ?_) rfl (by kernel_rfl) (by kernel_rfl) (by kernel_rfl) (fun _ _ _ h => h) (Or.inl ⟨by rfl, ?_⟩) hHeld ?_
  rotate_left 1
  · (intro w hSw; go_simp; try with_reducible rfl)
  try simp only [Act.put, List.setIfInBounds_toArray, List.set_cons_zero, List.set_cons_succ]
  refine takeL 3 (v := ?_) rfl (by kernel_rfl) (by kernel_rfl) (by kernel_rfl) (fun _ _ _ h => h) (Or.inl ⟨by rfl, ?_⟩) hHeld ?_
  rotate_left 1
  · (intro w hSw; go_simp; try with_reducible rfl)
  try simp only [Act.put, List.setIfInBounds_toArray, List.set_cons_zero, List.set_cons_succ]
  refine takeL 4 (v := ?_) rfl (by kernel_rfl) (by kernel_rfl) (by kernel_rfl) (fun _ _ _ h => h) (Or.inl ⟨by rfl, ?_⟩) hHeld ?_
  rotate_left 1
  · (intro w hSw; have h := hSw.1; go_simp; try with_reducible rfl)
  try simp only [Act.put, List.setIfInBounds_toArray, List.set_cons_zero, List.set_cons_succ]
  refine takeL 5 (v := ?_) rfl (by kernel_rfl) (by kernel_rfl) (by kernel_rfl) (fun _ _ _ h => h) (Or.inl ⟨by rfl, ?_⟩) hHeld ?_
  rotate_left 1
  · (intro w hSw; go_simp; try with_reducible rfl)
  try simp only [Act.put, List.setIfInBounds_toArray, List.set_cons_zero, List.set_cons_succ]
  refine takeL 6 (v := ?_) rfl (by kernel_rfl) (by kernel_rfl) (by kernel_rfl) (fun _ _ _ h => h) (Or.inl ⟨by rfl, ?_⟩) hHeld ?_
  rotate_left 1
  · (intro w hSw; go_simp; try with_reducible rfl)
  try simp only [Act.put, List.setIfInBounds_toArray, List.set_cons_zero, List.set_cons_succ]
  refine takeL 7 (v := ?_) rfl (by kernel_rfl) (by kernel_rfl) (by kernel_rfl) (fun _ _ _ h => h) (Or.inl ⟨by rfl, ?_⟩) hHeld ?_
  rotate_left 1
  · (intro w hSw; go_simp; try with_reducible rfl)
  try simp only [Act.put, List.setIfInBounds_toArray, List.set_cons_zero, List.set_cons_succ]
  refine takeL 8 (v := ?_) rfl (by kernel_rfl) (by kernel_rfl) (by kernel_rfl) (fun _ _ _ h => h) (Or.inl ⟨by rfl, ?_⟩) hHeld ?_
  rotate_left 1
  · (intro w hSw; have h := hSw.2; go_simp; try with_reducible rfl)
  try simp only [Act.put, List.setIfInBounds_toArray, List.set_cons_zero, List.set_cons_succ]
  refine stepL 9 (by kernel_rfl) rfl (fun K hK => ?_)
  go_simp
  refine (HJy1.out hj1 _ _ y4 (HYR.out y4 R0.out.below).b (HX.out y4 R0.out.below).b).mono ?_
  rintro e y5 ⟨vv, rfl, hu, hb⟩
  show K _ _
  have R1 := Bx.mk (R0.out.later hb)
  obtain ⟨u1, g1, hv⟩ := hu.form
  subst hv
  have U1a := Bx.mk hu
  have U0c := Bx.mk (U0b.out.later hb)
  clear U0b
  clear hu
  clear hb R0
  refine hK.out _ _ (⟨by rw [cell_of_row _ _ _ _ _ _ (R1.out.rows _ (.tail _ (.tail _ (.head _)))), ← HNv.out.2.1]; rfl, by rw [cell_of_row _ _ _ _ _ _ (R1.out.rows _ (.tail _ (.tail _ (.head _))))]; rfl⟩) (fun hHeld => ?_)
  clear hK K
  try simp only [Act.put, List.setIfInBounds_toArray, List.set_cons_zero, List.set_cons_succ]
  refine takeL 10 (v := ?_) rfl (by kernel_rfl) (by kernel_rfl) (by kernel_rfl) (fun _ _ _ h => h) (Or.inl ⟨by rfl, ?_⟩) hHeld ?_
  rotate_left 1
  · (intro w hSw; go_simp; try with_reducible rfl)
  try simp only [Act.put, List.setIfInBounds_toArray, List.set_cons_zero, List.set_cons_succ]
  refine takeL 11 (v := ?_) rfl (by kernel_rfl) (by kernel_rfl) (by kernel_rfl) (fun _ _ _ h => h) (Or.inl ⟨by rfl, ?_⟩) hHeld ?_
  rotate_left 1
  · (intro w hSw; go_simp; try with_reducible rfl)
  try simp only [Act.put, List.setIfInBounds_toArray, List.set_cons_zero, List.set_cons_succ]
  refine takeL 12 (v := ?_) rfl (by kernel_rfl) (by kernel_rfl) (by kernel_rfl) (fun _ _ _ h => h) (Or.inl ⟨by rfl, ?_⟩) hHeld ?_
  rotate_left 1
  · (intro w hSw; go_simp; try with_reducible rfl)
  try simp only [Act.put, List.setIfInBounds_toArray, List.set_cons_zero, List.set_cons_succ]
  refine takeL 13 (v := ?_) rfl (by kernel_rfl) (by kernel_rfl) (by kernel_rfl) (fun _ _ _ h => h) (Or.inl ⟨by rfl, ?_⟩) hHeld ?_
  rotate_left 1
  · (intro w hSw; go_simp; try with_reducible rfl)
  try simp only [Act.put, List.setIfInBounds_toArray, List.set_cons_zero, List.set_cons_succ]
  refine takeL 14 (v := ?_) rfl (by kernel_rfl) (by kernel_rfl) (by kernel_rfl) (fun _ _ _ h => h) (Or.inl ⟨by rfl, ?_⟩) hHeld ?_
  rotate_left 1
  · (intro w hSw; go_simp; try with_reducible rfl)
  try simp only [Act.put, List.setIfInBounds_toArray, List.set_cons_zero, List.set_cons_succ]
  refine wpAnyH_done (by kernel_rfl) ?_ _
  refine NoPanic.normal ?_
  clear hHeld
  go_wp2_with (refine wpList_cellS rfl _ _ rfl D 1 u1 r1.length g1 #[.slice u0 r0.length g0, .slice none 0 0, .slice none 0 0, .slice none 0 0] #[.slice u0 r0.length g0, .slice u1 r1.length g1, .slice none 0 0, .slice none 0 0] 129 (by rfl) (by rfl) (R1.out.rows _ (.head _)) (by simp) rfl ?_; intro y6 hg hr; have K7 := Bx.mk (R1.out.set hg hr (by have := HVD.out; omega) (by have := HVD.out; intro z hz; simp at hz; rcases hz with rfl | rfl <;> simp <;> omega)); have U1 := Bx.mk (U1a.out.grown hg (R1.out.rows _ (.head _)) set_int); have U0 := Bx.mk (U0c.out.grown hg (R1.out.rows _ (.head _)) set_int); clear U0c; clear hg hr R1 U1a)
  rw [rounds_succ]
  cases hj2 : okJ l.c n2 m.c with
  | false =>
    go_upto_region 12 with fail
    have R0 := Bx.mk K7.out.drew
    refine wp_region_noPanic ?_
    refine wp_region_held_drew (S := fun W => W.cell? ⟨E, 2, none⟩ = some (.int .i64 (n2 : Int)) ∧ W.cell? ⟨E, 6, none⟩ = some (.slice t2 m.c.length c2)) (by kernel_rfl) (⟨by rw [cell_of_row _ _ _ _ _ _ (R0.out.rows _ (.tail _ (.tail _ (.head _)))), ← HNv.out.2.2.1]; rfl, by rw [cell_of_row _ _ _ _ _ _ (R0.out.rows _ (.tail _ (.tail _ (.head _))))]; rfl⟩) (fun hHeld => ?_)
    generalize y6.drew = y7 at *
    refine takeL 0 (v := ?_) rfl (by kernel_rfl) (by kernel_rfl) (by kernel_rfl) (fun _ _ _ h => h) (Or.inl ⟨by rfl, ?_⟩) hHeld ?_
    rotate_left 1
    · (intro w hSw; go_simp; try with_reducible rfl)
    try simp only [Act.put, List.setIfInBounds_toArray, List.set_cons_zero, List.set_cons_succ]
    refine takeL 1 (v := ?_) rfl (by kernel_rfl) (by kernel_rfl) (by kernel_rfl) (fun _ _ _ h => h) (Or.inl ⟨by rfl, ?_⟩) hHeld ?_
    rotate_left 1
    · (intro w hSw; go_simp; try with_reducible rfl)
    try simp only [Act.put, List.setIfInBounds_toArray, List.set_cons_zero, List.set_cons_succ]
    refine takeL 2 (v := ?_) rfl (by kernel_rfl) (by kernel_rfl) (by kernel_rfl) (fun _ _ _ h => h) (Or.inl ⟨by rfl, ?_⟩) hHeld ?_
    rotate_left 1
    · (intro w hSw; go_simp; try with_reducible rfl)
    try simp only [Act.put, List.setIfInBounds_toArray, List.set_cons_zero, List.set_cons_succ]
    refine takeL 3 (v := ?_) rfl (by kernel_rfl) (by kernel_rfl) (by kernel_rfl) (fun _ _ _ h => h) (Or.inl ⟨by rfl, ?_⟩) hHeld ?_
    rotate_left 1
    · (intro w hSw; go_simp; try with_reducible rfl)
    try simp only [Act.put, List.setIfInBounds_toArray, List.set_cons_zero, List.set_cons_succ]
    refine takeL 4 (v := ?_) rfl (by kernel_rfl) (by kernel_rfl) (by kernel_rfl) (fun _ _ _ h => h) (Or.inl ⟨by rfl, ?_⟩) hHeld ?_
    rotate_left 1
    · (intro w hSw; have h := hSw.1; go_simp; try with_reducible rfl)
    try simp only [Act.put, List.setIfInBounds_toArray, List.set_cons_zero, List.set_cons_succ]
    refine takeL 5 (v := ?_) rfl (by kernel_rfl) (by kernel_rfl) (by kernel_rfl) (fun _ _ _ h => h) (Or.inl ⟨by rfl, ?_⟩) hHeld ?_
    rotate_left 1
    · (intro w hSw; go_simp; try with_reducible rfl)
    try simp only [Act.put, List.setIfInBounds_toArray, List.set_cons_zero, List.set_cons_succ]
    refine takeL 6 (v := ?_) rfl (by kernel_rfl) (by kernel_rfl) (by kernel_rfl) (fun _ _ _ h => h) (Or.inl ⟨by rfl, ?_⟩) hHeld ?_
    rotate_left 1
    · (intro w hSw; go_simp; try with_reducible rfl)
    try simp only [Act.put, List.setIfInBounds_toArray, List.set_cons_zero, List.set_cons_succ]
    refine takeL 7 (v := ?_) rfl (by kernel_rfl) (by kernel_rfl) (by kernel_rfl) (fun _ _ _ h => h) (Or.inl ⟨by rfl, ?_⟩) hHeld ?_
    rotate_left 1
    · (intro w hSw; go_simp; try with_reducible rfl)
    try simp only [Act.put, List.setIfInBounds_toArray, List.set_cons_zero, List.set_cons_succ]
    refine takeL 8 (v := ?_) rfl (by kernel_rfl) (by kernel_rfl) (by kernel_rfl) (fun _ _ _ h => h) (Or.inl ⟨by rfl, ?_⟩) hHeld ?_
    rotate_left 1
    · (intro w hSw; have h := hSw.2; go_simp; try with_reducible rfl)
    try simp only [Act.put, List.setIfInBounds_toArray, List.set_cons_zero, List.set_cons_succ]
    refine stepL 9 (by kernel_rfl) rfl (fun K hK => ?_)
    go_simp
    refine (HJn2.out hj2 _ _ y7 (HYR.out y7 R0.out.below).c (HX.out y7 R0.out.below).c).mono ?_
    rintro e y8 ⟨xa, xn, xc, rfl, hb⟩
    show K _ _
    have R1 := Bx.mk (R0.out.later hb)
    clear hb R0
    refine hK.out _ _ (⟨by rw [cell_of_row _ _ _ _ _ _ (R1.out.rows _ (.tail _ (.tail _ (.head _)))), ← HNv.out.2.2.1]; rfl, by rw [cell_of_row _ _ _ _ _ _ (R1.out.rows _ (.tail _ (.tail _ (.head _))))]; rfl⟩) (fun hHeld => ?_)
    clear hK K
    try simp only [Act.put, List.setIfInBounds_toArray, List.set_cons_zero, List.set_cons_succ]
    refine takeL 10 (v := ?_) rfl (by kernel_rfl) (by kernel_rfl) (by kernel_rfl) (fun _ _ _ h => h) (Or.inl ⟨by rfl, ?_⟩) hHeld ?_
    rotate_left 1
    · (intro w hSw; go_simp; try with_reducible rfl)
    try simp only [Act.put, List.setIfInBounds_toArray, List.set_cons_zero, List.set_cons_succ]
    refine takeL 11 (v := ?_) rfl (by kernel_rfl) (by kernel_rfl) (by kernel_rfl) (fun _ _ _ h => h) (Or.inl ⟨by rfl, ?_⟩) hHeld ?_
    rotate_left 1
    · (intro w hSw; go_simp; try with_reducible rfl)
    try simp only [Act.put, List.setIfInBounds_toArray, List.set_cons_zero, List.set_cons_succ]
    refine takeL 12 (v := ?_) rfl (by kernel_rfl) (by kernel_rfl) (by kernel_rfl) (fun _ _ _ h => h) (Or.inl ⟨by rfl, ?_⟩) hHeld ?_
    rotate_left 1
    · (intro w hSw; go_simp; try with_reducible rfl)
    try simp only [Act.put, List.setIfInBounds_toArray, List.set_cons_zero, List.set_cons_succ]
    refine takeL 13 (v := ?_) rfl (by kernel_rfl) (by kernel_rfl) (by kernel_rfl) (fun _ _ _ h => h) (Or.inl ⟨by rfl, ?_⟩) hHeld ?_
    rotate_left 1
    · (intro w hSw; go_simp; try with_reducible rfl)
    try simp only [Act.put, List.setIfInBounds_toArray, List.set_cons_zero, List.set_cons_succ]
    refine takeL 14 (v := ?_) rfl (by kernel_rfl) (by kernel_rfl) (by kernel_rfl) (fun _ _ _ h => h) (Or.inl ⟨by rfl, ?_⟩) hHeld ?_
    rotate_left 1
    · (intro w hSw; go_simp; try with_reducible rfl)
    try simp only [Act.put, List.setIfInBounds_toArray, List.set_cons_zero, List.set_cons_succ]
    refine wpAnyH_done (by kernel_rfl) ?_ _
    refine NoPanic.normal ?_
    clear hHeld
    have hq : q = (0, 3, l) := by
      rw [← HQ.out, if_neg]
      rw [hj0, hj1, hj2]
      simp
    go_wp2
    go_ret2
    rw [hq]
    exact ⟨rfl, HSn.out.later (by rw [hE]; exact R1.out.below), kb_below _ (by rw [hE]; exact R1.out.below)⟩
  | true =>
  go_upto_region 12 with fail
  have R0 := Bx.mk K7.out.drew
  have U0b := Bx.mk (U0.out.later (Below.refl _ _).drew)
  clear U0
  have U1b := Bx.mk (U1.out.later (Below.refl _ _).drew)
  clear U1
  clear K7
  refine wp_region_noPanic ?_
  refine wp_region_held_drew (S := fun W => W.cell? ⟨E, 2, none⟩ = some (.int .i64 (n2 : Int)) ∧ W.cell? ⟨E, 6, none⟩ = some (.slice t2 m.c.length c2)) (by kernel_rfl) (⟨by rw [cell_of_row _ _ _ _ _ _ (R0.out.rows _ (.tail _ (.tail _ (.head _)))), ← HNv.out.2.2.1]; rfl, by rw [cell_of_row _ _ _ _ _ _ (R0.out.rows _ (.tail _ (.tail _ (.head _))))]; rfl⟩) (fun hHeld => ?_)
  generalize y6.drew = y7 at *
  refine takeL 0 (v := ?_) rfl (by kernel_rfl) (by kernel_rfl) (by kernel_rfl) (fun _ _ _ h => h) (Or.inl ⟨by rfl, ?_⟩) hHeld ?_
  rotate_left 1
  · (intro w hSw; go_simp; try with_reducible rfl)
  try simp only [Act.put, List.setIfInBounds_toArray, List.set_cons_zero, List.set_cons_succ]
  refine takeL 1 (v := ?_) rfl (by kernel_rfl) (by kernel_rfl) (by kernel_rfl) (fun _ _ _ h => h) (Or.inl ⟨by rfl, ?_⟩) hHeld ?_
  rotate_left 1
  · (intro w hSw; go_simp; try with_reducible rfl)
  try simp only [Act.put, List.setIfInBounds_toArray, List.set_cons_zero, List.set_cons_succ]
  refine takeL 2 (v := ?_) rfl (by kernel_rfl) (by kernel_rfl) (by kernel_rfl) (fun _ _ _ h => h) (Or.inl ⟨by rfl, ?_⟩) hHeld ?_
  rotate_left 1
  · (intro w hSw; go_simp; try with_reducible rfl)
  try simp only [Act.put, List.setIfInBounds_toArray, List.set_cons_zero, List.set_cons_succ]
  refine takeL 3 (v := ?_) rfl (by kernel_rfl) (by kernel_rfl) (by kernel_rfl) (fun _ _ _ h => h) (Or.inl ⟨by rfl, ?_⟩) hHeld ?_
  rotate_left 1
  · (intro w hSw; go_simp; try with_reducible rfl)
  try simp only [Act.put, List.setIfInBounds_toArray, List.set_cons_zero, List.set_cons_succ]
  refine takeL 4 (v := ?_) rfl (by kernel_rfl) (by kernel_rfl) (by kernel_rfl) (fun _ _ _ h => h) (Or.inl ⟨by rfl, ?_⟩) hHeld ?_
  rotate_left 1
  · (intro w hSw; have h := hSw.1; go_simp; try with_reducible rfl)
  try simp only [Act.put, List.setIfInBounds_toArray, List.set_cons_zero, List.set_cons_succ]
  refine takeL 5 (v := ?_) rfl (by kernel_rfl) (by kernel_rfl) (by kernel_rfl) (fun _ _ _ h => h) (Or.inl ⟨by rfl, ?_⟩) hHeld ?_
  rotate_left 1
  · (intro w hSw; go_simp; try with_reducible rfl)
  try simp only [Act.put, List.setIfInBounds_toArray, List.set_cons_zero, List.set_cons_succ]
  refine takeL 6 (v := ?_) rfl (by kernel_rfl) (by kernel_rfl) (by kernel_rfl) (fun _ _ _ h => h) (Or.inl ⟨by rfl, ?_⟩) hHeld ?_
  rotate_left 1
  · (intro w hSw; go_simp; try with_reducible rfl)
  try simp only [Act.put, List.setIfInBounds_toArray, List.set_cons_zero, List.set_cons_succ]
  refine takeL 7 (v := ?_) rfl (by kernel_rfl) (by kernel_rfl) (by kernel_rfl) (fun _ _ _ h => h) (Or.inl ⟨by rfl, ?_⟩) hHeld ?_
  rotate_left 1
  · (intro w hSw; go_simp; try with_reducible rfl)
  try simp only [Act.put, List.setIfInBounds_toArray, List.set_cons_zero, List.set_cons_succ]
  refine takeL 8 (v := ?_) rfl (by kernel_rfl) (by kernel_rfl) (by kernel_rfl) (fun _ _ _ h => h) (Or.inl ⟨by rfl, ?_⟩) hHeld ?_
  rotate_left 1
  · (intro w hSw; have h := hSw.2; go_simp; try with_reducible rfl)
  try simp only [Act.put, List.setIfInBounds_toArray, List.set_cons_zero, List.set_cons_succ]
  refine stepL 9 (by kernel_rfl) rfl (fun K hK => ?_)
  go_simp
  refine (HJy2.out hj2 _ _ y7 (HYR.out y7 R0.out.below).c (HX.out y7 R0.out.below).c).mono ?_
  rintro e y8 ⟨vv, rfl, hu, hb⟩
  show K _ _
  have R1 := Bx.mk (R0.out.later hb)
  obtain ⟨u2, g2, hv⟩ := hu.form
  subst hv
  have U2a := Bx.mk hu
  have U0c := Bx.mk (U0b.out.later hb)
  clear U0b
  have U1c := Bx.mk (U1b.out.later hb)
  clear U1b
  clear hu
  clear hb R0
  refine hK.out _ _ (⟨by rw [cell_of_row _ _ _ _ _ _ (R1.out.rows _ (.tail _ (.tail _ (.head _)))), ← HNv.out.2.2.1]; rfl, by rw [cell_of_row _ _ _ _ _ _ (R1.out.rows _ (.tail _ (.tail _ (.head _))))]; rfl⟩) (fun hHeld => ?_)
  clear hK K
  try simp only [Act.put, List.setIfInBounds_toArray, List.set_cons_zero, List.set_cons_succ]
  refine takeL 10 (v := ?_) rfl (by kernel_rfl) (by kernel_rfl) (by kernel_rfl) (fun _ _ _ h => h) (Or.inl ⟨by rfl, ?_⟩) hHeld ?_
  rotate_left 1
  · (intro w hSw; go_simp; try with_reducible rfl)
  try simp only [Act.put, List.setIfInBounds_toArray, List.set_cons_zero, List.set_cons_succ]
  refine takeL 11 (v := ?_) rfl (by kernel_rfl) (by kernel_rfl) (by kernel_rfl) (fun _ _ _ h => h) (Or.inl ⟨by rfl, ?_⟩) hHeld ?_
  rotate_left 1
  · (intro w hSw; go_simp; try with_reducible rfl)
  try simp only [Act.put, List.setIfInBounds_toArray, List.set_cons_zero, List.set_cons_succ]
  refine takeL 12 (v := ?_) rfl (by kernel_rfl) (by kernel_rfl) (by kernel_rfl) (fun _ _ _ h => h) (Or.inl ⟨by rfl, ?_⟩) hHeld ?_
  rotate_left 1
  · (intro w hSw; go_simp; try with_reducible rfl)
  try simp only [Act.put, List.setIfInBounds_toArray, List.set_cons_zero, List.set_cons_succ]
  refine takeL 13 (v := ?_) rfl (by kernel_rfl) (by kernel_rfl) (by kernel_rfl) (fun _ _ _ h => h) (Or.inl ⟨by rfl, ?_⟩) hHeld ?_
  rotate_left 1
  · (intro w hSw; go_simp; try with_reducible rfl)
  try simp only [Act.put, List.setIfInBounds_toArray, List.set_cons_zero, List.set_cons_succ]
  refine takeL 14 (v := ?_) rfl (by kernel_rfl) (by kernel_rfl) (by kernel_rfl) (fun _ _ _ h => h) (Or.inl ⟨by rfl, ?_⟩) hHeld ?_
  rotate_left 1
  · (intro w hSw; go_simp; try with_reducible rfl)
  try simp only [Act.put, List.setIfInBounds_toArray, List.set_cons_zero, List.set_cons_succ]
  refine wpAnyH_done (by kernel_rfl) ?_ _
  refine NoPanic.normal ?_
  clear hHeld
  go_wp2_with (refine wpList_cellS rfl _ _ rfl D 2 u2 r2.length g2 #[.slice u0 r0.length g0, .slice u1 r1.length g1, .slice none 0 0, .slice none 0 0] #[.slice u0 r0.length g0, .slice u1 r1.length g1, .slice u2 r2.length g2, .slice none 0 0] 129 (by rfl) (by rfl) (R1.out.rows _ (.head _)) (by simp) rfl ?_; intro y9 hg hr; have K8 := Bx.mk (R1.out.set hg hr (by have := HVD.out; omega) (by have := HVD.out; intro z hz; simp at hz; rcases hz with rfl | rfl <;> simp <;> omega)); have U2 := Bx.mk (U2a.out.grown hg (R1.out.rows _ (.head _)) set_int); have U0 := Bx.mk (U0c.out.grown hg (R1.out.rows _ (.head _)) set_int); clear U0c; have U1 := Bx.mk (U1c.out.grown hg (R1.out.rows _ (.head _)) set_int); clear U1c; clear hg hr R1 U2a)
  rw [rounds_succ]
  cases hj3 : okJ l.d n3 m.d with
  | false =>
    go_upto_region 12 with fail
    have R0 := Bx.mk K8.out.drew
    refine wp_region_noPanic ?_
    refine wp_region_held_drew (S := fun W => W.cell? ⟨E, 3, none⟩ = some (.int .i64 (n3 : Int)) ∧ W.cell? ⟨E, 7, none⟩ = some (.slice s2 m.d.length d2)) (by kernel_rfl) (⟨by rw [cell_of_row _ _ _ _ _ _ (R0.out.rows _ (.tail _ (.tail _ (.head _)))), ← HNv.out.2.2.2]; rfl, by rw [cell_of_row _ _ _ _ _ _ (R0.out.rows _ (.tail _ (.tail _ (.head _))))]; rfl⟩) (fun hHeld => ?_)
    generalize y9.drew = y10 at *
    refine takeL 0 (v := ?_) rfl (by kernel_rfl) (by kernel_rfl) (by kernel_rfl) (fun _ _ _ h => h) (Or.inl ⟨by rfl, ?_⟩) hHeld ?_
    rotate_left 1
    · (intro w hSw; go_simp; try with_reducible rfl)
    try simp only [Act.put, List.setIfInBounds_toArray, List.set_cons_zero, List.set_cons_succ]
    refine takeL 1 (v := ?_) rfl (by kernel_rfl) (by kernel_rfl) (by kernel_rfl) (fun _ _ _ h => h) (Or.inl ⟨by rfl, ?_⟩) hHeld ?_
    rotate_left 1
    · (intro w hSw; go_simp; try with_reducible rfl)
    try simp only [Act.put, List.setIfInBounds_toArray, List.set_cons_zero, List.set_cons_succ]
    refine takeL 2 (v := ?_) rfl (by kernel_rfl) (by kernel_rfl) (by kernel_rfl) (fun _ _ _ h => h) (Or.inl ⟨by rfl, ?_⟩) hHeld ?_
    rotate_left 1
    · (intro w hSw; go_simp; try with_reducible rfl)
    try simp only [Act.put, List.setIfInBounds_toArray, List.set_cons_zero, List.set_cons_succ]
    refine takeL 3 (v := ?_) rfl (by kernel_rfl) (by kernel_rfl) (by kernel_rfl) (fun _ _ _ h => h) (Or.inl ⟨by rfl, ?_⟩) hHeld ?_
    rotate_left 1
    · (intro w hSw; go_simp; try with_reducible rfl)
    try simp only [Act.put, List.setIfInBounds_toArray, List.set_cons_zero, List.set_cons_succ]
    refine takeL 4 (v := ?_) rfl (by kernel_rfl) (by kernel_rfl) (by kernel_rfl) (fun _ _ _ h => h) (Or.inl ⟨by rfl, ?_⟩) hHeld ?_
    rotate_left 1
    · (intro w hSw; have h := hSw.1; go_simp; try with_reducible rfl)
    try simp only [Act.put, List.setIfInBounds_toArray, List.set_cons_zero, List.set_cons_succ]
    refine takeL 5 (v := ?_) rfl (by kernel_rfl) (by kernel_rfl) (by kernel_rfl) (fun _ _ _ h => h) (Or.inl ⟨by rfl, ?_⟩) hHeld ?_
    rotate_left 1
    · (intro w hSw; go_simp; try with_reducible rfl)
    try simp only [Act.put, List.setIfInBounds_toArray, List.set_cons_zero, List.set_cons_succ]
    refine takeL 6 (v := ?_) rfl (by kernel_rfl) (by kernel_rfl) (by kernel_rfl) (fun _ _ _ h => h) (Or.inl ⟨by rfl, ?_⟩) hHeld ?_
    rotate_left 1
    · (intro w hSw; go_simp; try with_reducible rfl)
    try simp only [Act.put, List.setIfInBounds_toArray, List.set_cons_zero, List.set_cons_succ]
    refine takeL 7 (v := ?_) rfl (by kernel_rfl) (by kernel_rfl) (by kernel_rfl) (fun _ _ _ h => h) (Or.inl ⟨by rfl, ?_⟩) hHeld ?_
    rotate_left 1
    · (intro w hSw; go_simp; try with_reducible rfl)
    try simp only [Act.put, List.setIfInBounds_toArray, List.set_cons_zero, List.set_cons_succ]
    refine takeL 8 (v := ?_) rfl (by kernel_rfl) (by kernel_rfl) (by kernel_rfl) (fun _ _ _ h => h) (Or.inl ⟨by rfl, ?_⟩) hHeld ?_
    rotate_left 1
    · (intro w hSw; have h := hSw.2; go_simp; try with_reducible rfl)
    try simp only [Act.put, List.setIfInBounds_toArray, List.set_cons_zero, List.set_cons_succ]
    refine stepL 9 (by kernel_rfl) rfl (fun K hK => ?_)
    go_simp
    refine (HJn3.out hj3 _ _ y10 (HYR.out y10 R0.out.below).d (HX.out y10 R0.out.below).d).mono ?_
    rintro e y11 ⟨xa, xn, xc, rfl, hb⟩
    show K _ _
    have R1 := Bx.mk (R0.out.later hb)
    clear hb R0
    refine hK.out _ _ (⟨by rw [cell_of_row _ _ _ _ _ _ (R1.out.rows _ (.tail _ (.tail _ (.head _)))), ← HNv.out.2.2.2]; rfl, by rw [cell_of_row _ _ _ _ _ _ (R1.out.rows _ (.tail _ (.tail _ (.head _))))]; rfl⟩) (fun hHeld => ?_)
    clear hK K
    try simp only [Act.put, List.setIfInBounds_toArray, List.set_cons_zero, List.set_cons_succ]
    refine takeL 10 (v := ?_) rfl (by kernel_rfl) (by kernel_rfl) (by kernel_rfl) (fun _ _ _ h => h) (Or.inl ⟨by rfl, ?_⟩) hHeld ?_
    rotate_left 1
    · (intro w hSw; go_simp; try with_reducible rfl)
    try simp only [Act.put, List.setIfInBounds_toArray, List.set_cons_zero, List.set_cons_succ]
    refine takeL 11 (v := ?_) rfl (by kernel_rfl) (by kernel_rfl) (by kernel_rfl) (fun _ _ _ h => h) (Or.inl ⟨by rfl, ?_⟩) hHeld ?_
    rotate_left 1
    · (intro w hSw; go_simp; try with_reducible rfl)
    try simp only [Act.put, List.setIfInBounds_toArray, List.set_cons_zero, List.set_cons_succ]
    refine takeL 12 (v := ?_) rfl (by kernel_rfl) (by kernel_rfl) (by kernel_rfl) (fun _ _ _ h => h) (Or.inl ⟨by rfl, ?_⟩) hHeld ?_
    rotate_left 1
    · (intro w hSw; go_simp; try with_reducible rfl)
    try simp only [Act.put, List.setIfInBounds_toArray, List.set_cons_zero, List.set_cons_succ]
    refine takeL 13 (v := ?_) rfl (by kernel_rfl) (by kernel_rfl) (by kernel_rfl) (fun _ _ _ h => h) (Or.inl ⟨by rfl, ?_⟩) hHeld ?_
    rotate_left 1
    · (intro w hSw; go_simp; try with_reducible rfl)
    try simp only [Act.put, List.setIfInBounds_toArray, List.set_cons_zero, List.set_cons_succ]
    refine takeL 14 (v := ?_) rfl (by kernel_rfl) (by kernel_rfl) (by kernel_rfl) (fun _ _ _ h => h) (Or.inl ⟨by rfl, ?_⟩) hHeld ?_
    rotate_left 1
    · (intro w hSw; go_simp; try with_reducible rfl)
    try simp only [Act.put, List.setIfInBounds_toArray, List.set_cons_zero, List.set_cons_succ]
    refine wpAnyH_done (by kernel_rfl) ?_ _
    refine NoPanic.normal ?_
    clear hHeld
    have hq : q = (0, 3, l) := by
      rw [← HQ.out, if_neg]
      rw [hj0, hj1, hj2, hj3]
      simp
    go_wp2
    go_ret2
    rw [hq]
    exact ⟨rfl, HSn.out.later (by rw [hE]; exact R1.out.below), kb_below _ (by rw [hE]; exact R1.out.below)⟩
  | true =>
  go_upto_region 12 with fail
  have R0 := Bx.mk K8.out.drew
  have U0b := Bx.mk (U0.out.later (Below.refl _ _).drew)
  clear U0
  have U1b := Bx.mk (U1.out.later (Below.refl _ _).drew)
  clear U1
  have U2b := Bx.mk (U2.out.later (Below.refl _ _).drew)
  clear U2
  clear K8
  refine wp_region_noPanic ?_
  refine wp_region_held_drew (S := fun W => W.cell? ⟨E, 3, none⟩ = some (.int .i64 (n3 : Int)) ∧ W.cell? ⟨E, 7, none⟩ = some (.slice s2 m.d.length d2)) (by kernel_rfl) (⟨by rw [cell_of_row _ _ _ _ _ _ (R0.out.rows _ (.tail _ (.tail _ (.head _)))), ← HNv.out.2.2.2]; rfl, by rw [cell_of_row _ _ _ _ _ _ (R0.out.rows _ (.tail _ (.tail _ (.head _))))]; rfl⟩) (fun hHeld => ?_)
  generalize y9.drew = y10 at *
  refine takeL 0 (v := ?_) rfl (by kernel_rfl) (by kernel_rfl) (by kernel_rfl) (fun _ _ _ h => h) (Or.inl ⟨by rfl, ?_⟩) hHeld ?_
  rotate_left 1
  · (intro w hSw; go_simp; try with_reducible rfl)
  try simp only [Act.put, List.setIfInBounds_toArray, List.set_cons_zero, List.set_cons_succ]
  refine takeL 1 (v := ?_) rfl (by kernel_rfl) (by kernel_rfl) (by kernel_rfl) (fun _ _ _ h => h) (Or.inl ⟨by rfl, ?_⟩) hHeld ?_
  rotate_left 1
  · (intro w hSw; go_simp; try with_reducible rfl)
  try simp only [Act.put, List.setIfInBounds_toArray, List.set_cons_zero, List.set_cons_succ]
  refine takeL 2 (v := ?_) rfl (by kernel_rfl) (by kernel_rfl) (by kernel_rfl) (fun _ _ _ h => h) (Or.inl ⟨by rfl, ?_⟩) hHeld ?_
  rotate_left 1
  · (intro w hSw; go_simp; try with_reducible rfl)
  try simp only [Act.put, List.setIfInBounds_toArray, List.set_cons_zero, List.set_cons_succ]
  refine takeL 3 (v := ?_) rfl (by kernel_rfl) (by kernel_rfl) (by kernel_rfl) (fun _ _ _ h => h) (Or.inl ⟨by rfl, ?_⟩) hHeld ?_
  rotate_left 1
  · (intro w hSw; go_simp; try with_reducible rfl)
  try simp only [Act.put, List.setIfInBounds_toArray, List.set_cons_zero, List.set_cons_succ]
  refine takeL 4 (v := ?_) rfl (by kernel_rfl) (by kernel_rfl) (by kernel_rfl) (fun _ _ _ h => h) (Or.inl ⟨by rfl, ?_⟩) hHeld ?_
  rotate_left 1
  · (intro w hSw; have h := hSw.1; go_simp; try with_reducible rfl)
  try simp only [Act.put, List.setIfInBounds_toArray, List.set_cons_zero, List.set_cons_succ]
  refine takeL 5 (v := ?_) rfl (by kernel_rfl) (by kernel_rfl) (by kernel_rfl) (fun _ _ _ h => h) (Or.inl ⟨by rfl, ?_⟩) hHeld ?_
  rotate_left 1
  · (intro w hSw; go_simp; try with_reducible rfl)
  try simp only [Act.put, List.setIfInBounds_toArray, List.set_cons_zero, List.set_cons_succ]
  refine takeL 6 (v := ?_) rfl (by kernel_rfl) (by kernel_rfl) (by kernel_rfl) (fun _ _ _ h => h) (Or.inl ⟨by rfl, ?_⟩) hHeld ?_
  rotate_left 1
  · (intro w hSw; go_simp; try with_reducible rfl)
  try simp only [Act.put, List.setIfInBounds_toArray, List.set_cons_zero, List.set_cons_succ]
  refine takeL 7 (v := ?_) rfl (by kernel_rfl) (by kernel_rfl) (by kernel_rfl) (fun _ _ _ h => h) (Or.inl ⟨by rfl, ?_⟩) hHeld ?_
  rotate_left 1
  · (intro w hSw; go_simp; try with_reducible rfl)
  try simp only [Act.put, List.setIfInBounds_toArray, List.set_cons_zero, List.set_cons_succ]
  refine takeL 8 (v := ?_) rfl (by kernel_rfl) (by kernel_rfl) (by kernel_rfl) (fun _ _ _ h => h) (Or.inl ⟨by rfl, ?_⟩) hHeld ?_
  rotate_left 1
  · (intro w hSw; have h := hSw.2; go_simp; try with_reducible rfl)
  try simp only [Act.put, List.setIfInBounds_toArray, List.set_cons_zero, List.set_cons_succ]
  refine stepL 9 (by kernel_rfl) rfl (fun K hK => ?_)
  go_simp
  refine (HJy3.out hj3 _ _ y10 (HYR.out y10 R0.out.below).d (HX.out y10 R0.out.below).d).mono ?_
  rintro e y11 ⟨vv, rfl, hu, hb⟩
  show K _ _
  have R1 := Bx.mk (R0.out.later hb)
  obtain ⟨u3, g3, hv⟩ := hu.form
  subst hv
  have U3a := Bx.mk hu
  have U0c := Bx.mk (U0b.out.later hb)
  clear U0b
  have U1c := Bx.mk (U1b.out.later hb)
  clear U1b
  have U2c := Bx.mk (U2b.out.later hb)
  clear U2b
  clear hu
  clear hb R0
  refine hK.out _ _ (⟨by rw [cell_of_row _ _ _ _ _ _ (R1.out.rows _ (.tail _ (.tail _ (.head _)))), ← HNv.out.2.2.2]; rfl, by rw [cell_of_row _ _ _ _ _ _ (R1.out.rows _ (.tail _ (.tail _ (.head _))))]; rfl⟩) (fun hHeld => ?_)
  clear hK K
  try simp only [Act.put, List.setIfInBounds_toArray, List.set_cons_zero, List.set_cons_succ]
  refine takeL 10 (v := ?_) rfl (by kernel_rfl) (by kernel_rfl) (by kernel_rfl) (fun _ _ _ h => h) (Or.inl ⟨by rfl, ?_⟩) hHeld ?_
  rotate_left 1
  · (intro w hSw; go_simp; try with_reducible rfl)
  try simp only [Act.put, List.setIfInBounds_toArray, List.set_cons_zero, List.set_cons_succ]
  refine takeL 11 (v := ?_) rfl (by kernel_rfl) (by kernel_rfl) (by kernel_rfl) (fun _ _ _ h => h) (Or.inl ⟨by rfl, ?_⟩) hHeld ?_
  rotate_left 1
  · (intro w hSw; go_simp; try with_reducible rfl)
  try simp only [Act.put, List.setIfInBounds_toArray, List.set_cons_zero, List.set_cons_succ]
  refine takeL 12 (v := ?_) rfl (by kernel_rfl) (by kernel_rfl) (by kernel_rfl) (fun _ _ _ h => h) (Or.inl ⟨by rfl, ?_⟩) hHeld ?_
  rotate_left 1
  · (intro w hSw; go_simp; try with_reducible rfl)
  try simp only [Act.put, List.setIfInBounds_toArray, List.set_cons_zero, List.set_cons_succ]
  refine takeL 13 (v := ?_) rfl (by kernel_rfl) (by kernel_rfl) (by kernel_rfl) (fun _ _ _ h => h) (Or.inl ⟨by rfl, ?_⟩) hHeld ?_
  rotate_left 1
  · (intro w hSw; go_simp; try with_reducible rfl)
  try simp only [Act.put, List.setIfInBounds_toArray, List.set_cons_zero, List.set_cons_succ]
  refine takeL 14 (v := ?_) rfl (by kernel_rfl) (by kernel_rfl) (by kernel_rfl) (fun _ _ _ h => h) (Or.inl ⟨by rfl, ?_⟩) hHeld ?_
  rotate_left 1
  · (intro w hSw; go_simp; try with_reducible rfl)
  try simp only [Act.put, List.setIfInBounds_toArray, List.set_cons_zero, List.set_cons_succ]
  refine wpAnyH_done (by kernel_rfl) ?_ _
  refine NoPanic.normal ?_
  clear hHeld
  go_wp2_with (refine wpList_cellS rfl _ _ rfl D 3 u3 r3.length g3 #[.slice u0 r0.length g0, .slice u1 r1.length g1, .slice u2 r2.length g2, .slice none 0 0] #[.slice u0 r0.length g0, .slice u1 r1.length g1, .slice u2 r2.length g2, .slice u3 r3.length g3] 129 (by rfl) (by rfl) (R1.out.rows _ (.head _)) (by simp) rfl ?_; intro y12 hg hr; have K9 := Bx.mk (R1.out.set hg hr (by have := HVD.out; omega) (by have := HVD.out; intro z hz; simp at hz; rcases hz with rfl | rfl <;> simp <;> omega)); have U3 := Bx.mk (U3a.out.grown hg (R1.out.rows _ (.head _)) set_int); have U0 := Bx.mk (U0c.out.grown hg (R1.out.rows _ (.head _)) set_int); clear U0c; have U1 := Bx.mk (U1c.out.grown hg (R1.out.rows _ (.head _)) set_int); clear U1c; have U2 := Bx.mk (U2c.out.grown hg (R1.out.rows _ (.head _)) set_int); clear U2c; clear hg hr R1 U3a)
  rw [rounds_succ]
  have HRw : Bx (Rows4 y12 ⟨.slice u0 r0.length g0, .slice u1 r1.length g1, .slice u2 r2.length g2, .slice u3 r3.length g3⟩ ⟨r0, r1, r2, r3⟩) := ⟨⟨U0.out, U1.out, U2.out, U3.out⟩⟩
  have HOk : Bx (q = if covV full4 (L4.ver ⟨r0, r1, r2, r3⟩) = true then ((cntL ⟨r0, r1, r2, r3⟩ : Int) - (cntL l : Int), 0, ⟨r0, r1, r2, r3⟩) else (0, 6, l)) := ⟨by rw [← HQ.out, if_pos (by rw [hj0, hj1, hj2, hj3]; rfl)]; rfl⟩
  clear U0 U1 U2 U3 HQ hj0 hj1 hj2 hj3 HJy0 HJy1 HJy2 HJy3 HJn0 HJn1 HJn2 HJn3 HX HYR HNv i0 i1 i2 i3
  go_wp2_with fail
  refine (versions_any (.pointer (some ⟨D, 0, none⟩)) ⟨r0, r1, r2, r3⟩ y12 (.inr ⟨D, rfl, ⟨.slice u0 r0.length g0, .slice u1 r1.length g1, .slice u2 r2.length g2, .slice u3 r3.length g3⟩, K9.out.rows _ (.head _), HRw.out⟩)).mono ?_
  rintro e y13 ⟨rfl, hb⟩
  have K10 := Bx.mk (K9.out.later hb)
  have HRw2 := Bx.mk (HRw.out.later hb)
  clear hb K9 HRw
  obtain ⟨V2, hV2⟩ : ∃ V2, y13.heap.size = V2 := ⟨_, rfl⟩
  have K11 : Bx (KR w E [(V2, (.cells #[.int .i64 (r0.length : Int), .int .i64 (r1.length : Int), .int .i64 (r2.length : Int), .int .i64 (r3.length : Int)] 28)), (D, (.cells #[.slice u0 r0.length g0, .slice u1 r1.length g1, .slice u2 r2.length g2, .slice u3 r3.length g3] 129)), (V, (.cells #[.int .i64 (l.a.length : Int), .int .i64 (l.b.length : Int), .int .i64 (l.c.length : Int), .int .i64 (l.d.length : Int)] 28)), (E, (.cells #[.int .i64 v.a, .int .i64 v.b, .int .i64 v.c, .int .i64 v.d, .slice p2 m.a.length a2, .slice q2 m.b.length b2, .slice t2 m.c.length c2, .slice s2 m.d.length d2] 30))] (y13.alloc (.cells #[.int .i64 (r0.length : Int), .int .i64 (r1.length : Int), .int .i64 (r2.length : Int), .int .i64 (r3.length : Int)] 28))) := Bx.mk (by
    subst hV2
    exact K10.out.new (.cells #[.int .i64 (r0.length : Int), .int .i64 (r1.length : Int), .int .i64 (r2.length : Int), .int .i64 (r3.length : Int)] 28))
  have HRw3 := Bx.mk (HRw2.out.later (below_a (W := y13) (.cells #[.int .i64 (r0.length : Int), .int .i64 (r1.length : Int), .int .i64 (r2.length : Int), .int .i64 (r3.length : Int)] 28)))
  have HD2 : Bx (D < V2) := ⟨by rw [← hV2]; exact K10.out.lt (.head _)⟩
  clear K10 HRw2
  have HC2 := Bx.mk (fun W => covers_any8 full4 (L4.ver ⟨r0, r1, r2, r3⟩) W)
  generalize hcv : covV full4 (L4.ver ⟨r0, r1, r2, r3⟩) = cv at *
  unfold V4.v L4.ver at *
  simp only [full4] at HC2 ⊢
  have hk : ∀ i u, (#[.int .i64 (r0.length : Int), .int .i64 (r1.length : Int), .int .i64 (r2.length : Int), .int .i64 (r3.length : Int)] : Array Value)[i]? = some u → (y13.alloc (.cells #[.int .i64 (r0.length : Int), .int .i64 (r1.length : Int), .int .i64 (r2.length : Int), .int .i64 (r3.length : Int)] 28)).cell? ⟨V2, i, none⟩ = some u := fun i u h => by
    rw [cell_of_row _ _ _ _ _ _ (K11.out.rows _ (.head _))]
    exact h
  have y0 := hk 0 _ rfl
  have y1 := hk 1 _ rfl
  have y2 := hk 2 _ rfl
  have y3 := hk 3 _ rfl
  clear hk
  have f0 : (y13.alloc (.cells #[.int .i64 (r0.length : Int), .int .i64 (r1.length : Int), .int .i64 (r2.length : Int), .int .i64 (r3.length : Int)] 28)).cell? ⟨0, 0, none⟩ = some (.int .i64 256) := (HF.out _ K11.out.below) 0 _ rfl
  have f1 : (y13.alloc (.cells #[.int .i64 (r0.length : Int), .int .i64 (r1.length : Int), .int .i64 (r2.length : Int), .int .i64 (r3.length : Int)] 28)).cell? ⟨0, 1, none⟩ = some (.int .i64 256) := (HF.out _ K11.out.below) 1 _ rfl
  have f2 : (y13.alloc (.cells #[.int .i64 (r0.length : Int), .int .i64 (r1.length : Int), .int .i64 (r2.length : Int), .int .i64 (r3.length : Int)] 28)).cell? ⟨0, 2, none⟩ = some (.int .i64 256) := (HF.out _ K11.out.below) 2 _ rfl
  have f3 : (y13.alloc (.cells #[.int .i64 (r0.length : Int), .int .i64 (r1.length : Int), .int .i64 (r2.length : Int), .int .i64 (r3.length : Int)] 28)).cell? ⟨0, 3, none⟩ = some (.int .i64 256) := (HF.out _ K11.out.below) 3 _ rfl
  go_wp2_with fail
  generalize y13.alloc (.cells #[.int .i64 (r0.length : Int), .int .i64 (r1.length : Int), .int .i64 (r2.length : Int), .int .i64 (r3.length : Int)] 28) = y14 at *
  refine (HC2.out y14).mono ?_
  rintro e y15 ⟨rfl, hb⟩
  have K12 := Bx.mk (K11.out.later hb)
  have HRw4 := Bx.mk (HRw3.out.later hb)
  clear hb K11 HRw3 HC2 y0 y1 y2 y3 f0 f1 f2 f3 hV2
  cases cv with
  | false =>
    have hq : q = (0, 6, l) := by rw [HOk.out]; rfl
    go_wp2
    go_ret2
    rw [hq]
    exact ⟨rfl, HSn.out.later (by rw [hE]; exact K12.out.below), kb_below _ (by rw [hE]; exact K12.out.below)⟩
  | true =>
    have hq : q = ((cntL ⟨r0, r1, r2, r3⟩ : Int) - (cntL l : Int), 0, ⟨r0, r1, r2, r3⟩) := by rw [HOk.out]; rfl
    have HQ2 := Bx.mk hq
    clear hq HOk
    have hrp := HYp.out _ K12.out.below
    have HRp := Bx.mk hrp
    clear hrp
    go_wp2_with (first | (refine wpList_load_row rfl 129 _ rfl D (by rfl) _ #[.slice u0 r0.length g0, .slice u1 r1.length g1, .slice u2 r2.length g2, .slice u3 r3.length g3] (0, 0) _ (K12.out.rows _ (.tail _ (.head _))) Tryd.underlying129 rfl (by kernel_rfl) ?_) | (refine wpList_store_new rfl 129 _ _ rfl p #[.slice u0 r0.length g0, .slice u1 r1.length g1, .slice u2 r2.length g2, .slice u3 r3.length g3] _ _ (by rfl) (by rfl) HRp.out rfl (by kernel_rfl) (by simp [Value.oneCell']) ?_; intro y16 hw hr; have HPw := Bx.mk hr; have HGw : Bx (y15.grownBy y16 (some p)) := ⟨by rw [hw]; exact kb_setCells _ _ _⟩; clear hw hr))
    have S0 : Bx (KR y16 y16.heap.size [(V2, (.cells #[.int .i64 (r0.length : Int), .int .i64 (r1.length : Int), .int .i64 (r2.length : Int), .int .i64 (r3.length : Int)] 28)), (V, (.cells #[.int .i64 (l.a.length : Int), .int .i64 (l.b.length : Int), .int .i64 (l.c.length : Int), .int .i64 (l.d.length : Int)] 28))] y16) := ⟨⟨fun z hz => by
      have h1 := K12.out.rows z (by simp at hz ⊢; rcases hz with rfl | rfl <;> simp)
      rw [HGw.out.block z.1 (Array.getElem?_eq_some_iff.1 h1).1 (fun e => by
        injection e with e
        have h2 := HVD.out
        have h3 := HD2.out
        have h4 := HPl.out
        simp at hz
        rcases hz with rfl | rfl <;> simp at e <;> omega)]
      exact h1, Below.refl _ _, Nat.le_refl _⟩⟩
    have HEnd : Bx (SetAt y16 p ⟨r0, r1, r2, r3⟩ ∧ w.grownBy y16 (some p)) := ⟨⟨⟨.slice u0 r0.length g0, .slice u1 r1.length g1, .slice u2 r2.length g2, .slice u3 r3.length g3⟩, HPw.out, HRw4.out.beside (HSn.out.later (by rw [hE]; exact K12.out.below)) HGw.out⟩, kb_trans (kb_below _ (by rw [hE]; exact K12.out.below)) HGw.out⟩
    clear K12 HRp HPw HGw HRw4
    have HS1 := Bx.mk (fun W => sum_any8 r0.length r1.length r2.length r3.length W (by have := HR0.out.2; omega) (by have := HR1.out.2; omega) (by have := HR2.out.2; omega) (by have := HR3.out.2; omega))
    have HS2 := Bx.mk (fun W => sum_any8 l.a.length l.b.length l.c.length l.d.length W (by have := HLl.out.a; omega) (by have := HLl.out.b; omega) (by have := HLl.out.c; omega) (by have := HLl.out.d; omega))
    have hca : r0.length + r1.length + r2.length + r3.length = cntL ⟨r0, r1, r2, r3⟩ := rfl
    have hcb : l.a.length + l.b.length + l.c.length + l.d.length = cntL l := rfl
    have hA : cntL ⟨r0, r1, r2, r3⟩ ≤ 6000 := by rw [← hca]; have := HR0.out.2; have := HR1.out.2; have := HR2.out.2; have := HR3.out.2; omega
    have hB : cntL l ≤ 6000 := by rw [← hcb]; have := HLl.out.a; have := HLl.out.b; have := HLl.out.c; have := HLl.out.d; omega
    rw [hca] at HS1
    rw [hcb] at HS2
    generalize cntL ⟨r0, r1, r2, r3⟩ = ca at *
    generalize cntL l = cb at *
    have hA1 : (ca : Int) ≤ 6000 := by omega
    have hB1 : (cb : Int) ≤ 6000 := by omega
    have hA0 : (0 : Int) ≤ (ca : Int) := by omega
    have hB0 : (0 : Int) ≤ (cb : Int) := by omega
    have hwr : IntKind.i64.wrap ((ca : Int) - (cb : Int)) = (ca : Int) - (cb : Int) := by rw [IntKind.wrap_i64]; omega
    unfold V4.v at HS1 HS2
    simp only at HS1 HS2
    clear hca hcb hA hB
    go_upto_region 21 with fail
    have S1 := Bx.mk S0.out.drew
    clear S0
    refine wp_region_noPanic ?_
    refine wp_region_held_drew (S := fun W => W.rangeAt V2 0 [.int .i64 (r0.length : Int), .int .i64 (r1.length : Int), .int .i64 (r2.length : Int), .int .i64 (r3.length : Int)] ∧ W.rangeAt V 0 [.int .i64 (l.a.length : Int), .int .i64 (l.b.length : Int), .int .i64 (l.c.length : Int), .int .i64 (l.d.length : Int)]) (by kernel_rfl) (⟨row_rng8 (l := [.int .i64 (r0.length : Int), .int .i64 (r1.length : Int), .int .i64 (r2.length : Int), .int .i64 (r3.length : Int)]) (S1.out.rows _ (.head _)), row_rng8 (l := [.int .i64 (l.a.length : Int), .int .i64 (l.b.length : Int), .int .i64 (l.c.length : Int), .int .i64 (l.d.length : Int)]) (S1.out.rows _ (.tail _ (.head _)))⟩) (fun hHeld => ?_)
    generalize y16.drew = Z1 at *
    refine takeL 0 rfl (by kernel_rfl) (by kernel_rfl) (by kernel_rfl) (fun _ _ _ h => h) (yieldsIf_load_mid (by rfl) _ _ rfl _ _ rfl _ _ (fun w hSw => hSw.1) Tryd.underlying28 rfl (by kernel_rfl)) hHeld ?_
    try simp only [Act.put, List.setIfInBounds_toArray, List.set_cons_zero, List.set_cons_succ]
    refine takeL 2 rfl (by kernel_rfl) (by kernel_rfl) (by kernel_rfl) (fun _ _ _ h => h) (yieldsIf_load_mid (by rfl) _ _ rfl _ _ rfl _ _ (fun w hSw => hSw.2) Tryd.underlying28 rfl (by kernel_rfl)) hHeld ?_
    try simp only [Act.put, List.setIfInBounds_toArray, List.set_cons_zero, List.set_cons_succ]
    refine stepL 1 (by kernel_rfl) rfl (fun K hK => ?_)
    go_simp
    refine (HS1.out Z1).mono ?_
    rintro e Z2 ⟨rfl, hb⟩
    show K _ _
    have S2 := Bx.mk (S1.out.later hb)
    clear hb
    refine hK.out _ _ (⟨row_rng8 (l := [.int .i64 (r0.length : Int), .int .i64 (r1.length : Int), .int .i64 (r2.length : Int), .int .i64 (r3.length : Int)]) (S2.out.rows _ (.head _)), row_rng8 (l := [.int .i64 (l.a.length : Int), .int .i64 (l.b.length : Int), .int .i64 (l.c.length : Int), .int .i64 (l.d.length : Int)]) (S2.out.rows _ (.tail _ (.head _)))⟩) (fun hHeld => ?_)
    clear hK K
    try simp only [Act.put, List.setIfInBounds_toArray, List.set_cons_zero, List.set_cons_succ]
    refine stepL 3 (by kernel_rfl) rfl (fun K hK => ?_)
    go_simp
    refine (HS2.out Z2).mono ?_
    rintro e Z3 ⟨rfl, hb⟩
    show K _ _
    have S3 := Bx.mk (S2.out.later hb)
    clear hb
    refine hK.out _ _ (⟨row_rng8 (l := [.int .i64 (r0.length : Int), .int .i64 (r1.length : Int), .int .i64 (r2.length : Int), .int .i64 (r3.length : Int)]) (S3.out.rows _ (.head _)), row_rng8 (l := [.int .i64 (l.a.length : Int), .int .i64 (l.b.length : Int), .int .i64 (l.c.length : Int), .int .i64 (l.d.length : Int)]) (S3.out.rows _ (.tail _ (.head _)))⟩) (fun hHeld => ?_)
    clear hK K
    try simp only [Act.put, List.setIfInBounds_toArray, List.set_cons_zero, List.set_cons_succ]
    refine takeL 4 (v := ?_) rfl (by kernel_rfl) (by kernel_rfl) (by kernel_rfl) (fun _ _ _ h => h) (Or.inl ⟨by rfl, ?_⟩) hHeld ?_
    rotate_left 1
    · (intro w hSw; have h := hwr; go_simp; try with_reducible rfl)
    try simp only [Act.put, List.setIfInBounds_toArray, List.set_cons_zero, List.set_cons_succ]
    refine takeL 5 (v := ?_) rfl (by kernel_rfl) (by kernel_rfl) (by kernel_rfl) (fun _ _ _ h => h) (Or.inl ⟨by rfl, ?_⟩) hHeld ?_
    rotate_left 1
    · (intro w hSw; go_simp; try with_reducible rfl)
    try simp only [Act.put, List.setIfInBounds_toArray, List.set_cons_zero, List.set_cons_succ]
    refine takeL 6 (v := ?_) rfl (by kernel_rfl) (by kernel_rfl) (by kernel_rfl) (fun _ _ _ h => h) (Or.inl ⟨by rfl, ?_⟩) hHeld ?_
    rotate_left 1
    · (intro w hSw; go_simp; try with_reducible rfl)
    try simp only [Act.put, List.setIfInBounds_toArray, List.set_cons_zero, List.set_cons_succ]
    refine wpAnyH_done (by kernel_rfl) ?_ _
    refine NoPanic.normal ?_
    clear hHeld
    go_wp2
    go_ret2
    rw [HQ2.out]
    exact ⟨rfl, HEnd.out.1.later S3.out.below, kb_trans HEnd.out.2 (kb_below _ S3.out.below)⟩
end Go.Proofs.YtnfgamekjbkbkaaDoor
