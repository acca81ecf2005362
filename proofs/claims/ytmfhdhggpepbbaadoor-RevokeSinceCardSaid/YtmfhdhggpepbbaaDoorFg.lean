/-
  RevokeGrows: the frame; the inner loop: what was revoked is so still.
-/
import Derived.Test.YtmfhdhggpepbbaaDoorEy
namespace Go.Proofs.YtmfhdhggpepbbaaDoor
open Go Go.RowKit
set_option maxRecDepth 100000 in
theorem open70 {a : Act} (h : Fr 70 a) : ∃ x : Nat → Value, a = ⟨List.toArray (x 0 :: x 1 :: x 2 :: x 3 :: x 4 :: x 5 :: x 6 :: x 7 :: x 8 :: x 9 :: x 10 :: x 11 :: x 12 :: x 13 :: x 14 :: x 15 :: x 16 :: x 17 :: x 18 :: x 19 :: x 20 :: x 21 :: x 22 :: x 23 :: x 24 :: x 25 :: x 26 :: x 27 :: x 28 :: x 29 :: x 30 :: x 31 :: x 32 :: x 33 :: x 34 :: x 35 :: x 36 :: x 37 :: x 38 :: x 39 :: x 40 :: x 41 :: x 42 :: x 43 :: x 44 :: x 45 :: x 46 :: x 47 :: x 48 :: x 49 :: x 50 :: x 51 :: x 52 :: x 53 :: x 54 :: x 55 :: x 56 :: x 57 :: x 58 :: x 59 :: x 60 :: x 61 :: x 62 :: x 63 :: x 64 :: x 65 :: x 66 :: x 67 :: x 68 :: x 69 :: []), []⟩ ∧ ∀ i, a.eval (.tmp i) = x i := ⟨fun i => a.tmps.getD i undef, h.form, fun _ => rfl⟩
/-- What a round leaves alone. -/
structure GO (v0 v3 v4 : Value) (a : Act) : Prop where
  fr : Fr 70 a
  s0 : a.eval (.tmp 0) = v0
  s3 : a.eval (.tmp 3) = v3
  s4 : a.eval (.tmp 4) = v4
/-- What the inner loop leaves alone. -/
structure GI (v0 v3 v4 v5 v6 : Value) (a : Act) : Prop where
  fr : Fr 70 a
  s0 : a.eval (.tmp 0) = v0
  s3 : a.eval (.tmp 3) = v3
  s4 : a.eval (.tmp 4) = v4
  s5 : a.eval (.tmp 5) = v5
  s6 : a.eval (.tmp 6) = v6
set_option maxRecDepth 100000 in
set_option maxHeartbeats 4000000 in
theorem roundG (P : Nat) (l : L4) (lw : List Int) (aw : Option Addr) (nw cw : Nat) (v0 v4 v6 : Value) (w : World) (hs : SetAt w P l) (hg : Good l) (hl : IsL w (.slice aw nw cw) lw) (hn : lw.length = nw) (hnl : nw ≤ 5000) (hh : ∀ y ∈ lw, hasL4 l y = true)
    (Q : Exit → Act → World → Prop) (k : Nat) (a : Act) (wr : World) (hk : k < nw) (h : GI v0 (.pointer (some ⟨P, 0, none⟩)) v4 (.slice aw nw cw) v6 a) (h7 : a.eval (.tmp 7) = .int .i64 (k : Int)) (hb : Below w.heap.size w wr) :
    Code.wp Tryd.prog (loopAt (Tryd.f8.body) 1) (Exit.then (fun a' w' => GI v0 (.pointer (some ⟨P, 0, none⟩)) v4 (.slice aw nw cw) v6 a' ∧ a'.eval (.tmp 7) = .int .i64 ((k + 1 : Nat) : Int) ∧ Below w.heap.size w w') Q) a wr := by
  obtain ⟨_, _, hv, _, _, hr⟩ := (hl.later hb).ints
  injection hv with p1 p2 p3
  subst p1
  clear p2 p3
  obtain ⟨c, o, rfl, hf⟩ := hr (by omega)
  have hc := hf k (by omega)
  obtain ⟨y, hy⟩ : ∃ y, lw.getD k 0 = y := ⟨_, rfl⟩
  have hxm : y ∈ lw := by
    rw [← hy, List.getD_eq_getElem?_getD, List.getElem?_eq_getElem (by omega : k < lw.length)]
    exact List.getElem_mem _
  have hxl := hh y hxm
  rw [hy] at hc
  have HH := Bx.mk (has_any8 y _ l wr (.inr ⟨P, rfl, hs.later hb⟩) hg)
  rw [hxl] at HH
  have HW := Bx.mk hb
  have hk1 : (k : Int) < (nw : Int) := by omega
  have hk0 : (0 : Int) ≤ (k : Int) := by omega
  have hn1 : (nw : Int) ≤ 5000 := by omega
  obtain ⟨x, rfl, hx⟩ := open70 h.fr
  have e0 := (hx 0).symm.trans h.s0
  have e3 := (hx 3).symm.trans h.s3
  have e4 := (hx 4).symm.trans h.s4
  have e5 := (hx 5).symm.trans h.s5
  have e6 := (hx 6).symm.trans h.s6
  have e7 := (hx 7).symm.trans h7
  clear h hx h7 hb hl hr hf hxm hxl hh hs hg hy hn
  rw [e0, e3, e4, e5, e6, e7]
  clear e0 e3 e4 e5 e6 e7
  conv => arg 2; whnf
  go_wp2_with fail
  refine HH.out.mono ?_
  rintro e w1 ⟨rfl, hb⟩
  have HW1 := Bx.mk (HW.out.trans (hb.mono HW.out.size))
  clear hb HW HH
  go_wp2
  exact ⟨⟨⟨rfl, rfl⟩, rfl, rfl, rfl, rfl, rfl⟩, by first | rfl | go_num, HW1.out⟩
set_option maxRecDepth 100000 in
set_option maxHeartbeats 4000000 in
theorem lastG (P : Nat) (aw : Option Addr) (nw cw : Nat) (v0 v4 v6 : Value) (w : World) (hnl : nw ≤ 5000)
    (Q : Exit → Act → World → Prop) (N : Act → World → Prop) (a : Act) (wr : World) (h : GI v0 (.pointer (some ⟨P, 0, none⟩)) v4 (.slice aw nw cw) v6 a) (h7 : a.eval (.tmp 7) = .int .i64 (nw : Int)) (hb : Below w.heap.size w wr)
    (hq : ∀ a' w', GI v0 (.pointer (some ⟨P, 0, none⟩)) v4 (.slice aw nw cw) v6 a' → Below w.heap.size w w' → Q (.exit 2) a' w') :
    Code.wp Tryd.prog (loopAt (Tryd.f8.body) 1) (Exit.then N Q) a wr := by
  have HQ := Bx.mk hq
  have HW := Bx.mk hb
  have hn1 : (nw : Int) ≤ 5000 := by omega
  obtain ⟨x, rfl, hx⟩ := open70 h.fr
  have e0 := (hx 0).symm.trans h.s0
  have e3 := (hx 3).symm.trans h.s3
  have e4 := (hx 4).symm.trans h.s4
  have e5 := (hx 5).symm.trans h.s5
  have e6 := (hx 6).symm.trans h.s6
  have e7 := (hx 7).symm.trans h7
  clear h hx h7 hb hq
  rw [e0, e3, e4, e5, e6, e7]
  clear e0 e3 e4 e5 e6 e7
  conv => arg 2; whnf
  go_wp2
  exact HQ.out _ _ ⟨⟨rfl, rfl⟩, rfl, rfl, rfl, rfl, rfl⟩ HW.out
theorem loopG (P : Nat) (l : L4) (lw : List Int) (aw : Option Addr) (nw cw : Nat) (v0 v4 v6 : Value) (w : World) (hs : SetAt w P l) (hg : Good l) (hl : IsL w (.slice aw nw cw) lw) (hn : lw.length = nw) (hnl : nw ≤ 5000) (hh : ∀ y ∈ lw, hasL4 l y = true)
    (Q : Exit → Act → World → Prop) (a : Act) (h : GI v0 (.pointer (some ⟨P, 0, none⟩)) v4 (.slice aw nw cw) v6 a) (h7 : a.eval (.tmp 7) = .int .i64 0)
    (hq : ∀ a' w', GI v0 (.pointer (some ⟨P, 0, none⟩)) v4 (.slice aw nw cw) v6 a' → Below w.heap.size w w' → Q (.exit 2) a' w') :
    Code.wp Tryd.prog (.loop (loopAt (Tryd.f8.body) 1)) Q a w :=
  wp_count nw (fun k a' w' => GI v0 (.pointer (some ⟨P, 0, none⟩)) v4 (.slice aw nw cw) v6 a' ∧ a'.eval (.tmp 7) = .int .i64 (k : Int) ∧ Below w.heap.size w w') 0 (Nat.zero_le _) ⟨h, h7, Below.refl _ _⟩
    (fun k a' w' hk hI => roundG P l lw aw nw cw v0 v4 v6 w hs hg hl hn hnl hh Q k a' w' hk hI.1 hI.2.1 hI.2.2)
    (fun a' w' hI => lastG P aw nw cw v0 v4 v6 w hnl Q _ a' w' hI.1 hI.2.1 hI.2.2 hq)
end Go.Proofs.YtmfhdhggpepbbaaDoor
