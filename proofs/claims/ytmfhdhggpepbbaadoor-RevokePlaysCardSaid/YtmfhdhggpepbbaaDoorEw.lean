/-
  Revocations: all serials, rising, each once.
-/
import Derived.Test.YtmfhdhggpepbbaaDoorEs
import Derived.Test.YtmfhdhggpepbbaaDoorEu
import Derived.Test.YtmfhdhggpepbbaaDoorShl
namespace Go.Proofs.YtmfhdhggpepbbaaDoor
open Go Go.RowKit
theorem getB (l : List Int) (j : Nat) (h : j < l.length) : l.toArray[j]! = l.getD j 0 := by
  rw [getElem!_pos l.toArray j (by simpa using h)]
  simp [List.getD_eq_getElem?_getD, h]
set_option maxRecDepth 100000 in
set_option maxHeartbeats 2000000 in
theorem all8 (v : Value) (l : L4) (w : World) (hv : SetV w v l) (hg : Good l) :
    Calls Tryd.prog 40 #[v] w fun e w' => ∃ a cap, e = .returned (.slice a (allL l).length cap) ∧ IsL w' (.slice a (allL l).length cap) (allL l) ∧ Below w.heap.size w w' := by
  have HO := Bx.mk (own_any8 v l w hv)
  obtain ⟨pt, rfl⟩ := hv.ptr
  have HG := Bx.mk hg
  obtain ⟨E, hE⟩ : ∃ E, w.heap.size = E := ⟨_, rfl⟩
  rw [hE] at HO ⊢
  have HE := Bx.mk hE
  obtain ⟨r, hr⟩ : ∃ r, allL l = r := ⟨_, rfl⟩
  rw [hr]
  unfold allL at hr
  have HR := Bx.mk hr
  clear hv hg hE hr
  go_enter Tryd.func40, Tryd.ntmps40
  go_wp2_with fail
  refine HO.out.mono ?_
  rintro e w1 ⟨x, rfl, hx, hb⟩
  have HC := Bx.mk (concat8 w1.heap.size x l (w1.alloc (.cells #[x.a, x.b, x.c, x.d] 27)) (hnew _ _ _ rfl) (hx.later (below_a _)) (by have := HG.out.a; omega) (by have := HG.out.b; omega) (by have := HG.out.c; omega) (by have := HG.out.d; omega))
  have HB1 : Bx (Below E w (w1.alloc (.cells #[x.a, x.b, x.c, x.d] 27)) ∧ E ≤ (w1.alloc (.cells #[x.a, x.b, x.c, x.d] 27)).heap.size) := ⟨hb.trans ((below_a _).mono (by have := hb.size; rw [HE.out] at this; exact this)), by have := hb.size; rw [HE.out] at this; simp; omega⟩
  obtain ⟨p1, q1, t1, s1, a1, b1, c1, d1, rfl⟩ := hx.forms
  have HL : Bx ((l.a ++ l.b ++ l.c ++ l.d).length ≤ 5000) := ⟨by simp only [List.length_append]; have := HG.out.a; have := HG.out.b; have := HG.out.c; have := HG.out.d; omega⟩
  clear hx hb HO HG
  generalize l.a ++ l.b ++ l.c ++ l.d = L at *
  unfold VV.v
  simp only at HC HB1 ⊢
  go_wp2_with fail
  generalize w1.alloc _ = w2 at *
  refine HC.out.mono ?_
  rintro e w3 ⟨u, rfl, ho, hb⟩
  have HB3 : Bx (Below E w w3) := ⟨HB1.out.1.trans (hb.mono HB1.out.2)⟩
  have hle : E ≤ w2.heap.size := HB1.out.2
  clear hb HC HB1
  rcases ho.2 with ⟨rfl, h0⟩ | ⟨g, cap, cur, rfl, hbg, hrow, hn, hm, hsz, hcs⟩
  · obtain rfl : L = [] := List.eq_nil_of_length_eq_zero h0
    have hr0 : r = [] := by rw [← HR.out]; simp [Go.Lib.compact, Go.Lib.compactUpTo]
    subst hr0
    have HS := Bx.mk (Tryd.slices_Sort_int_none none 0 w3)
    have HK := Bx.mk (Tryd.slices_Compact_int_empty none 0 w3)
    clear ho h0 HR
    go_wp2_with fail
    refine HS.out.mono ?_
    rintro e w4 ⟨rfl, rfl⟩
    go_wp2_with fail
    refine HK.out.mono ?_
    rintro e w5 ⟨rfl, rfl⟩
    go_wp2
    go_ret
    exact ⟨none, 0, rfl, IsL.nil _, HB3.out⟩
  · have hlen : L.length * 1 ≤ cur.size := by rw [hsz]; omega
    have hcur : ∀ j, j < L.length → cur[j]? = some (.int .i64 (L.getD j 0)) := fun j hj => by
      rw [← Array.getElem?_toList]
      have h1 : (cur.toList.take (L.length * 1))[j]? = (i64s L)[j]? := by rw [hcs]
      rw [List.getElem?_take, if_pos (by omega), i64s_get L j hj] at h1
      exact h1
    have hH : Go.Sort.Holds (Value.int .i64) w3 g 0 L.toArray := fun j hj => by
      have hj' : j < L.length := by simpa using hj
      refine ⟨?_, frozen_of_row _ _ _ _ _ hrow⟩
      rw [cell_of_row _ _ _ _ _ _ hrow, Nat.zero_add, getB L j hj']
      exact hcur j hj'
    have HL2 := HL.out
    have HS := Bx.mk (Tryd.slices_Sort_int g 0 cap L w3 hH (Array.getElem?_eq_some_iff.1 hrow).1 (by omega))
    obtain ⟨S, hS⟩ : ∃ S, (L.mergeSort fun x y => decide (x ≤ y)) = S := ⟨_, rfl⟩
    have hSl : S.length = L.length := by rw [← hS]; simp
    rw [hS] at HS HR
    have HF : Bx (∀ w4, (∃ n os, w4 = Go.Sort.grow (Go.Sort.putRow (Value.int .i64) (Go.Sort.ahead w3 n) g 0 S.toArray) os) → Calls Tryd.prog 69 #[.slice (some ⟨g, 0, none⟩) L.length cap] w4 fun e w' => e = .returned (.slice (some ⟨g, 0, none⟩) r.length cap) ∧ IsL w' (.slice (some ⟨g, 0, none⟩) r.length cap) r ∧ Below E w w') := ⟨by
      rintro w4 ⟨n, os, h4⟩
      obtain ⟨cs4, hr4, hs4, hc4, hb4⟩ := rowed S.toArray hrow (by simp <;> omega) h4
      have hH4 : Go.Sort.Holds (Value.int .i64) w4 g 0 S.toArray := fun j hj => by
        refine ⟨?_, frozen_of_row _ _ _ _ _ hr4⟩
        rw [cell_of_row _ _ _ _ _ _ hr4, Nat.zero_add]
        exact hc4 j hj
      have hc := Tryd.slices_Compact_int g 0 cap S w4 hH4 (by omega) (by omega)
      rw [hSl] at hc
      refine hc.mono ?_
      rintro e w5 ⟨rfl, q, h5⟩
      rw [HR.out] at h5 ⊢
      have hrl : r.length ≤ L.length := by rw [← HR.out, ← hSl]; exact length_compactTo _
      obtain ⟨cs5, hr5, hs5, hc5, hb5⟩ := rowed (w' := w5) (n := q) (os := #[]) (r ++ List.replicate (L.length - r.length) 0).toArray hr4 (by simp <;> omega) (by rw [Go.Sort.grow_empty]; exact h5)
      refine ⟨rfl, ⟨_, cap, rfl, by omega, (fun h => by cases h), fun hp => ⟨g, 0, cs5, _, rfl, hr5, fun i hi => ?_⟩⟩, (HB3.out.trans (hb4 E (by omega))).trans (hb5 E (by omega))⟩
      rw [Nat.zero_add, hc5 i (by simp <;> omega), getB _ i (by simp <;> omega)]
      simp [List.getD_eq_getElem?_getD, List.getElem?_append_left hi]⟩
    obtain ⟨n, hn0⟩ : ∃ n, L.length = n := ⟨_, rfl⟩
    rw [hn0] at HF HS ⊢
    clear ho hH hcur hlen hcs hrow hsz hm hn hbg hS hSl HR HL HL2 HB3 hn0
    go_wp2_with fail
    refine HS.out.mono ?_
    rintro e w4 ⟨rfl, hw⟩
    have HF4 := Bx.mk (HF.out w4 hw)
    clear hw HF HS
    go_wp2_with fail
    refine HF4.out.mono ?_
    rintro e w5 ⟨rfl, h1, h2⟩
    have H1 := Bx.mk (And.intro h1 h2)
    clear h1 h2 HF4
    go_wp2
    go_ret
    exact ⟨_, _, rfl, H1.out⟩
end Go.Proofs.YtmfhdhggpepbbaaDoor
