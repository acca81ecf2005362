/-
  Keys: what a key tags, derives and is known by.
-/
import Derived.Test.YtdionedinmkeiaaDoorAg
import Derived.Test.YtdionedinmkeiaaDoorKa
namespace Go.Proofs.YtdionedinmkeiaaDoor
open Go Go.RowKit
theorem IsKey.parts {w : World} {v : Value} {bs : List UInt8} (h : IsKey w v bs) : ∃ p a cap, v = .pointer (some ⟨p, 0, none⟩) ∧ w.cell? ⟨p, 0, none⟩ = some (.slice a bs.length cap) ∧ Bytes w (.slice a bs.length cap) bs := by
  obtain ⟨p, s, hv, hr, hb⟩ := h
  have hc : w.cell? ⟨p, 0, none⟩ = some s := by rw [cell_of_row _ _ _ _ _ _ hr]; rfl
  have hb' := hb
  obtain ⟨a, cap, rfl, -⟩ := hb
  exact ⟨p, a, cap, hv, hc, hb'⟩
set_option maxRecDepth 100000 in
set_option maxHeartbeats 1000000 in
theorem kderive_any (bs l : List UInt8) (pss : List (List UInt8)) (v vp : Value) (w : World) (hv : IsKey w v bs) (hp : Parts w vp pss) (hk : bs.length ≤ 1000000) (hl : l.length ≤ 10000) (hn : pss.length ≤ 1000) (hpl : ∀ p ∈ pss, p.length ≤ 10000) (hTab : Tab w) (hg : 0 < w.heap.size) :
    Calls Tryd.prog 42 #[v, .string ⟨l.toArray⟩, vp] w fun e w' => ∃ v', e = .returned v' ∧ KeyO w' w.heap.size v' (hmac bs (frame (l :: pss))) ∧ Below w.heap.size w w' := by
  have HP := Bx.mk hp
  have HL := Bx.mk (And.intro hk (And.intro hl (And.intro hn hpl)))
  have HA := Bx.mk hTab
  obtain ⟨p, a, cap, rfl, hc, hb⟩ := hv.parts
  have HB := Bx.mk hb
  obtain ⟨n, hn⟩ : ∃ n, bs.length = n := ⟨_, rfl⟩
  rw [hn] at HB hc
  clear hn hv hb hk hl hpl hTab hp
  obtain ⟨z32, hz32⟩ : ∃ z, u8s (List.replicate 32 0) = z := ⟨_, rfl⟩
  have hz32v : ∀ W : World, (zeroValue 40).run Tryd.prog W = .ok (.agg z32) W := fun W => by rw [← hz32, zero32]; kernel_rfl
  have HZ0 := Bx.mk hz32
  clear hz32
  go_enter Tryd.func42, Tryd.ntmps42
  go_wp2_with fail
  refine (derive_any bs l pss _ _ w HB.out HP.out HL.out.1 HL.out.2.1 HL.out.2.2.1 HL.out.2.2.2 HA.out hg).mono ?_
  rintro e w1 ⟨rfl, hb1⟩
  have H1 := Bx.mk hb1
  clear hb1 HB hc
  have HSL : Bx ((hmac bs (frame (l :: pss))).length = 32) := Bx.mk (sha_length _)
  generalize hhm : hmac bs (frame (l :: pss)) = hm at *
  have HHM := Bx.mk hhm
  clear hhm
  have HI : Bx ((Tryd.prog.info? 40).map (·.size) = some (u8s hm).size) := Bx.mk (by rw [u8s_size, HSL.out]; kernel_rfl)
  have HZ3 : Bx ((u8s hm).size = z32.size) := Bx.mk (by rw [u8s_size, HSL.out, ← HZ0.out]; rfl)
  go_upto_region 4 with (refine wpList_store_var rfl 40 _ _ rfl w1 _ _ rfl (by rfl) (u8s hm) (by rfl) HZ3.out HI.out (one_u8s _) ?_; intro w2 hb2 hr2 hl2)
  have H2 : Bx (Below w.heap.size w w2 ∧ Bytes w2 (.slice (some ⟨w1.heap.size, 0, none⟩) 32 32) hm) := Bx.mk ⟨H1.out.trans (hb2.mono H1.out.size), row_bytes hr2 HSL.out⟩
  clear hb2 hr2 hl2 HZ3 HI HZ0 hz32v H1
  go_wp2_with fail
  refine (new_any hm _ w2 H2.out.2 (by rw [HSL.out]; omega)).mono ?_
  rintro e w3 ⟨v3, rfl, hk3, hb3⟩
  have H3 : Bx (KeyO w3 w.heap.size v3 hm ∧ Below w.heap.size w w3) := Bx.mk ⟨hk3.weak H2.out.1.size, H2.out.1.trans (hb3.mono H2.out.1.size)⟩
  clear hk3 hb3 H2
  go_wp2
  go_ret
  exact ⟨_, rfl, by rw [HHM.out]; exact H3.out⟩
theorem kderive_nil (s vp : Value) (w : World) : Calls Tryd.prog 42 #[.pointer none, s, vp] w fun e w' => e = .returned (.pointer none) ∧ w = w' := by
  go_enter Tryd.func42, Tryd.ntmps42
  go_wp2
  go_ret
  exact ⟨rfl, rfl⟩
end Go.Proofs.YtdionedinmkeiaaDoor
