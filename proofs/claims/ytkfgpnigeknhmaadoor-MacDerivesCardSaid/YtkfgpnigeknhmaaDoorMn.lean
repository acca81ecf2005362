/-
  The walk of the statement on keys of keys.
-/
import Derived.Test.YtkfgpnigeknhmaaDoorMe
import Derived.Test.YtkfgpnigeknhmaaDoorMg
import Derived.Test.YtkfgpnigeknhmaaDoorMk
namespace Go.Proofs.YtkfgpnigeknhmaaDoor
open Go Go.RowKit
theorem cutQ_len (pss : List (List UInt8)) : ∀ p ∈ cutQ pss, p.length ≤ 60 := by
  intro p hp
  unfold cutQ at hp
  obtain ⟨q, _, rfl⟩ := List.mem_map.1 hp
  rw [List.length_take]
  omega
theorem cutQ_few (pss : List (List UInt8)) : (cutQ pss).length ≤ 8 := by
  unfold cutQ
  rw [List.length_map, List.length_take]
  omega
set_option maxRecDepth 100000 in
set_option maxHeartbeats 2000000 in
theorem derives_any (key l : List UInt8) (pss : List (List UInt8)) (v vp : Value) (w : World) (hv : Bytes w v key) (hp : Parts w vp pss) (hl : key.length ≤ 9223372036854775807) (hls : l.length ≤ 9223372036854775807) (hn : pss.length ≤ 9223372036854775807) (hpl : ∀ p ∈ pss, p.length ≤ 9223372036854775807) (hTab : Tab w) (hg : 0 < w.heap.size) :
    Calls Tryd.prog 7 #[v, .string ⟨l.toArray⟩, vp] w fun e w' => e = .returned (.bool true) ∧ Below w.heap.size w w' := by
  have HV := Bx.mk hv
  have HP := Bx.mk (And.intro hp (And.intro hn hpl))
  have HA := Bx.mk hTab
  obtain ⟨a, cap, rfl, hc, hnone, -⟩ := hv
  have e : (⟨l.toArray⟩ : ByteArray).size = l.length := rfl
  obtain ⟨n, hnn⟩ : ∃ n, key.length = n := ⟨_, rfl⟩
  obtain ⟨k, hkk⟩ : ∃ k, l.length = k := ⟨_, rfl⟩
  obtain ⟨m, hm⟩ : ∃ m, m = min n 150 := ⟨_, rfl⟩
  obtain ⟨q, hq⟩ : ∃ q, q = min k 60 := ⟨_, rfl⟩
  have m1 : (if (150 : Int) < (n : Int) then (150 : Int) else (n : Int)) = (m : Int) := by split <;> omega
  have q1 : (if (60 : Int) < (k : Int) then (60 : Int) else (k : Int)) = (q : Int) := by split <;> omega
  have s1 := fun W => cut_bytes a n cap m (by omega) (by omega) hnone W
  have s2 := cut_str l q
  rw [hnn] at hl hc HV ⊢
  have HB : Bx (Bytes w (.slice a m cap) (key.take m)) := Bx.mk (HV.out.take m (by omega))
  have HBL : Bx ((key.take m).length ≤ 150 ∧ (l.take q).length ≤ 60) := Bx.mk (by rw [List.length_take, List.length_take]; omega)
  generalize key.take m = x at *
  generalize l.take q = t at *
  have hn1 : (n : Int) ≤ 9223372036854775807 := by omega
  have hk1 : (k : Int) ≤ 9223372036854775807 := by omega
  have hq2 : (q : Int) ≤ (k : Int) := by omega
  rw [hkk] at e
  clear hnn hkk hTab hnone hm hq hl hls hc HV hp hn hpl
  go_enter Tryd.func7, Tryd.ntmps7
  go_wp2
  go_big_quiet (fail)
  clear s1 s2 m1 q1 hn1 hk1 hq2 e
  have H0 : Bx (Bytes (w.drewN nq) (.slice a m cap) x ∧ Tab (w.drewN nq) ∧ Below w.heap.size w (w.drewN nq) ∧ Parts (w.drewN nq) vp pss) := Bx.mk ⟨HB.out, HA.out, below_drewN (Below.refl _ _) _, HP.out.1⟩
  clear HB HA
  go_wp2_with fail
  generalize w.drewN nq = w0 at *
  refine (few2_any pss vp w0 H0.out.2.2.2 HP.out.2.1 HP.out.2.2).mono ?_
  rintro e w1 ⟨vo, va, xs, rfl, hvals, hop, hob, hbel⟩
  have H1 : Bx (Parts w1 vo (cutQ pss) ∧ PartsR w1 vo (cutQ pss) ∧ Tab w1 ∧ Below w.heap.size w w1 ∧ Bytes w1 (.slice a m cap) x) := Bx.mk ⟨own_parts hop (hvals.later hbel), ⟨xs, own_rowP hop, hvals.later hbel⟩, H0.out.2.1.later hbel (Nat.lt_of_lt_of_le hg H0.out.2.2.1.size), H0.out.2.2.1.trans (hbel.mono H0.out.2.2.1.size), H0.out.1.later hbel⟩
  have HC := Bx.mk (And.intro (cutQ_few pss) (cutQ_len pss))
  generalize cutQ pss = qs at *
  clear hvals hop hob hbel HP H0
  go_wp2_with fail
  refine (known2_any w1 H1.out.2.2.1 (Nat.lt_of_lt_of_le hg H1.out.2.2.2.1.size)).mono ?_
  rintro e w2 ⟨rfl, hb2⟩
  have later : ∀ {W W' : World}, (Parts W vo qs ∧ PartsR W vo qs ∧ Tab W ∧ Below w.heap.size w W ∧ Bytes W (.slice a m cap) x) → Below W.heap.size W W' → (Parts W' vo qs ∧ PartsR W' vo qs ∧ Tab W' ∧ Below w.heap.size w W' ∧ Bytes W' (.slice a m cap) x) := fun h hb => ⟨h.1.later hb, h.2.1.later hb, h.2.2.1.later hb (Nat.lt_of_lt_of_le hg h.2.2.2.1.size), h.2.2.2.1.trans (hb.mono h.2.2.2.1.size), h.2.2.2.2.later hb⟩
  have HLt := Bx.mk @later
  clear later
  have H2 := Bx.mk (HLt.out H1.out hb2)
  clear hb2 H1
  go_wp2_with fail
  refine (derive_any x t qs _ vo w2 H2.out.2.2.2.2 H2.out.1 (by have := HBL.out; omega) (by have := HBL.out; omega) (by have := HC.out.1; omega) (fun p hp => by have := HC.out.2 p hp; omega) H2.out.2.2.1 (Nat.lt_of_lt_of_le hg H2.out.2.2.2.1.size)).mono ?_
  rintro e w3 ⟨rfl, hb3⟩
  have H3 := Bx.mk (HLt.out H2.out hb3)
  clear hb3 H2
  go_wp2_with fail
  refine (make_any w3).mono ?_
  rintro e w4 ⟨rfl, hb4⟩
  have H4 := Bx.mk (HLt.out H3.out hb4)
  clear hb4 H3
  obtain ⟨tbl, htb⟩ : ∃ tbl : List Value, u32s (kTab ++ hTab) = tbl.toArray := ⟨(u32s (kTab ++ hTab)).toList, by simp⟩
  have HR : Bx (Calls Tryd.prog 31 #[.agg tbl.toArray, .slice a m cap, .string ⟨t.toArray⟩, vo] w4 fun e w' => e = .returned (.agg (u8s (hmac x (frame (t :: qs))))) ∧ Below w4.heap.size w4 w') := Bx.mk (rderive_any tbl htb x t qs _ vo w4 H4.out.2.2.2.2 H4.out.2.1 (by have := HBL.out; omega) (by have := HBL.out; omega) (by have := HC.out.1; omega) (fun p hp => by have := HC.out.2 p hp; omega))
  rw [htb]
  clear htb
  go_wp2_with fail
  refine HR.out.mono ?_
  rintro e w5 ⟨rfl, hb5⟩
  have H5 := Bx.mk (HLt.out H4.out hb5)
  clear hb5 H4 HR
  have eq1 := fun W => eq32 (hmac x (frame (t :: qs))) (hmac x (frame (t :: qs))) (sha_length _) (sha_length _) W
  have eb : (hmac x (frame (t :: qs)) == hmac x (frame (t :: qs))) = true := by simp
  have hg26 : Tryd.prog.eqGuardType Tryd.prog.depth 26 = false := by kernel_rfl
  generalize hmac x (frame (t :: qs)) = hm at *
  go_wp2
  go_ret
  exact ⟨rfl, H5.out.2.2.2.1⟩
end Go.Proofs.YtkfgpnigeknhmaaDoor
