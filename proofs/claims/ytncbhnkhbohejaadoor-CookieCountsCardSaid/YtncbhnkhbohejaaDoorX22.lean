/-
  Is a cookie fresh? The program's loop over two epochs.
-/
import Derived.Test.YtncbhnkhbohejaaDoorX2
import Derived.LoopN
import Derived.Deep.QuietTactic
import Derived.BigQuiet
import Derived.Lib.SlBytesConst
import Derived.Deep.RegionHeld3
namespace Go.Proofs.YtncbhnkhbohejaaDoor
open Go Go.RowKit
/-- Is it the cookie of this epoch, or of the one before? -/
def freK (bs : List UInt8) (e a : Nat) (pss : List (List UInt8)) (c : List UInt8) : Bool := decide (cookK bs e a pss = c) || (decide (0 < e) && decide (cookK bs (e - 1) a pss = c))
/-- What fresh calls. -/
structure FrC (w : World) (p : Nat) (vp vc : Value) (a : Nat) (ck : Nat → List UInt8) (c : List UInt8) : Prop where
  of : ∀ (W : World) (e : Nat), e ≤ 16777300 → Below w.heap.size w W → Calls Tryd.prog 24 #[.pointer (some ⟨p, 0, none⟩), .int .i64 (e : Int), .int .i64 (a : Int), vp] W fun en w' => en = .returned (.agg (u8s (ck e))) ∧ Below W.heap.size W w'
  eq : ∀ (W : World) (g : Nat) (e : Nat), Below w.heap.size w W → W.heap[g]? = some (.cells (u8s (ck e)) 28 (0, 0)) → Calls Tryd.prog 35 #[.slice (some ⟨g, 0, none⟩) 16 16, vc] W fun en w' => en = .returned (.bool (decide (ck e = c))) ∧ Below w.heap.size w w'
  len : ∀ e, (ck e).length = 16
set_option maxRecDepth 100000 in
set_option maxHeartbeats 2000000 in
theorem fresh_a (w : World) (p t e : Nat) (vp vc : Value) (a : Nat) (ck : Nat → List UInt8) (c : List UInt8) (H : FrC w p vp vc a ck c) (ht : t ≤ 1073741824) (he : t / 64 = e) (h1 : decide (ck e = c) = true) :
    Calls Tryd.prog 25 #[.pointer (some ⟨p, 0, none⟩), vc, .int .i64 (a : Int), .int .i64 (t : Int), vp] w fun en w' => en = .returned (.bool true) ∧ Below w.heap.size w w' := by
  obtain ⟨z16, hz16⟩ : ∃ z, u8s (List.replicate 16 0) = z := ⟨_, rfl⟩
  have hz16v : ∀ W : World, (zeroValue 28).run Tryd.prog W = .ok (.agg z16) W := fun W => by rw [← hz16]; kernel_rfl
  have HI : Bx (∀ e, (Tryd.prog.info? 28).map (·.size) = some (u8s (ck e)).size ∧ (u8s (ck e)).size = z16.size) := Bx.mk (fun e => by
    have h16 : (u8s (ck e)).size = 16 := by rw [u8s_size, H.len e]
    refine ⟨by rw [h16]; kernel_rfl, by rw [h16, ← hz16]; rfl⟩)
  have HE := Bx.mk (epoch_nat t w (by omega))
  rw [he] at HE
  have he1 : (e : Int) ≤ 16777300 := by omega
  have he0 : (0 : Int) ≤ (e : Int) := by omega
  have HN : Bx (e ≤ 16777300) := Bx.mk (by omega)
  clear hz16 ht he
  go_enter Tryd.func25, Tryd.ntmps25
  go_wp2_with fail
  go_step3
  go_wp2_with fail
  refine HE.out.mono ?_
  rintro en w0 ⟨rfl, rfl⟩
  have HR : Bx (Below w.heap.size w w) := Bx.mk (Below.refl _ _)
  go_wp2
  go_step3
  go_wp2
  refine wp_loop_rounds 4 ?_
  rw [rounds_succ]
  go_wp2_with fail
  refine (H.of w e (by have := HN.out; omega) HR.out).mono ?_
  rintro en v0 ⟨rfl, hb⟩
  have HB0 := Bx.mk (HR.out.trans (hb.mono HR.out.size))
  clear hb
  go_upto_region 6 with (refine wpList_store_var rfl 28 _ _ rfl v0 _ _ rfl (by rfl) (u8s (ck e)) (by rfl) (HI.out e).2 (HI.out e).1 (one_u8s _) ?_; intro u0 hb hr hl)
  have HC0 : Bx (Below w.heap.size w u0 ∧ u0.heap[v0.heap.size]? = some (.cells (u8s (ck e)) 28 (0, 0))) := Bx.mk ⟨HB0.out.trans (hb.mono HB0.out.size), hr⟩
  clear hb hr hl
  go_wp2_with fail
  refine (H.eq u0 _ e HC0.out.1 HC0.out.2).mono ?_
  rintro en y0 ⟨rfl, hb⟩
  have HR1 := Bx.mk hb
  clear hb
  rw [h1]
  go_wp2
  try rw [Exit.noGoto_ret]
  go_ret
  exact ⟨rfl, HR1.out⟩
set_option maxRecDepth 100000 in
set_option maxHeartbeats 2000000 in
theorem fresh_b (w : World) (p t e : Nat) (vp vc : Value) (a : Nat) (ck : Nat → List UInt8) (c : List UInt8) (H : FrC w p vp vc a ck c) (ht : t ≤ 1073741824) (he : t / 64 = e) (h1 : decide (ck e = c) = false) (h0 : e = 0) :
    Calls Tryd.prog 25 #[.pointer (some ⟨p, 0, none⟩), vc, .int .i64 (a : Int), .int .i64 (t : Int), vp] w fun en w' => en = .returned (.bool false) ∧ Below w.heap.size w w' := by
  obtain ⟨z16, hz16⟩ : ∃ z, u8s (List.replicate 16 0) = z := ⟨_, rfl⟩
  have hz16v : ∀ W : World, (zeroValue 28).run Tryd.prog W = .ok (.agg z16) W := fun W => by rw [← hz16]; kernel_rfl
  have HI : Bx (∀ e, (Tryd.prog.info? 28).map (·.size) = some (u8s (ck e)).size ∧ (u8s (ck e)).size = z16.size) := Bx.mk (fun e => by
    have h16 : (u8s (ck e)).size = 16 := by rw [u8s_size, H.len e]
    refine ⟨by rw [h16]; kernel_rfl, by rw [h16, ← hz16]; rfl⟩)
  have HE := Bx.mk (epoch_nat t w (by omega))
  rw [he] at HE
  have he1 : (e : Int) ≤ 16777300 := by omega
  have he0 : (0 : Int) ≤ (e : Int) := by omega
  have HN : Bx (e ≤ 16777300) := Bx.mk (by omega)
  have he9 : (e : Int) - 1 < 0 := by omega
  clear h0
  clear hz16 ht he
  go_enter Tryd.func25, Tryd.ntmps25
  go_wp2_with fail
  go_step3
  go_wp2_with fail
  refine HE.out.mono ?_
  rintro en w0 ⟨rfl, rfl⟩
  have HR : Bx (Below w.heap.size w w) := Bx.mk (Below.refl _ _)
  go_wp2
  go_step3
  go_wp2
  refine wp_loop_rounds 4 ?_
  rw [rounds_succ]
  go_wp2_with fail
  refine (H.of w e (by have := HN.out; omega) HR.out).mono ?_
  rintro en v0 ⟨rfl, hb⟩
  have HB0 := Bx.mk (HR.out.trans (hb.mono HR.out.size))
  clear hb
  go_upto_region 6 with (refine wpList_store_var rfl 28 _ _ rfl v0 _ _ rfl (by rfl) (u8s (ck e)) (by rfl) (HI.out e).2 (HI.out e).1 (one_u8s _) ?_; intro u0 hb hr hl)
  have HC0 : Bx (Below w.heap.size w u0 ∧ u0.heap[v0.heap.size]? = some (.cells (u8s (ck e)) 28 (0, 0))) := Bx.mk ⟨HB0.out.trans (hb.mono HB0.out.size), hr⟩
  clear hb hr hl
  go_wp2_with fail
  refine (H.eq u0 _ e HC0.out.1 HC0.out.2).mono ?_
  rintro en y0 ⟨rfl, hb⟩
  have HR1 := Bx.mk hb
  clear hb
  rw [h1]
  go_wp2
  rw [rounds_succ]
  go_wp2
  try rw [Exit.noGoto_ret]
  go_ret
  exact ⟨rfl, HR1.out⟩
set_option maxRecDepth 100000 in
set_option maxHeartbeats 2000000 in
theorem fresh_c (w : World) (p t e : Nat) (vp vc : Value) (a : Nat) (ck : Nat → List UInt8) (c : List UInt8) (H : FrC w p vp vc a ck c) (ht : t ≤ 1073741824) (he : t / 64 = e) (h1 : decide (ck e = c) = false) (h0 : 0 < e) (h2 : decide (ck (e - 1) = c) = true) :
    Calls Tryd.prog 25 #[.pointer (some ⟨p, 0, none⟩), vc, .int .i64 (a : Int), .int .i64 (t : Int), vp] w fun en w' => en = .returned (.bool true) ∧ Below w.heap.size w w' := by
  obtain ⟨z16, hz16⟩ : ∃ z, u8s (List.replicate 16 0) = z := ⟨_, rfl⟩
  have hz16v : ∀ W : World, (zeroValue 28).run Tryd.prog W = .ok (.agg z16) W := fun W => by rw [← hz16]; kernel_rfl
  have HI : Bx (∀ e, (Tryd.prog.info? 28).map (·.size) = some (u8s (ck e)).size ∧ (u8s (ck e)).size = z16.size) := Bx.mk (fun e => by
    have h16 : (u8s (ck e)).size = 16 := by rw [u8s_size, H.len e]
    refine ⟨by rw [h16]; kernel_rfl, by rw [h16, ← hz16]; rfl⟩)
  have HE := Bx.mk (epoch_nat t w (by omega))
  rw [he] at HE
  have he1 : (e : Int) ≤ 16777300 := by omega
  have he0 : (0 : Int) ≤ (e : Int) := by omega
  have HN : Bx (e ≤ 16777300) := Bx.mk (by omega)
  obtain ⟨d, hd⟩ : ∃ d, e - 1 = d := ⟨_, rfl⟩
  have hd1 : (e : Int) - 1 = (d : Int) := by omega
  have hd2 : (d : Int) < (e : Int) := by omega
  have hd3 : (d : Int) ≤ 16777300 := by omega
  have hd4 : (0 : Int) ≤ (d : Int) := by omega
  have HND : Bx (d ≤ 16777300) := Bx.mk (by omega)
  rw [hd] at h2
  clear hd h0
  clear hz16 ht he
  go_enter Tryd.func25, Tryd.ntmps25
  go_wp2_with fail
  go_step3
  go_wp2_with fail
  refine HE.out.mono ?_
  rintro en w0 ⟨rfl, rfl⟩
  have HR : Bx (Below w.heap.size w w) := Bx.mk (Below.refl _ _)
  go_wp2
  go_step3
  go_wp2
  refine wp_loop_rounds 4 ?_
  rw [rounds_succ]
  go_wp2_with fail
  refine (H.of w e (by have := HN.out; omega) HR.out).mono ?_
  rintro en v0 ⟨rfl, hb⟩
  have HB0 := Bx.mk (HR.out.trans (hb.mono HR.out.size))
  clear hb
  go_upto_region 6 with (refine wpList_store_var rfl 28 _ _ rfl v0 _ _ rfl (by rfl) (u8s (ck e)) (by rfl) (HI.out e).2 (HI.out e).1 (one_u8s _) ?_; intro u0 hb hr hl)
  have HC0 : Bx (Below w.heap.size w u0 ∧ u0.heap[v0.heap.size]? = some (.cells (u8s (ck e)) 28 (0, 0))) := Bx.mk ⟨HB0.out.trans (hb.mono HB0.out.size), hr⟩
  clear hb hr hl
  go_wp2_with fail
  refine (H.eq u0 _ e HC0.out.1 HC0.out.2).mono ?_
  rintro en y0 ⟨rfl, hb⟩
  have HR1 := Bx.mk hb
  clear hb
  rw [h1]
  go_wp2_with fail
  skip -- M3
  rw [rounds_succ]
  go_wp2_with fail
  refine (H.of y0 d (by have := HND.out; omega) HR1.out).mono ?_
  rintro en v1 ⟨rfl, hb⟩
  have HB1 := Bx.mk (HR1.out.trans (hb.mono HR1.out.size))
  clear hb
  go_upto_region 6 with (refine wpList_store_var rfl 28 _ _ rfl v1 _ _ rfl (by rfl) (u8s (ck d)) (by rfl) (HI.out d).2 (HI.out d).1 (one_u8s _) ?_; intro u1 hb hr hl)
  have HC1 : Bx (Below w.heap.size w u1 ∧ u1.heap[v1.heap.size]? = some (.cells (u8s (ck d)) 28 (0, 0))) := Bx.mk ⟨HB1.out.trans (hb.mono HB1.out.size), hr⟩
  clear hb hr hl
  go_wp2_with fail
  refine (H.eq u1 _ d HC1.out.1 HC1.out.2).mono ?_
  rintro en y1 ⟨rfl, hb⟩
  have HR2 := Bx.mk hb
  clear hb
  rw [h2]
  go_wp2
  try rw [Exit.noGoto_ret]
  go_ret
  exact ⟨rfl, HR2.out⟩
set_option maxRecDepth 100000 in
set_option maxHeartbeats 2000000 in
theorem fresh_d (w : World) (p t e : Nat) (vp vc : Value) (a : Nat) (ck : Nat → List UInt8) (c : List UInt8) (H : FrC w p vp vc a ck c) (ht : t ≤ 1073741824) (he : t / 64 = e) (h1 : decide (ck e = c) = false) (h0 : 0 < e) (h2 : decide (ck (e - 1) = c) = false) :
    Calls Tryd.prog 25 #[.pointer (some ⟨p, 0, none⟩), vc, .int .i64 (a : Int), .int .i64 (t : Int), vp] w fun en w' => en = .returned (.bool false) ∧ Below w.heap.size w w' := by
  obtain ⟨z16, hz16⟩ : ∃ z, u8s (List.replicate 16 0) = z := ⟨_, rfl⟩
  have hz16v : ∀ W : World, (zeroValue 28).run Tryd.prog W = .ok (.agg z16) W := fun W => by rw [← hz16]; kernel_rfl
  have HI : Bx (∀ e, (Tryd.prog.info? 28).map (·.size) = some (u8s (ck e)).size ∧ (u8s (ck e)).size = z16.size) := Bx.mk (fun e => by
    have h16 : (u8s (ck e)).size = 16 := by rw [u8s_size, H.len e]
    refine ⟨by rw [h16]; kernel_rfl, by rw [h16, ← hz16]; rfl⟩)
  have HE := Bx.mk (epoch_nat t w (by omega))
  rw [he] at HE
  have he1 : (e : Int) ≤ 16777300 := by omega
  have he0 : (0 : Int) ≤ (e : Int) := by omega
  have HN : Bx (e ≤ 16777300) := Bx.mk (by omega)
  obtain ⟨d, hd⟩ : ∃ d, e - 1 = d := ⟨_, rfl⟩
  have hd1 : (e : Int) - 1 = (d : Int) := by omega
  have hd2 : (d : Int) < (e : Int) := by omega
  have hd3 : (d : Int) ≤ 16777300 := by omega
  have hd4 : (0 : Int) ≤ (d : Int) := by omega
  have HND : Bx (d ≤ 16777300) := Bx.mk (by omega)
  rw [hd] at h2
  clear hd h0
  clear hz16 ht he
  go_enter Tryd.func25, Tryd.ntmps25
  go_wp2_with fail
  go_step3
  go_wp2_with fail
  refine HE.out.mono ?_
  rintro en w0 ⟨rfl, rfl⟩
  have HR : Bx (Below w.heap.size w w) := Bx.mk (Below.refl _ _)
  go_wp2
  go_step3
  go_wp2
  refine wp_loop_rounds 4 ?_
  rw [rounds_succ]
  go_wp2_with fail
  refine (H.of w e (by have := HN.out; omega) HR.out).mono ?_
  rintro en v0 ⟨rfl, hb⟩
  have HB0 := Bx.mk (HR.out.trans (hb.mono HR.out.size))
  clear hb
  go_upto_region 6 with (refine wpList_store_var rfl 28 _ _ rfl v0 _ _ rfl (by rfl) (u8s (ck e)) (by rfl) (HI.out e).2 (HI.out e).1 (one_u8s _) ?_; intro u0 hb hr hl)
  have HC0 : Bx (Below w.heap.size w u0 ∧ u0.heap[v0.heap.size]? = some (.cells (u8s (ck e)) 28 (0, 0))) := Bx.mk ⟨HB0.out.trans (hb.mono HB0.out.size), hr⟩
  clear hb hr hl
  go_wp2_with fail
  refine (H.eq u0 _ e HC0.out.1 HC0.out.2).mono ?_
  rintro en y0 ⟨rfl, hb⟩
  have HR1 := Bx.mk hb
  clear hb
  rw [h1]
  go_wp2_with fail
  skip -- M3
  rw [rounds_succ]
  go_wp2_with fail
  refine (H.of y0 d (by have := HND.out; omega) HR1.out).mono ?_
  rintro en v1 ⟨rfl, hb⟩
  have HB1 := Bx.mk (HR1.out.trans (hb.mono HR1.out.size))
  clear hb
  go_upto_region 6 with (refine wpList_store_var rfl 28 _ _ rfl v1 _ _ rfl (by rfl) (u8s (ck d)) (by rfl) (HI.out d).2 (HI.out d).1 (one_u8s _) ?_; intro u1 hb hr hl)
  have HC1 : Bx (Below w.heap.size w u1 ∧ u1.heap[v1.heap.size]? = some (.cells (u8s (ck d)) 28 (0, 0))) := Bx.mk ⟨HB1.out.trans (hb.mono HB1.out.size), hr⟩
  clear hb hr hl
  go_wp2_with fail
  refine (H.eq u1 _ d HC1.out.1 HC1.out.2).mono ?_
  rintro en y1 ⟨rfl, hb⟩
  have HR2 := Bx.mk hb
  clear hb
  rw [h2]
  go_wp2
  try rw [Exit.noGoto_ret]
  go_ret
  exact ⟨rfl, HR2.out⟩
theorem FrC.mk' (bs c : List UInt8) (a k p : Nat) (pss : List (List UInt8)) (vp vc : Value) (w : World) (hc : w.cell? ⟨p, 2, none⟩ = some (.pointer (some ⟨k, 0, none⟩))) (hv : IsKey w (.pointer (some ⟨k, 0, none⟩)) bs) (hp : PartsR w vp pss) (hvc : Bytes w vc c)
    (hk : bs.length ≤ 1000000) (hn : pss.length ≤ 900) (hpl : ∀ p ∈ pss, p.length ≤ 10000) (hcl : c.length ≤ 140737488355328) (ha : a ≤ 4294967295) (hTab : Tab w) (hg : 0 < w.heap.size) : FrC w p vp vc a (fun e => cookK bs e a pss) c where
  of := fun W e he hb => of_any bs e a k p pss vp W (by rw [hb.cell (p := ⟨p, 2, none⟩) (World.block_lt_of_cell? _ _ hc)]; exact hc) (hv.later hb) (hp.later hb) hk hn hpl (by omega) ha (hTab.later hb hg) (Nat.lt_of_lt_of_le hg hb.size)
  eq := fun W g e hb hr => (equal_any (cookK bs e a pss) c _ vc W (row_bytes hr (cookK_length _ _ _ _)) (hvc.later hb) (by rw [cookK_length]; omega) hcl).mono (by rintro en w' ⟨rfl, n, rfl⟩; exact ⟨rfl, below_drewN hb _⟩)
  len := fun e => cookK_length _ _ _ _
theorem fresh_any (bs c : List UInt8) (a k p t : Nat) (pss : List (List UInt8)) (vp vc : Value) (w : World) (hc : w.cell? ⟨p, 2, none⟩ = some (.pointer (some ⟨k, 0, none⟩))) (hv : IsKey w (.pointer (some ⟨k, 0, none⟩)) bs) (hp : PartsR w vp pss) (hvc : Bytes w vc c)
    (hk : bs.length ≤ 1000000) (hn : pss.length ≤ 900) (hpl : ∀ p ∈ pss, p.length ≤ 10000) (hcl : c.length ≤ 140737488355328) (ha : a ≤ 4294967295) (ht : t ≤ 1073741824) (hTab : Tab w) (hg : 0 < w.heap.size) :
    Calls Tryd.prog 25 #[.pointer (some ⟨p, 0, none⟩), vc, .int .i64 (a : Int), .int .i64 (t : Int), vp] w fun en w' => en = .returned (.bool (freK bs (t / 64) a pss c)) ∧ Below w.heap.size w w' := by
  have H := FrC.mk' bs c a k p pss vp vc w hc hv hp hvc hk hn hpl hcl ha hTab hg
  obtain ⟨e, he⟩ : ∃ e, t / 64 = e := ⟨_, rfl⟩
  rw [he]
  unfold freK
  cases h1 : decide (cookK bs e a pss = c) with
  | true => exact fresh_a w p t e vp vc a _ c H ht he h1
  | false =>
    by_cases h0 : e = 0
    · rw [show decide (0 < e) = false from decide_eq_false (by omega)]
      exact fresh_b w p t e vp vc a _ c H ht he h1 h0
    · rw [show decide (0 < e) = true from decide_eq_true (by omega)]
      cases h2 : decide (cookK bs (e - 1) a pss = c) with
      | true => exact fresh_c w p t e vp vc a _ c H ht he h1 (by omega) h2
      | false => exact fresh_d w p t e vp vc a _ c H ht he h1 (by omega) h2
end Go.Proofs.YtncbhnkhbohejaaDoor
namespace Go.Proofs.YtncbhnkhbohejaaDoor
open Go Go.RowKit
set_option maxRecDepth 100000 in
theorem cnew_ok (bs : List UInt8) (v : Value) (w : World) (hv : Bytes w v bs) (hl : 16 ≤ bs.length) (hl2 : bs.length ≤ 1000000) :
    Calls Tryd.prog 20 #[v] w fun e w' => ∃ p, e = .returned (.tuple #[.pointer (some ⟨p, 0, none⟩), .int .i64 0]) ∧ w.heap.size ≤ p ∧ Below w.heap.size w w' ∧ (∀ q, q < w.heap.size ∨ p ≤ q → Bk w' q p 0 0 bs) := by
  have HV := Bx.mk hv
  have HL := Bx.mk hl2
  obtain ⟨a, cap, rfl, -⟩ := hv
  obtain ⟨n, hn⟩ : ∃ n, bs.length = n := ⟨_, rfl⟩
  rw [hn] at HV hl ⊢
  have h1 : ¬ ((n : Int) < 16) := by omega
  clear hn hl2
  go_enter Tryd.func20, Tryd.ntmps20
  go_wp2_with fail
  refine (new_any bs _ w HV.out (by have := HL.out; omega)).mono ?_
  rintro e w1 ⟨v1, rfl, ho1, hb1⟩
  obtain ⟨p, s, rfl, hp, hr, hob⟩ := ho1
  have hpl : p < w1.heap.size := (Array.getElem?_eq_some_iff.1 hr).1
  have H1 := Bx.mk (And.intro hr (And.intro hob hb1))
  clear hr hob hb1
  go_wp2
  go_ret2
  refine ⟨w1.heap.size, rfl, H1.out.2.2.size, H1.out.2.2.trans ((below_a _).mono H1.out.2.2.size), fun q hq => ⟨p, hnew _ _ _ rfl, fun W1 hg => ?_⟩⟩
  have hne : ∀ g, w.heap.size ≤ g → g < w1.heap.size → some g ≠ some q := by
    intro g h1 h2 e
    injection e with e
    omega
  refine ⟨p, s, rfl, by rw [hg.block p (Nat.lt_of_lt_of_le hpl (below_a _).size) (hne p hp hpl), hold _ _ _ hpl]; exact H1.out.1, ?_⟩
  have hO := (H1.out.2.1.later (below_a (.cells #[.int .i64 0, .int .i64 0, .pointer (some ⟨p, 0, none⟩)] 66)) (fun g hg => (H1.out.2.1.lt g hg).1))
  refine (hO.grown hg (fun g e1 e2 => ?_)).bytes
  have h3 := H1.out.2.1.lt g e2
  exact hne g h3.2 h3.1 e1.symm
set_option maxRecDepth 100000 in
theorem ref_ok (p k : Nat) (x y : Int) (w : World) (hc : w.cell? ⟨p, 2, none⟩ = some (.pointer (some ⟨k, 0, none⟩))) (h : rightQ x y = true) :
    Calls Tryd.prog 22 #[.pointer (some ⟨p, 0, none⟩), .int .i64 x, .int .i64 y] w fun e w' => e = .returned (.int .i64 0) ∧ w = w' := by
  have h' : (0 ≤ x ∧ x < 65536 ∧ 0 ≤ y ∧ y ≤ 1073741824) := of_decide_eq_true h
  have h1 : ¬ x < 0 := by omega
  have h2 : ¬ 65535 < x := by omega
  have h3 : ¬ y < 0 := by omega
  have h4 : ¬ 1073741824 < y := by omega
  clear h h'
  go_enter Tryd.func22, Tryd.ntmps22
  go_wp2
  go_ret
  exact ⟨rfl, rfl⟩
theorem results_pairC {fn : Func} {p u : Tmp} {ty : TypeId} (h : fn.results = #[.cell p ty, .tmp u]) (tmps : Array Value) (P : Program) (w : World) (g : Nat) (cs : Array Value)
    (hp : tmps.getD p undef = .pointer (some ⟨g, 0, none⟩)) (hl : (loadVar ty ⟨g, 0, none⟩).run P w = .ok (.agg cs) w) : (results fn tmps).run P w = .ok (.tuple #[.agg cs, tmps.getD u undef]) w := by
  have hp' : tmps[p]?.getD undef = .pointer (some ⟨g, 0, none⟩) := by simpa using hp
  simp [results, h, hp', asAddr, hl]
theorem grown_belowC {w w1 : World} {p : Nat} (h : w.grownBy w1 (some p)) {B : Nat} (hB : B ≤ p) (hs : B ≤ w.heap.size) : Below B w w1 := ⟨h.os, h.tape, h.output, h.size, fun i hi => h.block i (by omega) (fun e => by injection e with e; omega)⟩
theorem kb_pastC {w W W1 : World} {M Y : Nat} (h : w.grownBy W (some M)) (hg : W.grownBy W1 (some Y)) (hY : w.heap.size ≤ Y) : w.grownBy W1 (some M) :=
  ⟨hg.os.trans h.os, hg.tape.trans h.tape, hg.output.trans h.output, Nat.le_trans h.size hg.size, fun i hi hne => by rw [hg.block i (Nat.lt_of_lt_of_le hi h.size) (fun e => by injection e; omega)]; exact h.block i hi hne⟩
theorem z16_facts {z16 : Array Value} (hz16 : u8s (List.replicate 16 0) = z16) : (∀ W : World, (zeroValue 28).run Tryd.prog W = .ok (.agg z16) W) ∧ Tryd.prog.built 28 [] = some z16 ∧ (Tryd.prog.info? 28).map (·.size) = some z16.size ∧ z16.all (·.oneCell') = true :=
  ⟨fun W => by rw [← hz16]; kernel_rfl, by rw [← hz16]; kernel_rfl, by rw [← hz16, u8s_size]; kernel_rfl, by rw [← hz16]; exact one_u8s _⟩
end Go.Proofs.YtncbhnkhbohejaaDoor
namespace Go.Proofs.YtncbhnkhbohejaaDoor
open Go Go.RowKit
theorem told_q (p i : Nat) (n : Nat) (w : World) (hc : w.cell? ⟨p, i, none⟩ = some (.int .i64 (n : Int))) (hn : n ≤ 1000000) :
    Calls Tryd.prog 28 #[.pointer (some ⟨p, i, none⟩)] w fun e w' => e = .returned (.int .i64 (n : Int)) ∧ w' = w :=
  (told_any p i n w hc hn).mono fun _ _ ⟨h1, h2⟩ => ⟨h1, h2.symm⟩
set_option maxRecDepth 100000 in
theorem counts_any (p q n m : Nat) (bs : List UInt8) (w : World) (h : Bk w q p n m bs) (hn : n ≤ 1000000) (hm : m ≤ 1000000) :
    Calls Tryd.prog 19 #[.pointer (some ⟨p, 0, none⟩)] w fun e w' => e = .returned (.tuple #[.int .i64 (n : Int), .int .i64 (m : Int)]) ∧ Below w.heap.size w w' := by
  obtain ⟨k, c0, c1, c2, -, -⟩ := h.parts
  have HC := Bx.mk (And.intro c0 c1)
  clear h c2 c0 c1
  go_enter Tryd.func19, Tryd.ntmps19
  go_wp2
  go_quiet (first | (go_at_call 28; exact Calls.quiet_of_same (told_q p 0 n _ (HC.out.1) hn)) | (go_at_call 28; exact Calls.quiet_of_same (told_q p 1 m _ (HC.out.2) hm)))
  go_wp2
  go_ret2
  exact ⟨rfl, below_drewN (Below.refl _ _) _⟩
theorem tab_ne {w : World} {q p n m : Nat} {bs : List UInt8} (hTab : Tab w) (h : Bk w q p n m bs) : 0 ≠ p := by
  obtain ⟨k, c0, -, -, -, -⟩ := h.parts
  intro e
  subst e
  have h1 := hTab 0 (by omega)
  have h2 := c0
  rw [h1] at h2
  cases h2
theorem Tab.beside {w W : World} {p : Nat} (hTab : Tab w) (hg : 0 < w.heap.size) (hne : 0 ≠ p) (h : w.grownBy W (some p)) : Tab W := fun i hi => by
  rw [← hTab i hi]
  unfold World.cell?
  rw [h.block _ hg (fun e => hne (by injection e))]
set_option maxRecDepth 100000 in
set_option maxHeartbeats 1000000 in
theorem bake_ok (bs : List UInt8) (a t p n m : Nat) (pss : List (List UInt8)) (vp : Value) (w : World) (h : Bk w p p n m bs) (hp : ∀ W, w.grownBy W (some p) → PartsR W vp pss) (hr : rightQ (a : Int) (t : Int) = true) (hn : n ≤ 1000000)
    (hk : bs.length ≤ 1000000) (hpn : pss.length ≤ 900) (hpl : ∀ p ∈ pss, p.length ≤ 10000) (hTab : Tab w) (hg : 0 < w.heap.size) :
    Calls Tryd.prog 9 #[.pointer (some ⟨p, 0, none⟩), .int .i64 (a : Int), .int .i64 (t : Int), vp] w fun e w' => e = .returned (.tuple #[.agg (u8s (cookK bs (t / 64) a pss)), .int .i64 0]) ∧ Bk w' p p (n + 1) m bs ∧ w.grownBy w' (some p) := by
  obtain ⟨ha1, ha2, ht1, ht2⟩ : (0 ≤ (a : Int) ∧ (a : Int) < 65536 ∧ 0 ≤ (t : Int) ∧ (t : Int) ≤ 1073741824) := of_decide_eq_true hr
  obtain ⟨z16, hz16⟩ : ∃ z, u8s (List.replicate 16 0) = z := ⟨_, rfl⟩
  have HZ := Bx.mk (z16_facts hz16)
  have hz16v := HZ.out.1
  obtain ⟨B, hB⟩ : ∃ B, w.heap.size = B := ⟨_, rfl⟩
  have hpB : p < B := by rw [← hB]; exact h.lt
  obtain ⟨w0, hw0⟩ : ∃ w0, w.alloc (.cells z16 28) = w0 := ⟨_, rfl⟩
  have hb0 : Below B w w0 := by rw [← hB, ← hw0]; exact below_a _
  have hrow0 : w0.heap[B]? = some (.cells z16 28 (0, 0)) := by rw [← hw0, hnew _ _ _ hB.symm]
  have h0 : Bk w0 p p n m bs := h.later (by rw [hB]; exact hb0)
  obtain ⟨w1, hw1⟩ : ∃ w1, w0.setCell ⟨p, 0, none⟩ (.int .i64 ((n + 1 : Nat) : Int)) = w1 := ⟨_, rfl⟩
  have h1 : Bk w1 p p (n + 1) m bs := by rw [← hw1]; exact h0.bake
  have hg01 : w0.grownBy w1 (some p) := by rw [← hw1]; exact kb_set1 _ _ _ _
  have hgw1 : w.grownBy w1 (some p) := kb_trans (kb_below _ (by rw [hB]; exact hb0)) hg01
  have hrow1 : w1.heap[B]? = some (.cells z16 28 (0, 0)) := by rw [hg01.block B (Array.getElem?_eq_some_iff.1 hrow0).1 (fun e => by injection e; omega)]; exact hrow0
  obtain ⟨k0, c0, -, c2, hz, -⟩ := h0.parts
  obtain ⟨k1, -, -, d2, -, hk1⟩ := h1.parts
  have HRf := Bx.mk (ref_ok p k0 (a : Int) (t : Int) w0 c2 hr)
  have HAd := Bx.mk (add_base p 0 n w0 c0 (hz 0) hn)
  rw [hw1] at HAd
  have HEp := Bx.mk (epoch_nat t w1 (by omega))
  have HOf := Bx.mk (of_any bs (t / 64) a k1 p pss vp w1 d2 hk1 (hp w1 hgw1) hk hpn hpl (by omega) (by omega) (hTab.beside hg (tab_ne hTab h) hgw1) (Nat.lt_of_lt_of_le hg hgw1.size))
  have HI : Bx ((Tryd.prog.info? 28).map (·.size) = some (u8s (cookK bs (t / 64) a pss)).size ∧ (u8s (cookK bs (t / 64) a pss)).size = z16.size) := Bx.mk (by
    have h16 : (u8s (cookK bs (t / 64) a pss)).size = 16 := by rw [u8s_size, cookK_length]
    refine ⟨by rw [h16]; kernel_rfl, by rw [h16, ← hz16]; rfl⟩)
  have HEnd : Bx (∀ w2 w3, Below w1.heap.size w1 w2 → w2.grownBy w3 (some B) → Bk w3 p p (n + 1) m bs ∧ w.grownBy w3 (some p)) := Bx.mk (fun w2 w3 hb2 hg3 => by
    have hG : w.grownBy w3 (some p) := kb_pastC (kb_trans hgw1 (kb_below _ hb2)) hg3 (Nat.le_of_eq hB)
    obtain ⟨k, hr, hk⟩ := h
    have r0 : w0.heap[p]? = _ := (hb0.block p hpB).trans hr
    have r1 := heap_setCell_same w0 p 0 _ _ (.int .i64 ((n + 1 : Nat) : Int)) r0
    rw [hw1] at r1
    have hp1 : p < w1.heap.size := (Array.getElem?_eq_some_iff.1 r1).1
    refine ⟨⟨k, ?_, fun W1 hW => hk W1 (kb_trans hG hW)⟩, hG⟩
    rw [hg3.block p (Nat.lt_of_lt_of_le hp1 hb2.size) (fun e => by injection e; omega), hb2.block p hp1, r1]
    rfl)
  have HHB : Bx (∀ W, Below w1.heap.size w1 W → W.heap[B]? = some (.cells z16 28 (0, 0))) := Bx.mk (fun W hb => by rw [hb.block B (Array.getElem?_eq_some_iff.1 hrow1).1]; exact hrow1)
  clear hz16 h h0 h1 hg01 hgw1 hrow1 c2 d2 hz hk1 hp hr hn hk hpn hpl hTab hg c0 hrow0 hpB
  generalize cookK bs (t / 64) a pss = ck at *
  have hB' := HZ.out.2.1
  go_enter Tryd.func9, Tryd.ntmps9
  go_wp2_with fail
  refine HRf.out.mono ?_
  rintro e y0 ⟨rfl, rfl⟩
  go_wp2_with fail
  refine HAd.out.mono ?_
  rintro e y1 ⟨rfl, rfl⟩
  go_wp2_with fail
  refine HEp.out.mono ?_
  rintro e y2 ⟨rfl, rfl⟩
  go_wp2_with fail
  skip -- M1
  refine HOf.out.mono ?_
  rintro e w2 ⟨rfl, hb⟩
  have HB2 := Bx.mk hb
  clear hb
  go_wp2_with (refine wpList_store_new rfl 28 _ _ rfl B (u8s ck) z16 _ (by rfl) (by rfl) (HHB.out _ HB2.out) HI.out.2 HI.out.1 (one_u8s _) ?_; intro w8 hw8 hr8; have H8 : Bx (w2.grownBy w8 (some B) ∧ w8.heap[B]? = some (.cells (u8s ck) 28 (0, 0))) := Bx.mk ⟨by rw [hw8]; exact kb_setCells _ _ _, hr8⟩; clear hw8 hr8)
  refine bodyPost_ret (results_pairC rfl _ _ _ B _ rfl (run_loadVar_row _ B _ _ _ _ _ H8.out.2 Tryd.underlying28 rfl HI.out.1)) rfl ?_
  exact ⟨rfl, HEnd.out _ _ HB2.out H8.out.1⟩
end Go.Proofs.YtncbhnkhbohejaaDoor
namespace Go.Proofs.YtncbhnkhbohejaaDoor
open Go Go.RowKit
set_option maxRecDepth 100000 in
theorem check_ok (p k t a : Nat) (bs c : List UInt8) (pss : List (List UInt8)) (vc vp : Value) (w : World) (hvc : Bytes w vc c) (hl : c.length = 16) (hc : w.cell? ⟨p, 2, none⟩ = some (.pointer (some ⟨k, 0, none⟩))) (hv : IsKey w (.pointer (some ⟨k, 0, none⟩)) bs) (hp : PartsR w vp pss) (hr : rightQ (a : Int) (t : Int) = true)
    (hk : bs.length ≤ 1000000) (hpn : pss.length ≤ 900) (hpl : ∀ p ∈ pss, p.length ≤ 10000) (hTab : Tab w) (hg : 0 < w.heap.size) (hf : freK bs (t / 64) a pss c = true) :
    Calls Tryd.prog 12 #[.pointer (some ⟨p, 0, none⟩), vc, .int .i64 (a : Int), .int .i64 (t : Int), vp] w fun e w' => e = .returned (.int .i64 0) ∧ Below w.heap.size w w' := by
  obtain ⟨ha1, ha2, ht1, ht2⟩ : (0 ≤ (a : Int) ∧ (a : Int) < 65536 ∧ 0 ≤ (t : Int) ∧ (t : Int) ≤ 1073741824) := of_decide_eq_true hr
  have HR := Bx.mk (ref_ok p k a t w hc hr)
  have HF := Bx.mk (fresh_any bs c a k p t pss vp vc w hc hv hp hvc hk hpn hpl (by omega) (by omega) (by omega) hTab hg)
  rw [hf] at HF
  have hvc' := hvc
  obtain ⟨aa, cap, rfl, -⟩ := hvc'
  rw [hl] at HF ⊢
  clear hl hvc hc hv hp hr hk hpn hpl hTab hg hf
  go_enter Tryd.func12, Tryd.ntmps12
  go_wp2_with fail
  refine HR.out.mono ?_
  rintro e w1 ⟨rfl, rfl⟩
  go_wp2_with fail
  refine HF.out.mono ?_
  rintro e w1 ⟨rfl, hb⟩
  have HB := Bx.mk hb
  clear hb
  go_wp2
  go_ret
  exact ⟨rfl, HB.out⟩
set_option maxRecDepth 100000 in
theorem check_old (p t a n m : Nat) (bs c : List UInt8) (pss : List (List UInt8)) (vc vp : Value) (w : World) (hvc : Bytes w vc c) (hl : c.length = 16) (h : Bk w p p n m bs) (hp : PartsR w vp pss) (hr : rightQ (a : Int) (t : Int) = true) (hm : m ≤ 1000000)
    (hk : bs.length ≤ 1000000) (hpn : pss.length ≤ 900) (hpl : ∀ p ∈ pss, p.length ≤ 10000) (hTab : Tab w) (hg : 0 < w.heap.size) (hf : freK bs (t / 64) a pss c = false) :
    Calls Tryd.prog 12 #[.pointer (some ⟨p, 0, none⟩), vc, .int .i64 (a : Int), .int .i64 (t : Int), vp] w fun e w' => e = .returned (.int .i64 9) ∧ Bk w' p p n (m + 1) bs ∧ w.grownBy w' (some p) := by
  obtain ⟨ha1, ha2, ht1, ht2⟩ : (0 ≤ (a : Int) ∧ (a : Int) < 65536 ∧ 0 ≤ (t : Int) ∧ (t : Int) ≤ 1073741824) := of_decide_eq_true hr
  obtain ⟨k, -, -, hc, -, hv⟩ := h.parts
  have HR := Bx.mk (ref_ok p k a t w hc hr)
  have HF := Bx.mk (fresh_any bs c a k p t pss vp vc w hc hv hp hvc hk hpn hpl (by omega) (by omega) (by omega) hTab hg)
  rw [hf] at HF
  have hvc' := hvc
  obtain ⟨aa, cap, rfl, -⟩ := hvc'
  rw [hl] at HF ⊢
  have HK := Bx.mk h
  clear hl hvc hc hv hp hr hk hpn hpl hTab hg hf h
  go_enter Tryd.func12, Tryd.ntmps12
  go_wp2_with fail
  refine HR.out.mono ?_
  rintro e w1 ⟨rfl, rfl⟩
  go_wp2_with fail
  refine HF.out.mono ?_
  rintro e w1 ⟨rfl, hb⟩
  have HB := Bx.mk (And.intro hb (HK.out.later hb))
  clear hb
  obtain ⟨k1, -, d1, -, hz1, -⟩ := HB.out.2.parts
  have HA := Bx.mk (add_base p 1 m w1 d1 (hz1 1) hm)
  clear d1 hz1
  go_wp2_with fail
  refine HA.out.mono ?_
  rintro e w2 ⟨rfl, hw2⟩
  have H2 : Bx (Bk w2 p p n (m + 1) bs ∧ w.grownBy w2 (some p)) := Bx.mk ⟨by rw [hw2]; exact HB.out.2.find, kb_trans (kb_below _ HB.out.1) (by rw [hw2]; exact kb_set1 _ _ _ _)⟩
  clear hw2
  go_wp2
  go_ret
  exact ⟨rfl, H2.out⟩
end Go.Proofs.YtncbhnkhbohejaaDoor
namespace Go.Proofs.YtncbhnkhbohejaaDoor
open Go Go.RowKit
def zk16 : List UInt8 := List.replicate 16 0
theorem ck21 : cookK zk16 2 5 [] ≠ cookK zk16 1 5 [] := by decide +kernel
theorem ck31 : cookK zk16 3 5 [] ≠ cookK zk16 1 5 [] := by decide +kernel
end Go.Proofs.YtncbhnkhbohejaaDoor
namespace Go.Proofs.YtncbhnkhbohejaaDoor
open Go Go.RowKit
theorem noParts (W : World) : PartsR W (.slice none 0 0) [] := ⟨[], .inl ⟨rfl, rfl⟩, rfl, fun j hj => by simp at hj⟩
theorem fre191 : freK zk16 (191 / 64) 5 [] (cookK zk16 (70 / 64) 5 []) = true := by
  unfold freK
  rw [show (191 / 64 - 1 : Nat) = 70 / 64 from rfl]
  simp
theorem fre192 : freK zk16 (192 / 64) 5 [] (cookK zk16 (70 / 64) 5 []) = false := by
  unfold freK
  rw [show (192 / 64 : Nat) = 3 from rfl, show (70 / 64 : Nat) = 1 from rfl, decide_eq_false ck31, decide_eq_false (show ¬ cookK zk16 (3 - 1) 5 [] = cookK zk16 1 5 [] from ck21)]
  rfl
set_option maxRecDepth 100000 in
set_option maxHeartbeats 1000000 in
theorem known10_any (w : World) (hTab : Tab w) (hg : 0 < w.heap.size) : Calls Tryd.prog 11 #[] w fun e w' => e = .returned (.bool true) ∧ Below w.heap.size w w' := by
  obtain ⟨z16, hz16⟩ : ∃ z, u8s (List.replicate 16 0) = z := ⟨_, rfl⟩
  have hz16v := (z16_facts hz16).1
  have HN := Bx.mk fun (W : World) (v : Value) (hv : Bytes W v zk16) => cnew_ok zk16 v W hv (by decide) (by decide)
  have HBa : Bx (∀ (W : World) (p : Nat), Below w.heap.size w W → Bk W p p 0 0 zk16 → Calls Tryd.prog 9 #[.pointer (some ⟨p, 0, none⟩), .int .i64 5, .int .i64 70, .slice none 0 0] W fun e w' => e = .returned (.tuple #[.agg (u8s (cookK zk16 (70 / 64) 5 [])), .int .i64 0]) ∧ Bk w' p p 1 0 zk16 ∧ W.grownBy w' (some p)) :=
    Bx.mk fun W p hb hk => bake_ok zk16 5 70 p 0 0 [] _ W hk (fun W _ => noParts W) (by decide) (by decide) (by decide) (by decide) (by simp) (hTab.later hb hg) (Nat.lt_of_lt_of_le hg hb.size)
  have HC1 : Bx (∀ (W : World) (p : Nat) (vc : Value), Below w.heap.size w W → Bk W p p 1 0 zk16 → Bytes W vc (cookK zk16 (70 / 64) 5 []) → Calls Tryd.prog 12 #[.pointer (some ⟨p, 0, none⟩), vc, .int .i64 5, .int .i64 191, .slice none 0 0] W fun e w' => e = .returned (.int .i64 0) ∧ Below W.heap.size W w') :=
    Bx.mk fun W p vc hb hk hv => by
      obtain ⟨k, -, -, hc, -, hkey⟩ := hk.parts
      exact check_ok p k 191 5 zk16 _ [] vc _ W hv (cookK_length _ _ _ _) hc hkey (noParts W) (by decide) (by decide) (by decide) (by simp) (hTab.later hb hg) (Nat.lt_of_lt_of_le hg hb.size) fre191
  have HC2 : Bx (∀ (W : World) (p : Nat) (vc : Value), Below w.heap.size w W → Bk W p p 1 0 zk16 → Bytes W vc (cookK zk16 (70 / 64) 5 []) → Calls Tryd.prog 12 #[.pointer (some ⟨p, 0, none⟩), vc, .int .i64 5, .int .i64 192, .slice none 0 0] W fun e w' => e = .returned (.int .i64 9) ∧ Bk w' p p 1 1 zk16 ∧ W.grownBy w' (some p)) :=
    Bx.mk fun W p vc hb hk hv => check_old p 192 5 1 0 zk16 _ [] vc _ W hv (cookK_length _ _ _ _) hk (noParts W) (by decide) (by decide) (by decide) (by decide) (by simp) (hTab.later hb hg) (Nat.lt_of_lt_of_le hg hb.size) fre192
  have HL := cookK_length zk16 (70 / 64) 5 []
  generalize cookK zk16 (70 / 64) 5 [] = ck at *
  have HI : Bx ((Tryd.prog.info? 28).map (·.size) = some (u8s ck).size ∧ (u8s ck).size = z16.size ∧ ck.length = 16) := Bx.mk (by
    have h16 : (u8s ck).size = 16 := by rw [u8s_size, HL]
    refine ⟨by rw [h16]; kernel_rfl, by rw [h16, ← hz16]; rfl, HL⟩)
  obtain ⟨cs, hcs⟩ : ∃ cs, u8s (List.replicate 16 0) = cs := ⟨_, rfl⟩
  have mk1 := fun (W : World) => mk_u8g 16 16 .i64 .i64 16 16 rfl rfl (Nat.le_refl _) (by omega) W
  rw [hcs] at mk1
  obtain ⟨B, hB⟩ : ∃ B, w.heap.size = B := ⟨_, rfl⟩
  have H0 : Bx (Bytes (w.alloc (.cells cs 5)) (.slice (some ⟨w.heap.size, 0, none⟩) 16 16) zk16 ∧ Below w.heap.size w (w.alloc (.cells cs 5))) := Bx.mk ⟨by rw [← hcs]; exact built w zk16, below_a _⟩
  rw [hB] at H0
  have HBw := Bx.mk hB
  clear hTab hg hz16 HL hcs
  rw [hB]
  go_enter Tryd.func11, Tryd.ntmps11
  go_wp2_with fail
  skip -- M1
  generalize w.alloc (.cells cs 5) = w1 at *
  refine (HN.out w1 _ H0.out.1).mono ?_
  rintro e w2 ⟨p, rfl, hp, hb, hk⟩
  have H2 : Bx (Below B w w2 ∧ Bk w2 p p 0 0 zk16 ∧ B ≤ p) := Bx.mk ⟨H0.out.2.trans (hb.mono (by rw [← HBw.out]; exact H0.out.2.size)), hk p (.inr (Nat.le_refl _)), by have := H0.out.2.size; have := HBw.out; omega⟩
  clear hp hb hk HN H0 mk1
  go_wp2_with fail
  refine (HBa.out w2 p (by rw [HBw.out]; exact H2.out.1) H2.out.2.1).mono ?_
  rintro e w3 ⟨rfl, hk, hg⟩
  have H3 : Bx (Below B w w3 ∧ Bk w3 p p 1 0 zk16 ∧ B ≤ p) := Bx.mk ⟨H2.out.1.trans (grown_belowC hg H2.out.2.2 (by rw [← HBw.out]; exact H2.out.1.size)), hk, H2.out.2.2⟩
  clear hk hg HBa H2
  go_upto_region 3 with (refine wpList_store_var rfl 28 _ _ rfl w3 _ _ rfl (by rfl) (u8s ck) (by rfl) HI.out.2.1 HI.out.1 (one_u8s _) ?_; intro w4 hb hr hl)
  have H4 : Bx (Below B w w4 ∧ Bk w4 p p 1 0 zk16 ∧ B ≤ p ∧ Bytes w4 (.slice (some ⟨w3.heap.size, 0, none⟩) 16 16) ck) := Bx.mk ⟨H3.out.1.trans (hb.mono (by rw [← HBw.out]; exact H3.out.1.size)), H3.out.2.1.later hb, H3.out.2.2, row_bytes hr HI.out.2.2⟩
  clear hb hr hl H3
  go_wp2_with fail
  skip -- M2
  refine (HC1.out w4 p _ (by rw [HBw.out]; exact H4.out.1) H4.out.2.1 H4.out.2.2.2).mono ?_
  rintro e w5 ⟨rfl, hb⟩
  have H5 : Bx (Below B w w5 ∧ Bk w5 p p 1 0 zk16 ∧ B ≤ p ∧ Bytes w5 (.slice (some ⟨w3.heap.size, 0, none⟩) 16 16) ck) := Bx.mk ⟨H4.out.1.trans (hb.mono (by rw [← HBw.out]; exact H4.out.1.size)), H4.out.2.1.later hb, H4.out.2.2.1, H4.out.2.2.2.later hb⟩
  clear hb H4 HC1
  go_wp2_with fail
  refine (HC2.out w5 p _ (by rw [HBw.out]; exact H5.out.1) H5.out.2.1 H5.out.2.2.2).mono ?_
  rintro e w6 ⟨rfl, hk, hg⟩
  have H6 : Bx (Below B w w6) := Bx.mk (H5.out.1.trans (grown_belowC hg H5.out.2.2.1 (by rw [← HBw.out]; exact H5.out.1.size)))
  clear hk hg H5 HC2
  go_wp2
  go_ret
  exact ⟨rfl, H6.out⟩
end Go.Proofs.YtncbhnkhbohejaaDoor
namespace Go.Proofs.YtncbhnkhbohejaaDoor
open Go Go.RowKit
/-- The key's end. -/
def hex16 : List UInt8 := [48, 49, 50, 51, 52, 53, 54, 55, 56, 57, 97, 98, 99, 100, 101, 102]
/-- The law's key. -/
def keyQ (bs : List UInt8) : List UInt8 := bs.take 54 ++ hex16
theorem keyQ_le (bs : List UInt8) : (keyQ bs).length ≤ 70 ∧ 16 ≤ (keyQ bs).length := by
  unfold keyQ
  rw [List.length_append, List.length_take]
  have : hex16.length = 16 := rfl
  omega
set_option maxRecDepth 100000 in
set_option maxHeartbeats 1000000 in
theorem key10_any (bs : List UInt8) (v : Value) (w : World) (hv : Bytes w v bs) (hl : bs.length ≤ 9223372036854775807) :
    Calls Tryd.prog 21 #[v] w fun e w' => ∃ v', e = .returned v' ∧ Bytes w' v' (keyQ bs) ∧ Below w.heap.size w w' := by
  have HV := Bx.mk hv
  obtain ⟨a, cap, rfl, hc, hnone, -⟩ := hv
  obtain ⟨n, hn⟩ : ∃ n, bs.length = n := ⟨_, rfl⟩
  rw [hn] at HV hl hc ⊢
  obtain ⟨mm, hmm⟩ : ∃ mm, mm = min n 54 := ⟨_, rfl⟩
  have m1 : (if (54 : Int) < (n : Int) then (54 : Int) else (n : Int)) = (mm : Int) := by split <;> omega
  have s1 := fun W => cut_bytes a n cap mm (by omega) (by omega) hnone W
  have hmc : (mm : Int) ≤ (cap : Int) := by omega
  have hn1 : (n : Int) ≤ 9223372036854775807 := by omega
  have HM : Bx (mm ≤ 54 ∧ (bs.take mm).length = mm) := Bx.mk ⟨by omega, by rw [List.length_take]; omega⟩
  have HT : Bx (bs.take mm = bs.take 54) := Bx.mk (by rw [hmm, ← hn, Nat.min_comm, ← List.take_take, List.take_length])
  have HB : Bx (∀ W, Bytes W (.slice a n cap) bs → Bytes W (.slice a mm cap) (bs.take mm)) := Bx.mk (fun W hW => hW.take mm (by omega))
  have H0 : Bx (OwnB (w.alloc (.cells #[] 5)) w.heap.size (.slice (some ⟨w.heap.size, 0, none⟩) 0 0) [] ∧ Below w.heap.size w (w.alloc (.cells #[] 5)) ∧ Bytes (w.alloc (.cells #[] 5)) (.slice a mm cap) (bs.take mm)) := Bx.mk ⟨own_empty w _ (Nat.le_refl _), below_a _, HB.out _ (HV.out.later (below_a _))⟩
  have HBu : Bx (∀ W : World, Bytes (W.alloc (.cells #[.int .u8 48, .int .u8 49, .int .u8 50, .int .u8 51, .int .u8 52, .int .u8 53, .int .u8 54, .int .u8 55, .int .u8 56, .int .u8 57, .int .u8 97, .int .u8 98, .int .u8 99, .int .u8 100, .int .u8 101, .int .u8 102] 5 (16, 17))) (.slice (some ⟨W.heap.size, 0, none⟩) 16 16) hex16) := Bx.mk fun W => const_bytes (l := hex16) (fr := (16, 17)) (by rw [hnew _ _ _ rfl]; kernel_rfl) rfl
  have kc := fun (W : World) => Lib.run_convert_bytes_const (P := Tryd.prog) W 22 5 #[.int .u8 48, .int .u8 49, .int .u8 50, .int .u8 51, .int .u8 52, .int .u8 53, .int .u8 54, .int .u8 55, .int .u8 56, .int .u8 57, .int .u8 97, .int .u8 98, .int .u8 99, .int .u8 100, .int .u8 101, .int .u8 102] 16 16 Tryd.underlying22 Tryd.underlying5
  clear hmm hn hnone hc HV HB
  go_enter Tryd.func21, Tryd.ntmps21
  go_wp2_with (first | (refine wpList_ap (o := ⟨some 9, _, _, _, _, _⟩) rfl _ _ rfl w.heap.size _ [] (by rfl) H0.out.1 _ (bs.take mm) (by rfl) H0.out.2.2 (by have := HM.out; simp only [List.length_nil]; omega) H0.out.2.1.size ?_; intro v1 w1 h1 g1 _; have H1 : Bx (OwnB w1 w.heap.size v1 ([] ++ bs.take mm) ∧ Below w.heap.size w w1) := Bx.mk ⟨h1, H0.out.2.1.trans (own_below H0.out.1 g1 H0.out.2.1.size)⟩; clear h1 g1; have kc2 := kc w1; clear kc) | (refine wpList_ap (o := ⟨some 12, _, _, _, _, _⟩) rfl _ _ rfl w.heap.size _ ([] ++ bs.take mm) (by rfl) (ownB_a H1.out.1 _) _ hex16 (by rfl) (HBu.out w1) (by have := HM.out; rw [List.nil_append, HM.out.2, show hex16.length = 16 from rfl]; omega) (Nat.le_trans H1.out.2.size (below_a _).size) ?_; intro v2 w2 h1 g1 _; have H2 : Bx (OwnB w2 w.heap.size v2 (([] ++ bs.take mm) ++ hex16) ∧ Below w.heap.size w w2) := Bx.mk ⟨h1, (H1.out.2.alloc H1.out.2.size _).trans (own_below (ownB_a H1.out.1 _) g1 (Nat.le_trans H1.out.2.size (below_a _).size))⟩; clear h1 g1))
  go_ret
  exact ⟨_, rfl, by have := H2.out.1.bytes; rw [List.nil_append, HT.out] at this; exact this, H2.out.2⟩
end Go.Proofs.YtncbhnkhbohejaaDoor
namespace Go.Proofs.YtncbhnkhbohejaaDoor
open Go Go.RowKit
/-- What Baker hands back. -/
def Bkr (w : World) (bs : List UInt8) (e : Ending) (w' : World) : Prop := ∃ p vk, e = .returned (.tuple #[.pointer (some ⟨p, 0, none⟩), vk]) ∧ Bytes w' vk (keyQ bs) ∧ w.heap.size ≤ p ∧ Below w.heap.size w w' ∧ (∀ q, q < w.heap.size ∨ p ≤ q → Bk w' q p 0 0 (keyQ bs)) ∧ BytesAt w' p vk (keyQ bs)
set_option maxRecDepth 100000 in
theorem baker10_any (bs : List UInt8) (v : Value) (w : World) (hv : Bytes w v bs) (hl : bs.length ≤ 9223372036854775807) :
    Calls Tryd.prog 7 #[v] w (Bkr w bs) := by
  have HK := Bx.mk (key10_any bs v w hv hl)
  have HN := Bx.mk fun (W : World) (vk : Value) (h : Bytes W vk (keyQ bs)) => cnew_ok (keyQ bs) vk W h (keyQ_le bs).2 (by have := (keyQ_le bs).1; omega)
  clear hv hl
  go_enter Tryd.func7, Tryd.ntmps7
  go_wp2_with fail
  refine HK.out.mono ?_
  rintro e w1 ⟨vk, rfl, hb1, hb⟩
  have H1 := Bx.mk (And.intro hb1 hb)
  clear hb1 hb HK
  go_wp2_with fail
  refine (HN.out w1 vk H1.out.1).mono ?_
  rintro e w2 ⟨p, rfl, hp, hb, hk⟩
  have H2 : Bx (Bytes w2 vk (keyQ bs) ∧ w.heap.size ≤ p ∧ Below w.heap.size w w2 ∧ (∀ q, q < w.heap.size ∨ p ≤ q → Bk w2 q p 0 0 (keyQ bs)) ∧ BytesAt w2 p vk (keyQ bs)) := Bx.mk ⟨H1.out.1.later hb, Nat.le_trans H1.out.2.size hp, H1.out.2.trans (hb.mono H1.out.2.size), fun q hq => hk q (by have := H1.out.2.size; omega), H1.out.1.apart hb p hp⟩
  clear hp hb hk HN H1
  go_wp2
  go_ret2
  exact ⟨_, _, rfl, H2.out⟩
end Go.Proofs.YtncbhnkhbohejaaDoor
namespace Go.Proofs.YtncbhnkhbohejaaDoor
open Go Go.RowKit
structure CS (w : World) (p : Nat) (kq : List UInt8) (vk vo : Value) (xs : List Value) (n m : Nat) (W : World) : Prop where
  below : Below w.heap.size w W
  ge : w.heap.size ≤ p
  bk : Bk W p p n m kq
  key : BN W p vk kq
  own : ∃ b, p < b ∧ OwnP W b vo xs
theorem CS.later {w : World} {p : Nat} {kq : List UInt8} {vk vo : Value} {xs : List Value} {n m : Nat} {W W1 : World} (h : CS w p kq vk vo xs n m W) (hb : Below W.heap.size W W1) : CS w p kq vk vo xs n m W1 := by
  obtain ⟨b, hlt, ho⟩ := h.own
  exact ⟨h.below.trans (hb.mono h.below.size), h.ge, h.bk.later hb, h.key.below hb, b, hlt, ho.later hb (fun g hg => (ho.lt g hg).1)⟩
theorem CS.step {w : World} {p : Nat} {kq : List UInt8} {vk vo : Value} {xs : List Value} {n m n1 m1 : Nat} {W W1 : World} (h : CS w p kq vk vo xs n m W) (hk : Bk W1 p p n1 m1 kq) (hg : W.grownBy W1 (some p)) : CS w p kq vk vo xs n1 m1 W1 := by
  obtain ⟨b, hlt, ho⟩ := h.own
  refine ⟨h.below.trans (grown_belowC hg h.ge h.below.size), h.ge, hk, h.key.later hg, b, hlt, ho.grown hg (fun g e1 e2 => ?_)⟩
  have := (ho.lt g e2).2
  injection e1 with e1
  omega
theorem CS.parts {w : World} {p : Nat} {kq : List UInt8} {vk vo : Value} {xs : List Value} {n m : Nat} {W : World} {qs : List (List UInt8)} (h : CS w p kq vk vo xs n m W) (hv : Vals w xs qs) : ∀ W1, W.grownBy W1 (some p) → PartsR W1 vo qs := by
  intro W1 hg
  obtain ⟨b, hlt, ho⟩ := h.own
  refine ⟨xs, own_rowP (ho.grown hg (fun g e1 e2 => ?_)), hv.later (h.below.trans (grown_belowC hg h.ge h.below.size))⟩
  have := (ho.lt g e2).2
  injection e1 with e1
  omega
end Go.Proofs.YtncbhnkhbohejaaDoor
namespace Go.Proofs.YtncbhnkhbohejaaDoor
open Go Go.RowKit
/-- A baker, what asks, and the cookie in its own block. -/
def CT (w : World) (p : Nat) (kq : List UInt8) (vk vo : Value) (xs : List Value) (D : Nat) (ck : List UInt8) (n m : Nat) (W : World) : Prop :=
  CS w p kq vk vo xs n m W ∧ BN W p (.slice (some ⟨D, 0, none⟩) 16 16) ck
theorem CT.later {w : World} {p : Nat} {kq : List UInt8} {vk vo : Value} {xs : List Value} {D : Nat} {ck : List UInt8} {n m : Nat} {W W1 : World} (h : CT w p kq vk vo xs D ck n m W) (hb : Below W.heap.size W W1) : CT w p kq vk vo xs D ck n m W1 := ⟨h.1.later hb, h.2.below hb⟩
theorem CT.step {w : World} {p : Nat} {kq : List UInt8} {vk vo : Value} {xs : List Value} {D : Nat} {ck : List UInt8} {n m n1 m1 : Nat} {W W1 : World} (h : CT w p kq vk vo xs D ck n m W) (hk : Bk W1 p p n1 m1 kq) (hg : W.grownBy W1 (some p)) : CT w p kq vk vo xs D ck n1 m1 W1 := ⟨h.1.step hk hg, h.2.later hg⟩
theorem fre_self (kq : List UInt8) (t a : Nat) (pss : List (List UInt8)) : freK kq (t / 64) a pss (cookK kq (t / 64) a pss) = true := by
  unfold freK; simp
theorem wrap64_in (n : Int) (h1 : 0 ≤ n) (h2 : n ≤ 9223372036854775807) : wrap64 n = n := by unfold wrap64; omega
end Go.Proofs.YtncbhnkhbohejaaDoor
namespace Go.Proofs.YtncbhnkhbohejaaDoor
open Go Go.RowKit
set_option maxRecDepth 100000 in
set_option maxHeartbeats 1000000 in
theorem bake_ok3 (bs : List UInt8) (a t p n m : Nat) (pss : List (List UInt8)) (vp : Value) (w : World) (h : Bk w p p n m bs) (hp : ∀ W, w.grownBy W (some p) → PartsR W vp pss) (hr : rightQ (a : Int) (t : Int) = true) (hn : n ≤ 1000000)
    (hk : bs.length ≤ 1000000) (hpn : pss.length ≤ 900) (hpl : ∀ p ∈ pss, p.length ≤ 10000) (hTab : Tab w) (hg : 0 < w.heap.size) :
    Calls Tryd.prog 9 #[.pointer (some ⟨p, 0, none⟩), .int .i64 (a : Int), .int .i64 (t : Int), vp] w fun e w' => e = .returned (.tuple #[.agg (u8s (cookK bs (t / 64) a pss)), .int .i64 0]) ∧ Bk w' p p (n + 1) m bs ∧ w.grownBy w' (some p) ∧ w'.cell? ⟨p, 2, none⟩ = w.cell? ⟨p, 2, none⟩ := by
  obtain ⟨ha1, ha2, ht1, ht2⟩ : (0 ≤ (a : Int) ∧ (a : Int) < 65536 ∧ 0 ≤ (t : Int) ∧ (t : Int) ≤ 1073741824) := of_decide_eq_true hr
  obtain ⟨z16, hz16⟩ : ∃ z, u8s (List.replicate 16 0) = z := ⟨_, rfl⟩
  have HZ := Bx.mk (z16_facts hz16)
  have hz16v := HZ.out.1
  obtain ⟨B, hB⟩ : ∃ B, w.heap.size = B := ⟨_, rfl⟩
  have hpB : p < B := by rw [← hB]; exact h.lt
  obtain ⟨w0, hw0⟩ : ∃ w0, w.alloc (.cells z16 28) = w0 := ⟨_, rfl⟩
  have hb0 : Below B w w0 := by rw [← hB, ← hw0]; exact below_a _
  have hrow0 : w0.heap[B]? = some (.cells z16 28 (0, 0)) := by rw [← hw0, hnew _ _ _ hB.symm]
  have h0 : Bk w0 p p n m bs := h.later (by rw [hB]; exact hb0)
  obtain ⟨w1, hw1⟩ : ∃ w1, w0.setCell ⟨p, 0, none⟩ (.int .i64 ((n + 1 : Nat) : Int)) = w1 := ⟨_, rfl⟩
  have h1 : Bk w1 p p (n + 1) m bs := by rw [← hw1]; exact h0.bake
  have hg01 : w0.grownBy w1 (some p) := by rw [← hw1]; exact kb_set1 _ _ _ _
  have hgw1 : w.grownBy w1 (some p) := kb_trans (kb_below _ (by rw [hB]; exact hb0)) hg01
  have hrow1 : w1.heap[B]? = some (.cells z16 28 (0, 0)) := by rw [hg01.block B (Array.getElem?_eq_some_iff.1 hrow0).1 (fun e => by injection e; omega)]; exact hrow0
  obtain ⟨k0, c0, -, c2, hz, -⟩ := h0.parts
  obtain ⟨k1, -, -, d2, -, hk1⟩ := h1.parts
  have HRf := Bx.mk (ref_ok p k0 (a : Int) (t : Int) w0 c2 hr)
  have HAd := Bx.mk (add_base p 0 n w0 c0 (hz 0) hn)
  rw [hw1] at HAd
  have HEp := Bx.mk (epoch_nat t w1 (by omega))
  have HOf := Bx.mk (of_any bs (t / 64) a k1 p pss vp w1 d2 hk1 (hp w1 hgw1) hk hpn hpl (by omega) (by omega) (hTab.beside hg (tab_ne hTab h) hgw1) (Nat.lt_of_lt_of_le hg hgw1.size))
  have HI : Bx ((Tryd.prog.info? 28).map (·.size) = some (u8s (cookK bs (t / 64) a pss)).size ∧ (u8s (cookK bs (t / 64) a pss)).size = z16.size) := Bx.mk (by
    have h16 : (u8s (cookK bs (t / 64) a pss)).size = 16 := by rw [u8s_size, cookK_length]
    refine ⟨by rw [h16]; kernel_rfl, by rw [h16, ← hz16]; rfl⟩)
  have HEnd : Bx (∀ w2 w3, Below w1.heap.size w1 w2 → w2.grownBy w3 (some B) → Bk w3 p p (n + 1) m bs ∧ w.grownBy w3 (some p) ∧ w3.cell? ⟨p, 2, none⟩ = w.cell? ⟨p, 2, none⟩) := Bx.mk (fun w2 w3 hb2 hg3 => by
    have hG : w.grownBy w3 (some p) := kb_pastC (kb_trans hgw1 (kb_below _ hb2)) hg3 (Nat.le_of_eq hB)
    obtain ⟨k, hr, hk⟩ := h
    have r0 : w0.heap[p]? = _ := (hb0.block p hpB).trans hr
    have r1 := heap_setCell_same w0 p 0 _ _ (.int .i64 ((n + 1 : Nat) : Int)) r0
    rw [hw1] at r1
    have hp1 : p < w1.heap.size := (Array.getElem?_eq_some_iff.1 r1).1
    have r3 : w3.heap[p]? = some (.cells #[.int .i64 ((n + 1 : Nat) : Int), .int .i64 (m : Int), .pointer (some ⟨k, 0, none⟩)] 66 (0, 0)) := by
      rw [hg3.block p (Nat.lt_of_lt_of_le hp1 hb2.size) (fun e => by injection e; omega), hb2.block p hp1, r1]
      rfl
    refine ⟨⟨k, r3, fun W1 hW => hk W1 (kb_trans hG hW)⟩, hG, ?_⟩
    rw [cell_of_row _ _ _ _ _ _ r3, cell_of_row _ _ _ _ _ _ hr]
    rfl)
  have HHB : Bx (∀ W, Below w1.heap.size w1 W → W.heap[B]? = some (.cells z16 28 (0, 0))) := Bx.mk (fun W hb => by rw [hb.block B (Array.getElem?_eq_some_iff.1 hrow1).1]; exact hrow1)
  clear hz16 h h0 h1 hg01 hgw1 hrow1 c2 d2 hz hk1 hp hr hn hk hpn hpl hTab hg c0 hrow0 hpB
  generalize cookK bs (t / 64) a pss = ck at *
  have hB' := HZ.out.2.1
  go_enter Tryd.func9, Tryd.ntmps9
  go_wp2_with fail
  refine HRf.out.mono ?_
  rintro e y0 ⟨rfl, rfl⟩
  go_wp2_with fail
  refine HAd.out.mono ?_
  rintro e y1 ⟨rfl, rfl⟩
  go_wp2_with fail
  refine HEp.out.mono ?_
  rintro e y2 ⟨rfl, rfl⟩
  go_wp2_with fail
  skip -- M1
  refine HOf.out.mono ?_
  rintro e w2 ⟨rfl, hb⟩
  have HB2 := Bx.mk hb
  clear hb
  go_wp2_with (refine wpList_store_new rfl 28 _ _ rfl B (u8s ck) z16 _ (by rfl) (by rfl) (HHB.out _ HB2.out) HI.out.2 HI.out.1 (one_u8s _) ?_; intro w8 hw8 hr8; have H8 : Bx (w2.grownBy w8 (some B) ∧ w8.heap[B]? = some (.cells (u8s ck) 28 (0, 0))) := Bx.mk ⟨by rw [hw8]; exact kb_setCells _ _ _, hr8⟩; clear hw8 hr8)
  refine bodyPost_ret (results_pairC rfl _ _ _ B _ rfl (run_loadVar_row _ B _ _ _ _ _ H8.out.2 Tryd.underlying28 rfl HI.out.1)) rfl ?_
  exact ⟨rfl, HEnd.out _ _ HB2.out H8.out.1⟩
set_option maxRecDepth 100000 in
theorem check_old3 (p t a n m : Nat) (bs c : List UInt8) (pss : List (List UInt8)) (vc vp : Value) (w : World) (hvc : Bytes w vc c) (hl : c.length = 16) (h : Bk w p p n m bs) (hp : PartsR w vp pss) (hr : rightQ (a : Int) (t : Int) = true) (hm : m ≤ 1000000)
    (hk : bs.length ≤ 1000000) (hpn : pss.length ≤ 900) (hpl : ∀ p ∈ pss, p.length ≤ 10000) (hTab : Tab w) (hg : 0 < w.heap.size) (hf : freK bs (t / 64) a pss c = false) :
    Calls Tryd.prog 12 #[.pointer (some ⟨p, 0, none⟩), vc, .int .i64 (a : Int), .int .i64 (t : Int), vp] w fun e w' => e = .returned (.int .i64 9) ∧ Bk w' p p n (m + 1) bs ∧ w.grownBy w' (some p) ∧ w'.cell? ⟨p, 2, none⟩ = w.cell? ⟨p, 2, none⟩ := by
  obtain ⟨ha1, ha2, ht1, ht2⟩ : (0 ≤ (a : Int) ∧ (a : Int) < 65536 ∧ 0 ≤ (t : Int) ∧ (t : Int) ≤ 1073741824) := of_decide_eq_true hr
  obtain ⟨k, -, -, hc, -, hv⟩ := h.parts
  have HR := Bx.mk (ref_ok p k a t w hc hr)
  have HF := Bx.mk (fresh_any bs c a k p t pss vp vc w hc hv hp hvc hk hpn hpl (by omega) (by omega) (by omega) hTab hg)
  rw [hf] at HF
  have hvc' := hvc
  obtain ⟨aa, cap, rfl, -⟩ := hvc'
  rw [hl] at HF ⊢
  have HK := Bx.mk h
  clear hl hvc hc hv hp hr hk hpn hpl hTab hg hf h
  go_enter Tryd.func12, Tryd.ntmps12
  go_wp2_with fail
  refine HR.out.mono ?_
  rintro e w1 ⟨rfl, rfl⟩
  go_wp2_with fail
  refine HF.out.mono ?_
  rintro e w1 ⟨rfl, hb⟩
  have HB := Bx.mk (And.intro hb (HK.out.later hb))
  clear hb
  obtain ⟨k1, -, d1, -, hz1, -⟩ := HB.out.2.parts
  have HA := Bx.mk (add_base p 1 m w1 d1 (hz1 1) hm)
  clear d1 hz1
  go_wp2_with fail
  refine HA.out.mono ?_
  rintro e w2 ⟨rfl, hw2⟩
  have H2 : Bx (Bk w2 p p n (m + 1) bs ∧ w.grownBy w2 (some p) ∧ w2.cell? ⟨p, 2, none⟩ = w.cell? ⟨p, 2, none⟩) := Bx.mk ⟨by rw [hw2]; exact HB.out.2.find, kb_trans (kb_below _ HB.out.1) (by rw [hw2]; exact kb_set1 _ _ _ _), by
    obtain ⟨k, hr, hk⟩ := HK.out
    have r1 := (HB.out.1.block p HK.out.lt).trans hr
    have r2 := heap_setCell_same w1 p 1 _ _ (.int .i64 ((m + 1 : Nat) : Int)) r1
    rw [← hw2] at r2
    rw [cell_of_row _ _ _ _ _ _ r2, cell_of_row _ _ _ _ _ _ hr]
    rfl⟩
  clear hw2
  go_wp2
  go_ret
  exact ⟨rfl, H2.out⟩
/-- A row of numbers. -/
def IntsQ (w : World) (v : Value) (ns : List Int) : Prop :=
  ∃ a cap, v = .slice a ns.length cap ∧ ns.length ≤ cap ∧ (a = none → cap = 0) ∧ (0 < ns.length → ∃ c o, a = some ⟨c, o, none⟩ ∧ ∀ i, i < ns.length → w.cell? ⟨c, o + i, none⟩ = some (.int .i64 (ns.getD i 0)))
theorem IntsQ.later {w w1 : World} {v : Value} {ns : List Int} (h : IntsQ w v ns) (hb : Below w.heap.size w w1) : IntsQ w1 v ns := by
  obtain ⟨a, cap, hv, hc, hn, hr⟩ := h
  refine ⟨a, cap, hv, hc, hn, fun hp => ?_⟩
  obtain ⟨c, o, ha, hf⟩ := hr hp
  refine ⟨c, o, ha, fun i hi => ?_⟩
  rw [hb.cell (p := ⟨c, o + i, none⟩) (World.block_lt_of_cell? _ _ (hf i hi))]
  exact hf i hi
end Go.Proofs.YtncbhnkhbohejaaDoor
