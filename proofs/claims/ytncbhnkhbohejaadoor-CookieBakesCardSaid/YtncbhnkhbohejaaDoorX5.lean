/-
  Keys: a key is made, copied, asked for its bytes, and whether it is blank.
-/
import Derived.Test.YtncbhnkhbohejaaDoorAb
import Derived.Test.YtncbhnkhbohejaaDoorAg
import Derived.Laws.LoneSync
import Derived.LoopN
import Derived.Deep.QuietTactic
import Derived.BigQuiet
namespace Go.Proofs.YtncbhnkhbohejaaDoor
open Go Go.RowKit
set_option maxRecDepth 100000 in
set_option maxHeartbeats 400000 in
theorem copied_any (bs : List UInt8) (v : Value) (w : World) (hv : Bytes w v bs) (hl : bs.length ≤ 140737488355328) :
    Calls Tryd.prog 40 #[v] w fun e w' => ∃ v', e = .returned v' ∧ OwnB w' w.heap.size v' bs ∧ Below w.heap.size w w' := by
  have HV := Bx.mk hv
  have HL := Bx.mk hl
  clear hv hl
  go_enter Tryd.func40, Tryd.ntmps40
  go_wp2_with (refine wpList_apT 85 Tryd.underlying85 rfl _ _ rfl w.heap.size _ [] (by rfl) (OwnB.nil _ _) _ bs (by rfl) HV.out (by have := HL.out; simp; omega) (Nat.le_refl _) ?_; intro v1 w1 h1 g1 _; have H1 : Bx (OwnB w1 w.heap.size v1 bs ∧ Below w.heap.size w w1) := Bx.mk ⟨h1, own_below (OwnB.nil _ _) g1 (Nat.le_refl _)⟩; clear h1 g1)
  go_ret
  exact ⟨v1, rfl, H1.out⟩
/-- A key that has its own bytes, none of it older than base. -/
def KeyO (w : World) (base : Nat) (v : Value) (bs : List UInt8) : Prop :=
  ∃ p s, v = .pointer (some ⟨p, 0, none⟩) ∧ base ≤ p ∧ w.heap[p]? = some (.cells #[s] 88 (0, 0)) ∧ OwnB w base s bs
/-- A key. -/
def IsKey (w : World) (v : Value) (bs : List UInt8) : Prop :=
  ∃ p s, v = .pointer (some ⟨p, 0, none⟩) ∧ w.heap[p]? = some (.cells #[s] 88 (0, 0)) ∧ Bytes w s bs
theorem KeyO.key {w : World} {base : Nat} {v : Value} {bs : List UInt8} (h : KeyO w base v bs) : IsKey w v bs := by
  obtain ⟨p, s, hv, _, hr, ho⟩ := h
  exact ⟨p, s, hv, hr, ho.bytes⟩
theorem KeyO.weak {w : World} {base base' : Nat} {v : Value} {bs : List UInt8} (h : KeyO w base v bs) (hb : base' ≤ base) : KeyO w base' v bs := by
  obtain ⟨p, s, hv, hp, hr, h1, h2⟩ := h
  refine ⟨p, s, hv, by omega, hr, h1, ?_⟩
  rcases h2 with h0 | ⟨g, cap, cur, hv', hb', hg, hr'⟩
  · exact .inl h0
  · exact .inr ⟨g, cap, cur, hv', by omega, hg, hr'⟩
theorem IsKey.later {w w1 : World} {v : Value} {bs : List UInt8} (h : IsKey w v bs) (hb : Below w.heap.size w w1) : IsKey w1 v bs := by
  obtain ⟨p, s, hv, hr, ho⟩ := h
  exact ⟨p, s, hv, by rw [hb.block _ (Array.getElem?_eq_some_iff.1 hr).1]; exact hr, ho.later hb⟩
theorem KeyO.later {w w1 : World} {base : Nat} {v : Value} {bs : List UInt8} (h : KeyO w base v bs) (hb : Below w.heap.size w w1) : KeyO w1 base v bs := by
  obtain ⟨p, s, hv, hp, hr, ho⟩ := h
  exact ⟨p, s, hv, hp, by rw [hb.block _ (Array.getElem?_eq_some_iff.1 hr).1]; exact hr, ho.later hb (fun g hg => (ho.lt g hg).1)⟩
set_option maxRecDepth 100000 in
set_option maxHeartbeats 400000 in
theorem new_any (bs : List UInt8) (v : Value) (w : World) (hv : Bytes w v bs) (hl : bs.length ≤ 140737488355328) :
    Calls Tryd.prog 29 #[v] w fun e w' => ∃ v', e = .returned v' ∧ KeyO w' w.heap.size v' bs ∧ Below w.heap.size w w' := by
  have HV := Bx.mk hv
  have HL := Bx.mk hl
  obtain ⟨a, cap, rfl, -⟩ := hv
  obtain ⟨n, hn⟩ : ∃ n, bs.length = n := ⟨_, rfl⟩
  rw [hn] at HV ⊢
  clear hn hl
  go_enter Tryd.func29, Tryd.ntmps29
  go_wp2_with fail
  refine (copied_any bs _ w HV.out HL.out).mono ?_
  rintro e w1 ⟨v1, rfl, ho, hb⟩
  have H1 := Bx.mk (And.intro ho hb)
  obtain ⟨a1, c1, rfl, -⟩ := ho.bytes
  clear ho hb
  go_wp2
  go_ret
  refine ⟨_, rfl, ⟨_, _, rfl, H1.out.2.size, by rw [hnew _ _ _ rfl], ?_⟩, H1.out.2.alloc H1.out.2.size _⟩
  exact H1.out.1.later (below_a _) (fun g hg => (H1.out.1.lt g hg).1)
set_option maxRecDepth 100000 in
set_option maxHeartbeats 400000 in
theorem kbytes_any (bs : List UInt8) (v : Value) (w : World) (hv : IsKey w v bs) (hl : bs.length ≤ 140737488355328) :
    Calls Tryd.prog 34 #[v] w fun e w' => ∃ v', e = .returned v' ∧ OwnB w' w.heap.size v' bs ∧ Below w.heap.size w w' := by
  obtain ⟨p, s, rfl, hr, hv⟩ := hv
  have HV := Bx.mk hv
  have HL := Bx.mk hl
  have hc : w.cell? ⟨p, 0, none⟩ = some s := by rw [cell_of_row _ _ _ _ _ _ hr]; rfl
  obtain ⟨a, cap, rfl, -⟩ := hv
  obtain ⟨n, hn⟩ : ∃ n, bs.length = n := ⟨_, rfl⟩
  rw [hn] at HV hc
  clear hn hl hr
  go_enter Tryd.func34, Tryd.ntmps34
  go_wp2_with fail
  refine (copied_any bs _ w HV.out HL.out).mono ?_
  rintro e w1 ⟨v1, rfl, ho, hb⟩
  have H1 := Bx.mk (And.intro ho hb)
  clear ho hb
  go_wp2
  go_ret
  exact ⟨_, rfl, H1.out⟩
end Go.Proofs.YtncbhnkhbohejaaDoor
namespace Go.Proofs.YtncbhnkhbohejaaDoor
open Go Go.RowKit
theorem IsKey.parts {w : World} {v : Value} {bs : List UInt8} (h : IsKey w v bs) : ∃ p a cap, v = .pointer (some ⟨p, 0, none⟩) ∧ w.cell? ⟨p, 0, none⟩ = some (.slice a bs.length cap) ∧ Bytes w (.slice a bs.length cap) bs := by
  obtain ⟨p, s, hv, hr, hb⟩ := h
  have hc : w.cell? ⟨p, 0, none⟩ = some s := by rw [cell_of_row _ _ _ _ _ _ hr]; rfl
  have hb' := hb
  obtain ⟨a, cap, rfl, -⟩ := hb
  exact ⟨p, a, cap, hv, hc, hb'⟩
set_option maxRecDepth 100000 in
set_option maxHeartbeats 1000000 in
theorem kderive_any (bs l : List UInt8) (pss : List (List UInt8)) (v vp : Value) (w : World) (hv : IsKey w v bs) (hp : Parts w vp pss) (hk : bs.length ≤ 1000000) (hl : l.length ≤ 10000) (hn : pss.length ≤ 1000) (hpl : ∀ p ∈ pss, p.length ≤ 10000) (hTab : Tab w) (hg : 0 < w.heap.size) :
    Calls Tryd.prog 33 #[v, .string ⟨l.toArray⟩, vp] w fun e w' => ∃ v', e = .returned v' ∧ KeyO w' w.heap.size v' (hmac bs (frame (l :: pss))) ∧ Below w.heap.size w w' := by
  have HP := Bx.mk hp
  have HL := Bx.mk (And.intro hk (And.intro hl (And.intro hn hpl)))
  have HA := Bx.mk hTab
  obtain ⟨p, a, cap, rfl, hc, hb⟩ := hv.parts
  have HB := Bx.mk hb
  obtain ⟨n, hn⟩ : ∃ n, bs.length = n := ⟨_, rfl⟩
  rw [hn] at HB hc
  clear hn hv hb hk hl hpl hTab hp
  obtain ⟨z32, hz32⟩ : ∃ z, u8s (List.replicate 32 0) = z := ⟨_, rfl⟩
  have hz32v : ∀ W : World, (zeroValue 70).run Tryd.prog W = .ok (.agg z32) W := fun W => by rw [← hz32, zero32]; kernel_rfl
  have HZ0 := Bx.mk hz32
  clear hz32
  go_enter Tryd.func33, Tryd.ntmps33
  go_wp2_with fail
  refine (derive_any bs l pss _ _ w HB.out HP.out HL.out.1 HL.out.2.1 HL.out.2.2.1 HL.out.2.2.2 HA.out hg).mono ?_
  rintro e w1 ⟨rfl, hb1⟩
  have H1 := Bx.mk hb1
  clear hb1 HB hc
  have HSL : Bx ((hmac bs (frame (l :: pss))).length = 32) := Bx.mk (sha_length _)
  generalize hhm : hmac bs (frame (l :: pss)) = hm at *
  have HHM := Bx.mk hhm
  clear hhm
  have HI : Bx ((Tryd.prog.info? 70).map (·.size) = some (u8s hm).size) := Bx.mk (by rw [u8s_size, HSL.out]; kernel_rfl)
  have HZ3 : Bx ((u8s hm).size = z32.size) := Bx.mk (by rw [u8s_size, HSL.out, ← HZ0.out]; rfl)
  go_upto_region 4 with (refine wpList_store_var rfl 70 _ _ rfl w1 _ _ rfl (by rfl) (u8s hm) (by rfl) HZ3.out HI.out (one_u8s _) ?_; intro w2 hb2 hr2 hl2)
  have H2 : Bx (Below w.heap.size w w2 ∧ Bytes w2 (.slice (some ⟨w1.heap.size, 0, none⟩) 32 32) hm) := Bx.mk ⟨H1.out.trans (hb2.mono H1.out.size), row_bytes hr2 HSL.out⟩
  clear hb2 hr2 hl2 HZ3 HI HZ0 hz32v H1
  go_wp2_with fail
  refine (new_any hm _ w2 H2.out.2 (by rw [HSL.out]; omega)).mono ?_
  rintro e w3 ⟨v3, rfl, hk3, hb3⟩
  have H3 : Bx (KeyO w3 w.heap.size v3 hm ∧ Below w.heap.size w w3) := Bx.mk ⟨hk3.weak H2.out.1.size, H2.out.1.trans (hb3.mono H2.out.1.size)⟩
  clear hk3 hb3 H2
  go_wp2
  go_ret
  exact ⟨_, rfl, by rw [HHM.out]; exact H3.out⟩
end Go.Proofs.YtncbhnkhbohejaaDoor
namespace Go.Proofs.YtncbhnkhbohejaaDoor
open Go Go.RowKit
/-- A number as two bytes, as four. -/
def q2 (n : Nat) : List UInt8 := [UInt8.ofNat (n / 256 % 256), UInt8.ofNat (n % 256)]
def q4 (n : Nat) : List UInt8 := q2 (n / 65536) ++ q2 n
theorem q_lo (n : Nat) : (n : Int) % 256 = ub (UInt8.ofNat (n % 256)) := by unfold ub; rw [UInt8.toNat_ofNat']; omega
theorem q_hi (n : Nat) : (n : Int) / 256 % 256 = ub (UInt8.ofNat (n / 256 % 256)) := by unfold ub; rw [UInt8.toNat_ofNat']; omega
theorem q2_length (n : Nat) : (q2 n).length = 2 := rfl
theorem q4_length (n : Nat) : (q4 n).length = 4 := rfl
set_option maxRecDepth 100000 in
theorem two_any (n : Nat) (w : World) (hn : n ≤ 4294967295) :
    Calls Tryd.prog 32 #[.int .i64 (n : Int)] w fun e w' => ∃ v', e = .returned v' ∧ OwnB w' w.heap.size v' (q2 n) ∧ Below w.heap.size w w' := by
  have hn1 : (n : Int) ≤ 4294967295 := by omega
  have hn0 : (0 : Int) ≤ (n : Int) := by omega
  have HB := Bx.mk (And.intro (q_lo n) (q_hi n))
  go_enter Tryd.func32, Tryd.ntmps32
  go_wp2
  go_ret
  rw [HB.out.1, HB.out.2]
  exact ⟨_, rfl, row_own (hnew _ _ _ rfl) rfl (Nat.le_refl _) (by omega), below_a _⟩
set_option maxRecDepth 100000 in
theorem four_any (n : Nat) (w : World) (hn : n ≤ 4294967295) :
    Calls Tryd.prog 31 #[.int .i64 (n : Int)] w fun e w' => ∃ v', e = .returned v' ∧ OwnB w' w.heap.size v' (q4 n) ∧ Below w.heap.size w w' := by
  have hn1 : (n : Int) ≤ 4294967295 := by omega
  have hn0 : (0 : Int) ≤ (n : Int) := by omega
  have HT := Bx.mk fun (W : World) => two_any (n / 65536) W (by omega)
  have HU := Bx.mk fun (W : World) => two_any n W hn
  obtain ⟨k, hk⟩ : ∃ k, n / 65536 = k := ⟨_, rfl⟩
  have e1 : (n : Int) / 65536 = (k : Int) := by omega
  have HQ : Bx (q4 n = q2 k ++ q2 n) := Bx.mk (by unfold q4; rw [hk])
  rw [hk] at HT
  clear hk
  go_enter Tryd.func31, Tryd.ntmps31
  go_wp2_with fail
  refine (HT.out w).mono ?_
  rintro e w1 ⟨v1, rfl, ho, hb⟩
  have H1 := Bx.mk (And.intro ho hb)
  clear ho hb HT
  go_wp2_with fail
  refine (HU.out w1).mono ?_
  rintro e w2 ⟨v2, rfl, ho, hb⟩
  have H2 := Bx.mk (And.intro (H1.out.1.later hb (fun g hg => (H1.out.1.lt g hg).1)) (And.intro ho.bytes (H1.out.2.trans (hb.mono H1.out.2.size))))
  clear ho hb HU H1
  go_wp2_with (refine wpList_ap rfl _ _ rfl w.heap.size _ (q2 k) (by rfl) H2.out.1 _ (q2 n) (by rfl) H2.out.2.1 (by simp [q2_length]) H2.out.2.2.size ?_; intro v3 w3 h3 g3 _; have H3 : Bx (OwnB w3 w.heap.size v3 (q2 k ++ q2 n) ∧ Below w.heap.size w w3) := Bx.mk ⟨h3, H2.out.2.2.trans (own_below H2.out.1 g3 H2.out.2.2.size)⟩; clear h3 g3)
  go_ret
  exact ⟨_, rfl, by rw [HQ.out]; exact H3.out.1, H3.out.2⟩
/-- Whose address, and at which tick, may there be a cookie? -/
def rightQ (a t : Int) : Bool := decide (0 ≤ a ∧ a < 65536 ∧ 0 ≤ t ∧ t ≤ 1073741824)
set_option maxRecDepth 100000 in
theorem epoch_any (t : Int) (w : World) (h1 : -9223372036854775808 ≤ t) (h2 : t ≤ 9223372036854775807) :
    Calls Tryd.prog 16 #[.int .i64 t] w fun e w' => e = .returned (.int .i64 (max 0 t / 64)) ∧ w = w' := by
  by_cases h : 0 < t
  · have e1 : max 0 t = t := by omega
    rw [e1]
    clear e1
    go_enter Tryd.func16, Tryd.ntmps16
    go_wp2
    go_ret
    exact ⟨rfl, rfl⟩
  · have e1 : max 0 t = 0 := by omega
    rw [e1]
    clear e1
    go_enter Tryd.func16, Tryd.ntmps16
    go_wp2
    go_ret
    exact ⟨rfl, rfl⟩
theorem epoch_nat (t : Nat) (w : World) (h2 : t ≤ 1073742123) :
    Calls Tryd.prog 16 #[.int .i64 (t : Int)] w fun e w' => e = .returned (.int .i64 ((t / 64 : Nat) : Int)) ∧ w = w' := by
  have h := epoch_any (t : Int) w (by omega) (by omega)
  have e : max 0 (t : Int) / 64 = ((t / 64 : Nat) : Int) := by omega
  rw [e] at h
  exact h
set_option maxRecDepth 100000 in
theorem ends_nat (t : Nat) (w : World) (h2 : t ≤ 1073742123) :
    Calls Tryd.prog 17 #[.int .i64 (t : Int)] w fun e w' => e = .returned (.int .i64 (((t / 64 + 2) * 64 : Nat) : Int)) ∧ w = w' := by
  have HE := Bx.mk (epoch_nat t w h2)
  obtain ⟨k, hk⟩ : ∃ k, t / 64 = k := ⟨_, rfl⟩
  have hk1 : (k : Int) ≤ 16777300 := by omega
  have hk0 : (0 : Int) ≤ (k : Int) := by omega
  rw [hk] at HE ⊢
  clear hk h2
  go_enter Tryd.func17, Tryd.ntmps17
  go_wp2_with fail
  refine HE.out.mono ?_
  rintro e w1 ⟨rfl, rfl⟩
  go_wp2
  go_ret
  exact ⟨by simp, rfl⟩
set_option maxRecDepth 100000 in
theorem rright10 (a t : Int) (w : World) : Calls Tryd.prog 10 #[.int .i64 a, .int .i64 t] w fun e w' => e = .returned (.bool (rightQ a t)) ∧ w = w' := by
  by_cases h1 : 0 ≤ a
  · by_cases h2 : a < 65536
    · by_cases h3 : 0 ≤ t
      · by_cases h4 : t ≤ 1073741824
        · have HR : rightQ a t = true := by unfold rightQ; simp; omega
          rw [HR]; clear HR
          go_enter Tryd.func10, Tryd.ntmps10
          go_wp2
          go_ret
          exact ⟨rfl, rfl⟩
        · have HR : rightQ a t = false := by unfold rightQ; simp; omega
          rw [HR]; clear HR
          go_enter Tryd.func10, Tryd.ntmps10
          go_wp2
          go_ret
          exact ⟨rfl, rfl⟩
      · have HR : rightQ a t = false := by unfold rightQ; simp; omega
        rw [HR]; clear HR
        go_enter Tryd.func10, Tryd.ntmps10
        go_wp2
        go_ret
        exact ⟨rfl, rfl⟩
    · have HR : rightQ a t = false := by unfold rightQ; simp; omega
      rw [HR]; clear HR
      go_enter Tryd.func10, Tryd.ntmps10
      go_wp2
      go_ret
      exact ⟨rfl, rfl⟩
  · have HR : rightQ a t = false := by unfold rightQ; simp; omega
    rw [HR]; clear HR
    go_enter Tryd.func10, Tryd.ntmps10
    go_wp2
    go_ret
    exact ⟨rfl, rfl⟩
/-- A baker in block p that baked so many, found so many stale; its key stays where block q changes. -/
def Bk (W : World) (q p n m : Nat) (bs : List UInt8) : Prop :=
  ∃ k, W.heap[p]? = some (.cells #[.int .i64 (n : Int), .int .i64 (m : Int), .pointer (some ⟨k, 0, none⟩)] 66 (0, 0)) ∧ ∀ W1, W.grownBy W1 (some q) → IsKey W1 (.pointer (some ⟨k, 0, none⟩)) bs
theorem Bk.lt {W : World} {q p n m : Nat} {bs : List UInt8} (h : Bk W q p n m bs) : p < W.heap.size := by
  obtain ⟨k, hr, -⟩ := h
  exact (Array.getElem?_eq_some_iff.1 hr).1
theorem Bk.later {W W1 : World} {q p n m : Nat} {bs : List UInt8} (h : Bk W q p n m bs) (hb : Below W.heap.size W W1) : Bk W1 q p n m bs := by
  have hlt := h.lt
  obtain ⟨k, hr, hk⟩ := h
  exact ⟨k, by rw [hb.block _ hlt]; exact hr, fun W2 h2 => hk W2 (kb_trans (kb_below _ hb) h2)⟩
theorem Bk.beside {W W1 : World} {q p n m : Nat} {bs : List UInt8} (h : Bk W q p n m bs) (hne : p ≠ q) (hg : W.grownBy W1 (some q)) : Bk W1 q p n m bs := by
  have hlt := h.lt
  obtain ⟨k, hr, hk⟩ := h
  exact ⟨k, by rw [hg.block _ hlt (fun e => hne (by injection e))]; exact hr, fun W2 h2 => hk W2 (kb_trans hg h2)⟩
theorem Bk.parts {W : World} {q p n m : Nat} {bs : List UInt8} (h : Bk W q p n m bs) : ∃ k, W.cell? ⟨p, 0, none⟩ = some (.int .i64 (n : Int)) ∧ W.cell? ⟨p, 1, none⟩ = some (.int .i64 (m : Int)) ∧ W.cell? ⟨p, 2, none⟩ = some (.pointer (some ⟨k, 0, none⟩)) ∧ (∀ i, W.frozen? ⟨p, i, none⟩ = false) ∧ IsKey W (.pointer (some ⟨k, 0, none⟩)) bs := by
  obtain ⟨k, hr, hk⟩ := h
  exact ⟨k, by rw [cell_of_row _ _ _ _ _ _ hr]; rfl, by rw [cell_of_row _ _ _ _ _ _ hr]; rfl, by rw [cell_of_row _ _ _ _ _ _ hr]; rfl, fun i => frozen_of_row _ _ _ _ _ hr, hk W (kb_refl _ _)⟩
theorem Bk.bake {W : World} {p n m : Nat} {bs : List UInt8} (h : Bk W p p n m bs) : Bk (W.setCell ⟨p, 0, none⟩ (.int .i64 ((n + 1 : Nat) : Int))) p p (n + 1) m bs := by
  obtain ⟨k, hr, hk⟩ := h
  exact ⟨k, by rw [heap_setCell_same _ _ _ _ _ _ hr]; rfl, fun W2 h2 => hk W2 (kb_trans (kb_set1 _ _ _ _) h2)⟩
theorem Bk.find {W : World} {p n m : Nat} {bs : List UInt8} (h : Bk W p p n m bs) : Bk (W.setCell ⟨p, 1, none⟩ (.int .i64 ((m + 1 : Nat) : Int))) p p n (m + 1) bs := by
  obtain ⟨k, hr, hk⟩ := h
  exact ⟨k, by rw [heap_setCell_same _ _ _ _ _ _ hr]; rfl, fun W2 h2 => hk W2 (kb_trans (kb_set1 _ _ _ _) h2)⟩
set_option maxRecDepth 100000 in
theorem add_base (p i : Nat) (n : Nat) (w : World) (hc : w.cell? ⟨p, i, none⟩ = some (.int .i64 (n : Int))) (hz : w.frozen? ⟨p, i, none⟩ = false) (hn : n ≤ 1000000) :
    Calls Tryd.prog 23 #[.pointer (some ⟨p, i, none⟩), .int .i64 1] w fun e w' => e = .returned (.int .i64 ((n + 1 : Nat) : Int)) ∧ w' = w.setCell ⟨p, i, none⟩ (.int .i64 ((n + 1 : Nat) : Int)) := by
  have hadd := run_call_add (P := Tryd.prog) Tryd.func30 (by kernel_rfl) (by kernel_rfl) (by kernel_rfl) .i64 (by kernel_rfl) (y := 1) (s := ((n + 1 : Nat) : Int)) hc hz (by simp [go_sem, IntKind.wrap_i64]; omega)
  go_enter Tryd.func23, Tryd.ntmps23
  go_wp2
  go_ret
  exact ⟨rfl, rfl⟩
end Go.Proofs.YtncbhnkhbohejaaDoor
namespace Go.Proofs.YtncbhnkhbohejaaDoor
open Go Go.RowKit
/-- The label. -/
def cooL : List UInt8 := [99, 111, 111, 107, 105, 101]
/-- The cookie of an epoch, for an address and what asks. -/
def cookK (bs : List UInt8) (e a : Nat) (pss : List (List UInt8)) : List UInt8 := (hmac bs (frame (cooL :: q4 e :: q2 a :: pss))).take 16
theorem cookK_length (bs : List UInt8) (e a : Nat) (pss : List (List UInt8)) : (cookK bs e a pss).length = 16 := by unfold cookK; rw [List.length_take, hmac_length]; rfl
set_option maxRecDepth 100000 in
theorem wpList_apR {w : World} {ops : Array Oper} {rest : List Oper} {o : Oper} {a : Act} {Q : Exit → Act → World → Prop} (hgd : o.guard = none) (s x : Operand)
    (ho : o.op = .call { callee := .builtin .append, args := #[s, x], argTypes := #[23, 23] }) (base : Nat) (v : Value) (xs : List Value) (hs : a.eval s = v) (hown : OwnP w base v xs) (y : Value) (ys : List Value) (hx : a.eval x = y)
    (hr : RowP w y ys) (hy : ∀ u ∈ ys, u.oneCell' = true) (hn : xs.length + ys.length ≤ 10000) (hbase : base ≤ w.heap.size)
    (h : ∀ v' w', OwnP w' base v' (xs ++ ys) → w.grownBy w' v.ownBlock → wpList Tryd.prog ops Q rest (a.put o.dst v') w') : wpList Tryd.prog ops Q (o :: rest) a w := by
  refine wpList_plain hgd fun K hK => ?_
  obtain ⟨v', w', hrun, h1, h2⟩ := run_apP w base v xs hown y ys hr hy hn hbase o.type
  unfold Oper.wp
  simp [execOp, ho, resolve, invoke, builtin, hs, hx, hrun, Result.andThen]
  exact hK _ _ (h v' w' h1 h2)
theorem rowP_own {w : World} {base M n : Nat} {xs : List Value} (h : w.heap[M]? = some (.cells xs.toArray 22 (0, 0))) (hn : xs.length = n) (hb : base ≤ M) (hm : n ≤ 1000000) : OwnP w base (.slice (some ⟨M, 0, none⟩) n n) xs := by
  subst hn
  exact ⟨by omega, .inr ⟨M, xs.length, xs.toArray, rfl, hb, h, Nat.le_refl _, by unfold maxLen; omega, by simp, by simp⟩⟩
theorem ownP_shape {w : World} {b : Nat} {v : Value} {xs : List Value} (h : OwnP w b v xs) : ∃ a n c, v = .slice a n c := by
  rcases h.2 with ⟨hv, _⟩ | ⟨g, cap, cur, hv, _⟩
  · exact ⟨_, _, _, hv⟩
  · exact ⟨_, _, _, hv⟩
theorem Bytes.range {w : World} {c o n cap : Nat} {bs : List UInt8} (h : Bytes w (.slice (some ⟨c, o, none⟩) n cap) bs) (hn : bs.length = n) : w.rangeAt c o (u8s bs).toList := by
  intro j u hj
  have hj' : (u8s bs)[j]? = some u := by rw [← Array.getElem?_toList]; exact hj
  have hlt : j < bs.length := by rw [← u8s_size bs]; exact (Array.getElem?_eq_some_iff.1 hj').1
  obtain ⟨c', o', he, hc⟩ := h.cell j (by omega)
  injection he with he
  injection he with e1 e2
  subst e1 e2
  show w.cell? ⟨c, o + j, none⟩ = some u
  rw [hc, ← hj', u8s_get _ _ hlt]
theorem arr16 (a : Option Addr) (cap : Nat) (W : World) : (Instr.arrayAt 28 (.slice a 16 cap)).run Tryd.prog W = .ok (.pointer a) W := by kernel_rfl
set_option maxRecDepth 100000 in
set_option maxHeartbeats 1000000 in
theorem of_any (bs : List UInt8) (e a k p : Nat) (pss : List (List UInt8)) (vp : Value) (w : World) (hc : w.cell? ⟨p, 2, none⟩ = some (.pointer (some ⟨k, 0, none⟩))) (hv : IsKey w (.pointer (some ⟨k, 0, none⟩)) bs) (hp : PartsR w vp pss)
    (hk : bs.length ≤ 1000000) (hn : pss.length ≤ 900) (hpl : ∀ p ∈ pss, p.length ≤ 10000) (he : e ≤ 4294967295) (ha : a ≤ 4294967295) (hTab : Tab w) (hg : 0 < w.heap.size) :
    Calls Tryd.prog 24 #[.pointer (some ⟨p, 0, none⟩), .int .i64 (e : Int), .int .i64 (a : Int), vp] w fun en w' => en = .returned (.agg (u8s (cookK bs e a pss))) ∧ Below w.heap.size w w' := by
  obtain ⟨z16, hz16⟩ : ∃ z, u8s (List.replicate 16 0) = z := ⟨_, rfl⟩
  have hz16v : ∀ W : World, (zeroValue 28).run Tryd.prog W = .ok (.agg z16) W := fun W => by rw [← hz16]; kernel_rfl
  obtain ⟨ys, hrow, hvals⟩ := hp
  obtain ⟨B, hB⟩ : ∃ B, w.heap.size = B := ⟨_, rfl⟩
  have H0 : Bx (Below w.heap.size w (w.alloc (.cells z16 28)) ∧ (w.alloc (.cells z16 28)).heap[B]? = some (.cells z16 28 (0, 0)) ∧ B < (w.alloc (.cells z16 28)).heap.size) := Bx.mk ⟨below_a _, by rw [hnew _ _ _ hB.symm], by simp; omega⟩
  have hlp : p < w.heap.size := World.block_lt_of_cell? _ _ hc
  have HF := Bx.mk (fun (W : World) => four_any e W he)
  have HT := Bx.mk (fun (W : World) => two_any a W ha)
  have HD := Bx.mk fun (W : World) (vq : Value) (hb : Below w.heap.size w W) (hq : Parts W vq (q4 e :: q2 a :: pss)) => kderive_any bs cooL (q4 e :: q2 a :: pss) (.pointer (some ⟨k, 0, none⟩)) vq W (hv.later hb) hq hk (by decide) (by simp; omega) (by
    intro q hq; simp only [List.mem_cons] at hq
    rcases hq with rfl | rfl | hq
    · rw [q4_length]; omega
    · rw [q2_length]; omega
    · exact hpl q hq) (hTab.later hb hg) (Nat.lt_of_lt_of_le hg hb.size)
  have HK := Bx.mk fun (W : World) (v : Value) (l : List UInt8) (hl : l.length ≤ 1000) (h : IsKey W v l) => kbytes_any l v W h (by omega)
  have HL : Bx ((hmac bs (frame (cooL :: q4 e :: q2 a :: pss))).length = 32) := Bx.mk (hmac_length _ _)
  have HE : Bx (cookK bs e a pss = (hmac bs (frame (cooL :: q4 e :: q2 a :: pss))).take 16) := Bx.mk rfl
  generalize cookK bs e a pss = ck at *
  generalize hmac bs (frame (cooL :: q4 e :: q2 a :: pss)) = hm at *
  unfold cooL at HD
  simp only [List.toArray] at HD
  have HV := Bx.mk hvals
  have HR := Bx.mk hrow
  have HC := Bx.mk hc
  have HYL : Bx (ys.length ≤ 900) := Bx.mk (by rw [hvals.1]; exact hn)
  have HI : Bx ((Tryd.prog.info? 28).map (·.size) = some (u8s ck).size ∧ (u8s ck).size = z16.size ∧ (Tryd.prog.info? 28).map (·.size) = some (u8s ck).toList.length) := Bx.mk (by
    have h16 : (u8s ck).size = 16 := by rw [u8s_size, HE.out, List.length_take, HL.out]; rfl
    refine ⟨by rw [h16]; kernel_rfl, by rw [h16, ← hz16]; rfl, by rw [Array.length_toList, h16]; kernel_rfl⟩)
  have HX : Bx (Below w.heap.size w w) := Bx.mk (Below.refl _ _)
  obtain ⟨q4e, hq4⟩ : ∃ x, q4 e = x := ⟨_, rfl⟩
  obtain ⟨q2a, hq2⟩ : ∃ x, q2 a = x := ⟨_, rfl⟩
  rw [hq4] at HF HD
  rw [hq2] at HT HD
  have hl4 : q4e.length = 4 := by rw [← hq4]; rfl
  have hl2 : q2a.length = 2 := by rw [← hq2]; rfl
  clear hz16 hv hk hn hpl hTab hg hq4 hq2 he ha hrow hvals hc
  have HW : Bx (w.heap.size = B) := Bx.mk hB
  rw [hB]
  go_enter Tryd.func24, Tryd.ntmps24
  go_wp2_with fail
  generalize w.alloc (.cells z16 28) = w0 at *
  refine (HF.out w0).mono ?_
  rintro en w1 ⟨v1, rfl, ho, hb⟩
  obtain ⟨a1, c1, hv1⟩ := own_form ho
  rw [hl4] at hv1
  subst hv1
  have H1 : Bx (Bytes w1 (.slice a1 4 c1) q4e ∧ Below w.heap.size w w1 ∧ Below w0.heap.size w0 w1) := Bx.mk ⟨ho.bytes, H0.out.1.trans (hb.mono H0.out.1.size), hb⟩
  clear ho hb HF
  go_wp2_with fail
  refine (HT.out w1).mono ?_
  rintro en w2 ⟨v2, rfl, ho, hb⟩
  obtain ⟨a2, c2, hv2⟩ := own_form ho
  rw [hl2] at hv2
  subst hv2
  have H2 : Bx (Bytes w2 (.slice a1 4 c1) q4e ∧ Bytes w2 (.slice a2 2 c2) q2a ∧ Below w.heap.size w w2 ∧ w2.heap[B]? = some (.cells z16 28 (0, 0)) ∧ B < w2.heap.size) := Bx.mk ⟨H1.out.1.later hb, ho.bytes, H1.out.2.1.trans (hb.mono H1.out.2.1.size), by
    rw [hb.block _ (Nat.lt_of_lt_of_le H0.out.2.2 H1.out.2.2.size), H1.out.2.2.block _ H0.out.2.2]; exact H0.out.2.1, Nat.lt_of_lt_of_le (Nat.lt_of_lt_of_le H0.out.2.2 H1.out.2.2.size) hb.size⟩
  clear ho hb HT H1 H0
  obtain ⟨D, hD⟩ : ∃ D, w2.heap.size = D := ⟨_, rfl⟩
  have H3 : Bx (OwnP (w2.alloc (.cells #[.slice a1 4 c1, .slice a2 2 c2] 22)) w.heap.size (.slice (some ⟨w2.heap.size, 0, none⟩) 2 2) [.slice a1 4 c1, .slice a2 2 c2] ∧ Vals (w2.alloc (.cells #[.slice a1 4 c1, .slice a2 2 c2] 22)) [.slice a1 4 c1, .slice a2 2 c2] [q4e, q2a] ∧ Below w.heap.size w (w2.alloc (.cells #[.slice a1 4 c1, .slice a2 2 c2] 22)) ∧ (w2.alloc (.cells #[.slice a1 4 c1, .slice a2 2 c2] 22)).heap[B]? = some (.cells z16 28 (0, 0)) ∧ B < (w2.alloc (.cells #[.slice a1 4 c1, .slice a2 2 c2] 22)).heap.size) := Bx.mk ⟨rowP_own (hnew _ _ _ rfl) rfl H2.out.2.2.1.size (by omega), Vals.cons (x := .slice a1 4 c1) (Vals.cons (x := .slice a2 2 c2) ⟨rfl, fun j hj => by simp at hj⟩ (H2.out.2.1.later (below_a _))) (H2.out.1.later (below_a _)), H2.out.2.2.1.alloc H2.out.2.2.1.size _, by rw [hold _ _ _ H2.out.2.2.2.2]; exact H2.out.2.2.2.1, by simp only [World.alloc, Array.size_push]; have := H2.out.2.2.2.2; omega⟩
  rw [hD] at H3
  have HBO : Bx (∀ w3, (w2.alloc (.cells #[.slice a1 4 c1, .slice a2 2 c2] 22)).grownBy w3 (some D) → Vals w3 ([.slice a1 4 c1, .slice a2 2 c2] ++ ys) (q4e :: q2a :: pss) ∧ w3.heap[B]? = some (.cells z16 28 (0, 0)) ∧ B < w3.heap.size) := Bx.mk (fun w3 g => by
    have hbw : Below w2.heap.size w2 (w2.alloc (.cells #[.slice a1 4 c1, .slice a2 2 c2] 22)) := below_a _
    have hle : w.heap.size ≤ D := by rw [← hD]; exact H2.out.2.2.1.size
    refine ⟨Vals.cons (x := .slice a1 4 c1) (Vals.cons (x := .slice a2 2 c2) ⟨HV.out.1, fun j hj => (((HV.out.2 j hj).bn_old H3.out.2.2.1 hle).later g).1⟩ ((H2.out.2.1.bn_old hbw (Nat.le_of_eq hD)).later g).1) ((H2.out.1.bn_old hbw (Nat.le_of_eq hD)).later g).1, ?_, Nat.lt_of_lt_of_le H3.out.2.2.2.2 g.size⟩
    rw [g.block B H3.out.2.2.2.2 (fun e => by injection e with e; have := H2.out.2.2.2.2; omega)]
    exact H3.out.2.2.2.1)
  clear H2
  go_upto_region 2 with (refine wpList_apR rfl _ _ rfl w.heap.size _ [.slice a1 4 c1, .slice a2 2 c2] (by rfl) H3.out.1 _ ys (by rfl) (HR.out.later H3.out.2.2.1) (vals_one HV.out) (by have := HYL.out; simp only [List.length_cons, List.length_nil]; omega) H3.out.2.2.1.size ?_; intro v3 w3 h3 g3; have H4 : Bx (Parts w3 v3 (q4e :: q2a :: pss) ∧ Below w.heap.size w w3 ∧ w3.heap[B]? = some (.cells z16 28 (0, 0)) ∧ B < w3.heap.size) := Bx.mk ⟨own_parts h3 (HBO.out w3 g3).1, H3.out.2.2.1.trans (ownP_below H3.out.1 g3 H3.out.2.2.1.size), (HBO.out w3 g3).2⟩; have HO4 := Bx.mk (ownP_shape h3); clear h3 g3)
  obtain ⟨a3, n3, c3, rfl⟩ := HO4.out
  have hc3 : w3.cell? ⟨p, 2, none⟩ = some (.pointer (some ⟨k, 0, none⟩)) := by rw [H4.out.2.1.cell (p := ⟨p, 2, none⟩) hlp]; exact HC.out
  clear HBO H3 HO4 HC HR HV HYL hD
  go_wp2_with fail
  refine (HD.out w3 _ H4.out.2.1 H4.out.1).mono ?_
  rintro en w4 ⟨v4, rfl, hk4, hb⟩
  have H5 : Bx (IsKey w4 v4 hm ∧ Below w.heap.size w w4 ∧ w4.heap[B]? = some (.cells z16 28 (0, 0)) ∧ B < w4.heap.size) := Bx.mk ⟨hk4.key, H4.out.2.1.trans (hb.mono H4.out.2.1.size), by rw [hb.block _ H4.out.2.2.2]; exact H4.out.2.2.1, Nat.lt_of_lt_of_le H4.out.2.2.2 hb.size⟩
  clear hk4 hb HD H4 hc3
  obtain ⟨k4, s4, hv4, -, -⟩ := H5.out.1
  subst hv4
  go_wp2_with fail
  refine (HK.out w4 _ hm (by rw [HL.out]; omega) H5.out.1).mono ?_
  rintro en w5 ⟨v5, rfl, ho, hb⟩
  have hlm := HL.out
  obtain ⟨a5, c5, hv5⟩ := own_form ho
  rw [hlm] at hv5
  subst hv5
  have H6 : Bx (Bytes w5 (.slice a5 32 c5) hm ∧ Below w.heap.size w w5 ∧ w5.heap[B]? = some (.cells z16 28 (0, 0)) ∧ B < w5.heap.size) := Bx.mk ⟨ho.bytes, H5.out.2.1.trans (hb.mono H5.out.2.1.size), by rw [hb.block _ H5.out.2.2.2]; exact H5.out.2.2.1, Nat.lt_of_lt_of_le H5.out.2.2.2 hb.size⟩
  clear ho hb HK H5 hlm
  obtain ⟨aa, cc, ha5, hc5, hnone, -⟩ := H6.out.1
  injection ha5 with e1 e2 e3
  subst e1 e3
  rw [HL.out] at hc5
  obtain ⟨g5, o5, ha6, -⟩ := H6.out.1.cell 0 (by omega)
  subst ha6
  clear e2
  have s1 := fun W => cut_bytes (some ⟨g5, o5, none⟩) 32 c5 16 (by omega) (by omega) hnone W
  have s2 := fun W => arr16 (some ⟨g5, o5, none⟩) c5 W
  have hcc : (32 : Int) ≤ (c5 : Int) := by omega
  have hcc6 : (16 : Int) ≤ (c5 : Int) := by omega
  have H7 : Bx (w5.rangeAt g5 o5 (u8s ck).toList) := Bx.mk (by rw [HE.out]; exact (H6.out.1.take 16 (by omega)).range (by rw [List.length_take, HL.out]; rfl))
  clear hnone hc5
  go_wp2_with (first | (refine wpList_load_mid rfl 28 _ rfl g5 o5 (by rfl) (u8s ck).toList _ H7.out Tryd.underlying28 rfl HI.out.2.2 ?_) | (refine wpList_store_new rfl 28 _ _ rfl B (u8s ck) z16 _ (by rfl) (by rfl) H6.out.2.2.1 HI.out.2.1 HI.out.1 (one_u8s _) ?_; intro w8 hw8 hr8; have H8 : Bx (Below w.heap.size w w8 ∧ w8.heap[B]? = some (.cells (u8s ck) 28 (0, 0))) := Bx.mk ⟨by rw [hw8]; exact below_setCells (Nat.le_of_eq HW.out) _ _ _ _ H6.out.2.1, hr8⟩; clear hw8 hr8))
  refine bodyPost_ret (results_cell_row rfl _ _ B _ (u8s ck) _ _ rfl H8.out.2 Tryd.underlying28 rfl HI.out.1) rfl ?_
  exact ⟨rfl, by rw [← HW.out]; exact H8.out.1⟩
end Go.Proofs.YtncbhnkhbohejaaDoor
namespace Go.Proofs.YtncbhnkhbohejaaDoor
open Go Go.RowKit
/-- Is it the cookie of this epoch, or of the one before? -/
def freK (bs : List UInt8) (e a : Nat) (pss : List (List UInt8)) (c : List UInt8) : Bool := decide (cookK bs e a pss = c) || (decide (0 < e) && decide (cookK bs (e - 1) a pss = c))
/-- What fresh calls. -/
structure FrC (w : World) (p : Nat) (vp vc : Value) (a : Nat) (ck : Nat → List UInt8) (c : List UInt8) : Prop where
  of : ∀ (W : World) (e : Nat), e ≤ 16777300 → Below w.heap.size w W → Calls Tryd.prog 24 #[.pointer (some ⟨p, 0, none⟩), .int .i64 (e : Int), .int .i64 (a : Int), vp] W fun en w' => en = .returned (.agg (u8s (ck e))) ∧ Below W.heap.size W w'
  eq : ∀ (W : World) (g : Nat) (e : Nat), Below w.heap.size w W → W.heap[g]? = some (.cells (u8s (ck e)) 28 (0, 0)) → Calls Tryd.prog 35 #[.slice (some ⟨g, 0, none⟩) 16 16, vc] W fun en w' => en = .returned (.bool (decide (ck e = c))) ∧ Below w.heap.size w w'
  len : ∀ e, (ck e).length = 16
set_option maxRecDepth 100000 in
set_option maxHeartbeats 2000000 in
theorem fresh_a (w : World) (p t e : Nat) (vp vc : Value) (a : Nat) (ck : Nat → List UInt8) (c : List UInt8) (H : FrC w p vp vc a ck c) (ht : t ≤ 1073741824) (he : t / 64 = e) (h1 : decide (ck e = c) = true) :
    Calls Tryd.prog 25 #[.pointer (some ⟨p, 0, none⟩), vc, .int .i64 (a : Int), .int .i64 (t : Int), vp] w fun en w' => en = .returned (.bool true) ∧ Below w.heap.size w w' := by
  obtain ⟨z16, hz16⟩ : ∃ z, u8s (List.replicate 16 0) = z := ⟨_, rfl⟩
  have hz16v : ∀ W : World, (zeroValue 28).run Tryd.prog W = .ok (.agg z16) W := fun W => by rw [← hz16]; kernel_rfl
  have HI : Bx (∀ e, (Tryd.prog.info? 28).map (·.size) = some (u8s (ck e)).size ∧ (u8s (ck e)).size = z16.size) := Bx.mk (fun e => by
    have h16 : (u8s (ck e)).size = 16 := by rw [u8s_size, H.len e]
    refine ⟨by rw [h16]; kernel_rfl, by rw [h16, ← hz16]; rfl⟩)
  have HE := Bx.mk (epoch_nat t w (by omega))
  rw [he] at HE
  have he1 : (e : Int) ≤ 16777300 := by omega
  have he0 : (0 : Int) ≤ (e : Int) := by omega
  have HN : Bx (e ≤ 16777300) := Bx.mk (by omega)
  clear hz16 ht he
  go_enter Tryd.func25, Tryd.ntmps25
  go_wp2_with fail
  go_step3
  go_wp2_with fail
  refine HE.out.mono ?_
  rintro en w0 ⟨rfl, rfl⟩
  have HR : Bx (Below w.heap.size w w) := Bx.mk (Below.refl _ _)
  go_wp2
  go_step3
  go_wp2
  refine wp_loop_rounds 4 ?_
  rw [rounds_succ]
  go_wp2_with fail
  refine (H.of w e (by have := HN.out; omega) HR.out).mono ?_
  rintro en v0 ⟨rfl, hb⟩
  have HB0 := Bx.mk (HR.out.trans (hb.mono HR.out.size))
  clear hb
  go_upto_region 6 with (refine wpList_store_var rfl 28 _ _ rfl v0 _ _ rfl (by rfl) (u8s (ck e)) (by rfl) (HI.out e).2 (HI.out e).1 (one_u8s _) ?_; intro u0 hb hr hl)
  have HC0 : Bx (Below w.heap.size w u0 ∧ u0.heap[v0.heap.size]? = some (.cells (u8s (ck e)) 28 (0, 0))) := Bx.mk ⟨HB0.out.trans (hb.mono HB0.out.size), hr⟩
  clear hb hr hl
  go_wp2_with fail
  refine (H.eq u0 _ e HC0.out.1 HC0.out.2).mono ?_
  rintro en y0 ⟨rfl, hb⟩
  have HR1 := Bx.mk hb
  clear hb
  rw [h1]
  go_wp2
  try rw [Exit.noGoto_ret]
  go_ret
  exact ⟨rfl, HR1.out⟩
set_option maxRecDepth 100000 in
set_option maxHeartbeats 2000000 in
theorem fresh_b (w : World) (p t e : Nat) (vp vc : Value) (a : Nat) (ck : Nat → List UInt8) (c : List UInt8) (H : FrC w p vp vc a ck c) (ht : t ≤ 1073741824) (he : t / 64 = e) (h1 : decide (ck e = c) = false) (h0 : e = 0) :
    Calls Tryd.prog 25 #[.pointer (some ⟨p, 0, none⟩), vc, .int .i64 (a : Int), .int .i64 (t : Int), vp] w fun en w' => en = .returned (.bool false) ∧ Below w.heap.size w w' := by
  obtain ⟨z16, hz16⟩ : ∃ z, u8s (List.replicate 16 0) = z := ⟨_, rfl⟩
  have hz16v : ∀ W : World, (zeroValue 28).run Tryd.prog W = .ok (.agg z16) W := fun W => by rw [← hz16]; kernel_rfl
  have HI : Bx (∀ e, (Tryd.prog.info? 28).map (·.size) = some (u8s (ck e)).size ∧ (u8s (ck e)).size = z16.size) := Bx.mk (fun e => by
    have h16 : (u8s (ck e)).size = 16 := by rw [u8s_size, H.len e]
    refine ⟨by rw [h16]; kernel_rfl, by rw [h16, ← hz16]; rfl⟩)
  have HE := Bx.mk (epoch_nat t w (by omega))
  rw [he] at HE
  have he1 : (e : Int) ≤ 16777300 := by omega
  have he0 : (0 : Int) ≤ (e : Int) := by omega
  have HN : Bx (e ≤ 16777300) := Bx.mk (by omega)
  have he9 : (e : Int) - 1 < 0 := by omega
  clear h0
  clear hz16 ht he
  go_enter Tryd.func25, Tryd.ntmps25
  go_wp2_with fail
  go_step3
  go_wp2_with fail
  refine HE.out.mono ?_
  rintro en w0 ⟨rfl, rfl⟩
  have HR : Bx (Below w.heap.size w w) := Bx.mk (Below.refl _ _)
  go_wp2
  go_step3
  go_wp2
  refine wp_loop_rounds 4 ?_
  rw [rounds_succ]
  go_wp2_with fail
  refine (H.of w e (by have := HN.out; omega) HR.out).mono ?_
  rintro en v0 ⟨rfl, hb⟩
  have HB0 := Bx.mk (HR.out.trans (hb.mono HR.out.size))
  clear hb
  go_upto_region 6 with (refine wpList_store_var rfl 28 _ _ rfl v0 _ _ rfl (by rfl) (u8s (ck e)) (by rfl) (HI.out e).2 (HI.out e).1 (one_u8s _) ?_; intro u0 hb hr hl)
  have HC0 : Bx (Below w.heap.size w u0 ∧ u0.heap[v0.heap.size]? = some (.cells (u8s (ck e)) 28 (0, 0))) := Bx.mk ⟨HB0.out.trans (hb.mono HB0.out.size), hr⟩
  clear hb hr hl
  go_wp2_with fail
  refine (H.eq u0 _ e HC0.out.1 HC0.out.2).mono ?_
  rintro en y0 ⟨rfl, hb⟩
  have HR1 := Bx.mk hb
  clear hb
  rw [h1]
  go_wp2
  rw [rounds_succ]
  go_wp2
  try rw [Exit.noGoto_ret]
  go_ret
  exact ⟨rfl, HR1.out⟩
set_option maxRecDepth 100000 in
set_option maxHeartbeats 2000000 in
theorem fresh_c (w : World) (p t e : Nat) (vp vc : Value) (a : Nat) (ck : Nat → List UInt8) (c : List UInt8) (H : FrC w p vp vc a ck c) (ht : t ≤ 1073741824) (he : t / 64 = e) (h1 : decide (ck e = c) = false) (h0 : 0 < e) (h2 : decide (ck (e - 1) = c) = true) :
    Calls Tryd.prog 25 #[.pointer (some ⟨p, 0, none⟩), vc, .int .i64 (a : Int), .int .i64 (t : Int), vp] w fun en w' => en = .returned (.bool true) ∧ Below w.heap.size w w' := by
  obtain ⟨z16, hz16⟩ : ∃ z, u8s (List.replicate 16 0) = z := ⟨_, rfl⟩
  have hz16v : ∀ W : World, (zeroValue 28).run Tryd.prog W = .ok (.agg z16) W := fun W => by rw [← hz16]; kernel_rfl
  have HI : Bx (∀ e, (Tryd.prog.info? 28).map (·.size) = some (u8s (ck e)).size ∧ (u8s (ck e)).size = z16.size) := Bx.mk (fun e => by
    have h16 : (u8s (ck e)).size = 16 := by rw [u8s_size, H.len e]
    refine ⟨by rw [h16]; kernel_rfl, by rw [h16, ← hz16]; rfl⟩)
  have HE := Bx.mk (epoch_nat t w (by omega))
  rw [he] at HE
  have he1 : (e : Int) ≤ 16777300 := by omega
  have he0 : (0 : Int) ≤ (e : Int) := by omega
  have HN : Bx (e ≤ 16777300) := Bx.mk (by omega)
  obtain ⟨d, hd⟩ : ∃ d, e - 1 = d := ⟨_, rfl⟩
  have hd1 : (e : Int) - 1 = (d : Int) := by omega
  have hd2 : (d : Int) < (e : Int) := by omega
  have hd3 : (d : Int) ≤ 16777300 := by omega
  have hd4 : (0 : Int) ≤ (d : Int) := by omega
  have HND : Bx (d ≤ 16777300) := Bx.mk (by omega)
  rw [hd] at h2
  clear hd h0
  clear hz16 ht he
  go_enter Tryd.func25, Tryd.ntmps25
  go_wp2_with fail
  go_step3
  go_wp2_with fail
  refine HE.out.mono ?_
  rintro en w0 ⟨rfl, rfl⟩
  have HR : Bx (Below w.heap.size w w) := Bx.mk (Below.refl _ _)
  go_wp2
  go_step3
  go_wp2
  refine wp_loop_rounds 4 ?_
  rw [rounds_succ]
  go_wp2_with fail
  refine (H.of w e (by have := HN.out; omega) HR.out).mono ?_
  rintro en v0 ⟨rfl, hb⟩
  have HB0 := Bx.mk (HR.out.trans (hb.mono HR.out.size))
  clear hb
  go_upto_region 6 with (refine wpList_store_var rfl 28 _ _ rfl v0 _ _ rfl (by rfl) (u8s (ck e)) (by rfl) (HI.out e).2 (HI.out e).1 (one_u8s _) ?_; intro u0 hb hr hl)
  have HC0 : Bx (Below w.heap.size w u0 ∧ u0.heap[v0.heap.size]? = some (.cells (u8s (ck e)) 28 (0, 0))) := Bx.mk ⟨HB0.out.trans (hb.mono HB0.out.size), hr⟩
  clear hb hr hl
  go_wp2_with fail
  refine (H.eq u0 _ e HC0.out.1 HC0.out.2).mono ?_
  rintro en y0 ⟨rfl, hb⟩
  have HR1 := Bx.mk hb
  clear hb
  rw [h1]
  go_wp2_with fail
  skip -- M3
  rw [rounds_succ]
  go_wp2_with fail
  refine (H.of y0 d (by have := HND.out; omega) HR1.out).mono ?_
  rintro en v1 ⟨rfl, hb⟩
  have HB1 := Bx.mk (HR1.out.trans (hb.mono HR1.out.size))
  clear hb
  go_upto_region 6 with (refine wpList_store_var rfl 28 _ _ rfl v1 _ _ rfl (by rfl) (u8s (ck d)) (by rfl) (HI.out d).2 (HI.out d).1 (one_u8s _) ?_; intro u1 hb hr hl)
  have HC1 : Bx (Below w.heap.size w u1 ∧ u1.heap[v1.heap.size]? = some (.cells (u8s (ck d)) 28 (0, 0))) := Bx.mk ⟨HB1.out.trans (hb.mono HB1.out.size), hr⟩
  clear hb hr hl
  go_wp2_with fail
  refine (H.eq u1 _ d HC1.out.1 HC1.out.2).mono ?_
  rintro en y1 ⟨rfl, hb⟩
  have HR2 := Bx.mk hb
  clear hb
  rw [h2]
  go_wp2
  try rw [Exit.noGoto_ret]
  go_ret
  exact ⟨rfl, HR2.out⟩
set_option maxRecDepth 100000 in
set_option maxHeartbeats 2000000 in
theorem fresh_d (w : World) (p t e : Nat) (vp vc : Value) (a : Nat) (ck : Nat → List UInt8) (c : List UInt8) (H : FrC w p vp vc a ck c) (ht : t ≤ 1073741824) (he : t / 64 = e) (h1 : decide (ck e = c) = false) (h0 : 0 < e) (h2 : decide (ck (e - 1) = c) = false) :
    Calls Tryd.prog 25 #[.pointer (some ⟨p, 0, none⟩), vc, .int .i64 (a : Int), .int .i64 (t : Int), vp] w fun en w' => en = .returned (.bool false) ∧ Below w.heap.size w w' := by
  obtain ⟨z16, hz16⟩ : ∃ z, u8s (List.replicate 16 0) = z := ⟨_, rfl⟩
  have hz16v : ∀ W : World, (zeroValue 28).run Tryd.prog W = .ok (.agg z16) W := fun W => by rw [← hz16]; kernel_rfl
  have HI : Bx (∀ e, (Tryd.prog.info? 28).map (·.size) = some (u8s (ck e)).size ∧ (u8s (ck e)).size = z16.size) := Bx.mk (fun e => by
    have h16 : (u8s (ck e)).size = 16 := by rw [u8s_size, H.len e]
    refine ⟨by rw [h16]; kernel_rfl, by rw [h16, ← hz16]; rfl⟩)
  have HE := Bx.mk (epoch_nat t w (by omega))
  rw [he] at HE
  have he1 : (e : Int) ≤ 16777300 := by omega
  have he0 : (0 : Int) ≤ (e : Int) := by omega
  have HN : Bx (e ≤ 16777300) := Bx.mk (by omega)
  obtain ⟨d, hd⟩ : ∃ d, e - 1 = d := ⟨_, rfl⟩
  have hd1 : (e : Int) - 1 = (d : Int) := by omega
  have hd2 : (d : Int) < (e : Int) := by omega
  have hd3 : (d : Int) ≤ 16777300 := by omega
  have hd4 : (0 : Int) ≤ (d : Int) := by omega
  have HND : Bx (d ≤ 16777300) := Bx.mk (by omega)
  rw [hd] at h2
  clear hd h0
  clear hz16 ht he
  go_enter Tryd.func25, Tryd.ntmps25
  go_wp2_with fail
  go_step3
  go_wp2_with fail
  refine HE.out.mono ?_
  rintro en w0 ⟨rfl, rfl⟩
  have HR : Bx (Below w.heap.size w w) := Bx.mk (Below.refl _ _)
  go_wp2
  go_step3
  go_wp2
  refine wp_loop_rounds 4 ?_
  rw [rounds_succ]
  go_wp2_with fail
  refine (H.of w e (by have := HN.out; omega) HR.out).mono ?_
  rintro en v0 ⟨rfl, hb⟩
  have HB0 := Bx.mk (HR.out.trans (hb.mono HR.out.size))
  clear hb
  go_upto_region 6 with (refine wpList_store_var rfl 28 _ _ rfl v0 _ _ rfl (by rfl) (u8s (ck e)) (by rfl) (HI.out e).2 (HI.out e).1 (one_u8s _) ?_; intro u0 hb hr hl)
  have HC0 : Bx (Below w.heap.size w u0 ∧ u0.heap[v0.heap.size]? = some (.cells (u8s (ck e)) 28 (0, 0))) := Bx.mk ⟨HB0.out.trans (hb.mono HB0.out.size), hr⟩
  clear hb hr hl
  go_wp2_with fail
  refine (H.eq u0 _ e HC0.out.1 HC0.out.2).mono ?_
  rintro en y0 ⟨rfl, hb⟩
  have HR1 := Bx.mk hb
  clear hb
  rw [h1]
  go_wp2_with fail
  skip -- M3
  rw [rounds_succ]
  go_wp2_with fail
  refine (H.of y0 d (by have := HND.out; omega) HR1.out).mono ?_
  rintro en v1 ⟨rfl, hb⟩
  have HB1 := Bx.mk (HR1.out.trans (hb.mono HR1.out.size))
  clear hb
  go_upto_region 6 with (refine wpList_store_var rfl 28 _ _ rfl v1 _ _ rfl (by rfl) (u8s (ck d)) (by rfl) (HI.out d).2 (HI.out d).1 (one_u8s _) ?_; intro u1 hb hr hl)
  have HC1 : Bx (Below w.heap.size w u1 ∧ u1.heap[v1.heap.size]? = some (.cells (u8s (ck d)) 28 (0, 0))) := Bx.mk ⟨HB1.out.trans (hb.mono HB1.out.size), hr⟩
  clear hb hr hl
  go_wp2_with fail
  refine (H.eq u1 _ d HC1.out.1 HC1.out.2).mono ?_
  rintro en y1 ⟨rfl, hb⟩
  have HR2 := Bx.mk hb
  clear hb
  rw [h2]
  go_wp2
  try rw [Exit.noGoto_ret]
  go_ret
  exact ⟨rfl, HR2.out⟩
theorem FrC.mk' (bs c : List UInt8) (a k p : Nat) (pss : List (List UInt8)) (vp vc : Value) (w : World) (hc : w.cell? ⟨p, 2, none⟩ = some (.pointer (some ⟨k, 0, none⟩))) (hv : IsKey w (.pointer (some ⟨k, 0, none⟩)) bs) (hp : PartsR w vp pss) (hvc : Bytes w vc c)
    (hk : bs.length ≤ 1000000) (hn : pss.length ≤ 900) (hpl : ∀ p ∈ pss, p.length ≤ 10000) (hcl : c.length ≤ 140737488355328) (ha : a ≤ 4294967295) (hTab : Tab w) (hg : 0 < w.heap.size) : FrC w p vp vc a (fun e => cookK bs e a pss) c where
  of := fun W e he hb => of_any bs e a k p pss vp W (by rw [hb.cell (p := ⟨p, 2, none⟩) (World.block_lt_of_cell? _ _ hc)]; exact hc) (hv.later hb) (hp.later hb) hk hn hpl (by omega) ha (hTab.later hb hg) (Nat.lt_of_lt_of_le hg hb.size)
  eq := fun W g e hb hr => (equal_any (cookK bs e a pss) c _ vc W (row_bytes hr (cookK_length _ _ _ _)) (hvc.later hb) (by rw [cookK_length]; omega) hcl).mono (by rintro en w' ⟨rfl, n, rfl⟩; exact ⟨rfl, below_drewN hb _⟩)
  len := fun e => cookK_length _ _ _ _
theorem fresh_any (bs c : List UInt8) (a k p t : Nat) (pss : List (List UInt8)) (vp vc : Value) (w : World) (hc : w.cell? ⟨p, 2, none⟩ = some (.pointer (some ⟨k, 0, none⟩))) (hv : IsKey w (.pointer (some ⟨k, 0, none⟩)) bs) (hp : PartsR w vp pss) (hvc : Bytes w vc c)
    (hk : bs.length ≤ 1000000) (hn : pss.length ≤ 900) (hpl : ∀ p ∈ pss, p.length ≤ 10000) (hcl : c.length ≤ 140737488355328) (ha : a ≤ 4294967295) (ht : t ≤ 1073741824) (hTab : Tab w) (hg : 0 < w.heap.size) :
    Calls Tryd.prog 25 #[.pointer (some ⟨p, 0, none⟩), vc, .int .i64 (a : Int), .int .i64 (t : Int), vp] w fun en w' => en = .returned (.bool (freK bs (t / 64) a pss c)) ∧ Below w.heap.size w w' := by
  have H := FrC.mk' bs c a k p pss vp vc w hc hv hp hvc hk hn hpl hcl ha hTab hg
  obtain ⟨e, he⟩ : ∃ e, t / 64 = e := ⟨_, rfl⟩
  rw [he]
  unfold freK
  cases h1 : decide (cookK bs e a pss = c) with
  | true => exact fresh_a w p t e vp vc a _ c H ht he h1
  | false =>
    by_cases h0 : e = 0
    · rw [show decide (0 < e) = false from decide_eq_false (by omega)]
      exact fresh_b w p t e vp vc a _ c H ht he h1 h0
    · rw [show decide (0 < e) = true from decide_eq_true (by omega)]
      cases h2 : decide (cookK bs (e - 1) a pss = c) with
      | true => exact fresh_c w p t e vp vc a _ c H ht he h1 (by omega) h2
      | false => exact fresh_d w p t e vp vc a _ c H ht he h1 (by omega) h2
end Go.Proofs.YtncbhnkhbohejaaDoor
namespace Go.Proofs.YtncbhnkhbohejaaDoor
open Go Go.RowKit
set_option maxRecDepth 100000 in
theorem cnew_ok (bs : List UInt8) (v : Value) (w : World) (hv : Bytes w v bs) (hl : 16 ≤ bs.length) (hl2 : bs.length ≤ 1000000) :
    Calls Tryd.prog 20 #[v] w fun e w' => ∃ p, e = .returned (.tuple #[.pointer (some ⟨p, 0, none⟩), .int .i64 0]) ∧ w.heap.size ≤ p ∧ Below w.heap.size w w' ∧ (∀ q, q < w.heap.size ∨ p ≤ q → Bk w' q p 0 0 bs) := by
  have HV := Bx.mk hv
  have HL := Bx.mk hl2
  obtain ⟨a, cap, rfl, -⟩ := hv
  obtain ⟨n, hn⟩ : ∃ n, bs.length = n := ⟨_, rfl⟩
  rw [hn] at HV hl ⊢
  have h1 : ¬ ((n : Int) < 16) := by omega
  clear hn hl2
  go_enter Tryd.func20, Tryd.ntmps20
  go_wp2_with fail
  refine (new_any bs _ w HV.out (by have := HL.out; omega)).mono ?_
  rintro e w1 ⟨v1, rfl, ho1, hb1⟩
  obtain ⟨p, s, rfl, hp, hr, hob⟩ := ho1
  have hpl : p < w1.heap.size := (Array.getElem?_eq_some_iff.1 hr).1
  have H1 := Bx.mk (And.intro hr (And.intro hob hb1))
  clear hr hob hb1
  go_wp2
  go_ret2
  refine ⟨w1.heap.size, rfl, H1.out.2.2.size, H1.out.2.2.trans ((below_a _).mono H1.out.2.2.size), fun q hq => ⟨p, hnew _ _ _ rfl, fun W1 hg => ?_⟩⟩
  have hne : ∀ g, w.heap.size ≤ g → g < w1.heap.size → some g ≠ some q := by
    intro g h1 h2 e
    injection e with e
    omega
  refine ⟨p, s, rfl, by rw [hg.block p (Nat.lt_of_lt_of_le hpl (below_a _).size) (hne p hp hpl), hold _ _ _ hpl]; exact H1.out.1, ?_⟩
  have hO := (H1.out.2.1.later (below_a (.cells #[.int .i64 0, .int .i64 0, .pointer (some ⟨p, 0, none⟩)] 66)) (fun g hg => (H1.out.2.1.lt g hg).1))
  refine (hO.grown hg (fun g e1 e2 => ?_)).bytes
  have h3 := H1.out.2.1.lt g e2
  exact hne g h3.2 h3.1 e1.symm
set_option maxRecDepth 100000 in
theorem ref_bad (p k : Nat) (x y : Int) (w : World) (hc : w.cell? ⟨p, 2, none⟩ = some (.pointer (some ⟨k, 0, none⟩))) (h : rightQ x y = false) :
    Calls Tryd.prog 22 #[.pointer (some ⟨p, 0, none⟩), .int .i64 x, .int .i64 y] w fun e w' => e = .returned (.int .i64 10) ∧ w = w' := by
  have h' : ¬ (0 ≤ x ∧ x < 65536 ∧ 0 ≤ y ∧ y ≤ 1073741824) := of_decide_eq_false h
  clear h
  by_cases h1 : x < 0
  · clear h'
    go_enter Tryd.func22, Tryd.ntmps22
    go_wp2
    go_ret
    exact ⟨rfl, rfl⟩
  · by_cases h2 : 65535 < x
    · clear h'
      go_enter Tryd.func22, Tryd.ntmps22
      go_wp2
      go_ret
      exact ⟨rfl, rfl⟩
    · by_cases h3 : y < 0
      · clear h'
        go_enter Tryd.func22, Tryd.ntmps22
        go_wp2
        go_ret
        exact ⟨rfl, rfl⟩
      · have h4 : 1073741824 < y := by omega
        clear h'
        go_enter Tryd.func22, Tryd.ntmps22
        go_wp2
        go_ret
        exact ⟨rfl, rfl⟩
set_option maxRecDepth 100000 in
theorem ref_ok (p k : Nat) (x y : Int) (w : World) (hc : w.cell? ⟨p, 2, none⟩ = some (.pointer (some ⟨k, 0, none⟩))) (h : rightQ x y = true) :
    Calls Tryd.prog 22 #[.pointer (some ⟨p, 0, none⟩), .int .i64 x, .int .i64 y] w fun e w' => e = .returned (.int .i64 0) ∧ w = w' := by
  have h' : (0 ≤ x ∧ x < 65536 ∧ 0 ≤ y ∧ y ≤ 1073741824) := of_decide_eq_true h
  have h1 : ¬ x < 0 := by omega
  have h2 : ¬ 65535 < x := by omega
  have h3 : ¬ y < 0 := by omega
  have h4 : ¬ 1073741824 < y := by omega
  clear h h'
  go_enter Tryd.func22, Tryd.ntmps22
  go_wp2
  go_ret
  exact ⟨rfl, rfl⟩
theorem results_pairC {fn : Func} {p u : Tmp} {ty : TypeId} (h : fn.results = #[.cell p ty, .tmp u]) (tmps : Array Value) (P : Program) (w : World) (g : Nat) (cs : Array Value)
    (hp : tmps.getD p undef = .pointer (some ⟨g, 0, none⟩)) (hl : (loadVar ty ⟨g, 0, none⟩).run P w = .ok (.agg cs) w) : (results fn tmps).run P w = .ok (.tuple #[.agg cs, tmps.getD u undef]) w := by
  have hp' : tmps[p]?.getD undef = .pointer (some ⟨g, 0, none⟩) := by simpa using hp
  simp [results, h, hp', asAddr, hl]
theorem grown_belowC {w w1 : World} {p : Nat} (h : w.grownBy w1 (some p)) {B : Nat} (hB : B ≤ p) (hs : B ≤ w.heap.size) : Below B w w1 := ⟨h.os, h.tape, h.output, h.size, fun i hi => h.block i (by omega) (fun e => by injection e with e; omega)⟩
theorem kb_pastC {w W W1 : World} {M Y : Nat} (h : w.grownBy W (some M)) (hg : W.grownBy W1 (some Y)) (hY : w.heap.size ≤ Y) : w.grownBy W1 (some M) :=
  ⟨hg.os.trans h.os, hg.tape.trans h.tape, hg.output.trans h.output, Nat.le_trans h.size hg.size, fun i hi hne => by rw [hg.block i (Nat.lt_of_lt_of_le hi h.size) (fun e => by injection e; omega)]; exact h.block i hi hne⟩
theorem z16_facts {z16 : Array Value} (hz16 : u8s (List.replicate 16 0) = z16) : (∀ W : World, (zeroValue 28).run Tryd.prog W = .ok (.agg z16) W) ∧ Tryd.prog.built 28 [] = some z16 ∧ (Tryd.prog.info? 28).map (·.size) = some z16.size ∧ z16.all (·.oneCell') = true :=
  ⟨fun W => by rw [← hz16]; kernel_rfl, by rw [← hz16]; kernel_rfl, by rw [← hz16, u8s_size]; kernel_rfl, by rw [← hz16]; exact one_u8s _⟩
set_option maxRecDepth 100000 in
theorem bake_err (p : Value) (hpv : ∃ o, p = .pointer o) (x y er : Int) (her : er = 10 ∨ er = 11) (vp : Value) (w : World) (HRf : ∀ W, Below w.heap.size w W → Calls Tryd.prog 22 #[p, .int .i64 x, .int .i64 y] W fun e w' => e = .returned (.int .i64 er) ∧ W = w') :
    Calls Tryd.prog 9 #[p, .int .i64 x, .int .i64 y, vp] w fun e w' => e = .returned (.tuple #[.agg (u8s (List.replicate 16 0)), .int .i64 er]) ∧ Below w.heap.size w w' := by
  obtain ⟨z16, hz16⟩ : ∃ z, u8s (List.replicate 16 0) = z := ⟨_, rfl⟩
  have HZ := Bx.mk (z16_facts hz16)
  have hz16v := HZ.out.1
  rw [hz16]
  obtain ⟨B, hB⟩ : ∃ B, w.heap.size = B := ⟨_, rfl⟩
  have H0 : Bx (Below B w (w.alloc (.cells z16 28)) ∧ (w.alloc (.cells z16 28)).heap[B]? = some (.cells z16 28 (0, 0))) := Bx.mk ⟨by rw [← hB]; exact below_a _, by rw [hnew _ _ _ hB.symm]⟩
  have HR := Bx.mk (HRf _ (by rw [hB]; exact H0.out.1))
  have hne : ¬ er = 0 := by omega
  clear hz16 HRf her
  obtain ⟨o, rfl⟩ := hpv
  rw [hB]
  go_enter Tryd.func9, Tryd.ntmps9
  go_wp2_with fail
  generalize w.alloc (.cells z16 28) = w0 at *
  refine HR.out.mono ?_
  rintro e w1 ⟨rfl, rfl⟩
  go_wp2_with (first | (refine wpList_buildTo rfl 28 _ rfl _ rfl z16 (by simp only [List.map_toArray, List.map_cons, List.map_nil]; exact HZ.out.2.1) ?_) | (refine wpList_store_new rfl 28 _ _ rfl B z16 z16 _ (by rfl) (by rfl) H0.out.2 rfl HZ.out.2.2.1 HZ.out.2.2.2 ?_; intro w8 hw8 hr8; have H8 : Bx (Below B w w8 ∧ w8.heap[B]? = some (.cells z16 28 (0, 0))) := Bx.mk ⟨by rw [hw8]; exact below_setCells (Nat.le_refl _) _ _ _ _ H0.out.1, hr8⟩; clear hw8 hr8))
  skip -- M1
  refine bodyPost_ret (results_pairC rfl _ _ _ B _ rfl (run_loadVar_row _ B _ _ _ _ _ H8.out.2 Tryd.underlying28 rfl HZ.out.2.2.1)) rfl ?_
  exact ⟨rfl, H8.out.1⟩
theorem bake_bad (p k : Nat) (x y : Int) (vp : Value) (w : World) (hc : w.cell? ⟨p, 2, none⟩ = some (.pointer (some ⟨k, 0, none⟩))) (h : rightQ x y = false) : Calls Tryd.prog 9 #[.pointer (some ⟨p, 0, none⟩), .int .i64 x, .int .i64 y, vp] w fun e w' => e = .returned (.tuple #[.agg (u8s (List.replicate 16 0)), .int .i64 10]) ∧ Below w.heap.size w w' :=
  bake_err _ ⟨_, rfl⟩ x y 10 (.inl rfl) vp w fun W hb => ref_bad p k x y W (by rw [hb.cell (p := ⟨p, 2, none⟩) (World.block_lt_of_cell? _ _ hc)]; exact hc) h
end Go.Proofs.YtncbhnkhbohejaaDoor
namespace Go.Proofs.YtncbhnkhbohejaaDoor
open Go Go.RowKit
theorem tab_ne {w : World} {q p n m : Nat} {bs : List UInt8} (hTab : Tab w) (h : Bk w q p n m bs) : 0 ≠ p := by
  obtain ⟨k, c0, -, -, -, -⟩ := h.parts
  intro e
  subst e
  have h1 := hTab 0 (by omega)
  have h2 := c0
  rw [h1] at h2
  cases h2
theorem Tab.beside {w W : World} {p : Nat} (hTab : Tab w) (hg : 0 < w.heap.size) (hne : 0 ≠ p) (h : w.grownBy W (some p)) : Tab W := fun i hi => by
  rw [← hTab i hi]
  unfold World.cell?
  rw [h.block _ hg (fun e => hne (by injection e))]
set_option maxRecDepth 100000 in
set_option maxHeartbeats 1000000 in
theorem bake_ok (bs : List UInt8) (a t p n m : Nat) (pss : List (List UInt8)) (vp : Value) (w : World) (h : Bk w p p n m bs) (hp : ∀ W, w.grownBy W (some p) → PartsR W vp pss) (hr : rightQ (a : Int) (t : Int) = true) (hn : n ≤ 1000000)
    (hk : bs.length ≤ 1000000) (hpn : pss.length ≤ 900) (hpl : ∀ p ∈ pss, p.length ≤ 10000) (hTab : Tab w) (hg : 0 < w.heap.size) :
    Calls Tryd.prog 9 #[.pointer (some ⟨p, 0, none⟩), .int .i64 (a : Int), .int .i64 (t : Int), vp] w fun e w' => e = .returned (.tuple #[.agg (u8s (cookK bs (t / 64) a pss)), .int .i64 0]) ∧ Bk w' p p (n + 1) m bs ∧ w.grownBy w' (some p) := by
  obtain ⟨ha1, ha2, ht1, ht2⟩ : (0 ≤ (a : Int) ∧ (a : Int) < 65536 ∧ 0 ≤ (t : Int) ∧ (t : Int) ≤ 1073741824) := of_decide_eq_true hr
  obtain ⟨z16, hz16⟩ : ∃ z, u8s (List.replicate 16 0) = z := ⟨_, rfl⟩
  have HZ := Bx.mk (z16_facts hz16)
  have hz16v := HZ.out.1
  obtain ⟨B, hB⟩ : ∃ B, w.heap.size = B := ⟨_, rfl⟩
  have hpB : p < B := by rw [← hB]; exact h.lt
  obtain ⟨w0, hw0⟩ : ∃ w0, w.alloc (.cells z16 28) = w0 := ⟨_, rfl⟩
  have hb0 : Below B w w0 := by rw [← hB, ← hw0]; exact below_a _
  have hrow0 : w0.heap[B]? = some (.cells z16 28 (0, 0)) := by rw [← hw0, hnew _ _ _ hB.symm]
  have h0 : Bk w0 p p n m bs := h.later (by rw [hB]; exact hb0)
  obtain ⟨w1, hw1⟩ : ∃ w1, w0.setCell ⟨p, 0, none⟩ (.int .i64 ((n + 1 : Nat) : Int)) = w1 := ⟨_, rfl⟩
  have h1 : Bk w1 p p (n + 1) m bs := by rw [← hw1]; exact h0.bake
  have hg01 : w0.grownBy w1 (some p) := by rw [← hw1]; exact kb_set1 _ _ _ _
  have hgw1 : w.grownBy w1 (some p) := kb_trans (kb_below _ (by rw [hB]; exact hb0)) hg01
  have hrow1 : w1.heap[B]? = some (.cells z16 28 (0, 0)) := by rw [hg01.block B (Array.getElem?_eq_some_iff.1 hrow0).1 (fun e => by injection e; omega)]; exact hrow0
  obtain ⟨k0, c0, -, c2, hz, -⟩ := h0.parts
  obtain ⟨k1, -, -, d2, -, hk1⟩ := h1.parts
  have HRf := Bx.mk (ref_ok p k0 (a : Int) (t : Int) w0 c2 hr)
  have HAd := Bx.mk (add_base p 0 n w0 c0 (hz 0) hn)
  rw [hw1] at HAd
  have HEp := Bx.mk (epoch_nat t w1 (by omega))
  have HOf := Bx.mk (of_any bs (t / 64) a k1 p pss vp w1 d2 hk1 (hp w1 hgw1) hk hpn hpl (by omega) (by omega) (hTab.beside hg (tab_ne hTab h) hgw1) (Nat.lt_of_lt_of_le hg hgw1.size))
  have HI : Bx ((Tryd.prog.info? 28).map (·.size) = some (u8s (cookK bs (t / 64) a pss)).size ∧ (u8s (cookK bs (t / 64) a pss)).size = z16.size) := Bx.mk (by
    have h16 : (u8s (cookK bs (t / 64) a pss)).size = 16 := by rw [u8s_size, cookK_length]
    refine ⟨by rw [h16]; kernel_rfl, by rw [h16, ← hz16]; rfl⟩)
  have HEnd : Bx (∀ w2 w3, Below w1.heap.size w1 w2 → w2.grownBy w3 (some B) → Bk w3 p p (n + 1) m bs ∧ w.grownBy w3 (some p)) := Bx.mk (fun w2 w3 hb2 hg3 => by
    have hG : w.grownBy w3 (some p) := kb_pastC (kb_trans hgw1 (kb_below _ hb2)) hg3 (Nat.le_of_eq hB)
    obtain ⟨k, hr, hk⟩ := h
    have r0 : w0.heap[p]? = _ := (hb0.block p hpB).trans hr
    have r1 := heap_setCell_same w0 p 0 _ _ (.int .i64 ((n + 1 : Nat) : Int)) r0
    rw [hw1] at r1
    have hp1 : p < w1.heap.size := (Array.getElem?_eq_some_iff.1 r1).1
    refine ⟨⟨k, ?_, fun W1 hW => hk W1 (kb_trans hG hW)⟩, hG⟩
    rw [hg3.block p (Nat.lt_of_lt_of_le hp1 hb2.size) (fun e => by injection e; omega), hb2.block p hp1, r1]
    rfl)
  have HHB : Bx (∀ W, Below w1.heap.size w1 W → W.heap[B]? = some (.cells z16 28 (0, 0))) := Bx.mk (fun W hb => by rw [hb.block B (Array.getElem?_eq_some_iff.1 hrow1).1]; exact hrow1)
  clear hz16 h h0 h1 hg01 hgw1 hrow1 c2 d2 hz hk1 hp hr hn hk hpn hpl hTab hg c0 hrow0 hpB
  generalize cookK bs (t / 64) a pss = ck at *
  have hB' := HZ.out.2.1
  go_enter Tryd.func9, Tryd.ntmps9
  go_wp2_with fail
  refine HRf.out.mono ?_
  rintro e y0 ⟨rfl, rfl⟩
  go_wp2_with fail
  refine HAd.out.mono ?_
  rintro e y1 ⟨rfl, rfl⟩
  go_wp2_with fail
  refine HEp.out.mono ?_
  rintro e y2 ⟨rfl, rfl⟩
  go_wp2_with fail
  skip -- M1
  refine HOf.out.mono ?_
  rintro e w2 ⟨rfl, hb⟩
  have HB2 := Bx.mk hb
  clear hb
  go_wp2_with (refine wpList_store_new rfl 28 _ _ rfl B (u8s ck) z16 _ (by rfl) (by rfl) (HHB.out _ HB2.out) HI.out.2 HI.out.1 (one_u8s _) ?_; intro w8 hw8 hr8; have H8 : Bx (w2.grownBy w8 (some B) ∧ w8.heap[B]? = some (.cells (u8s ck) 28 (0, 0))) := Bx.mk ⟨by rw [hw8]; exact kb_setCells _ _ _, hr8⟩; clear hw8 hr8)
  refine bodyPost_ret (results_pairC rfl _ _ _ B _ rfl (run_loadVar_row _ B _ _ _ _ _ H8.out.2 Tryd.underlying28 rfl HI.out.1)) rfl ?_
  exact ⟨rfl, HEnd.out _ _ HB2.out H8.out.1⟩
end Go.Proofs.YtncbhnkhbohejaaDoor
