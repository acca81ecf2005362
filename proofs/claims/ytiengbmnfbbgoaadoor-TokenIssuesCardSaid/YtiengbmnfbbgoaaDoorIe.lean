/-
  The walk of a field's bytes, the document's.
-/
import Derived.Test.YtiengbmnfbbgoaaDoorId
namespace Go.Proofs.YtiengbmnfbbgoaaDoor
open Go Go.RowKit
theorem beN_two (L : Nat) (_ : L < 65536) : beN 2 L = [UInt8.ofNat (L / 256 % 256), UInt8.ofNat (L % 256)] := by
  simp [beN]
/-- What is left of a number behind k rounds. -/
theorem div_pow_succ (m k : Nat) : m / 256 ^ k / 256 = m / 256 ^ (k + 1) := by rw [Nat.div_div_eq_div_mul, Nat.pow_succ]
set_option maxRecDepth 100000 in
set_option maxHeartbeats 1000000 in
theorem rout_any (f : Fd) (v : Value) (w : World) (hv : IsF w v f) (hc : chk f = 0) :
    Calls Tryd.prog 42 #[v] w fun e w' => ∃ v', e = .returned v' ∧ OwnB w' w.heap.size v' (enc f) ∧ Below w.heap.size w w' := by
  obtain ⟨vb, rfl, hb⟩ := hv
  obtain ⟨s, n, b⟩ := f
  simp only at hb ⊢
  rcases chk_ok hc with ⟨h4, hn, hl⟩ | ⟨h0, h3, hbn, hn0, hnm⟩
  · simp only at h4 hn hl
    subst h4
    subst hn
    have HE : Bx (enc ⟨4, 0, b⟩ = [UInt8.ofNat (b.length / 256 % 256), UInt8.ofNat (b.length % 256)] ++ b) := Bx.mk (by rw [← beN_two _ (by omega)]; rfl)
    have HB := Bx.mk hb
    obtain ⟨ab, cb, rfl, -⟩ := hb
    obtain ⟨L, hL⟩ : ∃ n, b.length = n := ⟨_, rfl⟩
    have HL2 := Bx.mk hL
    rw [hL] at HB HE hl ⊢
    have HL := Bx.mk hl
    have hl1 : (L : Int) ≤ 512 := by omega
    have hu1 : (L : Int) / 256 = ub (UInt8.ofNat (L / 256 % 256)) := by rw [ub_nat]; omega
    have hu2 : (L : Int) % 256 = ub (UInt8.ofNat (L % 256)) := by rw [ub_nat]; omega
    generalize UInt8.ofNat (L / 256 % 256) = p0 at *
    generalize UInt8.ofNat (L % 256) = p1 at *
    have H0 : Bx (Below w.heap.size w (w.alloc (.cells #[.int .i64 4, .int .i64 0, .slice ab L cb] 90)) ∧ (w.alloc (.cells #[.int .i64 4, .int .i64 0, .slice ab L cb] 90)).heap.size = w.heap.size + 1) := Bx.mk ⟨below_a _, by simp⟩
    have H1 : Bx (∀ W : World, OwnB (W.alloc (.cells #[.int .u8 (ub p0), .int .u8 (ub p1)] 5)) W.heap.size (.slice (some ⟨W.heap.size, 0, none⟩) 2 2) [p0, p1]) := Bx.mk (fun W => row_own (l := [p0, p1]) (by rw [hnew _ _ _ rfl]; rfl) rfl (Nat.le_refl _) (by omega))
    clear hL hc hl
    go_enter Tryd.func42, Tryd.ntmps42
    go_wp2_with (refine wpList_ap rfl _ _ rfl (w.heap.size + 1) _ [p0, p1] (by rfl) (by have h := H1.out (w.alloc (.cells #[.int .i64 4, .int .i64 0, .slice ab L cb] 90)); rw [H0.out.2] at h; exact h) _ b (by rfl) (HB.out.later (H0.out.1.alloc (by rw [H0.out.2]; omega) _)) (by have := HL.out; have := HL2.out; simp; omega) (by simp) ?_; intro v2 w2 ho2 hg2 _; have H2 : Bx (OwnB w2 w.heap.size v2 ([p0, p1] ++ b) ∧ Below w.heap.size w w2) := Bx.mk ⟨ho2.weak (by omega), (H0.out.1.alloc (by rw [H0.out.2]; omega) _).trans ((own_below (by have h := H1.out (w.alloc (.cells #[.int .i64 4, .int .i64 0, .slice ab L cb] 90)); rw [H0.out.2] at h; exact h) hg2 (by simp)).mono (by omega))⟩; clear ho2 hg2)
    go_ret
    exact ⟨_, rfl, by rw [HE.out]; exact H2.out.1, H2.out.2⟩
  · simp only at h0 h3 hbn hn0 hnm
    obtain ⟨m, rfl⟩ : ∃ m : Nat, n = (m : Int) := ⟨n.toNat, by omega⟩
    have HE : Bx (enc ⟨s, (m : Int), b⟩ = beN (wid s) m) := Bx.mk (by unfold enc; rw [if_neg (by simp only; omega)]; rfl)
    have hm1 : (m : Int) ≤ 9223372036854775807 := by have := most_le s; omega
    have hWd := fun w => rwidth_any s w h0 h3
    have hWl := wid_le s
    have hs4 : (s == 4) = false := by simp; omega
    obtain ⟨ab, cb, rfl, -⟩ := hb
    generalize b.length = L at *
    generalize wid s = Wd at *
    have hw8 : (Wd : Int) ≤ 8 := by omega
    clear hc hbn hn0 hnm h0 h3
    go_enter Tryd.func42, Tryd.ntmps42
    go_wp2
    obtain ⟨B, hB⟩ : ∃ B, w.heap.size = B := ⟨_, rfl⟩
    have HI : Bx ((w.alloc (.cells #[.int .i64 s, .int .i64 (m : Int), .slice ab L cb] 90)).cell? ⟨B, 0, none⟩ = some (.int .i64 s) ∧ OwnB (w.alloc (.cells #[.int .i64 s, .int .i64 (m : Int), .slice ab L cb] 90)) (B + 1) (.slice none 0 0) (beN 0 m) ∧ Below B w (w.alloc (.cells #[.int .i64 s, .int .i64 (m : Int), .slice ab L cb] 90))) := Bx.mk ⟨by rw [← hB, cell_of_row _ _ _ _ _ _ (hnew _ _ _ rfl)]; rfl, OwnB.nil _ _, by rw [← hB]; exact below_a _⟩
    generalize w.alloc (.cells #[.int .i64 s, .int .i64 (m : Int), .slice ab L cb] 90) = wA at *
    rw [hB]
    go_loopw [3, 4, 5] (fun o q i wr => ∃ k : Nat, k ≤ Wd ∧ i = .int .i64 (k : Int) ∧ q = .int .i64 ((m / 256 ^ k : Nat) : Int) ∧ Bx (wr.cell? ⟨B, 0, none⟩ = some (.int .i64 s) ∧ OwnB wr (B + 1) o (beN k m) ∧ Below B w wr)) (fun _ _ i _ => Wd - (intOf i).toNat)
    case atStart => exact ⟨0, Nat.zero_le _, rfl, by simp, HI⟩
    case round =>
      clear HI
      obtain ⟨k, hk, rfl, rfl, HR⟩ := hrel
      have hcell := HR.out.1
      obtain ⟨ao, co, hvo, -⟩ := HR.out.2.1.bytes
      subst hvo
      by_cases hlt : k < Wd
      · have hk1 : (k : Int) < (Wd : Int) := by omega
        have HQ : Bx (m / 256 ^ (k + 1) = m / 256 ^ k / 256 ∧ beN (k + 1) m = UInt8.ofNat (m / 256 ^ k % 256) :: beN k m ∧ (beN k m).length ≤ 8) := Bx.mk ⟨(div_pow_succ m k).symm, rfl, by rw [beN_length]; omega⟩
        have hqm : m / 256 ^ k ≤ m := Nat.div_le_self _ _
        generalize m / 256 ^ k = q at *
        generalize beN k m = lb at *
        have hq1 : (q : Int) ≤ 9223372036854775807 := by omega
        have hq2 : (q : Int) % 256 = ub (UInt8.ofNat (q % 256)) := by rw [ub_nat]; omega
        generalize UInt8.ofNat (q % 256) = x at *
        have H1 : Bx (∀ W : World, OwnB (W.alloc (.cells #[.int .u8 (ub x)] 5)) W.heap.size (.slice (some ⟨W.heap.size, 0, none⟩) 1 1) [x]) := Bx.mk (fun W => row_own (l := [x]) (by rw [hnew _ _ _ rfl]; rfl) rfl (Nat.le_refl _) (by omega))
        obtain ⟨ll, hll⟩ : ∃ n, lb.length = n := ⟨_, rfl⟩
        have HLL := Bx.mk hll
        rw [hll] at HR HQ ⊢
        clear hqm hll
        go_wp2_with fail
        refine (hWd wr).mono ?_
        rintro e w1 ⟨rfl, rfl⟩
        go_wp2_with (refine wpList_ap rfl _ _ rfl w1.heap.size _ [x] (by rfl) (H1.out w1) _ lb (by rfl) (HR.out.2.1.bytes.later (below_a _)) (by have := HQ.out.2.2; have := HLL.out; simp; omega) (by simp) ?_; intro v2 w2 ho2 hg2 _; have H2 : Bx (w2.cell? ⟨B, 0, none⟩ = some (.int .i64 s) ∧ OwnB w2 (B + 1) v2 (x :: lb) ∧ Below B w w2) := Bx.mk ⟨by rw [((below_a _).trans (own_below (H1.out w1) hg2 (by simp))).cell (p := ⟨B, 0, none⟩) (World.block_lt_of_cell? _ _ hcell)]; exact hcell, ho2.weak (World.block_lt_of_cell? _ _ hcell), HR.out.2.2.trans (((below_a _).trans (own_below (H1.out w1) hg2 (by simp))).mono (Nat.le_of_lt (World.block_lt_of_cell? _ _ hcell)))⟩; clear ho2 hg2)
        go_roundw
        case rel => exact ⟨k + 1, by omega, by go_num, by rw [HQ.out.1]; go_num, by rw [HQ.out.2.1]; exact H2⟩
        case measure => simp [intOf]; omega
      · obtain rfl : k = Wd := by omega
        go_wp2_with fail
        refine (hWd wr).mono ?_
        rintro e w1 ⟨rfl, rfl⟩
        go_wp2
        go_ret
        exact ⟨_, rfl, by rw [HE.out, hB]; exact HR.out.2.1.weak (by omega), by rw [hB]; exact HR.out.2.2⟩
end Go.Proofs.YtiengbmnfbbgoaaDoor
