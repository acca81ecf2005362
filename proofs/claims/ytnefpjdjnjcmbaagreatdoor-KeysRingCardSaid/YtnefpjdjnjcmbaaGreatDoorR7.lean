/-
  What is called in a round of KeysRing: Label of a key that is known.
-/
import Derived.Test.YtnefpjdjnjcmbaaGreatDoorR3
namespace Go.Proofs.YtnefpjdjnjcmbaaGreatDoor
open Go Go.RowKit
theorem cell_later {W W1 : World} {p : Addr} {v : Value} (h : W.cell? p = some v) (hb : Below W.heap.size W W1) : W1.cell? p = some v := by
  rw [hb.cell (World.block_lt_of_cell? _ _ h)]
  exact h
theorem same_drew7 (l : List UInt8) (va vb : Value) (w : World) (ha : Bytes w va l) (hb : Bytes w vb l) (hl : l.length ≤ 140737488355328) : Calls Tryz.prog 16 #[va, vb] w fun e w' => e = .returned (.bool true) ∧ Below w.heap.size w w' :=
  (same_any l l va vb w ha hb hl hl).mono fun _ _ ⟨he, n, hw⟩ => ⟨by rw [he, decide_eq_true rfl], by rw [hw]; exact below_drewN (Below.refl _ _) _⟩
theorem ptr_inj7 {p q : Nat} (h : ptr p = ptr q) : p = q := by
  unfold ptr at h
  injection h with h
  injection h with h
  injection h
set_option maxRecDepth 100000 in
set_option maxHeartbeats 4000000 in
/-- Label of a role whose key is known. -/
theorem mid_label_ok (R L B : Nat) (tk : List Value) (ws : World) (v2 v3 v4 v11 : Value) (i : Nat) (va : Option Addr) (n c : Nat) (mv : Value) (lb : List Value) (l : List (Cl × Nat)) (m : List (Cl × Value)) (ls : List Value) (X : Nat) (at' : Int) (ab a1 : Option Addr) (nb cb c1 kn : Nat) (kd ro ci cr cx cq : Int) (ks : List UInt8) (a : Act) (w : World)
    (hG : RG v2 v3 v4 v11 (.pointer (some ⟨R, 0, none⟩)) (.slice va n c) (.pointer (some ⟨L, 0, none⟩)) (.int .i64 (i : Int)) (.pointer (some ⟨X, 0, none⟩)) (.slice a1 kn c1) (.int .i64 at') (.bool (decide (0 ≤ ro ∧ ro < 8))) a) (hf : FindQ m ⟨ci, cr, cx, cq⟩ (.returned (.int .i64 at'))) (hrow : w.heap[X]? = some (.cells #[.int .i64 kd, .int .i64 ro, .int .i64 ci, .int .i64 cr, .int .i64 cx, .int .i64 cq, .slice ab nb cb] 40 (0, 0))) (hXR : X ≠ R) (hXL : X ≠ L) (hfit : (⟨kd, ro, ⟨ci, cr, cx, cq⟩, ks⟩ : Ac).fit) (hfb : FB R L w (.slice a1 kn c1) (ks.take 40)) (hS : RSt R L B tk mv lb l (.slice va n c) m ls w) (hkp : KP R L B ws w)
    (hkd : (IntKind.u64.wrap kd).tmod 5 = 4) (r : Nat) (hr8 : r < 8) (hro : ro = (r : Int)) (p : Nat) (hp : lb.getD r undef = ptr p) :
    Code.wp Tryz.prog (partIn Tryz.f3.body 1 14) (fun x a w => x = .normal ∧ MO R L B tk ws v2 v3 v4 v11 i a w) a w := by
  have S0 := Bx.mk (MS.mk (ab := ab) (nb := nb) (cb := cb) hS hkp hrow hfb)
  have HX := Bx.mk (And.intro hXR hXL)
  have HFt := Bx.mk hfit
  subst hro
  have q : decide (0 ≤ (r : Int) ∧ (r : Int) < 8) = true := decide_eq_true ⟨by omega, by omega⟩
  rw [q] at hG
  have q0 : (0 : Int) ≤ (r : Int) := by omega
  have q8 : (r : Int) < 8 := by omega
  clear q hf
  obtain ⟨bs, hko, hlf, hbl⟩ : ∃ bs, KeyO w B (ptr p) bs ∧ FB R L w (ls.getD r undef) (1 :: bs) ∧ bs.length ≤ 40 := by
    rcases hS.labs r hr8 with ⟨h, -⟩ | ⟨q, bs, h, h2, h3, h4⟩
    · rw [hp] at h
      unfold ptr at h
      injection h with h
      cases h
    · rw [hp] at h
      obtain rfl := ptr_inj7 h
      exact ⟨bs, h2, h3, h4⟩
  obtain ⟨al, n0, c0, hls⟩ : ∃ a n c, ls.getD r undef = .slice (some a) n c := by
    obtain ⟨a, c, h1, h2, h3, h4⟩ := hlf.1
    obtain ⟨c', o, ha, -⟩ := h4 (by simp)
    exact ⟨⟨c', o, none⟩, _, c, by rw [h1, ha]⟩
  rw [hls] at hlf
  obtain ⟨ad, cd, hcut, hdr⟩ := cut_rest (1 :: bs) (some al) n0 c0 1 (n0 - 1) w hlf.1 (by
    obtain ⟨a, c, h1, -⟩ := hlf.1
    injection h1 with h1 h2 h3
    rw [h2]
    simp) rfl
  obtain ⟨nd, hnd⟩ : ∃ nd, n0 - 1 = nd := ⟨_, rfl⟩
  rw [hnd] at hcut hdr
  have hdr : Bytes w (.slice ad nd cd) bs := hdr
  have hcut : ∀ W, (Instr.slice 22 (.slice (some al) n0 c0) (some (.int .i64 1)) none none).run Tryz.prog W = .ok (.slice ad nd cd) W := hcut
  have HLs := Bx.mk hls
  have HDr := Bx.mk hdr
  have HKo := Bx.mk hko
  have HBl := Bx.mk hbl
  have HPp := Bx.mk hp
  clear hko hlf hbl hls hdr hnd hp
  clear hS hkp hrow hfb hXR hXL hfit
  obtain ⟨x, rfl, hx⟩ := open351 hG.fr
  have e2 := (hx 2).symm.trans hG.s2
  have e3 := (hx 3).symm.trans hG.s3
  have e4 := (hx 4).symm.trans hG.s4
  have e11 := (hx 11).symm.trans hG.s11
  have e12 := (hx 12).symm.trans hG.s12
  have e14 := (hx 14).symm.trans hG.s14
  have e15 := (hx 15).symm.trans hG.s15
  have e16 := (hx 16).symm.trans hG.s16
  have e17 := (hx 17).symm.trans hG.s17
  have e18 := (hx 18).symm.trans hG.s18
  have e19 := (hx 19).symm.trans hG.s19
  have e20 := (hx 20).symm.trans hG.s20
  clear hG hx
  rw [e2, e3, e4, e11, e12, e14, e15, e16, e17, e18, e19, e20]
  clear e2 e3 e4 e11 e12 e14 e15 e16 e17 e18 e19 e20
  have k0 : w.cell? ⟨X, 0, none⟩ = some (.int .i64 kd) := by rw [cell_of_row _ _ _ _ _ _ (S0.out.row)]; rfl
  have k1 : w.cell? ⟨X, 1, none⟩ = some (.int .i64 (r : Int)) := by rw [cell_of_row _ _ _ _ _ _ (S0.out.row)]; rfl
  have k2 : w.cell? ⟨X, 2, none⟩ = some (.int .i64 ci) := by rw [cell_of_row _ _ _ _ _ _ (S0.out.row)]; rfl
  have k3 : w.cell? ⟨X, 3, none⟩ = some (.int .i64 cr) := by rw [cell_of_row _ _ _ _ _ _ (S0.out.row)]; rfl
  have k4 : w.cell? ⟨X, 4, none⟩ = some (.int .i64 cx) := by rw [cell_of_row _ _ _ _ _ _ (S0.out.row)]; rfl
  have k5 : w.cell? ⟨X, 5, none⟩ = some (.int .i64 cq) := by rw [cell_of_row _ _ _ _ _ _ (S0.out.row)]; rfl
  have k6 : w.cell? ⟨X, 6, none⟩ = some (.slice ab nb cb) := by rw [cell_of_row _ _ _ _ _ _ (S0.out.row)]; rfl
  conv => arg 2; whnf
  have hsn := fun W => some_nil al n0 c0 W
  go_wp2_with fail
  refine (label_ok R r p tk mv lb bs w S0.out.st.ring hr8 HPp.out HKo.out.key (by have := HBl.out; omega)).mono ?_
  rintro e w1 ⟨v', rfl, hk', hb⟩
  obtain ⟨p', hv'⟩ : ∃ p', v' = .pointer (some ⟨p', 0, none⟩) := by
    obtain ⟨p', s', h, -⟩ := hk'
    exact ⟨p', h⟩
  subst hv'
  have S1 := Bx.mk (S0.out.later hb)
  have HK1 := Bx.mk hk'.key
  have HD1 := Bx.mk (HDr.out.later hb)
  have jL : w1.cell? ⟨L, r, none⟩ = some (.slice (some al) n0 c0) := by
    have h1 := S1.out.st.row
    rw [cell_of_row _ _ _ _ _ _ h1.1, List.getElem?_toArray, ← HLs.out]
    have h2 : r < ls.length := by rw [h1.2]; exact hr8
    simp [List.getD_eq_getElem?_getD, h2]
  have HLt : Bx (∀ {W W' : World}, (W.cell? ⟨X, 1, none⟩ = some (.int .i64 (r : Int)) ∧ W.cell? ⟨L, r, none⟩ = some (.slice (some al) n0 c0)) ∧ Bx (MS R L B X tk ws mv lb l (.slice va n c) m ls kd (r : Int) ci cr cx cq ab nb cb (.slice a1 kn c1) (ks.take 40) W ∧ IsKey W (.pointer (some ⟨p', 0, none⟩)) bs ∧ Bytes W (.slice ad nd cd) bs) → Below W.heap.size W W' → (W'.cell? ⟨X, 1, none⟩ = some (.int .i64 (r : Int)) ∧ W'.cell? ⟨L, r, none⟩ = some (.slice (some al) n0 c0)) ∧ Bx (MS R L B X tk ws mv lb l (.slice va n c) m ls kd (r : Int) ci cr cx cq ab nb cb (.slice a1 kn c1) (ks.take 40) W' ∧ IsKey W' (.pointer (some ⟨p', 0, none⟩)) bs ∧ Bytes W' (.slice ad nd cd) bs)) := ⟨fun h hb => ⟨⟨cell_later h.1.1 hb, cell_later h.1.2 hb⟩, ⟨h.2.out.1.later hb, h.2.out.2.1.later hb, h.2.out.2.2.later hb⟩⟩⟩
  clear hb hk' S0 HLs HDr HKo k0 k1 k2 k3 k4 k5 k6
  have k1 : w1.cell? ⟨X, 1, none⟩ = some (.int .i64 (r : Int)) := by rw [cell_of_row _ _ _ _ _ _ (S1.out.row)]; rfl
  have HS0 := Bx.mk (HLt.out (W' := w1.drew) ⟨⟨k1, jL⟩, ⟨S1.out, HK1.out, HD1.out⟩⟩ (Below.refl _ _).drew)
  go_upto_region 22 with fail
  clear k1 jL S1 HK1 HD1
  refine wp_region_noPanic ?_
  refine wp_region_held_drew (S := fun W => (W.cell? ⟨X, 1, none⟩ = some (.int .i64 (r : Int)) ∧ W.cell? ⟨L, r, none⟩ = some (.slice (some al) n0 c0)) ∧ Bx (MS R L B X tk ws mv lb l (.slice va n c) m ls kd (r : Int) ci cr cx cq ab nb cb (.slice a1 kn c1) (ks.take 40) W ∧ IsKey W (.pointer (some ⟨p', 0, none⟩)) bs ∧ Bytes W (.slice ad nd cd) bs)) (by kernel_rfl) (HS0.out) (fun hHeld => ?_)
  generalize w1.drew = V0 at *
  clear HS0
  refine takeL 0 (v := ?_) rfl (by kernel_rfl) (by kernel_rfl) (by kernel_rfl) (fun _ _ _ h => h) (Or.inl ⟨by rfl, ?_⟩) hHeld ?_
  rotate_left 1
  · (intro w hSw; go_simp; try with_reducible rfl)
  try simp only [Act.put, List.setIfInBounds_toArray, List.set_cons_zero, List.set_cons_succ]
  refine takeL 1 (v := ?_) rfl (by kernel_rfl) (by kernel_rfl) (by kernel_rfl) (fun _ _ _ h => h) (Or.inl ⟨by rfl, ?_⟩) hHeld ?_
  rotate_left 1
  · (intro w hSw; go_simp; try with_reducible rfl)
  try simp only [Act.put, List.setIfInBounds_toArray, List.set_cons_zero, List.set_cons_succ]
  refine takeL 2 (v := ?_) rfl (by kernel_rfl) (by kernel_rfl) (by kernel_rfl) (fun _ _ _ h => h) (Or.inl ⟨by rfl, ?_⟩) hHeld ?_
  rotate_left 1
  · (intro w hSw; go_simp; try with_reducible rfl)
  try simp only [Act.put, List.setIfInBounds_toArray, List.set_cons_zero, List.set_cons_succ]
  refine takeL 3 (v := ?_) rfl (by kernel_rfl) (by kernel_rfl) (by kernel_rfl) (fun _ _ _ h => h) (Or.inl ⟨by rfl, ?_⟩) hHeld ?_
  rotate_left 1
  · (intro w hSw; go_simp; try with_reducible rfl)
  try simp only [Act.put, List.setIfInBounds_toArray, List.set_cons_zero, List.set_cons_succ]
  refine takeL 5 (v := ?_) rfl (by kernel_rfl) (by kernel_rfl) (by kernel_rfl) (fun _ _ _ h => h) (Or.inl ⟨by rfl, ?_⟩) hHeld ?_
  rotate_left 1
  · (intro w hSw; go_simp; try with_reducible rfl)
  try simp only [Act.put, List.setIfInBounds_toArray, List.set_cons_zero, List.set_cons_succ]
  refine takeL 6 (v := ?_) rfl (by kernel_rfl) (by kernel_rfl) (by kernel_rfl) (fun _ _ _ h => h) (Or.inl ⟨by rfl, ?_⟩) hHeld ?_
  rotate_left 1
  · (intro w hSw; obtain ⟨⟨q1, q2⟩, -⟩ := hSw; go_simp; try with_reducible rfl)
  try simp only [Act.put, List.setIfInBounds_toArray, List.set_cons_zero, List.set_cons_succ]
  refine takeL 7 (v := ?_) rfl (by kernel_rfl) (by kernel_rfl) (by kernel_rfl) (fun _ _ _ h => h) (Or.inl ⟨by rfl, ?_⟩) hHeld ?_
  rotate_left 1
  · (intro w hSw; go_simp; try with_reducible rfl)
  try simp only [Act.put, List.setIfInBounds_toArray, List.set_cons_zero, List.set_cons_succ]
  refine takeL 8 (v := ?_) rfl (by kernel_rfl) (by kernel_rfl) (by kernel_rfl) (fun _ _ _ h => h) (Or.inl ⟨by rfl, ?_⟩) hHeld ?_
  rotate_left 1
  · (intro w hSw; obtain ⟨⟨q1, q2⟩, -⟩ := hSw; go_simp; try with_reducible rfl)
  try simp only [Act.put, List.setIfInBounds_toArray, List.set_cons_zero, List.set_cons_succ]
  refine takeL 9 (v := ?_) rfl (by kernel_rfl) (by kernel_rfl) (by kernel_rfl) (fun _ _ _ h => h) (Or.inl ⟨by rfl, ?_⟩) hHeld ?_
  rotate_left 1
  · (intro w hSw; go_simp; try with_reducible rfl)
  try simp only [Act.put, List.setIfInBounds_toArray, List.set_cons_zero, List.set_cons_succ]
  refine stepL 4 (by kernel_rfl) rfl (fun K hK => ?_)
  go_simp
  refine (kbytes_any bs _ _ hHeld.2.out.2.1 (by have := HBl.out; omega)).mono ?_
  rintro e V1 ⟨vb, rfl, hob, hb⟩
  show K _ _
  have HVB := Bx.mk hob.bytes
  clear hob
  refine hK.out _ _ (HLt.out hHeld hb) (fun hHeld => ?_)
  clear hK K hb
  try simp only [Act.put, List.setIfInBounds_toArray, List.set_cons_zero, List.set_cons_succ]
  refine stepL 10 (by kernel_rfl) rfl (fun K hK => ?_)
  go_simp
  refine (same_drew7 bs vb _ _ HVB.out hHeld.2.out.2.2 (by have := HBl.out; omega)).mono ?_
  rintro e V2 ⟨rfl, hb⟩
  show K _ _
  clear HVB
  refine hK.out _ _ (HLt.out hHeld hb) (fun hHeld => ?_)
  clear hK K hb
  try simp only [Act.put, List.setIfInBounds_toArray, List.set_cons_zero, List.set_cons_succ]
  refine takeL 11 (v := ?_) rfl (by kernel_rfl) (by kernel_rfl) (by kernel_rfl) (fun _ _ _ h => h) (Or.inl ⟨by rfl, ?_⟩) hHeld ?_
  rotate_left 1
  · (intro w hSw; go_simp; try with_reducible rfl)
  try simp only [Act.put, List.setIfInBounds_toArray, List.set_cons_zero, List.set_cons_succ]
  refine takeL 12 (v := ?_) rfl (by kernel_rfl) (by kernel_rfl) (by kernel_rfl) (fun _ _ _ h => h) (Or.inl ⟨by rfl, ?_⟩) hHeld ?_
  rotate_left 1
  · (intro w hSw; go_simp; try with_reducible rfl)
  try simp only [Act.put, List.setIfInBounds_toArray, List.set_cons_zero, List.set_cons_succ]
  refine wpAnyH_done (by kernel_rfl) ?_ _
  refine NoPanic.normal ?_
  have S9 := Bx.mk (hHeld.2.out.1)
  clear hHeld HLt
  go_wp2
  have h1 := S9.out.st
  have h2 := S9.out.kp
  clear S9
  refine ⟨va, n, c, mv, lb, l, m, ls, ?_, h1, h2⟩
  exact ⟨⟨rfl, rfl⟩, rfl, rfl, rfl, rfl, rfl, rfl, rfl, rfl⟩
end Go.Proofs.YtnefpjdjnjcmbaaGreatDoor
namespace Go.Proofs.YtnefpjdjnjcmbaaGreatDoor
open Go Go.RowKit
theorem range_later7 {W W1 : World} {g o : Nat} {x : Value} {l : List Value} (h : W.rangeAt g o (x :: l)) (hb : Below W.heap.size W W1) : W1.rangeAt g o (x :: l) := range_acts h hb
theorem range_ring {W W1 : World} {R B g o : Nat} {tk : List Value} {mv : Value} {lb : List Value} {l : List (Cl × Nat)} {xs : List Value} (h : W.rangeAt g o xs) (h3 : Ring3 R B tk mv lb l W W1) (hg : g ≠ R) : W1.rangeAt g o xs := fun j u hj => h3.2.2.cell (h j u hj) hg hg
set_option maxRecDepth 100000 in
set_option maxHeartbeats 4000000 in
/-- From of claims whose key is known. -/
theorem mid_from_some (R L B : Nat) (tk : List Value) (ws : World) (v2 v3 v4 v11 : Value) (i : Nat) (va : Option Addr) (n c : Nat) (mv : Value) (lb : List Value) (l : List (Cl × Nat)) (m : List (Cl × Value)) (ls : List Value) (X : Nat) (at' : Int) (ab a1 : Option Addr) (nb cb c1 kn : Nat) (kd ro ci cr cx cq : Int) (ks : List UInt8) (a : Act) (w : World)
    (hG : RG v2 v3 v4 v11 (.pointer (some ⟨R, 0, none⟩)) (.slice va n c) (.pointer (some ⟨L, 0, none⟩)) (.int .i64 (i : Int)) (.pointer (some ⟨X, 0, none⟩)) (.slice a1 kn c1) (.int .i64 at') (.bool (decide (0 ≤ ro ∧ ro < 8))) a) (hf : FindQ m ⟨ci, cr, cx, cq⟩ (.returned (.int .i64 at'))) (hrow : w.heap[X]? = some (.cells #[.int .i64 kd, .int .i64 ro, .int .i64 ci, .int .i64 cr, .int .i64 cx, .int .i64 cq, .slice ab nb cb] 40 (0, 0))) (hXR : X ≠ R) (hXL : X ≠ L) (hfit : (⟨kd, ro, ⟨ci, cr, cx, cq⟩, ks⟩ : Ac).fit) (hfb : FB R L w (.slice a1 kn c1) (ks.take 40)) (hS : RSt R L B tk mv lb l (.slice va n c) m ls w) (hkp : KP R L B ws w)
    (hkd : (IntKind.u64.wrap kd).tmod 5 = 2) (p : Nat) (ha : atC l ⟨ci, cr, cx, cq⟩ = some p) :
    Code.wp Tryz.prog (partIn Tryz.f3.body 1 14) (fun x a w => x = .normal ∧ MO R L B tk ws v2 v3 v4 v11 i a w) a w := by
  have S0 := Bx.mk (MS.mk (ab := ab) (nb := nb) (cb := cb) hS hkp hrow hfb)
  have HX := Bx.mk (And.intro hXR hXL)
  have HFt := Bx.mk hfit
  obtain ⟨k, hk, rfl, hkc⟩ := find_yes hS.srt hf ha
  clear hf
  obtain ⟨p1, bs, h1, hko, hlf, hbl⟩ := hS.keys (m.getD k e0) (by
    rw [List.getD_eq_getElem?_getD, List.getElem?_eq_getElem hk]
    exact List.getElem_mem hk)
  rw [hkc, ha] at h1
  obtain rfl : p = p1 := by injection h1
  obtain ⟨g, cap, hv, hcap, hg⟩ := hS.own.at_ k hk
  injection hv with p1 p2 p3
  subst p1 p2 p3
  obtain ⟨ay, cy, hy⟩ : ∃ a c, (m.getD k e0).2 = .slice a bs.length c := by
    obtain ⟨a, c, h, -⟩ := hlf.1
    exact ⟨a, c, h⟩
  have hg4 : w.cell? ⟨g, k * 5 + 4, none⟩ = some (m.getD k e0).2 := hg 4 _ rfl
  rw [hy] at hlf hg4
  obtain ⟨ny, hny⟩ : ∃ ny, bs.length = ny := ⟨_, rfl⟩
  rw [hny] at hlf hg4
  have HG4 := Bx.mk hg4
  have HKo := Bx.mk hko
  have HLf := Bx.mk hlf.1
  have HBl : Bx (bs.length ≤ 40) := ⟨hbl⟩
  have hk1 : (k : Int) < (m.length : Int) := by omega
  have hk0 : (0 : Int) ≤ (k : Int) := by omega
  have hml : (m.length : Int) ≤ 16 := by have := hS.few; omega
  have hnot : ¬ (k : Int) < 0 := by omega
  have hdk : decide ((k : Int) < 0) = false := decide_eq_false hnot
  clear hko hlf hbl hny hg hg4 hy h1 hkc hcap
  clear hS hkp hrow hfb hXR hXL hfit
  obtain ⟨x, rfl, hx⟩ := open351 hG.fr
  have e2 := (hx 2).symm.trans hG.s2
  have e3 := (hx 3).symm.trans hG.s3
  have e4 := (hx 4).symm.trans hG.s4
  have e11 := (hx 11).symm.trans hG.s11
  have e12 := (hx 12).symm.trans hG.s12
  have e14 := (hx 14).symm.trans hG.s14
  have e15 := (hx 15).symm.trans hG.s15
  have e16 := (hx 16).symm.trans hG.s16
  have e17 := (hx 17).symm.trans hG.s17
  have e18 := (hx 18).symm.trans hG.s18
  have e19 := (hx 19).symm.trans hG.s19
  have e20 := (hx 20).symm.trans hG.s20
  clear hG hx
  rw [e2, e3, e4, e11, e12, e14, e15, e16, e17, e18, e19, e20]
  clear e2 e3 e4 e11 e12 e14 e15 e16 e17 e18 e19 e20
  have k0 : w.cell? ⟨X, 0, none⟩ = some (.int .i64 kd) := by rw [cell_of_row _ _ _ _ _ _ (S0.out.row)]; rfl
  have k1 : w.cell? ⟨X, 1, none⟩ = some (.int .i64 ro) := by rw [cell_of_row _ _ _ _ _ _ (S0.out.row)]; rfl
  have k2 : w.cell? ⟨X, 2, none⟩ = some (.int .i64 ci) := by rw [cell_of_row _ _ _ _ _ _ (S0.out.row)]; rfl
  have k3 : w.cell? ⟨X, 3, none⟩ = some (.int .i64 cr) := by rw [cell_of_row _ _ _ _ _ _ (S0.out.row)]; rfl
  have k4 : w.cell? ⟨X, 4, none⟩ = some (.int .i64 cx) := by rw [cell_of_row _ _ _ _ _ _ (S0.out.row)]; rfl
  have k5 : w.cell? ⟨X, 5, none⟩ = some (.int .i64 cq) := by rw [cell_of_row _ _ _ _ _ _ (S0.out.row)]; rfl
  have k6 : w.cell? ⟨X, 6, none⟩ = some (.slice ab nb cb) := by rw [cell_of_row _ _ _ _ _ _ (S0.out.row)]; rfl
  conv => arg 2; whnf
  have HFr := Bx.mk fun (W : World) (h : MS R L B X tk ws mv lb l (.slice (some ⟨g, 0, none⟩) m.length c) m ls kd ro ci cr cx cq ab nb cb (.slice a1 kn c1) (ks.take 40) W) (hk : KeyO W B (ptr p) bs) => ring_from_some R B tk mv lb l ⟨ci, cr, cx, cq⟩ W h.st.ring h.st.map HFt.out.2.2.1 p bs ha hk.key (by have := HBl.out; omega)
  clear ha
  go_wp2_with fail
  refine (cto_any ⟨ci, cr, cx, cq⟩ w).mono ?_
  rintro e w1 ⟨rfl, hb⟩
  have S1 := Bx.mk (S0.out.later hb)
  have HKo1 := Bx.mk (HKo.out.later hb)
  have HLf1 := Bx.mk (HLf.out.later hb)
  have HG1 := Bx.mk (cell_later HG4.out hb)
  clear hb S0 HKo HLf HG4 k0 k1 k2 k3 k4 k5 k6
  go_wp2_with fail
  refine (HFr.out w1 S1.out HKo1.out).mono ?_
  rintro e w2 ⟨v', rfl, hk', hb⟩
  obtain ⟨p', hv'⟩ : ∃ p', v' = .pointer (some ⟨p', 0, none⟩) := by
    obtain ⟨p', s', h, -⟩ := hk'
    exact ⟨p', h⟩
  subst hv'
  have HLt : Bx (∀ {W W' : World}, W.cell? ⟨g, k * 5 + 4, none⟩ = some (.slice ay ny cy) ∧ Bx (MS R L B X tk ws mv lb l (.slice (some ⟨g, 0, none⟩) m.length c) m ls kd ro ci cr cx cq ab nb cb (.slice a1 kn c1) (ks.take 40) W ∧ IsKey W (.pointer (some ⟨p', 0, none⟩)) bs ∧ Bytes W (.slice ay ny cy) bs) → Below W.heap.size W W' → W'.cell? ⟨g, k * 5 + 4, none⟩ = some (.slice ay ny cy) ∧ Bx (MS R L B X tk ws mv lb l (.slice (some ⟨g, 0, none⟩) m.length c) m ls kd ro ci cr cx cq ab nb cb (.slice a1 kn c1) (ks.take 40) W' ∧ IsKey W' (.pointer (some ⟨p', 0, none⟩)) bs ∧ Bytes W' (.slice ay ny cy) bs)) := ⟨fun h hb => ⟨cell_later h.1 hb, ⟨h.2.out.1.later hb, h.2.out.2.1.later hb, h.2.out.2.2.later hb⟩⟩⟩
  have HS0 := Bx.mk (HLt.out (W' := w2.drew) ⟨cell_later HG1.out hb, ⟨S1.out.later hb, hk'.key, HLf1.out.later hb⟩⟩ (Below.refl _ _).drew)
  clear hb hk' S1 HKo1 HLf1 HG1 HFr
  go_upto_region 45 with fail
  refine wp_region_noPanic ?_
  refine wp_region_held_drew (S := fun W => W.cell? ⟨g, k * 5 + 4, none⟩ = some (.slice ay ny cy) ∧ Bx (MS R L B X tk ws mv lb l (.slice (some ⟨g, 0, none⟩) m.length c) m ls kd ro ci cr cx cq ab nb cb (.slice a1 kn c1) (ks.take 40) W ∧ IsKey W (.pointer (some ⟨p', 0, none⟩)) bs ∧ Bytes W (.slice ay ny cy) bs)) (by kernel_rfl) (HS0.out) (fun hHeld => ?_)
  generalize w2.drew = V0 at *
  clear HS0
  refine takeL 0 (v := ?_) rfl (by kernel_rfl) (by kernel_rfl) (by kernel_rfl) (fun _ _ _ h => h) (Or.inl ⟨by rfl, ?_⟩) hHeld ?_
  rotate_left 1
  · (intro w hSw; go_simp; try with_reducible rfl)
  try simp only [Act.put, List.setIfInBounds_toArray, List.set_cons_zero, List.set_cons_succ]
  refine takeL 1 (v := ?_) rfl (by kernel_rfl) (by kernel_rfl) (by kernel_rfl) (fun _ _ _ h => h) (Or.inl ⟨by rfl, ?_⟩) hHeld ?_
  rotate_left 1
  · (intro w hSw; go_simp; try with_reducible rfl)
  try simp only [Act.put, List.setIfInBounds_toArray, List.set_cons_zero, List.set_cons_succ]
  refine takeL 2 (v := ?_) rfl (by kernel_rfl) (by kernel_rfl) (by kernel_rfl) (fun _ _ _ h => h) (Or.inl ⟨by rfl, ?_⟩) hHeld ?_
  rotate_left 1
  · (intro w hSw; go_simp; try with_reducible rfl)
  try simp only [Act.put, List.setIfInBounds_toArray, List.set_cons_zero, List.set_cons_succ]
  refine takeL 3 (v := undef) rfl (by kernel_rfl) (by kernel_rfl) (by kernel_rfl) (fun _ _ _ h => h) (Or.inr ⟨by rfl, rfl⟩) hHeld ?_
  try simp only [Act.put, List.setIfInBounds_toArray, List.set_cons_zero, List.set_cons_succ]
  refine takeL 4 (v := undef) rfl (by kernel_rfl) (by kernel_rfl) (by kernel_rfl) (fun _ _ _ h => h) (Or.inr ⟨by rfl, rfl⟩) hHeld ?_
  try simp only [Act.put, List.setIfInBounds_toArray, List.set_cons_zero, List.set_cons_succ]
  refine takeL 5 (v := ?_) rfl (by kernel_rfl) (by kernel_rfl) (by kernel_rfl) (fun _ _ _ h => h) (Or.inl ⟨by rfl, ?_⟩) hHeld ?_
  rotate_left 1
  · (intro w hSw; go_simp; try with_reducible rfl)
  try simp only [Act.put, List.setIfInBounds_toArray, List.set_cons_zero, List.set_cons_succ]
  refine takeL 6 (v := ?_) rfl (by kernel_rfl) (by kernel_rfl) (by kernel_rfl) (fun _ _ _ h => h) (Or.inl ⟨by rfl, ?_⟩) hHeld ?_
  rotate_left 1
  · (intro w hSw; go_simp; try with_reducible rfl)
  try simp only [Act.put, List.setIfInBounds_toArray, List.set_cons_zero, List.set_cons_succ]
  refine takeL 7 (v := ?_) rfl (by kernel_rfl) (by kernel_rfl) (by kernel_rfl) (fun _ _ _ h => h) (Or.inl ⟨by rfl, ?_⟩) hHeld ?_
  rotate_left 1
  · (intro w hSw; go_simp; try with_reducible rfl)
  try simp only [Act.put, List.setIfInBounds_toArray, List.set_cons_zero, List.set_cons_succ]
  refine takeL 8 (v := ?_) rfl (by kernel_rfl) (by kernel_rfl) (by kernel_rfl) (fun _ _ _ h => h) (Or.inl ⟨by rfl, ?_⟩) hHeld ?_
  rotate_left 1
  · (intro w hSw; go_simp; try with_reducible rfl)
  try simp only [Act.put, List.setIfInBounds_toArray, List.set_cons_zero, List.set_cons_succ]
  refine takeL 9 (v := ?_) rfl (by kernel_rfl) (by kernel_rfl) (by kernel_rfl) (fun _ _ _ h => h) (Or.inl ⟨by rfl, ?_⟩) hHeld ?_
  rotate_left 1
  · (intro w hSw; go_simp; try with_reducible rfl)
  try simp only [Act.put, List.setIfInBounds_toArray, List.set_cons_zero, List.set_cons_succ]
  refine takeL 10 (v := ?_) rfl (by kernel_rfl) (by kernel_rfl) (by kernel_rfl) (fun _ _ _ h => h) (Or.inl ⟨by rfl, ?_⟩) hHeld ?_
  rotate_left 1
  · (intro w hSw; go_simp; try with_reducible rfl)
  try simp only [Act.put, List.setIfInBounds_toArray, List.set_cons_zero, List.set_cons_succ]
  refine takeL 11 (v := ?_) rfl (by kernel_rfl) (by kernel_rfl) (by kernel_rfl) (fun _ _ _ h => h) (Or.inl ⟨by rfl, ?_⟩) hHeld ?_
  rotate_left 1
  · (intro w hSw; go_simp; try with_reducible rfl)
  try simp only [Act.put, List.setIfInBounds_toArray, List.set_cons_zero, List.set_cons_succ]
  refine takeL 12 (v := ?_) rfl (by kernel_rfl) (by kernel_rfl) (by kernel_rfl) (fun _ _ _ h => h) (Or.inl ⟨by rfl, ?_⟩) hHeld ?_
  rotate_left 1
  · (intro w hSw; go_simp; try with_reducible rfl)
  try simp only [Act.put, List.setIfInBounds_toArray, List.set_cons_zero, List.set_cons_succ]
  refine takeL 13 (v := ?_) rfl (by kernel_rfl) (by kernel_rfl) (by kernel_rfl) (fun _ _ _ h => h) (Or.inl ⟨by rfl, ?_⟩) hHeld ?_
  rotate_left 1
  · (intro w hSw; go_simp; try with_reducible rfl)
  try simp only [Act.put, List.setIfInBounds_toArray, List.set_cons_zero, List.set_cons_succ]
  refine takeL 15 (v := ?_) rfl (by kernel_rfl) (by kernel_rfl) (by kernel_rfl) (fun _ _ _ h => h) (Or.inl ⟨by rfl, ?_⟩) hHeld ?_
  rotate_left 1
  · (intro w hSw; go_simp; try with_reducible rfl)
  try simp only [Act.put, List.setIfInBounds_toArray, List.set_cons_zero, List.set_cons_succ]
  refine takeL 16 (v := ?_) rfl (by kernel_rfl) (by kernel_rfl) (by kernel_rfl) (fun _ _ _ h => h) (Or.inl ⟨by rfl, ?_⟩) hHeld ?_
  rotate_left 1
  · (intro w hSw; go_simp; try with_reducible rfl)
  try simp only [Act.put, List.setIfInBounds_toArray, List.set_cons_zero, List.set_cons_succ]
  refine takeL 17 (v := ?_) rfl (by kernel_rfl) (by kernel_rfl) (by kernel_rfl) (fun _ _ _ h => h) (Or.inl ⟨by rfl, ?_⟩) hHeld ?_
  rotate_left 1
  · (intro w hSw; go_simp; try with_reducible rfl)
  try simp only [Act.put, List.setIfInBounds_toArray, List.set_cons_zero, List.set_cons_succ]
  refine takeL 18 (v := ?_) rfl (by kernel_rfl) (by kernel_rfl) (by kernel_rfl) (fun _ _ _ h => h) (Or.inl ⟨by rfl, ?_⟩) hHeld ?_
  rotate_left 1
  · (intro w hSw; go_simp; try with_reducible rfl)
  try simp only [Act.put, List.setIfInBounds_toArray, List.set_cons_zero, List.set_cons_succ]
  refine takeL 19 (v := ?_) rfl (by kernel_rfl) (by kernel_rfl) (by kernel_rfl) (fun _ _ _ h => h) (Or.inl ⟨by rfl, ?_⟩) hHeld ?_
  rotate_left 1
  · (intro w hSw; obtain ⟨q1, -⟩ := hSw; go_simp; try with_reducible rfl)
  try simp only [Act.put, List.setIfInBounds_toArray, List.set_cons_zero, List.set_cons_succ]
  refine stepL 14 (by kernel_rfl) rfl (fun K hK => ?_)
  go_simp
  refine (kbytes_any bs _ _ hHeld.2.out.2.1 (by have := HBl.out; omega)).mono ?_
  rintro e V1 ⟨vb, rfl, hob, hb⟩
  show K _ _
  have HVB := Bx.mk hob.bytes
  clear hob
  refine hK.out _ _ (HLt.out hHeld hb) (fun hHeld => ?_)
  clear hK K hb
  try simp only [Act.put, List.setIfInBounds_toArray, List.set_cons_zero, List.set_cons_succ]
  refine stepL 20 (by kernel_rfl) rfl (fun K hK => ?_)
  go_simp
  refine (same_drew7 bs vb _ _ HVB.out hHeld.2.out.2.2 (by have := HBl.out; omega)).mono ?_
  rintro e V2 ⟨rfl, hb⟩
  show K _ _
  clear HVB
  refine hK.out _ _ (HLt.out hHeld hb) (fun hHeld => ?_)
  clear hK K hb
  try simp only [Act.put, List.setIfInBounds_toArray, List.set_cons_zero, List.set_cons_succ]
  refine takeL 21 (v := ?_) rfl (by kernel_rfl) (by kernel_rfl) (by kernel_rfl) (fun _ _ _ h => h) (Or.inl ⟨by rfl, ?_⟩) hHeld ?_
  rotate_left 1
  · (intro w hSw; go_simp; try with_reducible rfl)
  try simp only [Act.put, List.setIfInBounds_toArray, List.set_cons_zero, List.set_cons_succ]
  refine takeL 22 (v := ?_) rfl (by kernel_rfl) (by kernel_rfl) (by kernel_rfl) (fun _ _ _ h => h) (Or.inl ⟨by rfl, ?_⟩) hHeld ?_
  rotate_left 1
  · (intro w hSw; go_simp; try with_reducible rfl)
  try simp only [Act.put, List.setIfInBounds_toArray, List.set_cons_zero, List.set_cons_succ]
  refine takeL 23 (v := ?_) rfl (by kernel_rfl) (by kernel_rfl) (by kernel_rfl) (fun _ _ _ h => h) (Or.inl ⟨by rfl, ?_⟩) hHeld ?_
  rotate_left 1
  · (intro w hSw; go_simp; try with_reducible rfl)
  try simp only [Act.put, List.setIfInBounds_toArray, List.set_cons_zero, List.set_cons_succ]
  refine takeL 24 (v := ?_) rfl (by kernel_rfl) (by kernel_rfl) (by kernel_rfl) (fun _ _ _ h => h) (Or.inl ⟨by rfl, ?_⟩) hHeld ?_
  rotate_left 1
  · (intro w hSw; go_simp; try with_reducible rfl)
  try simp only [Act.put, List.setIfInBounds_toArray, List.set_cons_zero, List.set_cons_succ]
  refine wpAnyH_done (by kernel_rfl) ?_ _
  refine NoPanic.normal ?_
  have S9 := Bx.mk (hHeld.2.out.1)
  clear hHeld HLt
  go_wp2
  have h1 := S9.out.st
  have h2 := S9.out.kp
  clear S9
  refine ⟨_, _, _, mv, lb, l, m, ls, ?_, h1, h2⟩
  exact ⟨⟨rfl, rfl⟩, rfl, rfl, rfl, rfl, rfl, rfl, rfl, rfl⟩
end Go.Proofs.YtnefpjdjnjcmbaaGreatDoor
namespace Go.Proofs.YtnefpjdjnjcmbaaGreatDoor
open Go Go.RowKit
theorem RSt.same3 {R L B : Nat} {tk : List Value} {mv : Value} {lb : List Value} {l : List (Cl × Nat)} {vm : Value} {m : List (Cl × Value)} {ls : List Value} {W W1 : World} (h : RSt R L B tk mv lb l vm m ls W) (h3 : Ring3 R B tk mv lb l W W1) : RSt R L B tk mv lb l vm m ls W1 := by
  obtain ⟨hr, hm, kp0⟩ := h3
  have kp : KP R L B W W1 := kp0.weaken
  refine { ring := hr, map := hm, low := ⟨h.low.1, h.low.2.1, h.low.2.2.1, Nat.le_trans h.low.2.2.2 kp.size⟩, own := h.own.keep kp h.low.1 h.low.2.1, srt := h.srt, few := h.few, keys := fun y hy => ?_, row := ⟨?_, h.row.2⟩, labs := fun r hr8 => ?_ }
  · obtain ⟨q, b2, h1, h2, h3, h4⟩ := h.keys y hy
    exact ⟨q, b2, h1, h2.keep kp h.low.1 h.low.2.1, h3.keep kp, h4⟩
  · exact kp0.block L _ h.row.1 (Ne.symm h.low.2.2.1) (Ne.symm h.low.2.2.1) (.inr rfl)
  · rcases h.labs r hr8 with h0 | ⟨q, b2, h1, h2, h3, h4⟩
    · exact .inl h0
    · exact .inr ⟨q, b2, h1, h2.keep kp h.low.1 h.low.2.1, h3.keep kp, h4⟩
theorem cells5s_app (a b : List (Cl × Value)) : cells5s (a ++ b) = cells5s a ++ cells5s b := by
  induction a with
  | nil => rfl
  | cons y r ih => simp only [List.cons_append, cells5s, ih]
theorem cells5s_len (a : List (Cl × Value)) : (cells5s a).length = a.length * 5 := by
  induction a with
  | nil => rfl
  | cons y r ih =>
    simp only [cells5s, List.length_cons, ih]
    omega
theorem cells5s_one (a : List (Cl × Value)) (h : ∀ y ∈ a, y.2.oneCell' = true) : ∀ u ∈ cells5s a, u.oneCell' = true := by
  induction a with
  | nil => intro u hu; cases hu
  | cons y r ih =>
    intro u hu
    simp only [cells5s, List.mem_cons] at hu
    rcases hu with rfl | rfl | rfl | rfl | rfl | hu
    · rfl
    · rfl
    · rfl
    · rfl
    · exact h y (.head _)
    · exact ih (fun z hz => h z (.tail _ hz)) u hu
theorem OwnE.all_ {w : World} {base g n c : Nat} {l : List (Cl × Value)} (h : OwnE w base (.slice (some ⟨g, 0, none⟩) n c) l) : w.rangeAt g 0 (cells5s l) := by
  rcases h.2 with ⟨hv, h0⟩ | ⟨g', cap, cur, hv, _, hg, hc1, hc2, hc3, hc4⟩
  · cases hv
  · injection hv with h1 h2 h3
    injection h1 with h1
    injection h1 with h1
    subst h1
    intro j u hj
    rw [cell_of_row _ _ _ _ _ _ hg, ← Array.getElem?_toList, Nat.zero_add]
    have hlt := (List.getElem?_eq_some_iff.1 hj).1
    rw [cells5s_len] at hlt
    have h1 : (cur.toList.take (l.length * 5))[j]? = (cells5s l)[j]? := by rw [hc4]
    rw [List.getElem?_take_of_lt (by omega)] at h1
    rw [h1]
    exact hj
theorem rows_take {W : World} {g : Nat} {l : List (Cl × Value)} (h : W.rangeAt g 0 (cells5s l)) (k : Nat) : W.rangeAt g 0 (cells5s (l.take k)) := fun j u hj => h j u (by
  have e : cells5s l = cells5s (l.take k) ++ cells5s (l.drop k) := by rw [← cells5s_app, List.take_append_drop]
  rw [e, List.getElem?_append_left (List.getElem?_eq_some_iff.1 hj).1]
  exact hj)
theorem rows_drop {W : World} {g o : Nat} {l : List (Cl × Value)} (h : W.rangeAt g 0 (cells5s l)) (k : Nat) (hk : k ≤ l.length) (ho : o = k * 5 ∨ l.length = k) : W.rangeAt g o (cells5s (l.drop k)) := fun j u hj => by
  rcases ho with rfl | hl
  · have h1 := h (k * 5 + j) u (by
      have e : cells5s l = cells5s (l.take k) ++ cells5s (l.drop k) := by rw [← cells5s_app, List.take_append_drop]
      have el : (cells5s (l.take k)).length = k * 5 := by rw [cells5s_len, List.length_take, Nat.min_eq_left hk]
      rw [e, List.getElem?_append_right (by omega), el, Nat.add_sub_cancel_left]
      exact hj)
    rw [Nat.zero_add] at h1
    exact h1
  · rw [List.drop_eq_nil_of_le (by omega)] at hj
    cases hj
theorem ownE_empty (W : World) (base : Nat) (hb : base ≤ W.heap.size) : OwnE (W.alloc (.cells #[] 50)) base (.slice (some ⟨W.heap.size, 0, none⟩) 0 0) [] :=
  ⟨rfl, .inr ⟨_, 0, #[], rfl, hb, hnew _ _ _ rfl, Nat.le_refl _, by simp [maxLen], rfl, rfl⟩⟩
theorem run_apEs (w : World) (base : Nat) (v : Value) (l : List (Cl × Value)) (hown : OwnE w base v l) (g o : Nat) (ps : List (Cl × Value)) (he : ∀ y ∈ ps, y.2.oneCell' = true) (hr : w.rangeAt g o (cells5s ps)) (hn : l.length + ps.length ≤ 1000) (hbase : base ≤ w.heap.size) (ty : TypeId) (cp : Nat) :
    ∃ v' w', (Builtin.append_ #[37, 37] ty #[v, .slice (some ⟨g, o, none⟩) ps.length cp]).run Tryz.prog w = .ok v' w' ∧ OwnE w' base v' (l ++ ps) ∧ w.grownBy w' v.ownBlock := by
  have hi : Tryz.prog.info? 50 = some ((Tryz.prog.info? 50).getD default) := by kernel_rfl
  obtain ⟨v', w', hrun, h2, h3, _, _⟩ := run_append_own_at (P := Tryz.prog) w base 37 ty 50 _ (.agg #[.int .i64 0, .int .i64 0, .int .i64 0, .int .i64 0, .slice none 0 0]) 5 56 Tryz.underlying37 hi (by kernel_rfl) (by kernel_rfl) (by kernel_rfl) rfl (by omega) v l.length (cells5s l) hown ⟨g, o, none⟩ ps.length cp (cells5s ps) (by rw [cells5s_len])
    (fun j u hu => by rw [show (⟨g, o, none⟩ : Addr).add j = ⟨g, o + j, none⟩ by unfold Addr.add; split <;> simp_all]; exact hr j u hu)
    (fun u hu => cells5s_one ps he u hu) (by simp only [maxLen]; omega) (by omega) hbase
  refine ⟨v', w', hrun, ?_, h3⟩
  unfold OwnE
  rw [List.length_append, cells5s_app]
  exact h2
theorem step_apEs {w : World} {ops : Array Oper} {o : Oper} {a : Act} {K : Act → World → Prop} {Q : Exit → Act → World → Prop} {E : Prop} (hgd : o.guard = none) (sl x : Operand)
    (ho : o.op = .call { callee := .builtin .append, args := #[sl, x], argTypes := #[37, 37] }) (base : Nat) (v : Value) (l : List (Cl × Value)) (hs : a.eval sl = v) (hown : OwnE w base v l) (g of : Nat) (ps : List (Cl × Value)) (he : ∀ y ∈ ps, y.2.oneCell' = true) (n cp : Nat) (hn : ps.length = n) (hx : a.eval x = .slice (some ⟨g, of, none⟩) n cp) (hr : w.rangeAt g of (cells5s ps))
    (hnl : l.length + ps.length ≤ 1000) (hbase : base ≤ w.heap.size)
    (h : ∀ v' w', OwnE w' base v' (l ++ ps) → w.grownBy w' v.ownBlock → K (a.put o.dst v') w') : if Region.wanted o (yielded ops a.tmps) = true then Oper.wp Tryz.prog o a w K Q else E := by
  have hw : Region.wanted o (yielded ops a.tmps) = true := by simp [Region.wanted, hgd]
  rw [if_pos hw]
  subst hn
  obtain ⟨v', w', hrun, h1, h2⟩ := run_apEs w base v l hown g of ps he hr hnl hbase o.type cp
  unfold Oper.wp
  simp [execOp, ho, resolve, invoke, builtin, hs, hx, hrun, Result.andThen]
  exact h v' w' h1 h2
set_option maxRecDepth 100000 in
theorem cutE_h (g n c k : Nat) (h : k ≤ c) (W : World) : (Instr.slice 37 (.slice (some ⟨g, 0, none⟩) n c) none (some (.int .i64 (k : Int))) none).run Tryz.prog W = .ok (.slice (some ⟨g, 0, none⟩) k c) W := by
  have he : Tryz.prog.elem 37 = 50 := by kernel_rfl
  have hs : ((sizeOf 50).run Tryz.prog W) = .ok 5 W := by kernel_rfl
  rw [run_slice_h W 37 _ n c (by rw [he]; exact Tryz.underlying37) .i64 (k : Int) (by omega) (by omega), he, hs]
  simp only [Result.andThen, sliced, Int.toNat_natCast, Nat.zero_mul, Nat.sub_zero]
  congr 2
  simp [Addr.add]
set_option maxRecDepth 100000 in
theorem cutE_l (g n c k : Nat) (h : k < n) (h2 : n ≤ c) : ∃ o, (∀ W : World, (Instr.slice 37 (.slice (some ⟨g, 0, none⟩) n c) (some (.int .i64 ((k : Int) + 1))) none none).run Tryz.prog W = .ok (.slice (some ⟨g, o, none⟩) (n - (k + 1)) (c - (k + 1))) W) ∧ (o = (k + 1) * 5 ∨ n = k + 1) := by
  have he : Tryz.prog.elem 37 = 50 := by kernel_rfl
  have e1 : ((k : Int) + 1) = ((k + 1 : Nat) : Int) := by omega
  by_cases hc : c = k + 1
  · refine ⟨0, fun W => ?_, .inr (by omega)⟩
    have hs : ((sizeOf 50).run Tryz.prog W) = .ok 5 W := by kernel_rfl
    rw [e1, run_slice_l W 37 _ n c (by rw [he]; exact Tryz.underlying37) .i64 ((k + 1 : Nat) : Int) (by omega) (by omega), he, hs]
    simp only [Result.andThen, sliced, Int.toNat_natCast]
    rw [if_pos hc]
  · refine ⟨(k + 1) * 5, fun W => ?_, .inl rfl⟩
    have hs : ((sizeOf 50).run Tryz.prog W) = .ok 5 W := by kernel_rfl
    rw [e1, run_slice_l W 37 _ n c (by rw [he]; exact Tryz.underlying37) .i64 ((k + 1 : Nat) : Int) (by omega) (by omega), he, hs]
    simp only [Result.andThen, sliced, Int.toNat_natCast]
    rw [if_neg hc]
    simp [Addr.add]
end Go.Proofs.YtnefpjdjnjcmbaaGreatDoor
namespace Go.Proofs.YtnefpjdjnjcmbaaGreatDoor
open Go Go.RowKit
set_option maxRecDepth 100000 in
set_option maxHeartbeats 4000000 in
/-- Drop of claims without a key. -/
theorem mid_drop_none (R L B : Nat) (tk : List Value) (ws : World) (v2 v3 v4 v11 : Value) (i : Nat) (va : Option Addr) (n c : Nat) (mv : Value) (lb : List Value) (l : List (Cl × Nat)) (m : List (Cl × Value)) (ls : List Value) (X : Nat) (at' : Int) (ab a1 : Option Addr) (nb cb c1 kn : Nat) (kd ro ci cr cx cq : Int) (ks : List UInt8) (a : Act) (w : World)
    (hG : RG v2 v3 v4 v11 (.pointer (some ⟨R, 0, none⟩)) (.slice va n c) (.pointer (some ⟨L, 0, none⟩)) (.int .i64 (i : Int)) (.pointer (some ⟨X, 0, none⟩)) (.slice a1 kn c1) (.int .i64 at') (.bool (decide (0 ≤ ro ∧ ro < 8))) a) (hf : FindQ m ⟨ci, cr, cx, cq⟩ (.returned (.int .i64 at'))) (hrow : w.heap[X]? = some (.cells #[.int .i64 kd, .int .i64 ro, .int .i64 ci, .int .i64 cr, .int .i64 cx, .int .i64 cq, .slice ab nb cb] 40 (0, 0))) (hXR : X ≠ R) (hXL : X ≠ L) (hfit : (⟨kd, ro, ⟨ci, cr, cx, cq⟩, ks⟩ : Ac).fit) (hfb : FB R L w (.slice a1 kn c1) (ks.take 40)) (hS : RSt R L B tk mv lb l (.slice va n c) m ls w) (hkp : KP R L B ws w)
    (hkd : (IntKind.u64.wrap kd).tmod 5 = 1) (ha : atC l ⟨ci, cr, cx, cq⟩ = none) :
    Code.wp Tryz.prog (partIn Tryz.f3.body 1 14) (fun x a w => x = .normal ∧ MO R L B tk ws v2 v3 v4 v11 i a w) a w := by
  have S0 := Bx.mk (MS.mk (ab := ab) (nb := nb) (cb := cb) hS hkp hrow hfb)
  have HX := Bx.mk (And.intro hXR hXL)
  have HFt := Bx.mk hfit
  obtain rfl : at' = -1 := find_no hS.map.nd hS.srt hf ha
  have HNa := Bx.mk ha
  clear hf ha
  clear hS hkp hrow hfb hXR hXL hfit
  obtain ⟨x, rfl, hx⟩ := open351 hG.fr
  have e2 := (hx 2).symm.trans hG.s2
  have e3 := (hx 3).symm.trans hG.s3
  have e4 := (hx 4).symm.trans hG.s4
  have e11 := (hx 11).symm.trans hG.s11
  have e12 := (hx 12).symm.trans hG.s12
  have e14 := (hx 14).symm.trans hG.s14
  have e15 := (hx 15).symm.trans hG.s15
  have e16 := (hx 16).symm.trans hG.s16
  have e17 := (hx 17).symm.trans hG.s17
  have e18 := (hx 18).symm.trans hG.s18
  have e19 := (hx 19).symm.trans hG.s19
  have e20 := (hx 20).symm.trans hG.s20
  clear hG hx
  rw [e2, e3, e4, e11, e12, e14, e15, e16, e17, e18, e19, e20]
  clear e2 e3 e4 e11 e12 e14 e15 e16 e17 e18 e19 e20
  have k0 : w.cell? ⟨X, 0, none⟩ = some (.int .i64 kd) := by rw [cell_of_row _ _ _ _ _ _ (S0.out.row)]; rfl
  have k1 : w.cell? ⟨X, 1, none⟩ = some (.int .i64 ro) := by rw [cell_of_row _ _ _ _ _ _ (S0.out.row)]; rfl
  have k2 : w.cell? ⟨X, 2, none⟩ = some (.int .i64 ci) := by rw [cell_of_row _ _ _ _ _ _ (S0.out.row)]; rfl
  have k3 : w.cell? ⟨X, 3, none⟩ = some (.int .i64 cr) := by rw [cell_of_row _ _ _ _ _ _ (S0.out.row)]; rfl
  have k4 : w.cell? ⟨X, 4, none⟩ = some (.int .i64 cx) := by rw [cell_of_row _ _ _ _ _ _ (S0.out.row)]; rfl
  have k5 : w.cell? ⟨X, 5, none⟩ = some (.int .i64 cq) := by rw [cell_of_row _ _ _ _ _ _ (S0.out.row)]; rfl
  have k6 : w.cell? ⟨X, 6, none⟩ = some (.slice ab nb cb) := by rw [cell_of_row _ _ _ _ _ _ (S0.out.row)]; rfl
  conv => arg 2; whnf
  have HR0 : Bx (w.drew.rangeAt X 2 [.int .i64 ci, .int .i64 cr, .int .i64 cx, .int .i64 cq]) := ⟨range_later7 (W := w) (fun j u hj => by
    rw [cell_of_row _ _ _ _ _ _ S0.out.row]
    match j, hj with
    | 0, hj => exact hj
    | 1, hj => exact hj
    | 2, hj => exact hj
    | 3, hj => exact hj) (Below.refl _ _).drew⟩
  have D0 : Bx (Below w.heap.size w w.drew) := ⟨(Below.refl _ _).drew⟩
  have HTo := Bx.mk fun (W : World) => cto_any ⟨ci, cr, cx, cq⟩ W
  unfold clV at HTo
  simp only at HTo
  go_upto_region 38 with fail
  clear k0 k1 k2 k3 k4 k5 k6
  refine wp_region_noPanic ?_
  refine wp_region_held_drew (S := fun W => W.rangeAt X 2 [.int .i64 ci, .int .i64 cr, .int .i64 cx, .int .i64 cq]) (by kernel_rfl) (HR0.out) (fun hHeld => ?_)
  generalize w.drew = V0 at *
  clear HR0
  refine takeL 0 (v := ?_) rfl (by kernel_rfl) (by kernel_rfl) (by kernel_rfl) (fun _ _ _ h => h) (Or.inl ⟨by rfl, ?_⟩) hHeld ?_
  rotate_left 1
  · (intro w hSw; go_simp; try with_reducible rfl)
  try simp only [Act.put, List.setIfInBounds_toArray, List.set_cons_zero, List.set_cons_succ]
  refine takeL 1 (v := ?_) rfl (by kernel_rfl) (by kernel_rfl) (by kernel_rfl) (fun _ _ _ h => h) (Or.inl ⟨by rfl, ?_⟩) hHeld ?_
  rotate_left 1
  · (intro w hSw; go_simp; try with_reducible rfl)
  try simp only [Act.put, List.setIfInBounds_toArray, List.set_cons_zero, List.set_cons_succ]
  refine takeL 2 rfl (by kernel_rfl) (by kernel_rfl) (by kernel_rfl) (fun _ _ _ h => h) (yieldsIf_load_mid (by rfl) _ _ rfl _ _ rfl _ _ (fun w hSw => hSw) Tryz.underlying24 rfl (by kernel_rfl)) hHeld ?_
  try simp only [Act.put, List.setIfInBounds_toArray, List.set_cons_zero, List.set_cons_succ]
  refine takeL 4 (v := ?_) rfl (by kernel_rfl) (by kernel_rfl) (by kernel_rfl) (fun _ _ _ h => h) (Or.inl ⟨by rfl, ?_⟩) hHeld ?_
  rotate_left 1
  · (intro w hSw; go_simp; try with_reducible rfl)
  try simp only [Act.put, List.setIfInBounds_toArray, List.set_cons_zero, List.set_cons_succ]
  refine takeL 5 rfl (by kernel_rfl) (by kernel_rfl) (by kernel_rfl) (fun _ _ _ h => h) (yieldsIf_load_mid (by rfl) _ _ rfl _ _ rfl _ _ (fun w hSw => hSw) Tryz.underlying24 rfl (by kernel_rfl)) hHeld ?_
  try simp only [Act.put, List.setIfInBounds_toArray, List.set_cons_zero, List.set_cons_succ]
  refine stepL 3 (by kernel_rfl) rfl (fun K hK => ?_)
  go_simp
  refine (HTo.out _).mono ?_
  rintro e V1 ⟨rfl, hb⟩
  show K _ _
  have Dx := Bx.mk (D0.out.trans (hb.mono D0.out.size))
  clear D0
  have D0 := Dx
  clear Dx
  refine hK.out _ _ (range_later7 hHeld hb) (fun hHeld => ?_)
  clear hK K hb
  try simp only [Act.put, List.setIfInBounds_toArray, List.set_cons_zero, List.set_cons_succ]
  refine stepL 6 (by kernel_rfl) rfl (fun K hK => ?_)
  go_simp
  refine (HTo.out _).mono ?_
  rintro e V2 ⟨rfl, hb⟩
  show K _ _
  have Dx := Bx.mk (D0.out.trans (hb.mono D0.out.size))
  clear D0
  have D0 := Dx
  clear Dx
  refine hK.out _ _ (range_later7 hHeld hb) (fun hHeld => ?_)
  clear hK K hb
  try simp only [Act.put, List.setIfInBounds_toArray, List.set_cons_zero, List.set_cons_succ]
  refine stepL 7 (by kernel_rfl) rfl (fun K hK => ?_)
  go_simp
  show K _ _
  have D1 := Bx.mk ((D0.out.trans ((below_a (.cells #[.int .i64 ci, .int .i64 cr, .int .i64 cx, .int .i64 cq, .int .i64 ci, .int .i64 cr, .int .i64 cx, .int .i64 cq] 26)).mono D0.out.size)))
  have hG : (V2.alloc (.cells #[.int .i64 ci, .int .i64 cr, .int .i64 cx, .int .i64 cq, .int .i64 ci, .int .i64 cr, .int .i64 cx, .int .i64 cq] 26)).heap[V2.heap.size]? = some (.cells #[.int .i64 ci, .int .i64 cr, .int .i64 cx, .int .i64 cq, .int .i64 ci, .int .i64 cr, .int .i64 cx, .int .i64 cq] 26 (0, 0)) := hnew _ _ _ rfl
  have HGr := Bx.mk hG
  have HGs := Bx.mk D0.out.size
  clear hG D0
  refine hK.out _ _ (range_later7 (hHeld) (below_a _)) (fun hHeld => ?_)
  clear hK K
  try simp only [Act.put, List.setIfInBounds_toArray, List.set_cons_zero, List.set_cons_succ]
  generalize V2.alloc (.cells #[.int .i64 ci, .int .i64 cr, .int .i64 cx, .int .i64 cq, .int .i64 ci, .int .i64 cr, .int .i64 cx, .int .i64 cq] 26) = V3 at *
  generalize V2.heap.size = G at *
  refine stepL 8 (by kernel_rfl) rfl (fun K hK => ?_)
  go_simp
  refine (drop_none R B G tk mv lb l ci cr cx cq _ (S0.out.st.later D1.out).ring (S0.out.st.later D1.out).map S0.out.st.low.1 HFt.out.2.2.1 HGr.out (by have := S0.out.st.ring.lt; have := HGs.out; omega) HNa.out).mono ?_
  rintro e V4 ⟨rfl, h3⟩
  show K _ _
  have H3 := Bx.mk h3
  refine hK.out _ _ (range_ring hHeld h3 (by have := HX.out; omega)) (fun hHeld => ?_)
  clear hK K
  try simp only [Act.put, List.setIfInBounds_toArray, List.set_cons_zero, List.set_cons_succ]
  refine takeL 9 (v := ?_) rfl (by kernel_rfl) (by kernel_rfl) (by kernel_rfl) (fun _ _ _ h => h) (Or.inl ⟨by rfl, ?_⟩) hHeld ?_
  rotate_left 1
  · (intro w hSw; go_simp; try with_reducible rfl)
  try simp only [Act.put, List.setIfInBounds_toArray, List.set_cons_zero, List.set_cons_succ]
  refine wpAnyH_done (by kernel_rfl) ?_ _
  refine NoPanic.normal ?_
  clear hHeld
  have T1 := Bx.mk ((S0.out.st.later D1.out).same3 H3.out)
  have T2 := Bx.mk (S0.out.kp.trans ((KP.below D1.out).trans H3.out.2.2.weaken))
  clear H3 D1 HGr HGs S0 HNa
  go_wp2
  refine ⟨va, n, c, mv, lb, l, m, ls, ?_, T1.out, T2.out⟩
  exact ⟨⟨rfl, rfl⟩, rfl, rfl, rfl, rfl, rfl, rfl, rfl, rfl⟩
end Go.Proofs.YtnefpjdjnjcmbaaGreatDoor
