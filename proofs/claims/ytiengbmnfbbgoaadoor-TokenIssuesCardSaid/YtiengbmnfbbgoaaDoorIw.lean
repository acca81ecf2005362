/-
  The walks of fields that are got of any bytes.
-/
import Derived.Test.YtiengbmnfbbgoaaDoorIv
namespace Go.Proofs.YtiengbmnfbbgoaaDoor
open Go Go.RowKit
/-- What a field is that isn't there: some value, and the error. -/
def BadF (w w' : World) (q : Nat) (s c er : Int) (e : Ending) : Prop := ∃ n vb, e = .returned (.tuple #[.agg #[.int .i64 s, .int .i64 n, vb], .int .i64 c]) ∧ (∃ b, Bytes w' vb b) ∧ (∃ l, IsR w' q l er) ∧ w.grownBy w' (some q)
theorem clone_nil (w : World) : Calls Tryd.prog 72 #[.slice none 0 0] w fun e w' => e = .returned (.slice none 0 0) ∧ w' = w := by
  have hq := nil_nil
  go_enter Tryd.func72, Tryd.ntmps72
  go_wp2
  go_ret
  exact ⟨rfl, rfl⟩
theorem some_end (q : Nat) (l : List UInt8) (er : Int) (w : World) (h : IsR w q l er) (hl : l.length < 2) :
    Calls Tryd.prog 101 #[.pointer (some ⟨q, 0, none⟩)] w fun e w' => e = .returned (.tuple #[.slice none 0 0, .int .i64 4]) ∧ w' = w := by
  have HN := Bx.mk (rnumber_end q 1 l er w (by omega) (by omega) h (by exact hl))
  clear h hl
  go_enter Tryd.func101, Tryd.ntmps101
  go_wp2_with fail
  refine HN.out.mono ?_
  rintro e w1 ⟨rfl, rfl⟩
  go_wp2
  go_ret2
  exact ⟨rfl, rfl⟩
/-- The count of bytes. -/
theorem two_lt (l : List UInt8) : valN (l.take 2) < 65536 := by
  have h := valN_lt (l.take 2)
  exact Nat.lt_of_lt_of_le h (Nat.le_trans (Nat.pow_le_pow_right (by omega) (by rw [List.length_take]; omega : (l.take 2).length ≤ 2)) (by decide))
theorem numT_small (x : Nat) (h : x ≤ 9223372036854775807) : numT x = .tuple #[.int .i64 (x : Int), .int .i64 0] := by unfold numT; rw [if_neg (by omega)]
theorem numT_big (x : Nat) (h : 9223372036854775807 < x) : numT x = .tuple #[.int .i64 0, .int .i64 3] := by unfold numT; rw [if_pos h]
set_option maxRecDepth 100000 in
theorem some_long (q : Nat) (l : List UInt8) (er : Int) (w : World) (h : IsR w q l er) (hl : 2 ≤ l.length) (hb : l.length ≤ 100000) (hc : 512 < valN (l.take 2)) :
    Calls Tryd.prog 101 #[.pointer (some ⟨q, 0, none⟩)] w fun e w' => e = .returned (.tuple #[.slice none 0 0, .int .i64 3]) ∧ IsR w' q (l.drop 2) er ∧ w.grownBy w' (some q) := by
  have HN := Bx.mk (rnumber_any q 1 l er w (by omega) (by omega) h (by exact hl) hb)
  rw [show wid 1 = 2 from rfl, numT_small _ (by have := two_lt l; omega)] at HN
  have hlt := two_lt l
  generalize valN (l.take 2) = c at *
  have hc1 : (512 : Int) < (c : Int) := by omega
  have hc2 : (c : Int) < 65536 := by omega
  clear h hl hb
  go_enter Tryd.func101, Tryd.ntmps101
  go_wp2_with fail
  refine HN.out.mono ?_
  rintro e w1 ⟨rfl, hr1, hg1⟩
  have H1 := Bx.mk (And.intro hr1 hg1)
  clear hr1 hg1 HN
  go_wp2
  go_ret2
  exact ⟨rfl, H1.out⟩
set_option maxRecDepth 100000 in
theorem some_miss (q : Nat) (l : List UInt8) (er : Int) (w : World) (h : IsR w q l er) (hl : 2 ≤ l.length) (hb : l.length ≤ 100000) (hc : valN (l.take 2) ≤ 512) (hm : l.length - 2 < valN (l.take 2)) :
    Calls Tryd.prog 101 #[.pointer (some ⟨q, 0, none⟩)] w fun e w' => e = .returned (.tuple #[.slice none 0 0, .int .i64 4]) ∧ IsR w' q (l.drop 2) er ∧ w.grownBy w' (some q) := by
  have HN := Bx.mk (rnumber_any q 1 l er w (by omega) (by omega) h (by exact hl) hb)
  rw [show wid 1 = 2 from rfl, numT_small _ (by have := two_lt l; omega)] at HN
  have hd : (l.drop 2).length = l.length - 2 := List.length_drop
  generalize valN (l.take 2) = c at *
  generalize l.drop 2 = r at *
  have HT := Bx.mk (fun w1 (h1 : IsR w1 q r er) => take_end q r er c w1 h1 (by omega) (by omega))
  have hc1 : ¬ (512 : Int) < (c : Int) := by omega
  have hc2 : (c : Int) ≤ 512 := by omega
  clear h hl hb hm hd
  go_enter Tryd.func101, Tryd.ntmps101
  go_wp2_with fail
  refine HN.out.mono ?_
  rintro e w1 ⟨rfl, hr1, hg1⟩
  have H1 := Bx.mk (And.intro hr1 hg1)
  clear hr1 hg1 HN
  go_wp2_with fail
  refine (HT.out w1 H1.out.1).mono ?_
  rintro e w2 ⟨rfl, rfl⟩
  go_wp2_with fail
  refine (clone_nil _).mono ?_
  rintro e w3 ⟨rfl, rfl⟩
  go_wp2
  go_ret2
  exact ⟨rfl, H1.out⟩
set_option maxRecDepth 100000 in
set_option maxHeartbeats 1000000 in
/-- A number that isn't there: the contract of what it calls, in the world behind the result's cell. -/
theorem field_badN (q : Nat) (s c er : Int) (w : World) (h0 : 0 ≤ s) (h3 : s ≤ 3) (hq : q < w.heap.size)
    (hs : Calls Tryd.prog 102 #[.pointer (some ⟨q, 0, none⟩), .int .i64 s] (w.alloc (.cells #[.int .i64 0, .int .i64 0, .slice none 0 0] 141)) fun e w' => e = .returned (.tuple #[.int .i64 0, .int .i64 c]) ∧ (∃ l, IsR w' q l er) ∧ (w.alloc (.cells #[.int .i64 0, .int .i64 0, .slice none 0 0] 141)).grownBy w' (some q)) :
    Calls Tryd.prog 93 #[.pointer (some ⟨q, 0, none⟩), .int .i64 s] w fun e w' => BadF w w' q s c er e := by
  have HA : Bx (Below w.heap.size w (w.alloc (.cells #[.int .i64 0, .int .i64 0, .slice none 0 0] 141))) := Bx.mk (below_a _)
  have HS := Bx.mk hs
  have hkk : (decide (0 ≤ s) && decide (s ≤ 4)) = true := by simp; omega
  have hs4 : (s == 4) = false := by simp; omega
  clear h0 h3 hs
  go_enter Tryd.func93, Tryd.ntmps93
  go_wp2_with fail
  refine (known_any s _).mono ?_
  rintro e w1 ⟨rfl, rfl⟩
  rw [hkk]
  go_wp2_with fail
  refine HS.out.mono ?_
  rintro e w2 ⟨rfl, ⟨l2, hr2⟩, hg2⟩
  have HR2 : Bx (w2.heap[w.heap.size]? = some (.cells #[.int .i64 0, .int .i64 0, .slice none 0 0] 141 (0, 0))) := Bx.mk (by rw [hg2.block _ (by simp) (fun e => by injection e with e; omega), hnew _ _ _ rfl])
  have H2 := Bx.mk (And.intro hr2 (kb_trans (kb_below (some q) HA.out) hg2))
  clear hr2 hg2 HS HA
  obtain ⟨D, hD⟩ : ∃ D, w.heap.size = D := ⟨_, rfl⟩
  have HD : Bx (w.heap.size = D ∧ q ≠ D) := Bx.mk ⟨hD, by omega⟩
  rw [hD] at HR2 ⊢
  clear hD hq
  go_wp2_with (refine wpList_store_new rfl 141 _ _ rfl D #[.int .i64 s, .int .i64 0, .slice none 0 0] _ _ (by rfl) (by rfl) HR2.out rfl (by kernel_rfl) (by simp [Value.oneCell']) ?_; intro w3 hw3 hr3; have hg3 : Bx (w2.grownBy w3 (some D)) := Bx.mk (by rw [hw3]; exact kb_setCells _ _ _); have HR3 := Bx.mk hr3; clear hw3 hr3)
  have hg3 := hg3.out
  have hr3 := HR3.out
  have H3 := Bx.mk (And.intro (H2.out.1.aside HR2.out (fun x e => by cases e) hg3 HD.out.2) (kb_new H2.out.2 hg3 (Nat.le_of_eq HD.out.1)))
  refine bodyPost_ret (results_pair rfl _ _ _ D _ rfl (run_loadVar_row _ D _ _ _ _ _ hr3 Tryd.underlying141 rfl (by kernel_rfl))) rfl ?_
  exact ⟨0, _, rfl, ⟨_, Bytes.nil _⟩, ⟨_, H3.out.1⟩, H3.out.2⟩
set_option maxRecDepth 100000 in
set_option maxHeartbeats 1000000 in
theorem field_badS (q : Nat) (c er : Int) (w : World) (hq : q < w.heap.size)
    (hs : Calls Tryd.prog 101 #[.pointer (some ⟨q, 0, none⟩)] (w.alloc (.cells #[.int .i64 0, .int .i64 0, .slice none 0 0] 141)) fun e w' => e = .returned (.tuple #[.slice none 0 0, .int .i64 c]) ∧ (∃ l, IsR w' q l er) ∧ (w.alloc (.cells #[.int .i64 0, .int .i64 0, .slice none 0 0] 141)).grownBy w' (some q)) :
    Calls Tryd.prog 93 #[.pointer (some ⟨q, 0, none⟩), .int .i64 4] w fun e w' => BadF w w' q 4 c er e := by
  have HA : Bx (Below w.heap.size w (w.alloc (.cells #[.int .i64 0, .int .i64 0, .slice none 0 0] 141))) := Bx.mk (below_a _)
  have HS := Bx.mk hs
  have hkk : (decide ((0 : Int) ≤ 4) && decide ((4 : Int) ≤ 4)) = true := by simp
  clear hs
  go_enter Tryd.func93, Tryd.ntmps93
  go_wp2_with fail
  refine (known_any 4 _).mono ?_
  rintro e w1 ⟨rfl, rfl⟩
  rw [hkk]
  go_wp2_with fail
  refine HS.out.mono ?_
  rintro e w2 ⟨rfl, ⟨l2, hr2⟩, hg2⟩
  have HR2 : Bx (w2.heap[w.heap.size]? = some (.cells #[.int .i64 0, .int .i64 0, .slice none 0 0] 141 (0, 0))) := Bx.mk (by rw [hg2.block _ (by simp) (fun e => by injection e with e; omega), hnew _ _ _ rfl])
  have H2 := Bx.mk (And.intro hr2 (kb_trans (kb_below (some q) HA.out) hg2))
  clear hr2 hg2 HS HA
  obtain ⟨D, hD⟩ : ∃ D, w.heap.size = D := ⟨_, rfl⟩
  have HD : Bx (w.heap.size = D ∧ q ≠ D) := Bx.mk ⟨hD, by omega⟩
  rw [hD] at HR2 ⊢
  clear hD hq
  go_wp2_with (refine wpList_store_new rfl 141 _ _ rfl D #[.int .i64 4, .int .i64 0, .slice none 0 0] _ _ (by rfl) (by rfl) HR2.out rfl (by kernel_rfl) (by simp [Value.oneCell']) ?_; intro w3 hw3 hr3; have hg3 : Bx (w2.grownBy w3 (some D)) := Bx.mk (by rw [hw3]; exact kb_setCells _ _ _); have HR3 := Bx.mk hr3; clear hw3 hr3)
  have hg3 := hg3.out
  have hr3 := HR3.out
  have H3 := Bx.mk (And.intro (H2.out.1.aside HR2.out (fun x e => by cases e) hg3 HD.out.2) (kb_new H2.out.2 hg3 (Nat.le_of_eq HD.out.1)))
  refine bodyPost_ret (results_pair rfl _ _ _ D _ rfl (run_loadVar_row _ D _ _ _ _ _ hr3 Tryd.underlying141 rfl (by kernel_rfl))) rfl ?_
  exact ⟨0, _, rfl, ⟨_, Bytes.nil _⟩, ⟨_, H3.out.1⟩, H3.out.2⟩
end Go.Proofs.YtiengbmnfbbgoaaDoor
