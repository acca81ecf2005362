/-
  Mints, as cells; the walks of New, Master, Count, Find and add.
-/
import Derived.Test.YtiengbmnfbbgoaaDoorQa
import Derived.Test.YtiengbmnfbbgoaaDoorCd
namespace Go.Proofs.YtiengbmnfbbgoaaDoor
open Go Go.RowKit
/-- The cells of a mint that issued these claims, with a key's pointer. -/
def MtC (l : List Cl) (v : Value) (ms : Array Value) : Prop :=
  ms.size = 1026 ∧ ms[1024]? = some (.int .i64 (l.length : Int)) ∧ ms[1025]? = some v ∧ ∀ k, k < l.length → ∀ j u, (clC (l.getD k c0)).toList[j]? = some u → ms[4 * k + j]? = some u
/-- A mint in block M: what it issued, and its master key. -/
def MT (W : World) (M : Nat) (l : List Cl) (bs : List UInt8) : Prop :=
  ∃ ms v, W.heap[M]? = some (.cells ms 101 (0, 0)) ∧ MtC l v ms ∧ ∀ W1, W.grownBy W1 (some M) → IsKey W1 v bs
theorem kb_past {w W W1 : World} {M Y : Nat} (h : w.grownBy W (some M)) (hg : W.grownBy W1 (some Y)) (hY : w.heap.size ≤ Y) : w.grownBy W1 (some M) :=
  ⟨hg.os.trans h.os, hg.tape.trans h.tape, hg.output.trans h.output, Nat.le_trans h.size hg.size, fun i hi hne => by rw [hg.block i (Nat.lt_of_lt_of_le hi h.size) (fun e => by injection e; omega)]; exact h.block i hi hne⟩
theorem MT.lt {W : World} {M : Nat} {l : List Cl} {bs : List UInt8} (h : MT W M l bs) : M < W.heap.size := by
  obtain ⟨ms, v, hr, -, -⟩ := h
  exact (Array.getElem?_eq_some_iff.1 hr).1
theorem MT.later {W W1 : World} {M : Nat} {l : List Cl} {bs : List UInt8} (h : MT W M l bs) (hb : Below W.heap.size W W1) : MT W1 M l bs := by
  have hlt := h.lt
  obtain ⟨ms, v, hr, hc, hk⟩ := h
  exact ⟨ms, v, by rw [hb.block _ hlt]; exact hr, hc, fun W2 h2 => hk W2 (kb_trans (kb_below _ hb) h2)⟩
theorem MT.drew {W : World} {M : Nat} {l : List Cl} {bs : List UInt8} (h : MT W M l bs) : MT W.drew M l bs := h.later (Below.refl _ _).drew
/-- Blocks that stay beside a mint's. -/
structure KM (w : World) (M : Nat) (rs : List (Nat × Obj)) (l : List Cl) (v : Value) (bs : List UInt8) (W : World) : Prop where
  rows : ∀ x ∈ rs, W.heap[x.1]? = some x.2 ∧ w.heap.size ≤ x.1
  grown : w.grownBy W (some M)
  lt : M < w.heap.size
  row : ∃ ms, W.heap[M]? = some (.cells ms 101 (0, 0)) ∧ MtC l v ms ∧ ∀ W1, w.grownBy W1 (some M) → IsKey W1 v bs
theorem KM.mt {w : World} {M : Nat} {rs : List (Nat × Obj)} {l : List Cl} {v : Value} {bs : List UInt8} {W : World} (h : KM w M rs l v bs W) : MT W M l bs := by
  obtain ⟨ms, hr, hc, hk⟩ := h.row
  exact ⟨ms, v, hr, hc, fun W1 h1 => hk W1 (kb_trans h.grown h1)⟩
theorem KM.start {w : World} {M : Nat} {l : List Cl} {bs : List UInt8} (h : MT w M l bs) : ∃ v, KM w M [] l v bs w := by
  have hlt := h.lt
  obtain ⟨ms, v, hr, hc, hk⟩ := h
  exact ⟨v, fun x hx => (List.not_mem_nil hx).elim, kb_refl _ _, hlt, ms, hr, hc, hk⟩
theorem KM.blt {w : World} {M : Nat} {rs : List (Nat × Obj)} {l : List Cl} {v : Value} {bs : List UInt8} {W : World} (h : KM w M rs l v bs W) {x : Nat × Obj} (hx : x ∈ rs) : x.1 < W.heap.size := (Array.getElem?_eq_some_iff.1 (h.rows x hx).1).1
theorem KM.later {w : World} {M : Nat} {rs : List (Nat × Obj)} {l : List Cl} {v : Value} {bs : List UInt8} {W W1 : World} (h : KM w M rs l v bs W) (hb : Below W.heap.size W W1) : KM w M rs l v bs W1 := by
  refine ⟨fun x hx => ⟨by rw [hb.block _ (h.blt hx)]; exact (h.rows x hx).1, (h.rows x hx).2⟩, kb_trans h.grown (kb_below _ hb), h.lt, ?_⟩
  obtain ⟨ms, hr, hc, hk⟩ := h.row
  exact ⟨ms, by rw [hb.block _ (Array.getElem?_eq_some_iff.1 hr).1]; exact hr, hc, hk⟩
theorem KM.drew {w : World} {M : Nat} {rs : List (Nat × Obj)} {l : List Cl} {v : Value} {bs : List UInt8} {W : World} (h : KM w M rs l v bs W) : KM w M rs l v bs W.drew := h.later (Below.refl _ _).drew
theorem KM.new {w : World} {M : Nat} {rs : List (Nat × Obj)} {l : List Cl} {v : Value} {bs : List UInt8} {W : World} (h : KM w M rs l v bs W) (o : Obj) : KM w M ((W.heap.size, o) :: rs) l v bs (W.alloc o) := by
  have h1 := h.later (below_a o)
  refine ⟨fun x hx => ?_, h1.grown, h1.lt, h1.row⟩
  rcases List.mem_cons.1 hx with rfl | hx
  · exact ⟨hnew _ _ _ rfl, h.grown.size⟩
  · exact h1.rows x hx
theorem KM.set {w : World} {M Y : Nat} {o o1 : Obj} {rs : List (Nat × Obj)} {l : List Cl} {v : Value} {bs : List UInt8} {W W1 : World} (h : KM w M ((Y, o) :: rs) l v bs W) (hg : W.grownBy W1 (some Y)) (hY : W1.heap[Y]? = some o1) (hn : ∀ x ∈ rs, x.1 ≠ Y) : KM w M ((Y, o1) :: rs) l v bs W1 := by
  have hB := (h.rows _ (.head _)).2
  refine ⟨fun x hx => ?_, kb_past h.grown hg hB, h.lt, ?_⟩
  · rcases List.mem_cons.1 hx with rfl | hx
    · exact ⟨hY, hB⟩
    · exact ⟨by rw [hg.block x.1 (h.blt (.tail _ hx)) (fun e => hn x hx (by injection e))]; exact (h.rows x (.tail _ hx)).1, (h.rows x (.tail _ hx)).2⟩
  · obtain ⟨ms, hr, hc, hk⟩ := h.row
    have := h.lt
    exact ⟨ms, by rw [hg.block _ (Array.getElem?_eq_some_iff.1 hr).1 (fun e => by injection e; simp only at hB; omega)]; exact hr, hc, hk⟩
theorem KM.swap {w : World} {M : Nat} {x y : Nat × Obj} {rs : List (Nat × Obj)} {l : List Cl} {v : Value} {bs : List UInt8} {W : World} (h : KM w M (x :: y :: rs) l v bs W) : KM w M (y :: x :: rs) l v bs W :=
  ⟨fun z hz => h.rows z (by rcases List.mem_cons.1 hz with rfl | hz; exact .tail _ (.head _); rcases List.mem_cons.1 hz with rfl | hz; exact .head _; exact .tail _ (.tail _ hz)), h.grown, h.lt, h.row⟩
/-- What the mint's own cells become when it issues. -/
def Issued (M : Nat) (l l1 : List Cl) (W W1 : World) : Prop :=
  W.grownBy W1 (some M) ∧ ∀ ms v, W.heap[M]? = some (.cells ms 101 (0, 0)) → MtC l v ms → ∃ ms1, W1.heap[M]? = some (.cells ms1 101 (0, 0)) ∧ MtC l1 v ms1
theorem KM.minted {w : World} {M : Nat} {rs : List (Nat × Obj)} {l l1 : List Cl} {v : Value} {bs : List UInt8} {W W1 : World} (h : KM w M rs l v bs W) (hm : Issued M l l1 W W1) : KM w M rs l1 v bs W1 := by
  obtain ⟨hg, hm⟩ := hm
  refine ⟨fun x hx => ⟨?_, (h.rows x hx).2⟩, kb_trans h.grown hg, h.lt, ?_⟩
  · have := (h.rows x hx).2
    have := h.lt
    rw [hg.block x.1 (h.blt hx) (fun e => by injection e; omega)]
    exact (h.rows x hx).1
  · obtain ⟨ms, hr, hc, hk⟩ := h.row
    obtain ⟨ms1, hr1, hc1⟩ := hm ms v hr hc
    exact ⟨ms1, hr1, hc1, hk⟩
theorem KM.issued {w : World} {M : Nat} {rs : List (Nat × Obj)} {l l1 : List Cl} {v : Value} {bs : List UInt8} {W : World} (h0 : KM w M [] l v bs w) (h : KM w M rs l1 v bs W) : Issued M l l1 w W := by
  refine ⟨h.grown, fun ms v1 hr hc => ?_⟩
  obtain ⟨ms0, hr0, hc0, -⟩ := h0.row
  obtain ⟨ms1, hr1, hc1, -⟩ := h.row
  rw [hr0] at hr
  injection hr with e
  injection e with e
  subst e
  have h5 := hc.2.2.1
  rw [hc0.2.2.1] at h5
  injection h5 with h5
  subst h5
  exact ⟨ms1, hr1, hc1⟩
theorem MT.parts {W : World} {M : Nat} {l : List Cl} {bs : List UInt8} (h : MT W M l bs) : W.cell? ⟨M, 1024, none⟩ = some (.int .i64 (l.length : Int)) ∧ (∀ i, W.frozen? ⟨M, i, none⟩ = false) ∧ ∃ p, W.cell? ⟨M, 1025, none⟩ = some (.pointer (some ⟨p, 0, none⟩)) ∧ ∀ W1, W.grownBy W1 (some M) → IsKey W1 (.pointer (some ⟨p, 0, none⟩)) bs := by
  obtain ⟨ms, v, hr, hc, hk⟩ := h
  obtain ⟨p, s, rfl, -, -⟩ := hk W (kb_refl _ _)
  exact ⟨by rw [cell_of_row _ _ _ _ _ _ hr]; exact hc.2.1, fun i => frozen_of_row _ _ _ _ _ hr, p, by rw [cell_of_row _ _ _ _ _ _ hr]; exact hc.2.2.1, hk⟩
theorem MT.at_ {W : World} {M : Nat} {l : List Cl} {bs : List UInt8} (h : MT W M l bs) (k : Nat) (hk : k < l.length) : W.rangeAt M (4 * k) (clC (l.getD k c0)).toList := by
  obtain ⟨ms, v, hr, hc, -⟩ := h
  intro j u hj
  show W.cell? ⟨M, 4 * k + j, none⟩ = some u
  rw [cell_of_row _ _ _ _ _ _ hr]
  exact hc.2.2.2 k hk j u hj
/-- The cells of a mint that issued nothing. -/
def mint0 (p : Nat) : Array Value := (List.replicate 1024 (Value.int .i64 0) ++ [Value.int .i64 0, Value.pointer (some ⟨p, 0, none⟩)]).toArray
set_option maxRecDepth 100000 in
theorem mint_built (p : Nat) : Tryd.prog.built 101 [(1, .pointer (some ⟨p, 0, none⟩))] = some (mint0 p) := by kernel_rfl
theorem mint0_is (p : Nat) : MtC [] (.pointer (some ⟨p, 0, none⟩)) (mint0 p) := by
  refine ⟨?_, ?_, ?_, fun k hk => absurd hk (Nat.not_lt_zero _)⟩
  · unfold mint0
    rw [List.size_toArray, List.length_append, List.length_replicate]; rfl
  · unfold mint0
    rw [List.getElem?_toArray, List.getElem?_append_right (by rw [List.length_replicate]; omega), List.length_replicate]; rfl
  · unfold mint0
    rw [List.getElem?_toArray, List.getElem?_append_right (by rw [List.length_replicate]; omega), List.length_replicate]; rfl
theorem full_any (M : Nat) (l : List Cl) (bs : List UInt8) (w : World) (h : MT w M l bs) (_ : l.length ≤ 256) :
    Calls Tryd.prog 48 #[.pointer (some ⟨M, 0, none⟩)] w fun e w' => e = .returned (.bool (decide (l.length = 256))) ∧ w = w' := by
  obtain ⟨c1, -, -⟩ := h.parts
  obtain ⟨n, hn⟩ : ∃ n, l.length = n := ⟨_, rfl⟩
  rw [hn] at c1 ⊢
  have hE : Bx ((decide ((n : Int) = 256)) = decide (n = 256)) := Bx.mk (by simp; omega)
  clear h hn
  go_enter Tryd.func48, Tryd.ntmps48
  go_wp2
  go_ret
  exact ⟨by rw [← hE.out]; first | rfl | simp, rfl⟩
theorem next_any (M : Nat) (l : List Cl) (bs : List UInt8) (w : World) (h : MT w M l bs) (hl : l.length ≤ 256) :
    Calls Tryd.prog 49 #[.pointer (some ⟨M, 0, none⟩)] w fun e w' => e = .returned (.int .i64 ((l.length : Int) + 1)) ∧ w = w' := by
  obtain ⟨c1, -, -⟩ := h.parts
  obtain ⟨n, hn⟩ : ∃ n, l.length = n := ⟨_, rfl⟩
  rw [hn] at c1 hl ⊢
  have hn1 : (n : Int) ≤ 256 := by omega
  clear h hn
  go_enter Tryd.func49, Tryd.ntmps49
  go_wp2
  go_ret
  exact ⟨rfl, rfl⟩
theorem mcount_any (M : Nat) (l : List Cl) (bs : List UInt8) (w : World) (h : MT w M l bs) :
    Calls Tryd.prog 33 #[.pointer (some ⟨M, 0, none⟩)] w fun e w' => e = .returned (.int .i64 (l.length : Int)) ∧ w = w' := by
  obtain ⟨c1, -, -⟩ := h.parts
  obtain ⟨n, hn⟩ : ∃ n, l.length = n := ⟨_, rfl⟩
  rw [hn] at c1 ⊢
  clear h hn
  go_enter Tryd.func33, Tryd.ntmps33
  go_wp2
  go_ret
  exact ⟨rfl, rfl⟩
theorem mcount_nil (w : World) : Calls Tryd.prog 33 #[.pointer none] w fun e w' => e = .returned (.int .i64 0) ∧ w = w' := by
  go_enter Tryd.func33, Tryd.ntmps33
  go_wp2
  go_ret
  exact ⟨rfl, rfl⟩
theorem master_nil (w : World) : Calls Tryd.prog 30 #[.pointer none] w fun e w' => e = .returned (.pointer none) ∧ w = w' := by
  go_enter Tryd.func30, Tryd.ntmps30
  go_wp2
  go_ret
  exact ⟨rfl, rfl⟩
set_option maxRecDepth 100000 in
theorem master_any (M : Nat) (l : List Cl) (bs : List UInt8) (w : World) (h : MT w M l bs) (hl : bs.length ≤ 1000000) :
    Calls Tryd.prog 30 #[.pointer (some ⟨M, 0, none⟩)] w fun e w' => ∃ v', e = .returned v' ∧ KeyO w' w.heap.size v' bs ∧ Below w.heap.size w w' := by
  obtain ⟨-, -, p, c2, hk⟩ := h.parts
  have HK := Bx.mk (hk w (kb_refl _ _))
  have HL := Bx.mk hl
  clear hk h hl
  go_enter Tryd.func30, Tryd.ntmps30
  go_wp2_with fail
  refine (kbytes_any bs _ w HK.out (by have := HL.out; omega)).mono ?_
  rintro e w1 ⟨v1, rfl, ho1, hb1⟩
  have H1 := Bx.mk (And.intro ho1 hb1)
  obtain ⟨a1, c1, rfl, -⟩ := ho1.bytes
  clear ho1 hb1
  go_wp2_with fail
  refine (new_any bs _ w1 H1.out.1.bytes (by have := HL.out; omega)).mono ?_
  rintro e w2 ⟨v2, rfl, ho2, hb2⟩
  have H2 := Bx.mk (And.intro (ho2.weak H1.out.2.size) (H1.out.2.trans (hb2.mono H1.out.2.size)))
  clear ho2 hb2 H1
  go_wp2
  go_ret
  exact ⟨v2, rfl, H2.out⟩
set_option maxRecDepth 100000 in
theorem mnew_bad (bs : List UInt8) (v : Value) (w : World) (hv : Bytes w v bs) (hl : bs.length < 16) :
    Calls Tryd.prog 29 #[v] w fun e w' => e = .returned (.tuple #[.pointer none, .int .i64 1]) ∧ w = w' := by
  obtain ⟨a, cap, rfl, -⟩ := hv
  obtain ⟨n, hn⟩ : ∃ n, bs.length = n := ⟨_, rfl⟩
  rw [hn] at hl ⊢
  have h1 : (n : Int) < 16 := by omega
  clear hn
  go_enter Tryd.func29, Tryd.ntmps29
  go_wp2
  go_ret2
  exact ⟨rfl, rfl⟩
set_option maxRecDepth 100000 in
theorem mnew_ok (bs : List UInt8) (v : Value) (w : World) (hv : Bytes w v bs) (hl : 16 ≤ bs.length) (hl2 : bs.length ≤ 1000000) :
    Calls Tryd.prog 29 #[v] w fun e w' => ∃ M, e = .returned (.tuple #[.pointer (some ⟨M, 0, none⟩), .int .i64 0]) ∧ MT w' M [] bs ∧ w.heap.size ≤ M ∧ Below w.heap.size w w' := by
  have HV := Bx.mk hv
  have HL := Bx.mk hl2
  obtain ⟨a, cap, rfl, -⟩ := hv
  obtain ⟨n, hn⟩ : ∃ n, bs.length = n := ⟨_, rfl⟩
  rw [hn] at HV hl ⊢
  have h1 : ¬ ((n : Int) < 16) := by omega
  clear hn hl2
  go_enter Tryd.func29, Tryd.ntmps29
  go_wp2_with fail
  refine (new_any bs _ w HV.out (by have := HL.out; omega)).mono ?_
  rintro e w1 ⟨v1, rfl, ho1, hb1⟩
  obtain ⟨p, s, rfl, -, -⟩ := ho1.key
  have HB := Bx.mk (mint_built p)
  have HC := Bx.mk (mint0_is p)
  generalize mint0 p = zm at *
  have H1 := Bx.mk (And.intro ho1.key hb1)
  clear ho1 hb1
  go_wp2_with (refine wpList_buildTo rfl 101 _ rfl _ rfl zm (by simp only [List.map_toArray, List.map_cons, List.map_nil]; exact HB.out) ?_)
  go_ret2
  refine ⟨w1.heap.size, rfl, ⟨zm, _, hnew _ _ _ rfl, HC.out, fun W1 hg => H1.out.1.later ?_⟩, H1.out.2.size, H1.out.2.trans ((below_a _).mono H1.out.2.size)⟩
  exact ⟨hg.os, hg.tape, hg.output, Nat.le_trans (Nat.le_of_lt (by rw [alloc_size]; omega)) hg.size, fun i hi => by rw [hg.block i (by rw [alloc_size]; omega) (fun e => by injection e; omega), hold _ _ _ hi]⟩
end Go.Proofs.YtiengbmnfbbgoaaDoor
namespace Go.Proofs.YtiengbmnfbbgoaaDoor
open Go Go.RowKit
set_option maxRecDepth 100000 in
theorem of_none (M : Nat) (l : List Cl) (bs : List UInt8) (s : Int) (w : World) (h : MT w M l bs) (hs : s < 1 ∨ (l.length : Int) < s) :
    Calls Tryd.prog 51 #[.pointer (some ⟨M, 0, none⟩), .int .i64 s] w fun e w' => e = .returned (.tuple #[clV c0, .int .i64 7]) ∧ Below w.heap.size w w' := by
  obtain ⟨c1, -, -⟩ := h.parts
  obtain ⟨n, hn⟩ : ∃ n, l.length = n := ⟨_, rfl⟩
  rw [hn] at c1 hs
  have hM := h.lt
  have c1' := c1
  clear h hn c1
  obtain ⟨B, hB⟩ : ∃ B, w.heap.size = B := ⟨_, rfl⟩
  have hcB : (w.alloc (.cells #[.int .i64 0, .int .i64 0, .int .i64 0, .int .i64 0] 36)).cell? ⟨M, 1024, none⟩ = some (.int .i64 (n : Int)) := by rw [World.cell?_alloc_past _ _ _ hM]; exact c1'
  have hr : (w.alloc (.cells #[.int .i64 0, .int .i64 0, .int .i64 0, .int .i64 0] 36)).heap[B]? = some (.cells #[.int .i64 0, .int .i64 0, .int .i64 0, .int .i64 0] 36 (0, 0)) := hnew _ _ _ hB.symm
  have hb : Below B w (w.alloc (.cells #[.int .i64 0, .int .i64 0, .int .i64 0, .int .i64 0] 36)) := by rw [← hB]; exact below_a _
  have HR := Bx.mk (And.intro hr hb)
  clear hr hb c1' hM
  rw [hB]
  by_cases h1 : s < 1
  · go_enter Tryd.func51, Tryd.ntmps51
    go_wp2
    refine bodyPost_ret (results_pair rfl _ _ _ B _ rfl (run_loadVar_row _ B _ _ _ _ _ HR.out.1 Tryd.underlying36 rfl (by kernel_rfl))) rfl ?_
    exact ⟨rfl, HR.out.2⟩
  · have h2 : (n : Int) < s := by omega
    go_enter Tryd.func51, Tryd.ntmps51
    go_wp2
    refine bodyPost_ret (results_pair rfl _ _ _ B _ rfl (run_loadVar_row _ B _ _ _ _ _ HR.out.1 Tryd.underlying36 rfl (by kernel_rfl))) rfl ?_
    exact ⟨rfl, HR.out.2⟩
set_option maxRecDepth 100000 in
theorem of_ok (M : Nat) (l : List Cl) (bs : List UInt8) (k : Nat) (w : World) (h : MT w M l bs) (hk : k < l.length) (hl : l.length ≤ 256) :
    Calls Tryd.prog 51 #[.pointer (some ⟨M, 0, none⟩), .int .i64 ((k : Int) + 1)] w fun e w' => e = .returned (.tuple #[clV (l.getD k c0), .int .i64 0]) ∧ Below w.heap.size w w' := by
  obtain ⟨c1, -, -⟩ := h.parts
  have hR := h.at_ k hk
  obtain ⟨n, hn⟩ : ∃ n, l.length = n := ⟨_, rfl⟩
  rw [hn] at c1 hl hk
  have hM := h.lt
  have c1' := c1
  clear h hn c1
  generalize l.getD k c0 = c at *
  obtain ⟨i, r, x, q⟩ := c
  obtain ⟨B, hB⟩ : ∃ B, w.heap.size = B := ⟨_, rfl⟩
  have hcB : (w.alloc (.cells #[.int .i64 0, .int .i64 0, .int .i64 0, .int .i64 0] 36)).cell? ⟨M, 1024, none⟩ = some (.int .i64 (n : Int)) := by rw [World.cell?_alloc_past _ _ _ hM]; exact c1'
  have HRg : Bx ((w.alloc (.cells #[.int .i64 0, .int .i64 0, .int .i64 0, .int .i64 0] 36)).rangeAt M (k * 4) [.int .i64 i, .int .i64 r, .int .i64 x, .int .i64 q]) := Bx.mk (by rw [Nat.mul_comm]; exact range_later hR (below_a _) hM)
  have hr : (w.alloc (.cells #[.int .i64 i, .int .i64 r, .int .i64 x, .int .i64 q] 36)).heap[B]? = some (.cells #[.int .i64 i, .int .i64 r, .int .i64 x, .int .i64 q] 36 (0, 0)) := hnew _ _ _ hB.symm
  have hb : Below B w (w.alloc (.cells #[.int .i64 i, .int .i64 r, .int .i64 x, .int .i64 q] 36)) := by rw [← hB]; exact below_a _
  have HR := Bx.mk (And.intro hr hb)
  clear hr hb c1' hM hR
  rw [hB]
  have h1 : ¬ ((k : Int) + 1 < 1) := by omega
  have h2 : ¬ ((n : Int) < (k : Int) + 1) := by omega
  have h3 : (k : Int) < 256 := by omega
  go_enter Tryd.func51, Tryd.ntmps51
  go_wp2_with (refine wpList_load_mid rfl 36 _ rfl M (k * 4) (by rfl) _ _ HRg.out Tryd.underlying36 rfl (by kernel_rfl) ?_)
  refine bodyPost_ret (results_pair rfl _ _ _ B _ rfl (run_loadVar_row _ B _ _ _ _ _ HR.out.1 Tryd.underlying36 rfl (by kernel_rfl))) rfl ?_
  exact ⟨rfl, HR.out.2⟩
set_option maxRecDepth 100000 in
theorem find_nil (s : Int) (w : World) :
    Calls Tryd.prog 34 #[.pointer none, .int .i64 s] w fun e w' => e = .returned (.tuple #[clV c0, .int .i64 11]) ∧ Below w.heap.size w w' := by
  obtain ⟨B, hB⟩ : ∃ B, w.heap.size = B := ⟨_, rfl⟩
  have hr : (w.alloc (.cells #[.int .i64 0, .int .i64 0, .int .i64 0, .int .i64 0] 36)).heap[B]? = some (.cells #[.int .i64 0, .int .i64 0, .int .i64 0, .int .i64 0] 36 (0, 0)) := hnew _ _ _ hB.symm
  have hb : Below B w (w.alloc (.cells #[.int .i64 0, .int .i64 0, .int .i64 0, .int .i64 0] 36)) := by rw [← hB]; exact below_a _
  have HR := Bx.mk (And.intro hr hb)
  clear hr hb
  rw [hB]
  go_enter Tryd.func34, Tryd.ntmps34
  go_wp2
  refine bodyPost_ret (results_pair rfl _ _ _ B _ rfl (run_loadVar_row _ B _ _ _ _ _ HR.out.1 Tryd.underlying36 rfl (by kernel_rfl))) rfl ?_
  exact ⟨rfl, HR.out.2⟩
set_option maxRecDepth 100000 in
theorem find_with (M : Nat) (s r0 : Int) (c : Cl) (w : World) (h : ∀ W, Below w.heap.size w W → Calls Tryd.prog 51 #[.pointer (some ⟨M, 0, none⟩), .int .i64 s] W fun e w' => e = .returned (.tuple #[clV c, .int .i64 r0]) ∧ Below W.heap.size W w') :
    Calls Tryd.prog 34 #[.pointer (some ⟨M, 0, none⟩), .int .i64 s] w fun e w' => e = .returned (.tuple #[clV c, .int .i64 r0]) ∧ Below w.heap.size w w' := by
  have HF := Bx.mk h
  clear h
  obtain ⟨cv, hcv⟩ : ∃ cv, clC c = cv := ⟨_, rfl⟩
  have HC : Bx (cv.size = 4 ∧ cv.all (·.oneCell') = true ∧ (Tryd.prog.info? 36).map (·.size) = some cv.size) := Bx.mk (by rw [← hcv]; exact ⟨rfl, by simp [clC, Value.oneCell'], by kernel_rfl⟩)
  change Bx (∀ W, Below w.heap.size w W → Calls Tryd.prog 51 #[.pointer (some ⟨M, 0, none⟩), .int .i64 s] W fun e w' => e = .returned (.tuple #[.agg (clC c), .int .i64 r0]) ∧ Below W.heap.size W w') at HF
  change Calls Tryd.prog 34 #[.pointer (some ⟨M, 0, none⟩), .int .i64 s] w fun e w' => e = .returned (.tuple #[.agg (clC c), .int .i64 r0]) ∧ Below w.heap.size w w'
  rw [hcv] at HF ⊢
  clear hcv
  obtain ⟨B, hB⟩ : ∃ B, w.heap.size = B := ⟨_, rfl⟩
  have H0 := Bx.mk ((KS.start w B hB).new (.cells #[.int .i64 0, .int .i64 0, .int .i64 0, .int .i64 0] 36))
  rw [hB] at H0 HF ⊢
  go_enter Tryd.func34, Tryd.ntmps34
  go_wp2_with fail
  generalize w.alloc (.cells #[.int .i64 0, .int .i64 0, .int .i64 0, .int .i64 0] 36) = w0 at *
  refine (HF.out w0 H0.out.below).mono ?_
  rintro e w1 ⟨rfl, hb1⟩
  have H1 := Bx.mk (H0.out.later hb1)
  clear hb1 H0 HF
  go_wp2_with (refine wpList_store_new rfl 36 _ _ rfl B cv #[.int .i64 0, .int .i64 0, .int .i64 0, .int .i64 0] _ (by rfl) (by rfl) (H1.out.rows _ (.head _)) HC.out.1 HC.out.2.2 HC.out.2.1 ?_; intro w3 hw8 hr8; have hg8 := Bx.mk (kb_of hw8); have HR8 := Bx.mk hr8; clear hw8 hr8)
  refine bodyPost_ret (results_pair rfl _ _ _ B _ rfl (run_loadVar_row _ B _ _ _ _ _ HR8.out Tryd.underlying36 rfl HC.out.2.2)) rfl ?_
  exact ⟨rfl, H1.out.below.trans (grown_below hg8.out (by omega) H1.out.le)⟩
theorem find_none (M : Nat) (l : List Cl) (bs : List UInt8) (s : Int) (w : World) (h : MT w M l bs) (hs : s < 1 ∨ (l.length : Int) < s) :
    Calls Tryd.prog 34 #[.pointer (some ⟨M, 0, none⟩), .int .i64 s] w fun e w' => e = .returned (.tuple #[clV c0, .int .i64 7]) ∧ Below w.heap.size w w' :=
  find_with M s 7 c0 w (fun W hb => of_none M l bs s W (h.later hb) hs)
theorem find_ok (M : Nat) (l : List Cl) (bs : List UInt8) (k : Nat) (w : World) (h : MT w M l bs) (hk : k < l.length) (hl : l.length ≤ 256) :
    Calls Tryd.prog 34 #[.pointer (some ⟨M, 0, none⟩), .int .i64 ((k : Int) + 1)] w fun e w' => e = .returned (.tuple #[clV (l.getD k c0), .int .i64 0]) ∧ Below w.heap.size w w' :=
  find_with M _ 0 _ w (fun W hb => of_ok M l bs k W (h.later hb) hk hl)
end Go.Proofs.YtiengbmnfbbgoaaDoor
namespace Go.Proofs.YtiengbmnfbbgoaaDoor
open Go Go.RowKit
theorem step_stO {P : Program} {ops : Array Oper} {o : Oper} {a : Act} {w : World} {K : Act → World → Prop} {Q : Exit → Act → World → Prop} {E : Prop} (hgd : o.guard = none) (ty : TypeId) (x y : Operand) (ho : o.op = .store ty x y)
    (b off : Nat) (cs : Array Value) (hx : a.eval x = .pointer (some ⟨b, off, none⟩)) (hy : a.eval y = .agg cs) (ht : w.there b off cs.size) (hi : (P.info? ty).map (·.size) = some cs.size) (h1 : cs.all (·.oneCell') = true)
    (h : K (a.put o.dst undef) (w.setCells b off cs.toList)) : if Region.wanted o (yielded ops a.tmps) = true then Oper.wp P o a w K Q else E := by
  have hw : Region.wanted o (yielded ops a.tmps) = true := by simp [Region.wanted, hgd]
  rw [if_pos hw]
  exact wp_store_mid ty x y ho b off cs hx hy ht hi h1 h
theorem MtC.add {l : List Cl} {v : Value} {ms : Array Value} (h : MtC l v ms) (c : Cl) (hl : l.length < 256) : MtC (l ++ [c]) v ((spl ms (l.length * 4) (clC c).toList).setIfInBounds 1024 (.int .i64 ((l.length : Int) + 1))) := by
  obtain ⟨h1, h2, h3, h4⟩ := h
  have hcl : (clC c).toList.length = 4 := rfl
  refine ⟨by rw [Array.size_setIfInBounds, spl_size, h1], ?_, ?_, fun k hk j u hj => ?_⟩
  · rw [Array.getElem?_setIfInBounds_self, if_pos (by rw [spl_size, h1]; omega)]
    simp
  · rw [Array.getElem?_setIfInBounds_ne (by omega), spl_get, if_neg (by omega)]
    exact h3
  · have hj4 : j < 4 := by have := (List.getElem?_eq_some_iff.1 hj).1; exact this
    rw [List.length_append, List.length_singleton] at hk
    rw [Array.getElem?_setIfInBounds_ne (by omega), spl_get]
    by_cases hlt : k < l.length
    · rw [if_neg (by omega)]
      rw [show (l ++ [c]).getD k c0 = l.getD k c0 by simp [List.getElem?_append_left hlt]] at hj
      exact h4 k hlt j u hj
    · obtain rfl : k = l.length := by omega
      rw [if_pos (by rw [hcl, h1]; omega), show 4 * l.length + j - l.length * 4 = j by omega]
      rw [show (l ++ [c]).getD l.length c0 = c by simp] at hj
      exact hj
set_option maxRecDepth 100000 in
set_option maxHeartbeats 1000000 in
theorem madd_any (M : Nat) (l : List Cl) (bs : List UInt8) (c : Cl) (w : World) (h : MT w M l bs) (hl : l.length < 256) :
    Calls Tryd.prog 50 #[.pointer (some ⟨M, 0, none⟩), clV c] w fun e w' => e = .returned (.tuple #[]) ∧ Issued M l (l ++ [c]) w w' := by
  have hlt := h.lt
  obtain ⟨ms, v, hr, hc, hk⟩ := h
  have HAdd := Bx.mk (hc.add c hl)
  have HMs := Bx.mk hc
  obtain ⟨n, hn⟩ : ∃ n, l.length = n := ⟨_, rfl⟩
  have HN := Bx.mk hn
  rw [hn] at HAdd hl
  have HCC : Bx ((clC c).size = 4 ∧ (clC c).all (·.oneCell') = true ∧ (Tryd.prog.info? 36).map (·.size) = some (clC c).size ∧ (Tryd.prog.info? 36).map (·.size) = some (clC c).toList.length) := Bx.mk ⟨rfl, by simp [clC, Value.oneCell'], by kernel_rfl, by kernel_rfl⟩
  change Calls Tryd.prog 50 #[.pointer (some ⟨M, 0, none⟩), .agg (clC c)] w fun e w' => e = .returned (.tuple #[]) ∧ Issued M l (l ++ [c]) w w'
  obtain ⟨cv, hcv⟩ : ∃ cv, clC c = cv := ⟨_, rfl⟩
  rw [hcv] at HAdd HCC ⊢
  clear hcv hn hk
  obtain ⟨B, hB⟩ : ∃ B, w.heap.size = B := ⟨_, rfl⟩
  have HRow : Bx ((w.alloc (.cells cv 36)).drew.heap[M]? = some (.cells ms 101 (0, 0)) ∧ (w.alloc (.cells cv 36)).drew.heap[B]? = some (.cells cv 36 (0, 0)) ∧ w.grownBy (w.alloc (.cells cv 36)).drew (some M)) := Bx.mk ⟨by
    have hb : Below w.heap.size w (w.alloc (.cells cv 36)).drew := (below_a _).drew
    rw [hb.block _ hlt]; exact hr, by show (w.alloc _).heap[B]? = _; exact hnew _ _ _ hB.symm, kb_below _ ((below_a _).drew)⟩
  have HMB : Bx (M < B) := Bx.mk (by omega)
  have hn3 : (n : Int) < 256 := by omega
  have HR0 := Bx.mk hr
  clear hr hlt hc
  go_enter Tryd.func50, Tryd.ntmps50
  go_upto_region 1 with fail
  have HX : Bx ((w.alloc (.cells cv 36)).drew.cell? ⟨M, 1024, none⟩ = some (.int .i64 (n : Int)) ∧ (w.alloc (.cells cv 36)).drew.rangeAt B 0 cv.toList) := Bx.mk ⟨by rw [cell_of_row _ _ _ _ _ _ HRow.out.1, HMs.out.2.1, HN.out], fun j u hj => by show World.cell? _ ⟨B, 0 + j, none⟩ = some u; rw [cell_of_row _ _ _ _ _ _ HRow.out.2.1, Nat.zero_add, ← Array.getElem?_toList]; exact hj⟩
  refine wp_region_noPanic ?_
  refine wp_region_held_drew (S := fun W => W.cell? ⟨M, 1024, none⟩ = some (.int .i64 (n : Int)) ∧ W.rangeAt B 0 cv.toList) (by kernel_rfl) (HX.out) (fun hHeld => ?_)
  generalize (w.alloc (.cells cv 36)).drew = W0 at *
  refine takeL 0 (v := ?_) rfl (by kernel_rfl) (by kernel_rfl) (by kernel_rfl) (fun _ _ _ h => h) (Or.inl ⟨by rfl, ?_⟩) hHeld ?_
  rotate_left 1
  · (intro w hSw; go_simp; try with_reducible rfl)
  try simp only [Act.put, List.setIfInBounds_toArray, List.set_cons_zero, List.set_cons_succ]
  refine takeL 1 (v := ?_) rfl (by kernel_rfl) (by kernel_rfl) (by kernel_rfl) (fun _ _ _ h => h) (Or.inl ⟨by rfl, ?_⟩) hHeld ?_
  rotate_left 1
  · (intro w hSw; go_simp; try with_reducible rfl)
  try simp only [Act.put, List.setIfInBounds_toArray, List.set_cons_zero, List.set_cons_succ]
  refine takeL 2 (v := ?_) rfl (by kernel_rfl) (by kernel_rfl) (by kernel_rfl) (fun _ _ _ h => h) (Or.inl ⟨by rfl, ?_⟩) hHeld ?_
  rotate_left 1
  · (intro w hSw; go_simp; try with_reducible rfl)
  try simp only [Act.put, List.setIfInBounds_toArray, List.set_cons_zero, List.set_cons_succ]
  refine takeL 3 (v := ?_) rfl (by kernel_rfl) (by kernel_rfl) (by kernel_rfl) (fun _ _ _ h => h) (Or.inl ⟨by rfl, ?_⟩) hHeld ?_
  rotate_left 1
  · (intro w hSw; go_simp; try with_reducible rfl)
  try simp only [Act.put, List.setIfInBounds_toArray, List.set_cons_zero, List.set_cons_succ]
  refine takeL 4 (v := ?_) rfl (by kernel_rfl) (by kernel_rfl) (by kernel_rfl) (fun _ _ _ h => h) (Or.inl ⟨by rfl, ?_⟩) hHeld ?_
  rotate_left 1
  · (intro w hSw; have c0 : w.cell? ⟨M, 1024, none⟩ = some (.int .i64 (n : Int)) := hSw.1; go_simp; try with_reducible rfl)
  try simp only [Act.put, List.setIfInBounds_toArray, List.set_cons_zero, List.set_cons_succ]
  refine takeL 5 rfl (by kernel_rfl) (by kernel_rfl) (by kernel_rfl) (fun _ _ _ h => h) (yieldsIf_load_mid (by rfl) _ _ rfl _ _ rfl _ _ (fun w hSw => hSw.2) Tryd.underlying36 rfl HCC.out.2.2.2) hHeld ?_
  try simp only [Act.put, List.setIfInBounds_toArray, List.set_cons_zero, List.set_cons_succ]
  refine takeL 6 (v := ?_) rfl (by kernel_rfl) (by kernel_rfl) (by kernel_rfl) (fun _ _ _ h => h) (Or.inl ⟨by rfl, ?_⟩) hHeld ?_
  rotate_left 1
  · (intro w hSw; go_simp; try with_reducible rfl)
  try simp only [Act.put, List.setIfInBounds_toArray, List.set_cons_zero, List.set_cons_succ]
  refine takeL 7 (v := ?_) rfl (by kernel_rfl) (by kernel_rfl) (by kernel_rfl) (fun _ _ _ h => h) (Or.inl ⟨by rfl, ?_⟩) hHeld ?_
  rotate_left 1
  · (intro w hSw; go_simp; try with_reducible rfl)
  try simp only [Act.put, List.setIfInBounds_toArray, List.set_cons_zero, List.set_cons_succ]
  refine takeL 8 (v := ?_) rfl (by kernel_rfl) (by kernel_rfl) (by kernel_rfl) (fun _ _ _ h => h) (Or.inl ⟨by rfl, ?_⟩) hHeld ?_
  rotate_left 1
  · (intro w hSw; go_simp; try with_reducible rfl)
  try simp only [Act.put, List.setIfInBounds_toArray, List.set_cons_zero, List.set_cons_succ]
  refine stepL 9 (by kernel_rfl) rfl (fun K hK => ?_)
  refine step_stO rfl 36 _ _ rfl M (n * 4) cv (by rfl) (by rfl) (there_row HRow.out.1 _ _ (by rw [HCC.out.1, HMs.out.1]; have := hl; omega)) HCC.out.2.2.1 HCC.out.2.1 ?_
  have hr2 := heap_setCells_same M _ cv.toList (n * 4) W0 _ HRow.out.1
  have hcl : cv.toList.length = 4 := by rw [Array.length_toList]; exact HCC.out.1
  have H1 : Bx ((W0.setCells M (n * 4) cv.toList).heap[M]? = some (.cells (spl ms (n * 4) cv.toList) 101 (0, 0)) ∧ w.grownBy (W0.setCells M (n * 4) cv.toList) (some M) ∧ (W0.setCells M (n * 4) cv.toList).cell? ⟨M, 1024, none⟩ = some (.int .i64 (n : Int)) ∧ (W0.setCells M (n * 4) cv.toList).rangeAt B 0 cv.toList) := Bx.mk ⟨hr2, kb_trans HRow.out.2.2 (kb_setCells _ _ _), by rw [cell_of_row _ _ _ _ _ _ hr2, spl_get, if_neg (by rw [hcl]; omega), HMs.out.2.1, HN.out], range_grown HX.out.2 (kb_setCells (b := M) _ _ _) (by have := HMB.out; omega)⟩
  clear hr2 hcl HX HRow
  refine hK.out _ _ H1.out.2.2 (fun hHeld => ?_)
  clear hK K
  try simp only [Act.put]
  generalize W0.setCells M (n * 4) cv.toList = W1 at *
  refine wpAnyH_done (by kernel_rfl) ?_ _
  refine NoPanic.normal ?_
  clear hHeld
  have c1 := H1.out.2.2.1
  have f1 : W1.frozen? ⟨M, 1024, none⟩ = false := frozen_of_row _ _ _ _ _ H1.out.1
  go_wp2
  go_end0
  refine ⟨rfl, kb_trans H1.out.2.1 (kb_setCell _ _ _), fun ms2 v2 hr2 hc2 => ⟨_, heap_setCell_same _ _ _ _ _ _ H1.out.1, ?_⟩⟩
  rw [HR0.out] at hr2
  injection hr2 with e1
  injection e1 with e1
  subst e1
  have h5 := hc2.2.2.1
  rw [HMs.out.2.2.1] at h5
  injection h5 with h5
  rw [← h5]
  exact HAdd.out
end Go.Proofs.YtiengbmnfbbgoaaDoor
