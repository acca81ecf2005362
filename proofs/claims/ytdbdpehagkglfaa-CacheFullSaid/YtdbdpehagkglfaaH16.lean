/-
  A book in its block, its map, and its entries in theirs; what stays beside them.
-/
import Derived.Test.YtdbdpehagkglfaaH8
import Derived.Test.YtdbdpehagkglfaaCb
namespace Go.Proofs.Ytdbdpehagkglfaa
open Go Go.RowKit
/-- What a book's calls may change: maps, entries, books. -/
def soft (o : Obj) : Prop := (∃ es clock, o = .map es clock) ∨ ∃ cs T fr, o = .cells cs T fr ∧ (T = 80 ∨ T = 71)
theorem hard_cells {cs : Array Value} {T : TypeId} {fr : Nat × Nat} (h1 : T ≠ 80) (h2 : T ≠ 71) : ¬ soft (.cells cs T fr) := by
  rintro (⟨_, _, h⟩ | ⟨cs', T', fr', h, h3⟩)
  · cases h
  · injection h with _ h
    subst h
    rcases h3 with h3 | h3
    · exact h1 h3
    · exact h2 h3
/-- What stays while a book changes that is not older than B. -/
structure KB (B : Nat) (W W1 : World) : Prop where
  os : W1.os = W.os
  tape : W1.tape = W.tape
  output : W1.output = W.output
  size : W.heap.size ≤ W1.heap.size
  block : ∀ i o, W.heap[i]? = some o → (i < B ∨ ¬ soft o) → W1.heap[i]? = some o
theorem KB.refl (B : Nat) (W : World) : KB B W W := ⟨rfl, rfl, rfl, Nat.le_refl _, fun _ _ h _ => h⟩
theorem KB.trans {B : Nat} {W W1 W2 : World} (h : KB B W W1) (k : KB B W1 W2) : KB B W W2 :=
  ⟨k.os.trans h.os, k.tape.trans h.tape, k.output.trans h.output, Nat.le_trans h.size k.size, fun i o h0 h1 => k.block i o (h.block i o h0 h1) h1⟩
theorem KB.of {B : Nat} {W W1 : World} (h : Below W.heap.size W W1) : KB B W W1 :=
  ⟨h.os, h.tape, h.output, h.size, fun i o h0 _ => by rw [h.block i (Array.getElem?_eq_some_iff.1 h0).1]; exact h0⟩
theorem KB.by_ {B : Nat} {W W1 : World} {j : Nat} (h : W.grownBy W1 (some j)) (hj : B ≤ j) (hs : ∀ o, W.heap[j]? = some o → soft o) : KB B W W1 :=
  ⟨h.os, h.tape, h.output, h.size, fun i o h0 h1 => by
    rw [h.block i (Array.getElem?_eq_some_iff.1 h0).1 (fun e => ?_)]
    · exact h0
    · injection e with e
      subst e
      rcases h1 with h1 | h1
      · omega
      · exact h1 (hs o h0)⟩
theorem KB.below {B : Nat} {W W1 : World} (h : KB B W W1) (hB : B ≤ W.heap.size) : Below B W W1 :=
  ⟨h.os, h.tape, h.output, h.size, fun i hi => by
    have h1 := Array.getElem?_eq_getElem (show i < W.heap.size by omega)
    rw [h1]
    exact h.block i _ h1 (.inl hi)⟩
theorem OwnB.keepB {B base : Nat} {W W1 : World} {v : Value} {bs : List UInt8} (h : OwnB W base v bs) (k : KB B W W1) : OwnB W1 base v bs := by
  obtain ⟨h1, h2⟩ := h
  refine ⟨h1, ?_⟩
  rcases h2 with h0 | ⟨g, cap, cur, hv', hb', hg, hr'⟩
  · exact .inl h0
  · exact .inr ⟨g, cap, cur, hv', hb', k.block g _ hg (.inr (hard_cells (by decide) (by decide))), hr'⟩
theorem KeyO.keepB {B base : Nat} {W W1 : World} {v : Value} {bs : List UInt8} (h : KeyO W base v bs) (k : KB B W W1) : KeyO W1 base v bs := by
  obtain ⟨p, s, hv, hp, hr, ho⟩ := h
  exact ⟨p, s, hv, hp, k.block p _ hr (.inr (hard_cells (by decide) (by decide))), ho.keepB k⟩
theorem OwnG.keepB {α : Type} {T : TypeId} {n : Nat} {enc : α → List Value} {B base : Nat} {W W1 : World} {v : Value} {l : List α} (h : OwnG T n enc W base v l) (k : KB B W W1) (h1 : T ≠ 80) (h2 : T ≠ 71) : OwnG T n enc W1 base v l :=
  h.kept fun g _ _ _ h0 => k.block g _ h0 (.inr (hard_cells h1 h2))
theorem OwnN.keepB {T : TypeId} {B base : Nat} {W W1 : World} {v : Value} {l : List Nn} (h : OwnN T W base v l) (k : KB B W W1) (h1 : T ≠ 80) (h2 : T ≠ 71) : OwnN T W1 base v l :=
  h.kept fun g _ _ _ h0 => k.block g _ h0 (.inr (hard_cells h1 h2))
/-- An entry: whose it is, where it lies, its window, its key, when it was asked for. -/
structure En where
  c : Cl
  p : Nat
  s : Ws
  k : Option (List UInt8)
  a : Int
/-- The key of an entry. -/
def KeyAt (B : Nat) (W : World) (k : Option (List UInt8)) (kv : Value) : Prop := (k = none ∧ kv = .pointer none) ∨ ∃ bs, k = some bs ∧ KeyO W B kv bs ∧ bs.length ≤ 1000
theorem KeyAt.later {B : Nat} {W W1 : World} {k : Option (List UInt8)} {kv : Value} (h : KeyAt B W k kv) (hb : Below W.heap.size W W1) : KeyAt B W1 k kv := by
  rcases h with h | ⟨bs, h1, h2, h3⟩
  · exact .inl h
  · exact .inr ⟨bs, h1, h2.later hb, h3⟩
theorem KeyAt.keepB {B B' : Nat} {W W1 : World} {k : Option (List UInt8)} {kv : Value} (h : KeyAt B W k kv) (kb : KB B' W W1) : KeyAt B W1 k kv := by
  rcases h with h | ⟨bs, h1, h2, h3⟩
  · exact .inl h
  · exact .inr ⟨bs, h1, h2.keepB kb, h3⟩
/-- An entry in its block. -/
structure EntAt (B : Nat) (W : World) (e : En) : Prop where
  row : ∃ kv, WinE [kv, .int .i64 e.a] 80 W e.p e.s ∧ KeyAt B W e.k kv
  ok : e.s.ok
  old : B ≤ e.p
  fit : Cl64 e.c
  asked : 0 ≤ e.a ∧ e.a ≤ 1073741824
theorem EntAt.later {B : Nat} {W W1 : World} {e : En} (h : EntAt B W e) (hb : Below W.heap.size W W1) : EntAt B W1 e := by
  obtain ⟨⟨kv, h1, h2⟩, h3, h4, h5, h6⟩ := h
  exact ⟨⟨kv, h1.later hb, h2.later hb⟩, h3, h4, h5, h6⟩
theorem EntAt.lt {B : Nat} {W : World} {e : En} (h : EntAt B W e) : e.p < W.heap.size := by
  obtain ⟨⟨kv, h1, h2⟩, _⟩ := h
  exact h1.lt
/-- It stays where its own block stays, and the keys do. -/
theorem EntAt.keepB {B B' : Nat} {W W1 : World} {e : En} (h : EntAt B W e) (k : KB B' W W1) (hb : W1.heap[e.p]? = W.heap[e.p]?) : EntAt B W1 e := by
  obtain ⟨⟨kv, h1, h2⟩, h3, h4, h5, h6⟩ := h
  exact ⟨⟨kv, hb.trans h1, h2.keepB k⟩, h3, h4, h5, h6⟩
/-- Whose entries lie where. -/
def prsE (l : List En) : List (Cl × Nat) := l.map fun e => (e.c, e.p)
/-- A book's map, nil or not. -/
def MapB (B : Nat) (W : World) (mb : Option Nat) (ml : List (Cl × Nat)) : Prop := (mb = none ∧ ml = []) ∨ ∃ M, mb = some M ∧ B ≤ M ∧ MapL W M ml
theorem MapL.lt {W : World} {M : Nat} {l : List (Cl × Nat)} (m : MapL W M l) : M < W.heap.size := by obtain ⟨es, clock, hb, -, -⟩ := m.st; exact (Array.getElem?_eq_some_iff.1 hb).1
theorem MapL.soft {W : World} {M : Nat} {l : List (Cl × Nat)} (m : MapL W M l) : ∀ o, W.heap[M]? = some o → soft o := fun o h => by
  obtain ⟨es, clock, hb, -, -⟩ := m.st
  rw [hb] at h
  injection h with h
  subst h
  exact .inl ⟨_, _, rfl⟩
theorem MapB.later {B : Nat} {W W1 : World} {mb : Option Nat} {ml : List (Cl × Nat)} (h : MapB B W mb ml) (hb : Below W.heap.size W W1) : MapB B W1 mb ml := by
  rcases h with h | ⟨M, h1, h2, h3⟩
  · exact .inl h
  · exact .inr ⟨M, h1, h2, h3.later (hb.block M h3.lt)⟩
/-- A book, with its entries. -/
structure BookAt (B Q : Nat) (l : List En) (W : World) : Prop where
  row : ∃ mb ml, W.heap[Q]? = some (.cells #[.map mb] 71 (0, 0)) ∧ MapB B W mb ml ∧ ml.Perm (prsE l)
  ent : ∀ e ∈ l, EntAt B W e
  dist : l.Pairwise (fun x y => x.p ≠ y.p)
  keys : l.Pairwise (fun x y => x.c ≠ y.c)
  qB : B ≤ Q
theorem BookAt.lt {B Q : Nat} {l : List En} {W : World} (h : BookAt B Q l W) : Q < W.heap.size := by
  obtain ⟨mb, ml, h1, -⟩ := h.row
  exact (Array.getElem?_eq_some_iff.1 h1).1
theorem BookAt.later {B Q : Nat} {l : List En} {W W1 : World} (h : BookAt B Q l W) (hb : Below W.heap.size W W1) : BookAt B Q l W1 := by
  obtain ⟨mb, ml, h1, h2, h3⟩ := h.row
  exact ⟨⟨mb, ml, (hb.block Q (Array.getElem?_eq_some_iff.1 h1).1).trans h1, h2.later hb, h3⟩, fun e he => (h.ent e he).later hb, h.dist, h.keys, h.qB⟩
theorem BookAt.perm {B Q : Nat} {l l' : List En} {W : World} (h : BookAt B Q l W) (hp : l.Perm l') : BookAt B Q l' W := by
  obtain ⟨mb, ml, h1, h2, h3⟩ := h.row
  exact ⟨⟨mb, ml, h1, h2, h3.trans (hp.map _)⟩, fun e he => h.ent e (hp.mem_iff.2 he), (hp.pairwise_iff (fun {a b} hab => Ne.symm hab)).1 h.dist, (hp.pairwise_iff (fun {a b} hab => Ne.symm hab)).1 h.keys, h.qB⟩
theorem MapB.nd {B : Nat} {W : World} {mb : Option Nat} {ml : List (Cl × Nat)} (h : MapB B W mb ml) : ml.Pairwise (fun x y => x.1 ≠ y.1) := by
  rcases h with ⟨_, rfl⟩ | ⟨M, _, _, h3⟩
  · exact List.Pairwise.nil
  · exact h3.nd
theorem MapB.look {B : Nat} {W : World} {mb : Option Nat} {ml : List (Cl × Nat)} (h : MapB B W mb ml) (c : Cl) (hc : Cl64 c) : (Instr.lookup 69 (.map mb) (clV c) false).run Try.prog W = .ok (ptrO (atC ml c)) W := by
  have hz : ∀ W : World, (zeroValue 75).run Try.prog W = .ok (.pointer none) W := fun W => by kernel_rfl
  rcases h with ⟨rfl, rfl⟩ | ⟨M, rfl, _, h3⟩
  · have := look_nilG _ _ Try.underlying69 hz c hc false W
    simpa [atC, ptrO] using this
  · have := h3.lookG _ _ Try.underlying69 hz c hc false
    simpa using this
theorem MapB.len {B : Nat} {W : World} {mb : Option Nat} {ml : List (Cl × Nat)} (h : MapB B W mb ml) (ty : TypeId) : (Builtin.len_ #[69] ty #[.map mb]).run Try.prog W = .ok (.int .i64 (ml.length : Int)) W := by
  rcases h with ⟨rfl, rfl⟩ | ⟨M, rfl, _, h3⟩
  · kernel_rfl
  · exact h3.lenG _ _ Try.underlying69 ty
theorem atC_of_mem {ml : List (Cl × Nat)} {l : List En} (nd : ml.Pairwise (fun x y => x.1 ≠ y.1)) (hp : ml.Perm (prsE l)) {e : En} (he : e ∈ l) : atC ml e.c = some e.p := atC_some nd (x := (e.c, e.p)) (hp.mem_iff.2 (List.mem_map.2 ⟨e, he, rfl⟩))
theorem atC_of_out {ml : List (Cl × Nat)} {l : List En} (hp : ml.Perm (prsE l)) {c : Cl} (hn : ∀ e ∈ l, e.c ≠ c) : atC ml c = none := atC_none fun x hx => by
  obtain ⟨e, he, rfl⟩ := List.mem_map.1 (hp.mem_iff.1 hx)
  exact hn e he
/-- Where the entry of these claims lies. -/
def posE (l : List En) (c : Cl) : Option Nat := (l.find? fun e => decide (e.c = c)).map (·.p)
theorem posE_in {l : List En} (hk : l.Pairwise (fun x y => x.c ≠ y.c)) {e : En} (he : e ∈ l) : posE l e.c = some e.p := by
  induction l with
  | nil => cases he
  | cons y l ih =>
    obtain ⟨h1, h2⟩ := List.pairwise_cons.1 hk
    unfold posE
    rw [List.find?_cons]
    rcases List.mem_cons.1 he with rfl | he
    · simp
    · rw [show decide (y.c = e.c) = false from decide_eq_false (h1 e he)]
      exact ih h2 he
theorem posE_out {l : List En} {c : Cl} (hn : ∀ e ∈ l, e.c ≠ c) : posE l c = none := by
  unfold posE
  rw [List.find?_eq_none.2 (fun x hx => by simpa using hn x hx)]
  rfl
/-- What a look-up in the book's map hands back. -/
theorem BookAt.look {B Q : Nat} {l : List En} {W : World} (h : BookAt B Q l W) (c : Cl) (hc : Cl64 c) : ∃ mb, W.cell? ⟨Q, 0, none⟩ = some (.map mb) ∧ (Instr.lookup 69 (.map mb) (clV c) false).run Try.prog W = .ok (ptrO (posE l c)) W ∧ ∀ ty, (Builtin.len_ #[69] ty #[.map mb]).run Try.prog W = .ok (.int .i64 (l.length : Int)) W := by
  obtain ⟨mb, ml, h1, h2, h3⟩ := h.row
  refine ⟨mb, by rw [cell_of_row _ _ _ _ _ _ h1]; rfl, ?_, fun ty => ?_⟩
  · have := h2.look c hc
    by_cases hin : ∃ e ∈ l, e.c = c
    · obtain ⟨e, he, rfl⟩ := hin
      rw [posE_in h.keys he]
      rw [atC_of_mem h2.nd h3 he] at this
      exact this
    · have hn : ∀ e ∈ l, e.c ≠ c := fun e he hc => hin ⟨e, he, hc⟩
      rw [posE_out hn]
      rw [atC_of_out h3 hn] at this
      exact this
  · have := h2.len ty
    rw [h3.length_eq] at this
    simpa [prsE] using this
/-- The same in every later world. -/
theorem BookAt.looks {B Q : Nat} {l : List En} {w : World} (h : BookAt B Q l w) (c : Cl) (hc : Cl64 c) : ∃ mb, ∀ W, Below w.heap.size w W → W.cell? ⟨Q, 0, none⟩ = some (.map mb) ∧ (Instr.lookup 69 (.map mb) (clV c) false).run Try.prog W = .ok (ptrO (posE l c)) W ∧ ∀ ty, (Builtin.len_ #[69] ty #[.map mb]).run Try.prog W = .ok (.int .i64 (l.length : Int)) W := by
  obtain ⟨mb, hm, -⟩ := h.look c hc
  refine ⟨mb, fun W hb => ?_⟩
  obtain ⟨mb2, h1, h2, h3⟩ := (h.later hb).look c hc
  have h4 : W.cell? ⟨Q, 0, none⟩ = some (.map mb) := (hb.cell (p := ⟨Q, 0, none⟩) h.lt).trans hm
  rw [h4] at h1
  injection h1 with h1
  injection h1 with h1
  subst h1
  exact ⟨h4, h2, h3⟩
end Go.Proofs.Ytdbdpehagkglfaa
namespace Go.Proofs.Ytdbdpehagkglfaa
open Go Go.RowKit
theorem WinE.at3 {kv : Value} {a : Int} {K : TypeId} {W : World} {p : Nat} {s : Ws} (h : WinE [kv, .int .i64 a] K W p s) : W.cell? ⟨p, 3, none⟩ = some kv := by rw [cell_of_row _ _ _ _ _ _ h]; rfl
theorem WinE.at4 {kv : Value} {a : Int} {K : TypeId} {W : World} {p : Nat} {s : Ws} (h : WinE [kv, .int .i64 a] K W p s) : W.cell? ⟨p, 4, none⟩ = some (.int .i64 a) := by rw [cell_of_row _ _ _ _ _ _ h]; rfl
set_option maxRecDepth 100000 in
set_option maxHeartbeats 1000000 in
theorem wanted_any (B : Nat) (e : En) (w : World) (h : EntAt B w e) : Calls Try.prog 38 #[ptr e.p] w fun x w' => x = .returned (.bool e.k.isNone) ∧ w' = w := by
  obtain ⟨⟨kv, h1, h2⟩, -, -, -, -⟩ := h
  have h3 := h1.at3
  clear h1
  obtain ⟨c, p, s, k, a⟩ := e
  unfold ptr
  simp only at h2 h3 ⊢
  rcases h2 with ⟨rfl, rfl⟩ | ⟨bs, rfl, ⟨g, v, rfl, -⟩, -⟩
  · go_enter Try.func38, Try.ntmps38
    go_wp2
    go_ret
    exact ⟨rfl, rfl⟩
  · go_enter Try.func38, Try.ntmps38
    go_wp2
    go_ret
    exact ⟨rfl, rfl⟩
/-- Is it due? -/
def dueE (t : Int) (e : En) : Bool := e.k.isNone && decide (8 ≤ t - e.a)
set_option maxRecDepth 100000 in
set_option maxHeartbeats 1000000 in
theorem due_any (B : Nat) (e : En) (t : Int) (w : World) (h : EntAt B w e) (ht : 0 ≤ t ∧ t ≤ 1073741824) : Calls Try.prog 37 #[ptr e.p, .int .i64 t] w fun x w' => x = .returned (.bool (dueE t e)) ∧ w' = w := by
  have HW := Bx.mk (wanted_any B e w h)
  obtain ⟨⟨kv, h1, -⟩, -, -, -, ha⟩ := h
  have h4 := h1.at4
  clear h1
  obtain ⟨c, p, s, k, a⟩ := e
  unfold dueE
  unfold ptr at *
  simp only at HW h4 ha ⊢
  cases k with
  | some bs =>
    simp only [Option.isNone, Bool.false_and] at HW ⊢
    clear ha ht
    go_enter Try.func37, Try.ntmps37
    go_wp2_with fail
    refine HW.out.mono ?_
    rintro e w1 ⟨rfl, hw⟩
    obtain rfl : w = w1 := hw.symm
    go_wp2
    go_ret
    exact ⟨rfl, rfl⟩
  | none =>
    simp only [Option.isNone, Bool.true_and] at HW ⊢
    by_cases hlt : a < t
    · obtain ⟨d, hd⟩ : ∃ d : Nat, t - a = (d : Int) := ⟨(t - a).toNat, by omega⟩
      have e1 : IntKind.i64.wrap (t - a) = (d : Int) := by rw [← hd]; simp [IntKind.wrap_i64]; omega
      have e2 : IntKind.u64.wrap (d : Int) = (d : Int) := by rw [IntKind.wrap_u64]; omega
      rw [hd]
      have HD := Bx.mk hd
      clear ha ht hd
      obtain ⟨b8, hb8⟩ : ∃ b8, decide ((8 : Int) ≤ (d : Int)) = b8 := ⟨_, rfl⟩
      rw [hb8]
      go_enter Try.func37, Try.ntmps37
      go_wp2_with fail
      refine HW.out.mono ?_
      rintro e w1 ⟨rfl, hw⟩
      obtain rfl : w = w1 := hw.symm
      go_wp2
      go_ret
      exact ⟨by first | rfl | (rw [hb8]) | skip, rfl⟩
    · have e0 : decide ((8 : Int) ≤ t - a) = false := decide_eq_false (by omega)
      rw [e0]
      clear ha ht e0
      go_enter Try.func37, Try.ntmps37
      go_wp2_with fail
      refine HW.out.mono ?_
      rintro e w1 ⟨rfl, hw⟩
      obtain rfl : w = w1 := hw.symm
      go_wp2
      go_ret
      exact ⟨rfl, rfl⟩
end Go.Proofs.Ytdbdpehagkglfaa
namespace Go.Proofs.Ytdbdpehagkglfaa
open Go Go.RowKit
theorem box_rng (w : World) (c : Cl) (T : TypeId) : (w.alloc (.cells #[.int .i64 c.id, .int .i64 c.ro, .int .i64 c.ex, .int .i64 c.se] T)).rangeAt w.heap.size 0 [.int .i64 c.id, .int .i64 c.ro, .int .i64 c.ex, .int .i64 c.se] := fun j u hj => by
  rw [cell_of_row _ _ _ _ _ _ (hnew _ _ _ rfl), Nat.zero_add, ← Array.getElem?_toList]
  exact hj
theorem rng_later {W W1 : World} {g o : Nat} {l : List Value} (h : W.rangeAt g o l) (hb : Below W.heap.size W W1) : W1.rangeAt g o l := fun j u hj => by
  have h1 := h j u hj
  rw [hb.cell (World.block_lt_of_cell? _ _ h1)]
  exact h1
end Go.Proofs.Ytdbdpehagkglfaa
namespace Go.Proofs.Ytdbdpehagkglfaa
open Go Go.RowKit
theorem cell_heap {W W1 : World} {Y j : Nat} (h : W1.heap[Y]? = W.heap[Y]?) : W1.cell? ⟨Y, j, none⟩ = W.cell? ⟨Y, j, none⟩ := by
  unfold World.cell?
  simp only [h]
theorem cell_aside {W W1 : World} {p Y j : Nat} (hg : W.grownBy W1 (some p)) (hY : Y < W.heap.size ∧ Y ≠ p) : W1.cell? ⟨Y, j, none⟩ = W.cell? ⟨Y, j, none⟩ :=
  cell_heap (hg.block Y hY.1 (fun e => by injection e with e; exact hY.2 e))
/-- The entry of the same claims turned. -/
def setC (l : List En) (e' : En) : List En := l.map fun y => if y.c = e'.c then e' else y
theorem setC_in {l : List En} {e' y : En} (h : y ∈ setC l e') : y = e' ∨ (y ∈ l ∧ y.c ≠ e'.c) := by
  obtain ⟨z, hz, rfl⟩ := List.mem_map.1 h
  split
  · exact .inl rfl
  · rename_i hn
    exact .inr ⟨hz, hn⟩
theorem pw_inj {l : List En} (hk : l.Pairwise (fun x y => x.c ≠ y.c)) {e y : En} (he : e ∈ l) (hy : y ∈ l) (h : y.c = e.c) : y = e := by
  induction l with
  | nil => cases he
  | cons z l ih =>
    obtain ⟨h1, h2⟩ := List.pairwise_cons.1 hk
    rcases List.mem_cons.1 he with h5 | h5 <;> rcases List.mem_cons.1 hy with h6 | h6
    · rw [h5, h6]
    · subst h5; exact absurd h.symm (h1 y h6)
    · subst h6; exact absurd h (h1 e h5)
    · exact ih h2 h5 h6
theorem pw_ptr {l : List En} (hk : l.Pairwise (fun x y => x.p ≠ y.p)) {e y : En} (he : e ∈ l) (hy : y ∈ l) (h : y.p = e.p) : y = e := by
  induction l with
  | nil => cases he
  | cons z l ih =>
    obtain ⟨h1, h2⟩ := List.pairwise_cons.1 hk
    rcases List.mem_cons.1 he with h5 | h5 <;> rcases List.mem_cons.1 hy with h6 | h6
    · rw [h5, h6]
    · subst h5; exact absurd h.symm (h1 y h6)
    · subst h6; exact absurd h (h1 e h5)
    · exact ih h2 h5 h6
theorem setC_keys {l : List En} (hk : l.Pairwise (fun x y => x.c ≠ y.c)) (e' : En) : (setC l e').Pairwise (fun x y => x.c ≠ y.c) := by
  unfold setC
  rw [List.pairwise_map]
  refine hk.imp fun {a b} hab => ?_
  split <;> split <;> simp_all
theorem setC_prs {l : List En} (hk : l.Pairwise (fun x y => x.c ≠ y.c)) {e e' : En} (he : e ∈ l) (h1 : e'.c = e.c) (h2 : e'.p = e.p) : prsE (setC l e') = prsE l := by
  unfold prsE setC
  rw [List.map_map]
  refine List.map_congr_left fun y hy => ?_
  simp only [Function.comp]
  split
  · rename_i hc
    have := pw_inj hk he hy (hc.trans h1)
    rw [h1, h2, this]
  · rfl
theorem setC_dist {l : List En} (hk : l.Pairwise (fun x y => x.c ≠ y.c)) (hd : l.Pairwise (fun x y => x.p ≠ y.p)) {e e' : En} (he : e ∈ l) (h1 : e'.c = e.c) (h2 : e'.p = e.p) : (setC l e').Pairwise (fun x y => x.p ≠ y.p) := by
  have h3 : (prsE (setC l e')).Pairwise (fun x y => x.2 ≠ y.2) := by
    rw [setC_prs hk he h1 h2]
    exact List.pairwise_map.2 hd
  exact (List.pairwise_map (f := fun e : En => (e.c, e.p))).1 h3
/-- The book where the block of one entry has turned. -/
theorem BookAt.upd {B Q : Nat} {l : List En} {W W1 : World} (h : BookAt B Q l W) {e e' : En} (he : e ∈ l) (h1 : e'.c = e.c) (h2 : e'.p = e.p) (hE : EntAt B W1 e') (hg : W.grownBy W1 (some e.p)) : BookAt B Q (setC l e') W1 ∧ KB B W W1 := by
  obtain ⟨kv, hw, -⟩ := (h.ent e he).row
  have hkb : KB B W W1 := KB.by_ hg (h.ent e he).old (fun o ho => by
    rw [show W.heap[e.p]? = _ from hw] at ho
    injection ho with ho
    subst ho
    exact .inr ⟨_, _, _, rfl, .inl rfl⟩)
  refine ⟨⟨?_, fun y hy => ?_, setC_dist h.keys h.dist he h1 h2, setC_keys h.keys e', h.qB⟩, hkb⟩
  · obtain ⟨mb, ml, r1, r2, r3⟩ := h.row
    refine ⟨mb, ml, ?_, ?_, by rw [setC_prs h.keys he h1 h2]; exact r3⟩
    · rw [hg.block Q h.lt (fun ex => by
        injection ex with ex
        subst ex
        rw [show W.heap[e.p]? = _ from hw] at r1
        injection r1 with r1
        injection r1 with _ r1
        exact absurd r1 (by decide))]
      exact r1
    · rcases r2 with r2 | ⟨M, r4, r5, r6⟩
      · exact .inl r2
      · refine .inr ⟨M, r4, r5, r6.later (hg.block M r6.lt (fun ex => ?_))⟩
        injection ex with ex
        subst ex
        obtain ⟨es, clock, hb, -⟩ := r6.st
        rw [show W.heap[e.p]? = _ from hw] at hb
        cases hb
  · rcases setC_in hy with rfl | ⟨hy, hn⟩
    · exact hE
    · refine (h.ent y hy).keepB hkb (hg.block _ (h.ent y hy).lt (fun ex => ?_))
      injection ex with ex
      exact hn ((congrArg En.c (pw_ptr h.dist he hy ex)).trans h1.symm)
set_option maxRecDepth 100000 in
set_option maxHeartbeats 1000000 in
theorem new15 (w : World) : Calls Try.prog 6 #[] w fun x w' => x = .returned (ptr w.heap.size) ∧ BookAt w.heap.size w.heap.size [] w' ∧ Below w.heap.size w w' := by
  unfold ptr
  go_enter Try.func6, Try.ntmps6
  go_wp2
  go_ret
  exact ⟨rfl, ⟨⟨none, [], hnew _ _ _ rfl, .inl ⟨rfl, rfl⟩, .nil⟩, (fun e he => by cases he), .nil, .nil, Nat.le_refl _⟩, below_a _⟩
end Go.Proofs.Ytdbdpehagkglfaa
namespace Go.Proofs.Ytdbdpehagkglfaa
open Go Go.RowKit
theorem step_mapU15 {w w1 : World} {ops : Array Oper} {o : Oper} {a : Act} {K : Act → World → Prop} {Q : Exit → Act → World → Prop} {E : Prop} (hgd : o.guard = none) (tt : TypeId) (m k v : Operand)
    (ho : o.op = .mapUpdate tt m k v) (hrun : (Instr.mapUpdate tt (a.eval m) (a.eval k) (a.eval v)).run Try.prog w = .ok () w1) (h : K (a.put o.dst undef) w1) :
    if Region.wanted o (yielded ops a.tmps) = true then Oper.wp Try.prog o a w K Q else E := by
  have hw : Region.wanted o (yielded ops a.tmps) = true := by simp [Region.wanted, hgd]
  rw [if_pos hw]
  unfold Oper.wp
  simp [execOp, ho, hrun, Result.andThen]
  exact h
theorem map_some_nil (M : Nat) (W : World) : (binOp BinOp.eql 69 (.map (some M)) (.map none)).run Try.prog W = .ok (.bool false) W := by kernel_rfl
theorem map_nil_nil (W : World) : (binOp BinOp.eql 69 (.map none) (.map none)).run Try.prog W = .ok (.bool true) W := by kernel_rfl
theorem BookAt.mapOf {B Q : Nat} {l : List En} {W : World} (h : BookAt B Q l W) {M : Nat} (hM : W.cell? ⟨Q, 0, none⟩ = some (.map (some M))) : ∃ ml, W.heap[Q]? = some (.cells #[.map (some M)] 71 (0, 0)) ∧ B ≤ M ∧ MapL W M ml ∧ ml.Perm (prsE l) := by
  obtain ⟨mb, ml, h1, h2, h3⟩ := h.row
  have h4 : W.cell? ⟨Q, 0, none⟩ = some (.map mb) := by rw [cell_of_row _ _ _ _ _ _ h1]; rfl
  rw [hM] at h4
  injection h4 with h4
  injection h4 with h4
  subst h4
  rcases h2 with ⟨h2, _⟩ | ⟨M', h2, h5, h6⟩
  · cases h2
  · injection h2 with h2
    subst h2
    exact ⟨ml, h1, h5, h6, h3⟩
theorem EntAt.ne_map {B : Nat} {W : World} {e : En} {M : Nat} {ml : List (Cl × Nat)} (h : EntAt B W e) (hm : MapL W M ml) : e.p ≠ M := fun ex => by
  obtain ⟨kv, hw, -⟩ := h.row
  obtain ⟨es, clock, hb, -⟩ := hm.st
  rw [← ex, show W.heap[e.p]? = _ from hw] at hb
  cases hb
theorem row_ne_map {W : World} {Q M : Nat} {cs : Array Value} {T : TypeId} {fr : Nat × Nat} {ml : List (Cl × Nat)} (h : W.heap[Q]? = some (.cells cs T fr)) (hm : MapL W M ml) : Q ≠ M := fun ex => by
  obtain ⟨es, clock, hb, -⟩ := hm.st
  rw [← ex, h] at hb
  cases hb
theorem prs_out {ml : List (Cl × Nat)} {l : List En} (hp : ml.Perm (prsE l)) {c : Cl} (hn : ∀ e ∈ l, e.c ≠ c) : ∀ x ∈ ml, x.1 ≠ c := fun x hx => by
  obtain ⟨e, he, rfl⟩ := List.mem_map.1 (hp.mem_iff.1 hx)
  exact hn e he
/-- A new entry in the book's map. -/
theorem BookAt.ins {B Q : Nat} {l : List En} {W : World} (h : BookAt B Q l W) {M : Nat} (hM : W.cell? ⟨Q, 0, none⟩ = some (.map (some M))) (e' : En) (hE : EntAt B W e') (hn : ∀ y ∈ l, y.c ≠ e'.c) (hd : ∀ y ∈ l, y.p ≠ e'.p) :
    ∃ W2, (Instr.mapUpdate 69 (.map (some M)) (clV e'.c) (ptr e'.p)).run Try.prog W = .ok () W2 ∧ BookAt B Q (l ++ [e']) W2 ∧ KB B W W2 ∧ W.grownBy W2 (some M) ∧ Q ≠ M := by
  obtain ⟨ml, h1, h2, h3, h4⟩ := h.mapOf hM
  obtain ⟨W2, hrun, hm2, hg⟩ := h3.putG _ _ Try.underlying69 e'.c e'.p hE.fit (prs_out h4 hn)
  have hk : KB B W W2 := KB.by_ hg h2 h3.soft
  have hQM : Q ≠ M := row_ne_map h1 h3
  refine ⟨W2, hrun, ⟨⟨some M, _, (hg.block Q h.lt (fun ex => hQM (by injection ex))).trans h1, .inr ⟨M, rfl, h2, hm2⟩, ?_⟩, fun y hy => ?_, ?_, ?_, h.qB⟩, hk, hg, hQM⟩
  · rw [show prsE (l ++ [e']) = prsE l ++ [(e'.c, e'.p)] from by simp [prsE]]
    exact h4.append_right _
  · rcases List.mem_append.1 hy with hy | hy
    · exact (h.ent y hy).keepB hk (hg.block _ (h.ent y hy).lt (fun ex => (h.ent y hy).ne_map h3 (by injection ex)))
    · obtain rfl : y = e' := by simpa using hy
      exact hE.keepB hk (hg.block _ hE.lt (fun ex => hE.ne_map h3 (by injection ex)))
  · rw [List.pairwise_append]
    exact ⟨h.dist, List.pairwise_singleton _ _, fun y hy z hz => by obtain rfl : z = e' := by simpa using hz
                                                                    exact hd y hy⟩
  · rw [List.pairwise_append]
    exact ⟨h.keys, List.pairwise_singleton _ _, fun y hy z hz => by obtain rfl : z = e' := by simpa using hz
                                                                    exact hn y hy⟩
theorem MapL.none_nil {B : Nat} {W : World} {ml : List (Cl × Nat)} (h : MapB B W none ml) : ml = [] := by
  rcases h with ⟨_, h⟩ | ⟨M, h, _⟩
  · exact h
  · cases h
/-- What is kept. -/
def Keeps (B Q : Nat) (l' : List En) (w : World) (W : World) : Prop := BookAt B Q l' W ∧ KB B w W
set_option maxRecDepth 100000 in
set_option maxHeartbeats 1000000 in
theorem keep_new_map (B Q : Nat) (l : List En) (e' : En) (hn : ∀ y ∈ l, y.c ≠ e'.c) (w : World) (M : Nat) (hM : w.cell? ⟨Q, 0, none⟩ = some (.map (some M))) (h : BookAt B Q l w) (hE : EntAt B w e') (hd : ∀ y ∈ l, y.p ≠ e'.p) :
    Calls Try.prog 33 #[ptr Q, clV e'.c, ptr e'.p] w fun x w' => x = .returned (.tuple #[]) ∧ Keeps B Q (l ++ [e']) w w' := by
  have HU : Bx (∀ W, Below w.heap.size w W → ∃ W2, (Instr.mapUpdate 69 (.map (some M)) (clV e'.c) (ptr e'.p)).run Try.prog W = .ok () W2 ∧ BookAt B Q (l ++ [e']) W2 ∧ KB B W W2 ∧ W.grownBy W2 (some M) ∧ Q ≠ M) := Bx.mk fun W hb => (h.later hb).ins ((hb.cell (p := ⟨Q, 0, none⟩) h.lt).trans hM) e' (hE.later hb) hn hd
  have HXM : Bx (w.heap.size ≠ M) := Bx.mk (by
    obtain ⟨ml, -, -, h3, -⟩ := h.mapOf hM
    have := h3.lt
    omega)
  have HQl := Bx.mk h.lt
  obtain ⟨l', hl'⟩ : ∃ l', (l ++ [e']) = l' := ⟨_, rfl⟩
  rw [hl'] at HU ⊢
  clear h hE hd hl' hn
  obtain ⟨⟨i, r, x, q⟩, p, s, k, a⟩ := e'
  unfold clV ptr at *
  simp only at HU ⊢
  have HBo := Bx.mk (box_rng w ⟨i, r, x, q⟩ 34)
  have HBe := Bx.mk (below_a (W := w) (.cells #[.int .i64 i, .int .i64 r, .int .i64 x, .int .i64 q] 34))
  simp only at HBo HBe
  have hM0 : (w.alloc (.cells #[.int .i64 i, .int .i64 r, .int .i64 x, .int .i64 q] 34)).cell? ⟨Q, 0, none⟩ = some (.map (some M)) := (HBe.out.cell (p := ⟨Q, 0, none⟩) HQl.out).trans hM
  have HM := Bx.mk hM
  clear hM
  have hmn := map_some_nil M (w.alloc (.cells #[.int .i64 i, .int .i64 r, .int .i64 x, .int .i64 q] 34))
  go_enter Try.func33, Try.ntmps33
  go_upto_region 3 with fail
  obtain ⟨X, hX⟩ : ∃ X, w.heap.size = X := ⟨_, rfl⟩
  have HR : Bx ((w.alloc (.cells #[.int .i64 i, .int .i64 r, .int .i64 x, .int .i64 q] 34)).drew.cell? ⟨Q, 0, none⟩ = some (.map (some M)) ∧ (w.alloc (.cells #[.int .i64 i, .int .i64 r, .int .i64 x, .int .i64 q] 34)).drew.rangeAt X 0 [.int .i64 i, .int .i64 r, .int .i64 x, .int .i64 q] ∧ _) := Bx.mk ⟨hM0, hX ▸ HBo.out, HU.out _ HBe.out.drew⟩
  have HL0 : Bx (Q < (w.alloc (.cells #[.int .i64 i, .int .i64 r, .int .i64 x, .int .i64 q] 34)).drew.heap.size ∧ X < (w.alloc (.cells #[.int .i64 i, .int .i64 r, .int .i64 x, .int .i64 q] 34)).drew.heap.size) := Bx.mk ⟨by have := HQl.out; show Q < (w.alloc _).heap.size; rw [World.size_alloc]; omega, by show X < (w.alloc _).heap.size; rw [World.size_alloc]; omega⟩
  have HK0 : Bx (KB B w (w.alloc (.cells #[.int .i64 i, .int .i64 r, .int .i64 x, .int .i64 q] 34)).drew) := Bx.mk (KB.of HBe.out.drew)
  rw [hX] at HXM ⊢
  clear hM0 HBo HBe HU HM hmn
  generalize w.alloc (.cells #[.int .i64 i, .int .i64 r, .int .i64 x, .int .i64 q] 34) = wa at *
  refine wp_region_noPanic ?_
  refine wp_region_held_drew (S := fun W => W.cell? ⟨Q, 0, none⟩ = some (.map (some M)) ∧ W.rangeAt X 0 [.int .i64 i, .int .i64 r, .int .i64 x, .int .i64 q]) (by kernel_rfl) (⟨HR.out.1, HR.out.2.1⟩) (fun hHeld => ?_)
  generalize wa.drew = W0 at *
  refine takeL 0 (v := ?_) rfl (by kernel_rfl) (by kernel_rfl) (by kernel_rfl) (fun _ _ _ h => h) (Or.inl ⟨by rfl, ?_⟩) hHeld ?_
  rotate_left 1
  · (intro w hSw; go_simp; try with_reducible rfl)
  try simp only [Act.put, List.setIfInBounds_toArray, List.set_cons_zero, List.set_cons_succ]
  refine takeL 1 (v := ?_) rfl (by kernel_rfl) (by kernel_rfl) (by kernel_rfl) (fun _ _ _ h => h) (Or.inl ⟨by rfl, ?_⟩) hHeld ?_
  rotate_left 1
  · (intro w hSw; go_simp; try with_reducible rfl)
  try simp only [Act.put, List.setIfInBounds_toArray, List.set_cons_zero, List.set_cons_succ]
  refine takeL 2 (v := ?_) rfl (by kernel_rfl) (by kernel_rfl) (by kernel_rfl) (fun _ _ _ h => h) (Or.inl ⟨by rfl, ?_⟩) hHeld ?_
  rotate_left 1
  · (intro w hSw; go_simp; try with_reducible rfl)
  try simp only [Act.put, List.setIfInBounds_toArray, List.set_cons_zero, List.set_cons_succ]
  refine takeL 3 (v := ?_) rfl (by kernel_rfl) (by kernel_rfl) (by kernel_rfl) (fun _ _ _ h => h) (Or.inl ⟨by rfl, ?_⟩) hHeld ?_
  rotate_left 1
  · (intro w hSw; have h1 := hSw.1; go_simp; try with_reducible rfl)
  try simp only [Act.put, List.setIfInBounds_toArray, List.set_cons_zero, List.set_cons_succ]
  refine takeL 4 rfl (by kernel_rfl) (by kernel_rfl) (by kernel_rfl) (fun _ _ _ h => h) (yieldsIf_load_mid (by rfl) _ _ rfl _ _ rfl _ _ (fun w hSw => hSw.2) Try.underlying34 rfl (by kernel_rfl)) hHeld ?_
  try simp only [Act.put, List.setIfInBounds_toArray, List.set_cons_zero, List.set_cons_succ]
  refine takeL 5 (v := ?_) rfl (by kernel_rfl) (by kernel_rfl) (by kernel_rfl) (fun _ _ _ h => h) (Or.inl ⟨by rfl, ?_⟩) hHeld ?_
  rotate_left 1
  · (intro w hSw; go_simp; try with_reducible rfl)
  try simp only [Act.put, List.setIfInBounds_toArray, List.set_cons_zero, List.set_cons_succ]
  refine stepL 6 (by kernel_rfl) rfl (fun K hK => ?_)
  obtain ⟨W2, hrun, hb2, hk2, hg2, hQM⟩ := HR.out.2.2
  refine step_mapU15 rfl 69 _ _ _ rfl hrun ?_
  have R2 : Bx (Keeps B Q l' w W2) := Bx.mk ⟨hb2, HK0.out.trans hk2⟩
  refine hK.out _ _ (⟨by rw [cell_heap (hg2.block Q HL0.out.1 (fun ex => hQM (by injection ex)))]; exact HR.out.1, fun j u hj => by
    rw [cell_heap (hg2.block X HL0.out.2 (fun ex => HXM.out (by injection ex)))]
    exact HR.out.2.1 j u hj⟩) (fun hHeld => ?_)
  clear hK K hrun hb2 hk2 hg2 hQM
  try simp only [Act.put, List.setIfInBounds_toArray, List.set_cons_zero, List.set_cons_succ]
  refine wpAnyH_done (by kernel_rfl) ?_ _
  refine NoPanic.normal ?_
  clear hHeld
  try go_wp2
  go_end0
  exact ⟨rfl, R2.out⟩
set_option maxRecDepth 100000 in
set_option maxHeartbeats 1000000 in
theorem keep_new_nil (B Q : Nat) (l : List En) (e' : En) (w : World) (hM : w.cell? ⟨Q, 0, none⟩ = some (.map none)) (h : BookAt B Q l w) (hE : EntAt B w e') (hB : B ≤ w.heap.size) :
    Calls Try.prog 33 #[ptr Q, clV e'.c, ptr e'.p] w fun x w' => x = .returned (.tuple #[]) ∧ Keeps B Q (l ++ [e']) w w' := by
  obtain ⟨hl, hrow⟩ : l = [] ∧ w.heap[Q]? = some (.cells #[.map none] 71 (0, 0)) := by
    obtain ⟨mb, ml, h1, h2, h3⟩ := h.row
    have h4 : w.cell? ⟨Q, 0, none⟩ = some (.map mb) := by rw [cell_of_row _ _ _ _ _ _ h1]; rfl
    rw [hM] at h4
    injection h4 with h4
    injection h4 with h4
    subst h4
    have h5 := MapL.none_nil h2
    subst h5
    exact ⟨List.map_eq_nil_iff.1 h3.symm.eq_nil, h1⟩
  subst hl
  obtain ⟨X, hX⟩ : ∃ X, w.heap.size = X := ⟨_, rfl⟩
  obtain ⟨w0, hw0⟩ : ∃ w0, w.alloc (.cells (clC e'.c) 34) = w0 := ⟨_, rfl⟩
  have hs0 : w0.heap.size = X + 1 := by rw [← hw0, ← hX]; simp
  have hb0 : Below w.heap.size w w0 := by rw [← hw0]; exact below_a _
  have hX0 : w0.heap[X]? = some (.cells (clC e'.c) 34 (0, 0)) := by rw [← hw0]; exact hnew _ _ _ hX.symm
  have hQ0 : w0.heap[Q]? = some (.cells #[.map none] 71 (0, 0)) := (hb0.block Q h.lt).trans hrow
  have hc0' : w0.cell? ⟨Q, 0, none⟩ = some (.map none) := by rw [cell_of_row _ _ _ _ _ _ hQ0]; rfl
  obtain ⟨w1, hw1⟩ : ∃ w1, w0.alloc (.map #[] 0) = w1 := ⟨_, rfl⟩
  have hb1 : Below w0.heap.size w0 w1 := by rw [← hw1]; exact below_a _
  obtain ⟨M, hM'⟩ : ∃ M, M = X + 1 := ⟨_, rfl⟩
  have hmk : (Instr.makeMap 69 none).run Try.prog w0 = .ok (.map (some M)) w1 := by
    rw [← hw1, hM', ← hs0]
    kernel_rfl
  have hm1 : MapL w1 M [] := by rw [← hw1, hM', ← hs0]; exact mapL_made w0
  have hQl : Q < X := by rw [← hX]; exact h.lt
  have hQ1 : w1.heap[Q]? = some (.cells #[.map none] 71 (0, 0)) := (hb1.block Q (by omega)).trans hQ0
  have fz1 : w1.frozen? ⟨Q, 0, none⟩ = false := frozen_of_row _ _ _ _ _ hQ1
  have hc1 : w1.cell? ⟨Q, 0, none⟩ = some (.map none) := by rw [cell_of_row _ _ _ _ _ _ hQ1]; rfl
  obtain ⟨w2, hw2⟩ : ∃ w2, w1.setCell ⟨Q, 0, none⟩ (.map (some M)) = w2 := ⟨_, rfl⟩
  have hQ2 : w2.heap[Q]? = some (.cells #[.map (some M)] 71 (0, 0)) := by
    rw [← hw2]
    exact heap_setCells_same Q _ [.map (some M)] 0 w1 _ hQ1
  have hg2 : w1.grownBy w2 (some Q) := by rw [← hw2]; exact kb_setCell _ _ _
  have hm2 : MapL w2 M [] := hm1.later (hg2.block M hm1.lt (fun e => by injection e with e; omega))
  have hk2 : KB B w w2 := ((KB.of hb0).trans (KB.of hb1)).trans (KB.by_ hg2 h.qB (fun o ho => by
    rw [hQ1] at ho
    injection ho with ho
    subst ho
    exact .inr ⟨_, _, _, rfl, .inr rfl⟩))
  have hbk : BookAt B Q [] w2 := ⟨⟨some M, [], hQ2, .inr ⟨M, rfl, by omega, hm2⟩, .nil⟩, (fun e he => by cases he), .nil, .nil, h.qB⟩
  have hEp : e'.p < X := by rw [← hX]; exact hE.lt
  have hEQ : e'.p ≠ Q := fun ex => by
    obtain ⟨kv, hw, -⟩ := hE.row
    rw [← ex, show w.heap[e'.p]? = _ from hw] at hrow
    injection hrow with hrow
    injection hrow with _ hrow
    exact absurd hrow (by decide)
  have hE2 : EntAt B w2 e' := hE.keepB hk2 ((hg2.block _ (by have := hb1.size; omega) (fun e => hEQ (by injection e))).trans ((hb1.block _ (by omega)).trans (hb0.block _ (by omega))))
  have hX2 : w2.heap[X]? = some (.cells (clC e'.c) 34 (0, 0)) := (hg2.block X (by have := hb1.size; omega) (fun e => by injection e with e; omega)).trans ((hb1.block X (by omega)).trans hX0)
  have hM2 : w2.cell? ⟨Q, 0, none⟩ = some (.map (some M)) := by rw [cell_of_row _ _ _ _ _ _ hQ2]; rfl
  have HU := Bx.mk ((hbk.later (Below.refl _ w2).drew).ins (W := w2.drew) hM2 e' (hE2.later (Below.refl _ w2).drew) (fun y hy => by cases hy) (fun y hy => by cases hy))
  have HR : Bx (w2.drew.cell? ⟨Q, 0, none⟩ = some (.map (some M)) ∧ w2.drew.rangeAt X 0 (clC e'.c).toList ∧ ∃ W2, (Instr.mapUpdate 69 (.map (some M)) (clV e'.c) (ptr e'.p)).run Try.prog w2.drew = .ok () W2 ∧ BookAt B Q ([] ++ [e']) W2 ∧ KB B w2.drew W2 ∧ w2.drew.grownBy W2 (some M) ∧ Q ≠ M) := Bx.mk ⟨hM2, fun j u hj => by
    show w2.cell? _ = _
    rw [cell_of_row _ _ _ _ _ _ hX2, Nat.zero_add, ← Array.getElem?_toList]
    exact hj, HU.out⟩
  have HK0 : Bx (KB B w w2.drew) := Bx.mk (hk2.trans (KB.of (Below.refl _ w2).drew))
  have HL0 : Bx (Q < w2.drew.heap.size ∧ X < w2.drew.heap.size) := Bx.mk ⟨by have := (Array.getElem?_eq_some_iff.1 hQ2).1; exact this, (Array.getElem?_eq_some_iff.1 hX2).1⟩
  have HXM : Bx (X ≠ M) := Bx.mk (by omega)
  obtain ⟨l', hl'⟩ : ∃ l', [] ++ [e'] = l' := ⟨_, rfl⟩
  rw [hl'] at HR ⊢
  clear HU hl' hE2 hX2 hM2 hEQ hEp hbk hk2 hm2 hg2 hQ2 hm1 hQl hb1 hM' hX0 hQ0 hb0 hs0 hrow h hE hM hB hQ1
  obtain ⟨⟨i, r, x, q⟩, p, s, k, a⟩ := e'
  unfold clV clC ptr at *
  simp only at HR hw0 ⊢
  have hmn := map_nil_nil w0
  go_enter Try.func33, Try.ntmps33
  go_upto_region 3 with fail
  clear hw0 hw1 hw2 hmk hc0' hc1 fz1 hmn
  refine wp_region_noPanic ?_
  refine wp_region_held_drew (S := fun W => W.cell? ⟨Q, 0, none⟩ = some (.map (some M)) ∧ W.rangeAt X 0 [.int .i64 i, .int .i64 r, .int .i64 x, .int .i64 q]) (by kernel_rfl) (⟨HR.out.1, HR.out.2.1⟩) (fun hHeld => ?_)
  generalize w2.drew = W0 at *
  refine takeL 0 (v := ?_) rfl (by kernel_rfl) (by kernel_rfl) (by kernel_rfl) (fun _ _ _ h => h) (Or.inl ⟨by rfl, ?_⟩) hHeld ?_
  rotate_left 1
  · (intro w hSw; go_simp; try with_reducible rfl)
  try simp only [Act.put, List.setIfInBounds_toArray, List.set_cons_zero, List.set_cons_succ]
  refine takeL 1 (v := ?_) rfl (by kernel_rfl) (by kernel_rfl) (by kernel_rfl) (fun _ _ _ h => h) (Or.inl ⟨by rfl, ?_⟩) hHeld ?_
  rotate_left 1
  · (intro w hSw; go_simp; try with_reducible rfl)
  try simp only [Act.put, List.setIfInBounds_toArray, List.set_cons_zero, List.set_cons_succ]
  refine takeL 2 (v := ?_) rfl (by kernel_rfl) (by kernel_rfl) (by kernel_rfl) (fun _ _ _ h => h) (Or.inl ⟨by rfl, ?_⟩) hHeld ?_
  rotate_left 1
  · (intro w hSw; go_simp; try with_reducible rfl)
  try simp only [Act.put, List.setIfInBounds_toArray, List.set_cons_zero, List.set_cons_succ]
  refine takeL 3 (v := ?_) rfl (by kernel_rfl) (by kernel_rfl) (by kernel_rfl) (fun _ _ _ h => h) (Or.inl ⟨by rfl, ?_⟩) hHeld ?_
  rotate_left 1
  · (intro w hSw; have h1 := hSw.1; go_simp; try with_reducible rfl)
  try simp only [Act.put, List.setIfInBounds_toArray, List.set_cons_zero, List.set_cons_succ]
  refine takeL 4 rfl (by kernel_rfl) (by kernel_rfl) (by kernel_rfl) (fun _ _ _ h => h) (yieldsIf_load_mid (by rfl) _ _ rfl _ _ rfl _ _ (fun w hSw => hSw.2) Try.underlying34 rfl (by kernel_rfl)) hHeld ?_
  try simp only [Act.put, List.setIfInBounds_toArray, List.set_cons_zero, List.set_cons_succ]
  refine takeL 5 (v := ?_) rfl (by kernel_rfl) (by kernel_rfl) (by kernel_rfl) (fun _ _ _ h => h) (Or.inl ⟨by rfl, ?_⟩) hHeld ?_
  rotate_left 1
  · (intro w hSw; go_simp; try with_reducible rfl)
  try simp only [Act.put, List.setIfInBounds_toArray, List.set_cons_zero, List.set_cons_succ]
  refine stepL 6 (by kernel_rfl) rfl (fun K hK => ?_)
  obtain ⟨W2, hrun, hb2, hk2, hg2, hQM⟩ := HR.out.2.2
  refine step_mapU15 rfl 69 _ _ _ rfl hrun ?_
  have R2 : Bx (Keeps B Q l' w W2) := Bx.mk ⟨hb2, HK0.out.trans hk2⟩
  refine hK.out _ _ (⟨by rw [cell_heap (hg2.block Q HL0.out.1 (fun ex => hQM (by injection ex)))]; exact HR.out.1, fun j u hj => by
    rw [cell_heap (hg2.block X HL0.out.2 (fun ex => HXM.out (by injection ex)))]
    exact HR.out.2.1 j u hj⟩) (fun hHeld => ?_)
  clear hK K hrun hb2 hk2 hg2 hQM
  try simp only [Act.put, List.setIfInBounds_toArray, List.set_cons_zero, List.set_cons_succ]
  refine wpAnyH_done (by kernel_rfl) ?_ _
  refine NoPanic.normal ?_
  clear hHeld
  try go_wp2
  go_end0
  exact ⟨rfl, R2.out⟩
end Go.Proofs.Ytdbdpehagkglfaa
namespace Go.Proofs.Ytdbdpehagkglfaa
open Go Go.RowKit
theorem keep_new (B Q : Nat) (l : List En) (e' : En) (hn : ∀ y ∈ l, y.c ≠ e'.c) (w : World) (h : BookAt B Q l w) (hE : EntAt B w e') (hd : ∀ y ∈ l, y.p ≠ e'.p) (hB : B ≤ w.heap.size) :
    Calls Try.prog 33 #[ptr Q, clV e'.c, ptr e'.p] w fun x w' => x = .returned (.tuple #[]) ∧ Keeps B Q (l ++ [e']) w w' := by
  obtain ⟨mb, hm, -⟩ := h.look c0 (by unfold Cl64 in64 c0; simp)
  cases mb with
  | none => exact keep_new_nil B Q l e' w hm h hE hB
  | some M => exact keep_new_map B Q l e' hn w M hm h hE hd
set_option maxRecDepth 100000 in
set_option maxHeartbeats 1000000 in
theorem want_bad (Q : Nat) (c : Cl) (tk : Int) (hok : okC c = false) (w : World) : Calls Try.prog 9 #[ptr Q, clV c, .int .i64 tk] w fun e w' => e = .returned (.int .i64 10) ∧ Below w.heap.size w w' := by
  have HCk : Bx (∀ W, Calls Try.prog 32 #[clV c] W fun e w' => e = .returned (.int .i64 10) ∧ Below W.heap.size W w') := Bx.mk fun W => by
    have h := ccheck_any c W
    rw [if_neg (by rw [hok]; exact Bool.false_ne_true)] at h
    exact h
  clear hok
  obtain ⟨i, r, x, q⟩ := c
  unfold clV ptr at *
  simp only at HCk ⊢
  have HBe := Bx.mk (below_a (W := w) (.cells #[.int .i64 i, .int .i64 r, .int .i64 x, .int .i64 q] 34))
  go_enter Try.func9, Try.ntmps9
  go_wp2_with fail
  refine (HCk.out _).mono ?_
  rintro e w1 ⟨rfl, hb⟩
  have H1 := Bx.mk (HBe.out.trans (hb.mono HBe.out.size))
  clear hb HBe HCk
  go_wp2
  go_ret
  exact ⟨rfl, H1.out⟩
set_option maxRecDepth 100000 in
set_option maxHeartbeats 1000000 in
theorem want_twice (B Q : Nat) (l : List En) (tk : Int) (w : World) (h : BookAt B Q l w) (e : En) (he : e ∈ l) (hok : okC e.c = true) : Calls Try.prog 9 #[ptr Q, clV e.c, .int .i64 tk] w fun x w' => x = .returned (.int .i64 8) ∧ Below w.heap.size w w' := by
  have HCk : Bx (∀ W, Calls Try.prog 32 #[clV e.c] W fun e w' => e = .returned (.int .i64 0) ∧ Below W.heap.size W w') := Bx.mk fun W => by
    have h := ccheck_any e.c W
    rw [if_pos hok] at h
    exact h
  obtain ⟨mb, hmb⟩ := h.looks e.c (h.ent e he).fit
  rw [posE_in h.keys he] at hmb
  have HLo := Bx.mk hmb
  clear h hok hmb he
  obtain ⟨c, p, s, k, a⟩ := e
  simp only at HLo HCk ⊢
  obtain ⟨i, r, x, q⟩ := c
  unfold clV ptr at *
  unfold ptrO at HLo
  simp only at HLo HCk ⊢
  have HBo := Bx.mk (box_rng w ⟨i, r, x, q⟩ 34)
  have HBe := Bx.mk (below_a (W := w) (.cells #[.int .i64 i, .int .i64 r, .int .i64 x, .int .i64 q] 34))
  simp only at HBo HBe
  go_enter Try.func9, Try.ntmps9
  go_wp2_with fail
  refine (HCk.out _).mono ?_
  rintro e w1 ⟨rfl, hb⟩
  have H1 : Bx (Below w.heap.size w w1 ∧ w1.rangeAt w.heap.size 0 [.int .i64 i, .int .i64 r, .int .i64 x, .int .i64 q]) := Bx.mk ⟨HBe.out.trans (hb.mono HBe.out.size), rng_later HBo.out hb⟩
  clear hb HBe HBo HCk
  go_upto_region 6 with fail
  have R0 : Bx (Below w.heap.size w w1.drew ∧ w1.drew.rangeAt w.heap.size 0 [.int .i64 i, .int .i64 r, .int .i64 x, .int .i64 q]) := Bx.mk ⟨H1.out.1.drew, H1.out.2⟩
  clear H1
  refine wp_region_noPanic ?_
  refine wp_region_held_drew (S := fun W => W.cell? ⟨Q, 0, none⟩ = some (.map mb) ∧ (W.rangeAt w.heap.size 0 [.int .i64 i, .int .i64 r, .int .i64 x, .int .i64 q] ∧ (Instr.lookup 69 (.map mb) (.agg #[.int .i64 i, .int .i64 r, .int .i64 x, .int .i64 q]) false).run Try.prog W = .ok (.pointer (some ⟨p, 0, none⟩)) W)) (by kernel_rfl) (⟨(HLo.out _ R0.out.1).1, R0.out.2, (HLo.out _ R0.out.1).2.1⟩) (fun hHeld => ?_)
  refine takeL 0 (v := ?_) rfl (by kernel_rfl) (by kernel_rfl) (by kernel_rfl) (fun _ _ _ h => h) (Or.inl ⟨by rfl, ?_⟩) hHeld ?_
  rotate_left 1
  · (intro w hSw; go_simp; try with_reducible rfl)
  try simp only [Act.put, List.setIfInBounds_toArray, List.set_cons_zero, List.set_cons_succ]
  refine takeL 1 (v := ?_) rfl (by kernel_rfl) (by kernel_rfl) (by kernel_rfl) (fun _ _ _ h => h) (Or.inl ⟨by rfl, ?_⟩) hHeld ?_
  rotate_left 1
  · (intro w hSw; go_simp; try with_reducible rfl)
  try simp only [Act.put, List.setIfInBounds_toArray, List.set_cons_zero, List.set_cons_succ]
  refine takeL 2 (v := ?_) rfl (by kernel_rfl) (by kernel_rfl) (by kernel_rfl) (fun _ _ _ h => h) (Or.inl ⟨by rfl, ?_⟩) hHeld ?_
  rotate_left 1
  · (intro w hSw; go_simp; try with_reducible rfl)
  try simp only [Act.put, List.setIfInBounds_toArray, List.set_cons_zero, List.set_cons_succ]
  refine takeL 3 (v := ?_) rfl (by kernel_rfl) (by kernel_rfl) (by kernel_rfl) (fun _ _ _ h => h) (Or.inl ⟨by rfl, ?_⟩) hHeld ?_
  rotate_left 1
  · (intro w hSw; have h1 := hSw.1; go_simp; try with_reducible rfl)
  try simp only [Act.put, List.setIfInBounds_toArray, List.set_cons_zero, List.set_cons_succ]
  refine takeL 4 rfl (by kernel_rfl) (by kernel_rfl) (by kernel_rfl) (fun _ _ _ h => h) (yieldsIf_load_mid (by rfl) _ _ rfl _ _ rfl _ _ (fun w hSw => hSw.2.1) Try.underlying34 rfl (by kernel_rfl)) hHeld ?_
  try simp only [Act.put, List.setIfInBounds_toArray, List.set_cons_zero, List.set_cons_succ]
  refine takeL 5 (v := ?_) rfl (by kernel_rfl) (by kernel_rfl) (by kernel_rfl) (fun _ _ _ h => h) (Or.inl ⟨by rfl, ?_⟩) hHeld ?_
  rotate_left 1
  · (intro w hSw; have h3 := hSw.2.2; go_simp; try with_reducible rfl)
  try simp only [Act.put, List.setIfInBounds_toArray, List.set_cons_zero, List.set_cons_succ]
  refine takeL 6 (v := ?_) rfl (by kernel_rfl) (by kernel_rfl) (by kernel_rfl) (fun _ _ _ h => h) (Or.inl ⟨by rfl, ?_⟩) hHeld ?_
  rotate_left 1
  · (intro w hSw; go_simp; try with_reducible rfl)
  try simp only [Act.put, List.setIfInBounds_toArray, List.set_cons_zero, List.set_cons_succ]
  refine wpAnyH_done (by kernel_rfl) ?_ _
  refine NoPanic.normal ?_
  clear hHeld
  go_wp2
  go_ret
  exact ⟨rfl, R0.out.1⟩
set_option maxRecDepth 100000 in
set_option maxHeartbeats 1000000 in
theorem want_full (B Q : Nat) (l : List En) (tk : Int) (w : World) (h : BookAt B Q l w) (c : Cl) (hc : Cl64 c) (hn : ∀ e ∈ l, e.c ≠ c) (hok : okC c = true) (hlen : 16 ≤ l.length) : Calls Try.prog 9 #[ptr Q, clV c, .int .i64 tk] w fun x w' => x = .returned (.int .i64 6) ∧ Below w.heap.size w w' := by
  have HCk : Bx (∀ W, Calls Try.prog 32 #[clV c] W fun e w' => e = .returned (.int .i64 0) ∧ Below W.heap.size W w') := Bx.mk fun W => by
    have h := ccheck_any c W
    rw [if_pos hok] at h
    exact h
  obtain ⟨mb, hmb⟩ := h.looks c hc
  rw [posE_out hn] at hmb
  have HLo := Bx.mk hmb
  have HLn : Bx ((16 ≤ (l.length : Int))) := Bx.mk (by omega)
  clear h hok hmb hc hn hlen
  obtain ⟨nl, hnl⟩ : ∃ nl, l.length = nl := ⟨_, rfl⟩
  rw [hnl] at HLo HLn
  clear hnl
  obtain ⟨i, r, x, q⟩ := c
  unfold clV ptr at *
  unfold ptrO at HLo
  simp only at HLo HCk ⊢
  have HBo := Bx.mk (box_rng w ⟨i, r, x, q⟩ 34)
  have HBe := Bx.mk (below_a (W := w) (.cells #[.int .i64 i, .int .i64 r, .int .i64 x, .int .i64 q] 34))
  simp only at HBo HBe
  go_enter Try.func9, Try.ntmps9
  go_wp2_with fail
  refine (HCk.out _).mono ?_
  rintro e w1 ⟨rfl, hb⟩
  have H1 : Bx (Below w.heap.size w w1 ∧ w1.rangeAt w.heap.size 0 [.int .i64 i, .int .i64 r, .int .i64 x, .int .i64 q]) := Bx.mk ⟨HBe.out.trans (hb.mono HBe.out.size), rng_later HBo.out hb⟩
  clear hb HBe HBo HCk
  go_upto_region 6 with fail
  have R0 : Bx (Below w.heap.size w w1.drew ∧ w1.drew.rangeAt w.heap.size 0 [.int .i64 i, .int .i64 r, .int .i64 x, .int .i64 q]) := Bx.mk ⟨H1.out.1.drew, H1.out.2⟩
  clear H1
  refine wp_region_noPanic ?_
  refine wp_region_held_drew (S := fun W => W.cell? ⟨Q, 0, none⟩ = some (.map mb) ∧ (W.rangeAt w.heap.size 0 [.int .i64 i, .int .i64 r, .int .i64 x, .int .i64 q] ∧ (Instr.lookup 69 (.map mb) (.agg #[.int .i64 i, .int .i64 r, .int .i64 x, .int .i64 q]) false).run Try.prog W = .ok (.pointer none) W)) (by kernel_rfl) (⟨(HLo.out _ R0.out.1).1, R0.out.2, (HLo.out _ R0.out.1).2.1⟩) (fun hHeld => ?_)
  refine takeL 0 (v := ?_) rfl (by kernel_rfl) (by kernel_rfl) (by kernel_rfl) (fun _ _ _ h => h) (Or.inl ⟨by rfl, ?_⟩) hHeld ?_
  rotate_left 1
  · (intro w hSw; go_simp; try with_reducible rfl)
  try simp only [Act.put, List.setIfInBounds_toArray, List.set_cons_zero, List.set_cons_succ]
  refine takeL 1 (v := ?_) rfl (by kernel_rfl) (by kernel_rfl) (by kernel_rfl) (fun _ _ _ h => h) (Or.inl ⟨by rfl, ?_⟩) hHeld ?_
  rotate_left 1
  · (intro w hSw; go_simp; try with_reducible rfl)
  try simp only [Act.put, List.setIfInBounds_toArray, List.set_cons_zero, List.set_cons_succ]
  refine takeL 2 (v := ?_) rfl (by kernel_rfl) (by kernel_rfl) (by kernel_rfl) (fun _ _ _ h => h) (Or.inl ⟨by rfl, ?_⟩) hHeld ?_
  rotate_left 1
  · (intro w hSw; go_simp; try with_reducible rfl)
  try simp only [Act.put, List.setIfInBounds_toArray, List.set_cons_zero, List.set_cons_succ]
  refine takeL 3 (v := ?_) rfl (by kernel_rfl) (by kernel_rfl) (by kernel_rfl) (fun _ _ _ h => h) (Or.inl ⟨by rfl, ?_⟩) hHeld ?_
  rotate_left 1
  · (intro w hSw; have h1 := hSw.1; go_simp; try with_reducible rfl)
  try simp only [Act.put, List.setIfInBounds_toArray, List.set_cons_zero, List.set_cons_succ]
  refine takeL 4 rfl (by kernel_rfl) (by kernel_rfl) (by kernel_rfl) (fun _ _ _ h => h) (yieldsIf_load_mid (by rfl) _ _ rfl _ _ rfl _ _ (fun w hSw => hSw.2.1) Try.underlying34 rfl (by kernel_rfl)) hHeld ?_
  try simp only [Act.put, List.setIfInBounds_toArray, List.set_cons_zero, List.set_cons_succ]
  refine takeL 5 (v := ?_) rfl (by kernel_rfl) (by kernel_rfl) (by kernel_rfl) (fun _ _ _ h => h) (Or.inl ⟨by rfl, ?_⟩) hHeld ?_
  rotate_left 1
  · (intro w hSw; have h3 := hSw.2.2; go_simp; try with_reducible rfl)
  try simp only [Act.put, List.setIfInBounds_toArray, List.set_cons_zero, List.set_cons_succ]
  refine takeL 6 (v := ?_) rfl (by kernel_rfl) (by kernel_rfl) (by kernel_rfl) (fun _ _ _ h => h) (Or.inl ⟨by rfl, ?_⟩) hHeld ?_
  rotate_left 1
  · (intro w hSw; go_simp; try with_reducible rfl)
  try simp only [Act.put, List.setIfInBounds_toArray, List.set_cons_zero, List.set_cons_succ]
  refine wpAnyH_done (by kernel_rfl) ?_ _
  refine NoPanic.normal ?_
  clear hHeld
  have hc1 := (HLo.out _ R0.out.1).1
  have hln := (HLo.out _ R0.out.1).2.2
  have hrg := R0.out.2
  have h16 := HLn.out
  go_wp2
  go_ret
  exact ⟨rfl, R0.out.1⟩
set_option maxRecDepth 100000 in
set_option maxHeartbeats 1000000 in
theorem want_ok (B Q : Nat) (l : List En) (tk : Int) (w : World) (h : BookAt B Q l w) (c : Cl) (hc : Cl64 c) (hn : ∀ e ∈ l, e.c ≠ c) (hok : okC c = true) (hlen : l.length < 16) (ht : 0 ≤ tk ∧ tk ≤ 1073741824) (hB : B ≤ w.heap.size) : Calls Try.prog 9 #[ptr Q, clV c, .int .i64 tk] w fun x w' => x = .returned (.int .i64 0) ∧ ∃ p, Keeps B Q (l ++ [⟨c, p, Ws.zero, none, tk⟩]) w w' := by
  have HCk : Bx (∀ W, Calls Try.prog 32 #[clV c] W fun e w' => e = .returned (.int .i64 0) ∧ Below W.heap.size W w') := Bx.mk fun W => by
    have h := ccheck_any c W
    rw [if_pos hok] at h
    exact h
  obtain ⟨mb, hmb⟩ := h.looks c hc
  rw [posE_out hn] at hmb
  have HLo := Bx.mk hmb
  have HKp : Bx (∀ W, Below w.heap.size w W → Calls Try.prog 33 #[ptr Q, clV c, ptr W.heap.size] (W.alloc (.cells #[.int .i64 0, .int .i64 0, .int .u64 0, .pointer none, .int .i64 tk] 80)) fun x w' => x = .returned (.tuple #[]) ∧ ∃ p, Keeps B Q (l ++ [⟨c, p, Ws.zero, none, tk⟩]) w w') := Bx.mk fun W hb => by
    have hs : B ≤ W.heap.size := Nat.le_trans hB hb.size
    have hE : EntAt B (W.alloc (.cells #[.int .i64 0, .int .i64 0, .int .u64 0, .pointer none, .int .i64 tk] 80)) ⟨c, W.heap.size, Ws.zero, none, tk⟩ := ⟨⟨.pointer none, hnew _ _ _ rfl, .inl ⟨rfl, rfl⟩⟩, zero_ok, hs, hc, ht⟩
    refine (keep_new B Q l ⟨c, W.heap.size, Ws.zero, none, tk⟩ hn _ ((h.later hb).later (below_a _)) hE (fun y hy => ?_) (by rw [World.size_alloc]; omega)).mono ?_
    · have := ((h.later hb).ent y hy).lt
      show y.p ≠ W.heap.size
      omega
    · rintro x w' ⟨rfl, h1, h2⟩
      exact ⟨rfl, W.heap.size, h1, ((KB.of hb).trans (KB.of (below_a _))).trans h2⟩
  have HLn : Bx ((¬ 16 ≤ (l.length : Int))) := Bx.mk (by omega)
  clear h hok hmb hc hn hlen ht hB
  obtain ⟨nl, hnl⟩ : ∃ nl, l.length = nl := ⟨_, rfl⟩
  rw [hnl] at HLo HLn
  clear hnl
  obtain ⟨i, r, x, q⟩ := c
  unfold clV ptr at *
  unfold ptrO at HLo
  simp only at HLo HCk HKp ⊢
  have HBo := Bx.mk (box_rng w ⟨i, r, x, q⟩ 34)
  have HBe := Bx.mk (below_a (W := w) (.cells #[.int .i64 i, .int .i64 r, .int .i64 x, .int .i64 q] 34))
  simp only at HBo HBe
  go_enter Try.func9, Try.ntmps9
  go_wp2_with fail
  refine (HCk.out _).mono ?_
  rintro e w1 ⟨rfl, hb⟩
  have H1 : Bx (Below w.heap.size w w1 ∧ w1.rangeAt w.heap.size 0 [.int .i64 i, .int .i64 r, .int .i64 x, .int .i64 q]) := Bx.mk ⟨HBe.out.trans (hb.mono HBe.out.size), rng_later HBo.out hb⟩
  clear hb HBe HBo HCk
  go_upto_region 6 with fail
  have R0 : Bx (Below w.heap.size w w1.drew ∧ w1.drew.rangeAt w.heap.size 0 [.int .i64 i, .int .i64 r, .int .i64 x, .int .i64 q]) := Bx.mk ⟨H1.out.1.drew, H1.out.2⟩
  clear H1
  refine wp_region_noPanic ?_
  refine wp_region_held_drew (S := fun W => W.cell? ⟨Q, 0, none⟩ = some (.map mb) ∧ (W.rangeAt w.heap.size 0 [.int .i64 i, .int .i64 r, .int .i64 x, .int .i64 q] ∧ (Instr.lookup 69 (.map mb) (.agg #[.int .i64 i, .int .i64 r, .int .i64 x, .int .i64 q]) false).run Try.prog W = .ok (.pointer none) W)) (by kernel_rfl) (⟨(HLo.out _ R0.out.1).1, R0.out.2, (HLo.out _ R0.out.1).2.1⟩) (fun hHeld => ?_)
  refine takeL 0 (v := ?_) rfl (by kernel_rfl) (by kernel_rfl) (by kernel_rfl) (fun _ _ _ h => h) (Or.inl ⟨by rfl, ?_⟩) hHeld ?_
  rotate_left 1
  · (intro w hSw; go_simp; try with_reducible rfl)
  try simp only [Act.put, List.setIfInBounds_toArray, List.set_cons_zero, List.set_cons_succ]
  refine takeL 1 (v := ?_) rfl (by kernel_rfl) (by kernel_rfl) (by kernel_rfl) (fun _ _ _ h => h) (Or.inl ⟨by rfl, ?_⟩) hHeld ?_
  rotate_left 1
  · (intro w hSw; go_simp; try with_reducible rfl)
  try simp only [Act.put, List.setIfInBounds_toArray, List.set_cons_zero, List.set_cons_succ]
  refine takeL 2 (v := ?_) rfl (by kernel_rfl) (by kernel_rfl) (by kernel_rfl) (fun _ _ _ h => h) (Or.inl ⟨by rfl, ?_⟩) hHeld ?_
  rotate_left 1
  · (intro w hSw; go_simp; try with_reducible rfl)
  try simp only [Act.put, List.setIfInBounds_toArray, List.set_cons_zero, List.set_cons_succ]
  refine takeL 3 (v := ?_) rfl (by kernel_rfl) (by kernel_rfl) (by kernel_rfl) (fun _ _ _ h => h) (Or.inl ⟨by rfl, ?_⟩) hHeld ?_
  rotate_left 1
  · (intro w hSw; have h1 := hSw.1; go_simp; try with_reducible rfl)
  try simp only [Act.put, List.setIfInBounds_toArray, List.set_cons_zero, List.set_cons_succ]
  refine takeL 4 rfl (by kernel_rfl) (by kernel_rfl) (by kernel_rfl) (fun _ _ _ h => h) (yieldsIf_load_mid (by rfl) _ _ rfl _ _ rfl _ _ (fun w hSw => hSw.2.1) Try.underlying34 rfl (by kernel_rfl)) hHeld ?_
  try simp only [Act.put, List.setIfInBounds_toArray, List.set_cons_zero, List.set_cons_succ]
  refine takeL 5 (v := ?_) rfl (by kernel_rfl) (by kernel_rfl) (by kernel_rfl) (fun _ _ _ h => h) (Or.inl ⟨by rfl, ?_⟩) hHeld ?_
  rotate_left 1
  · (intro w hSw; have h3 := hSw.2.2; go_simp; try with_reducible rfl)
  try simp only [Act.put, List.setIfInBounds_toArray, List.set_cons_zero, List.set_cons_succ]
  refine takeL 6 (v := ?_) rfl (by kernel_rfl) (by kernel_rfl) (by kernel_rfl) (fun _ _ _ h => h) (Or.inl ⟨by rfl, ?_⟩) hHeld ?_
  rotate_left 1
  · (intro w hSw; go_simp; try with_reducible rfl)
  try simp only [Act.put, List.setIfInBounds_toArray, List.set_cons_zero, List.set_cons_succ]
  refine wpAnyH_done (by kernel_rfl) ?_ _
  refine NoPanic.normal ?_
  clear hHeld
  have hc1 := (HLo.out _ R0.out.1).1
  have hln := (HLo.out _ R0.out.1).2.2
  have hrg := R0.out.2
  have h16 := HLn.out
  go_wp2_with (refine wpList_load_mid rfl _ _ rfl _ _ rfl _ _ hrg Try.underlying34 rfl (by kernel_rfl) ?_)
  refine (HKp.out _ R0.out.1).mono ?_
  rintro e w2 ⟨rfl, h2⟩
  have H2 := Bx.mk h2
  clear h2 hc1 hln hrg h16 HKp HLn HLo R0
  go_wp2
  go_ret
  exact ⟨rfl, H2.out⟩
end Go.Proofs.Ytdbdpehagkglfaa
namespace Go.Proofs.Ytdbdpehagkglfaa
open Go Go.RowKit
theorem row_rng15 {W : World} {X : Nat} {l : List Value} {T : TypeId} {fr : Nat × Nat} (h : W.heap[X]? = some (.cells l.toArray T fr)) : W.rangeAt X 0 l := fun j u hj => by
  rw [cell_of_row _ _ _ _ _ _ h, Nat.zero_add, ← Array.getElem?_toList]
  exact hj
end Go.Proofs.Ytdbdpehagkglfaa
namespace Go.Proofs.Ytdbdpehagkglfaa
open Go Go.RowKit Go.Sort Go.Shelf
theorem encC_len (c : Cl) : (encC c).length = 4 := by simp [encC, clC]
theorem encC_one (c : Cl) : ∀ u ∈ encC c, u.oneCell' = true := fun u hu => by
  simp [encC, clC] at hu
  rcases hu with rfl | rfl | rfl | rfl <;> rfl
theorem RowC.form {w : World} {v : Value} {ss : List Cl} (h : RowC w v ss) : ∃ a cap, v = .slice a ss.length cap := by
  rcases h with ⟨h1, h2⟩ | ⟨g, cap, hv, _⟩
  · exact ⟨none, 0, by rw [h2, h1]; rfl⟩
  · exact ⟨_, cap, hv⟩
theorem RowC.at_ {w : World} {a : Option Addr} {n cap : Nat} {ss : List Cl} (h : RowC w (.slice a n cap) ss) (k : Nat) (hk : k < ss.length) : ∃ g, a = some ⟨g, 0, none⟩ ∧ n = ss.length ∧ w.rangeAt g (k * 4) [.int .i64 (ss.getD k c0).id, .int .i64 (ss.getD k c0).ro, .int .i64 (ss.getD k c0).ex, .int .i64 (ss.getD k c0).se] := by
  rcases h with ⟨h1, h2⟩ | ⟨g, cap', hv, hr⟩
  · rw [h1] at hk; simp at hk
  · injection hv with h1 h2 h3
    exact ⟨g, h1, h2, hr k hk⟩
set_option maxRecDepth 100000 in
set_option maxHeartbeats 2000000 in
theorem sortRow (base : Nat) (v : Value) (ss : List Cl) (w : World) (h : OwnG 34 4 encC w base v ss) (hn : ss.length ≤ 1000) (hb : base ≤ w.heap.size) : Calls Try.prog 53 #[v, .func (.func 54) #[] #[]] w fun e w' => e = .returned (.tuple #[]) ∧ RowC w' v (sortC ss) ∧ Below base w w' := by
  rcases h.2 with ⟨rfl, h0⟩ | ⟨g, cap, cur, rfl, hbg, hg, h1, h2, h3, h4⟩
  · have hss : ss = [] := List.length_eq_zero_iff.1 h0
    subst hss
    have hs := AnyF.slices_SortFunc_none Try.sortL none 0 (.func (.func 54) #[] #[]) w
    change Calls Try.prog 53 _ _ _ at hs
    refine hs.mono ?_
    rintro e w2 ⟨rfl, rfl⟩
    exact ⟨rfl, .inl ⟨by simp [sortC], rfl⟩, Below.refl _ _⟩
  · have hH := holds_row (base := base) (g := g) (cap := cap) (ss := ss) h
    have hgl := (Array.getElem?_eq_some_iff.1 hg).1
    have hsz : ss.length < 4611686018427387904 := by omega
    have hs := AnyQ.slices_SortFunc_total Try.sortL 4 Try.isAgg34 Try.sizeOf34 encC (fun x => by simp [encC, clC]) (fun x u hu => by simp [encC, clC] at hu; rcases hu with rfl | rfl | rfl | rfl <;> rfl) cmpC cmp_swo 54 #[] g 0 cap ss.toArray w (enters_of Try.func54 (by kernel_rfl) rfl) (cmp_lays g 0 _ w) hH hgl (by simpa using hsz) (fun x y a b => by
      rw [lt_less] at a b
      rcases less_cases x y with h | h | h
      · rw [h] at a; cases a
      · exact h
      · rw [h] at b; cases b)
    change Calls Try.prog 53 #[.slice (some ⟨g, 0, none⟩) ss.length cap, .func (.func 54) #[] #[]] _ _ at hs
    refine hs.mono ?_
    rintro e w2 ⟨rfl, m, os, hw⟩
    have hw2 : w2 = sortWorldK encC 4 w g 0 m (sortC ss).toArray os := hw
    rw [hw2]
    exact ⟨rfl, row_holds (cap := cap) (holdsK_sortWorldK_c encC 4 w g 0 ss.toArray (sortC ss).toArray m os hH hgl (by simp [sortC_length])) (show ss.length = (sortC ss).length by rw [sortC_length]), below_sortW w g 0 m (sortC ss).toArray os hbg hb⟩
end Go.Proofs.Ytdbdpehagkglfaa
