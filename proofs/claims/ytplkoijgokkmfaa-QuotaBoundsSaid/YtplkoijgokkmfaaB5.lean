/-
  Quotas: who is known, rising.
-/
import Derived.Test.YtplkoijgokkmfaaB3
import Derived.Test.YtplkoijgokkmfaaSrt
import Derived.Shelf.AbstractIn
import Derived.Shelf.SlIterI.Nil
import Derived.Shelf.SortM.Plain
import Derived.Shelf.SortM.SortNone
import Derived.Test.YtplkoijgokkmfaaB16
import Derived.Test.YtplkoijgokkmfaaB1
import Derived.Test.YtplkoijgokkmfaaRows
import Derived.ProofKit
import Derived.OpenShut
import Derived.ChangeOld
import Derived.Below
import Derived.Deep.DeepHandedRow
import Derived.Deep.Matrix
import Derived.Deep.Slices
namespace Go.Proofs.Ytplkoijgokkmfaa
open Go Go.RowKit Go.Maps Go.Sort Go.Shelf
/-- How elements read: in one way. -/
def RQ : Value → Option (DataW Unit × List MemPlace) := fun _ => some (.lit (.bool true), [])
set_option maxRecDepth 100000 in
theorem MapQ.owns {W : World} {M : Nat} {l : List En} (m : MapQ W M l) (hl : l.length ≤ 1000) : ∃ D : DataW Unit, W.ownsMap Try.prog 3 RQ M l.length D ∧ (l.map (·.s)).Perm (intKeys D) ∧ Maps.size D = l.length := by
  obtain ⟨es, clock, hb, hs, he⟩ := m.st
  have hsz : es.size = l.length := by have := congrArg List.length he; simpa using this
  have hrd : ∀ x ∈ es.toList, ∃ y, Go.WideElems.rd Try.prog 3 RQ x = some y := fun x hx => by
    obtain ⟨kl, hk⟩ := mapQ_keys he m.wf x hx
    exact ⟨_, Go.WideElems.rd_mk (key := x.key) (val := x.val) hk rfl⟩
  have F : Go.WideElems.Fit Try.prog 3 RQ es clock := ⟨by rw [hsz]; unfold maxLen; omega, hs, hrd⟩
  have hown : W.ownsMap Try.prog 3 RQ M l.length (.map ((es.toList.map (Go.WideElems.rg Try.prog 3 RQ)).foldr DataW.insert [])) := ⟨es, clock, hb, F, by omega, rfl⟩
  refine ⟨_, hown, ?_, ?_⟩
  · refine CollectedI.perm (left := fun _ => false) ⟨?_, fun x => ?_⟩ hown sKeyed Try.underlying3 (fun _ => rfl)
    · exact pw_of_map.1 m.nd
    · rw [List.mem_map]
      constructor
      · rintro ⟨c, hc, rfl⟩
        refine ⟨?_, rfl⟩
        have h1 : (enK c, enV c) ∈ es.toList.map fun e => (e.key, e.val) := by rw [he]; exact List.mem_map.2 ⟨c, hc, rfl⟩
        obtain ⟨e, hm, h2⟩ := List.mem_map.1 h1
        injection h2 with h3 h4
        obtain ⟨y, hy⟩ := hrd e hm
        have hk2 := Go.WideElems.rd_key hy
        rw [h3] at hk2
        obtain ⟨x, e1, e2, -⟩ := Maps.keyOf_i64 Try.underlying3 hk2
        have e3 : c.s = x := by unfold enK at e1; injection e1
        refine List.any_eq_true.2 ⟨Go.WideElems.rg Try.prog 3 RQ e, mem_sorted.2 (List.mem_map.2 ⟨e, hm, rfl⟩), ?_⟩
        rw [Go.WideElems.rg_of hy, e2, ← e3]
        simp [Lit.sameKey]
      · rintro ⟨hh, -⟩
        obtain ⟨p, hp, hpk⟩ := List.any_eq_true.1 hh
        obtain ⟨e, hm, rfl⟩ := List.mem_map.1 (mem_sorted.1 hp)
        obtain ⟨y, hy⟩ := hrd e hm
        have hk2 := Go.WideElems.rd_key hy
        rw [Go.WideElems.rg_of hy] at hpk
        obtain ⟨z, e1, e2, -⟩ := Maps.keyOf_i64 Try.underlying3 hk2
        rw [e2] at hpk
        have e4 : z = x := by simpa [Lit.sameKey] using hpk
        subst e4
        have h1 : (e.key, e.val) ∈ l.map fun x => (enK x, enV x) := by rw [← he]; exact List.mem_map.2 ⟨e, hm, rfl⟩
        obtain ⟨c, hc, h2⟩ := List.mem_map.1 h1
        injection h2 with h3 h4
        rw [e1] at h3
        unfold enK at h3
        injection h3 with _ h5
        exact ⟨c, hc, h5⟩
  · simp [Maps.size, length_sorted, hsz]
/-- slices.Sort's two contracts. -/
theorem sortsQ (m : Nat) : AnyZI.SortsIn Try.prog Try.sortedA_ren Fence.wide m :=
  ⟨fun blk off cap ss W hH hblk hsz => callsIn_wide.2 (AnyM.slices_Sort_int Try.sortA blk off cap ss W hH hblk hsz),
   fun p cap W => callsIn_wide.2 (AnyM.slices_Sort_int_none Try.sortA p cap W)⟩
/-- Who is known, rising. -/
def rowS (l : List En) : List Int := (l.map (·.s)).mergeSort leI
set_option maxRecDepth 100000 in
set_option maxHeartbeats 1000000 in
theorem senders_any (q M : Nat) (n : Int) (l : List En) (w : World) (h : QB w q M n l) (hl : l.length ≤ 1000) :
    Calls Try.prog 19 #[.pointer (some ⟨q, 0, none⟩)] w fun e w' => ∃ v, e = .returned v ∧ OwnI w' w.heap.size v (rowS l) ∧ Below w.heap.size w w' := by
  have hc := h.cells.2
  obtain ⟨D0, hown, hperm, hsize⟩ := h.hm.owns hl
  have hml := h.lt.2
  have HP := Bx.mk hperm
  have hmax : Maps.size D0 ≤ maxLen := by rw [hsize]; unfold maxLen; omega
  have hbytes : Maps.size D0 * 8 ≤ 140737488355328 := by rw [hsize]; omega
  refine (callsIn_wide (n := 6)).1 ?_
  have hseq : SeqGives Fence.wide 2 Try.prog 33 #[.pointer (some ⟨w.heap.size, 0, none⟩)] encZ (fun ss => ss.Perm (intKeys D0)) (Maps.size D0) (w.alloc (.cells #[.map (some M)] 56)) :=
    AnyZI.keys_gives (ρ := Try.keysA_ren) { Try.keysA with } Fence.wide _ trivial rfl (by omega) w.heap.size M l.length D0 _ (by simp) (by simp) (by
      obtain ⟨es, clock, hb, Ft, hs, hD⟩ := hown
      exact ⟨es, clock, (Below.heap_alloc _ _ M hml).trans hb, Ft, hs, hD⟩)
  have cK : ∀ mb W, CallsIn Fence.wide 5 Try.prog 28 #[.map mb] W fun e w' => e = .returned (.func (.func 33) #[] #[.pointer (some ⟨W.heap.size, 0, none⟩)]) ∧ w' = W.alloc (.cells #[.map mb] 56) := fun mb W => AnyZI.keys_in Try.keysA Fence.wide 5 trivial rfl mb W
  have cS := AnyZI.sorted_in Try.sortedA Fence.wide 5 trivial trivial trivial trivial rfl (by omega) (sortsQ _) (enters_of Try.func32 (by kernel_rfl) rfl) 33 #[.pointer (some ⟨w.heap.size, 0, none⟩)] trivial (enters_of Try.func33 (by kernel_rfl) rfl) _ _ hmax hbytes _ hseq
  change CallsIn _ _ Try.prog 27 _ _ _ at cS
  have hfK : Fence.wide.fn 28 := trivial
  have hfS : Fence.wide.fn 27 := trivial
  clear h hown hperm hsize hml hmax hbytes hseq
  refine callsIn_of_wp Try.func19 rfl trivial ?_ rfl
  simp only [Try.ntmps19, List.size_toArray, List.length_cons, List.length_nil, Nat.reduceAdd, Nat.reduceSub, Array.replicate_succ, Array.replicate_zero, List.push_toArray, List.append_toArray, List.nil_append, List.cons_append]
  gi_wp2_with (first
    | (gi_at_call 28; refine (cK _ _).mono ?_; rintro e w' ⟨rfl, rfl⟩)
    | (gi_at_call 27; refine cS.mono ?_; rintro e w' ⟨v, ss, rfl, hS, hrow, hnil, hb⟩))
  go_ret
  have hss : ss.mergeSort (fun x y => decide (x ≤ y)) = rowS l := mergeSort_of_perm_i (hS.trans HP.out.symm)
  refine ⟨v, rfl, ?_, ((Below.refl _ w).alloc (Nat.le_refl _) _).trans (hb.mono (by simp))⟩
  have hln : ss.length = (rowS l).length := by rw [← hss, List.length_mergeSort]
  have h1 := ownsRow_base_a hrow (by simp : w.heap.size ≤ _)
  rw [hss, hln] at h1
  exact h1
end Go.Proofs.Ytplkoijgokkmfaa
namespace Go.Proofs.Ytplkoijgokkmfaa
open Go Go.RowKit
theorem atQ_mapB (l : List En) (c : En) (s : Int) : atQ (l.map fun x => if x.s = c.s then c else x) s = if s = c.s then (if hasQ l s = true then some c else none) else atQ l s := by
  unfold hasQ
  induction l with
  | nil => simp [atQ]
  | cons x l ih =>
    unfold atQ at ih ⊢
    rw [List.map_cons, List.find?_cons, List.find?_cons]
    by_cases hx : x.s = c.s
    · rw [if_pos hx]
      by_cases hs : s = c.s
      · rw [if_pos hs, show decide (c.s = s) = true from decide_eq_true hs.symm, show decide (x.s = s) = true from decide_eq_true (hx.trans hs.symm)]
        simp
      · rw [if_neg hs, show decide (c.s = s) = false from decide_eq_false (fun e => hs e.symm), show decide (x.s = s) = false from decide_eq_false (fun e => hs (e.symm.trans hx))]
        rw [if_neg hs] at ih
        exact ih
    · rw [if_neg hx]
      by_cases hs : s = c.s
      · rw [if_pos hs] at ih ⊢
        rw [show decide (x.s = s) = false from decide_eq_false (fun e => hx (e.trans hs))]
        exact ih
      · rw [if_neg hs] at ih ⊢
        cases decide (x.s = s)
        · exact ih
        · rfl
theorem atQ_putB (l : List En) (c : En) (s : Int) : atQ (putQ l c) s = if s = c.s then some c else atQ l s := by
  unfold putQ
  split
  · rename_i h
    rw [atQ_mapB]
    by_cases hs : s = c.s
    · rw [if_pos hs, if_pos hs, hs, if_pos h]
    · rw [if_neg hs, if_neg hs]
  · rename_i h
    have h0 : atQ l c.s = none := by
      unfold hasQ at h
      cases h1 : atQ l c.s with
      | none => rfl
      | some x => rw [h1] at h; simp at h
    by_cases hs : s = c.s
    · subst hs
      rw [if_pos rfl]
      unfold atQ at h0 ⊢
      rw [List.find?_append, h0]
      simp
    · rw [if_neg hs]
      unfold atQ
      rw [List.find?_append]
      have : ([c].find? fun x => decide (x.s = s)) = none := by
        rw [List.find?_cons, show decide (c.s = s) = false from decide_eq_false (fun e => hs e.symm)]
        rfl
      rw [this]
      simp
theorem hasQ_putB (l : List En) (c : En) (s : Int) : hasQ (putQ l c) s = (decide (s = c.s) || hasQ l s) := by
  unfold hasQ
  rw [atQ_putB]
  by_cases hs : s = c.s
  · rw [if_pos hs, decide_eq_true hs]; rfl
  · rw [if_neg hs, decide_eq_false hs]; rfl
theorem perQ_putB (l : List En) (c : En) (s : Int) : perQ (putQ l c) s = if s = c.s then c.p else perQ l s := by
  unfold perQ
  rw [atQ_putB]
  by_cases hs : s = c.s
  · rw [if_pos hs, if_pos hs]
  · rw [if_neg hs, if_neg hs]
theorem cntQ_putB (l : List En) (c : En) (s : Int) : cntQ (putQ l c) s = if s = c.s then c.t else cntQ l s := by
  unfold cntQ
  rw [atQ_putB]
  by_cases hs : s = c.s
  · rw [if_pos hs, if_pos hs]
  · rw [if_neg hs, if_neg hs]
theorem isT_app (m : List Tk) (x : Tk) (s : Int) : isT (m ++ [x]) s = (isT m s || decide (x.s = s)) := by unfold isT; rw [List.any_append]; simp
theorem lastT_app (m : List Tk) (x : Tk) (s : Int) : lastT (m ++ [x]) s = if x.s = s then max (lastT m s) x.p else lastT m s := by unfold lastT; rw [List.foldl_append]; rfl
theorem timT_app (m : List Tk) (x : Tk) (s p : Int) : timT (m ++ [x]) s p = timT m s p + if (decide (x.s = s) && decide (x.p = p)) = true then 1 else 0 := by unfold timT; rw [List.countP_append, List.countP_singleton]
/-- What a map of senders and the takes behind it hold alike. -/
structure RelQ (n : Int) (l : List En) (m : List Tk) : Prop where
  ok : OkQ n l
  len : l.length ≤ 16
  has : ∀ s, hasQ l s = isT m s
  last : ∀ s, perQ l s = lastT m s
  tim : ∀ s p, perQ l s ≤ p → (timT m s p : Int) = tmsQ l s p
theorem RelQ.start (n : Int) : RelQ n [] [] := ⟨ok_nil n, by simp, fun s => rfl, fun s => rfl, fun s p _ => by unfold tmsQ cntQ; simp [atQ, timT]⟩
theorem refK_zero {l : List En} {s t : Int} (h : refK l s t = 0) : 1 ≤ s ∧ s ≤ 65535 ∧ 0 ≤ t ∧ perQ l s ≤ perT t := by
  unfold refK at h
  split at h
  · cases h
  · split at h
    · cases h
    · omega
theorem takeE_zero {n : Int} {l : List En} {s t : Int} (h : takeE l n s t = 0) : refK l s t = 0 ∧ tmsQ l s (perT t) < n ∧ (hasQ l s = false → (l.length : Int) < 16) := by
  unfold takeE at h
  by_cases h0 : refK l s t = 0
  · rw [if_pos h0] at h
    by_cases h1 : n ≤ tmsQ l s (perT t)
    · rw [if_pos h1] at h; cases h
    · rw [if_neg h1] at h
      by_cases h2 : hasQ l s = false ∧ 16 ≤ (l.length : Int)
      · rw [if_pos h2] at h; cases h
      · exact ⟨h0, by omega, fun h3 => by
          have : ¬ 16 ≤ (l.length : Int) := fun h4 => h2 ⟨h3, h4⟩
          omega⟩
  · rw [if_neg h0] at h
    exact absurd h h0
theorem putQ_len (l : List En) (c : En) : (putQ l c).length = if hasQ l c.s = true then l.length else l.length + 1 := by
  unfold putQ
  split <;> simp
theorem RelQ.take {n : Int} {l : List En} {m : List Tk} (h : RelQ n l m) (hn : 1 ≤ n) (s t : Int) (h0 : takeE l n s t = 0) : RelQ n (takeN l n s t) (m ++ [⟨s, perT t⟩]) := by
  have hok := takeN_ok h.ok hn s t
  obtain ⟨hr, ht, hf⟩ := takeE_zero h0
  obtain ⟨-, -, -, hp⟩ := refK_zero hr
  unfold takeN at hok ⊢
  rw [if_pos h0] at hok ⊢
  refine ⟨hok, ?_, fun u => ?_, fun u => ?_, fun u p hup => ?_⟩
  · rw [putQ_len]
    split
    · exact h.len
    · rename_i h1
      have := hf (by simpa using h1)
      omega
  · rw [hasQ_putB, isT_app, h.has]
    by_cases hu : u = s
    · subst hu; simp
    · rw [decide_eq_false hu, decide_eq_false (fun e : s = u => hu e.symm)]; simp
  · rw [perQ_putB, lastT_app]
    by_cases hu : u = s
    · subst hu
      rw [if_pos rfl, if_pos rfl, ← h.last]
      show perT t = max (perQ l u) (perT t)
      omega
    · rw [if_neg hu, if_neg (fun e : s = u => hu e.symm), h.last]
  · rw [perQ_putB] at hup
    rw [timT_app]
    unfold tmsQ
    rw [perQ_putB, cntQ_putB]
    by_cases hu : u = s
    · subst hu
      rw [if_pos rfl] at hup ⊢
      rw [if_pos rfl]
      simp only at hup ⊢
      by_cases hpp : perT t = p
      · subst hpp
        rw [if_pos rfl]
        have := h.tim u (perT t) hp
        simp only [decide_true, Bool.and_self, if_true]
        show ((timT m u (perT t) + 1 : Nat) : Int) = tmsQ l u (perT t) + 1
        omega
      · rw [if_neg hpp]
        have h1 := h.tim u p (by omega)
        have h2 : tmsQ l u p = 0 := by unfold tmsQ; rw [if_neg (by omega)]
        rw [decide_eq_false hpp]
        simp only [Bool.and_false, Bool.false_eq_true, if_false]
        omega
    · rw [if_neg hu] at hup ⊢
      rw [if_neg hu]
      rw [decide_eq_false (fun e : s = u => hu e.symm)]
      simp only [Bool.false_and, Bool.false_eq_true, if_false]
      exact h.tim u p hup
theorem rowS_len (l : List En) : (rowS l).length = l.length := by unfold rowS; rw [List.length_mergeSort, List.length_map]
theorem rowS_mem (l : List En) (s : Int) : s ∈ rowS l ↔ hasQ l s = true := by
  unfold rowS
  rw [List.mem_mergeSort, List.mem_map, hasQ_iff]
end Go.Proofs.Ytplkoijgokkmfaa
namespace Go.Proofs.Ytplkoijgokkmfaa
open Go Go.ChangeShapes Go.WideShapes Go.ChangeAt Go.RowKit
/-- A call: its kind, a sender, a tick. -/
structure AcQ where
  k : Int
  s : Int
  t : Int
def AcQ.zero : AcQ := ⟨0, 0, 0⟩
/-- A call's numbers are numbers. -/
def AcQ.fit (a : AcQ) : Prop := in64 a.k ∧ in64 a.s ∧ in64 a.t
/-- Calls behind a slice. -/
def ActsQ (w : World) (v : Value) (acs : List AcQ) : Prop :=
  ∃ a cap, v = .slice a acs.length cap ∧ acs.length ≤ cap ∧ (a = none → cap = 0) ∧ (0 < acs.length → ∃ b o, a = some ⟨b, o, none⟩ ∧ ∀ i, i < acs.length → w.rangeAt b (o + i * 3) [.int .i64 (acs.getD i AcQ.zero).k, .int .i64 (acs.getD i AcQ.zero).s, .int .i64 (acs.getD i AcQ.zero).t] ∧ (acs.getD i AcQ.zero).fit)
theorem range_actsQ {w w1 : World} {b o : Nat} {x : Value} {l : List Value} (h : w.rangeAt b o (x :: l)) (hb : Below w.heap.size w w1) : w1.rangeAt b o (x :: l) := fun j u hj => by
  have h1 := h j u hj
  rw [hb.cell (World.block_lt_of_cell? _ _ h1)]
  exact h1
theorem ActsQ.later {w w1 : World} {v : Value} {acs : List AcQ} (h : ActsQ w v acs) (hb : Below w.heap.size w w1) : ActsQ w1 v acs := by
  obtain ⟨a, cap, hv, hc, hn, hr⟩ := h
  refine ⟨a, cap, hv, hc, hn, fun hp => ?_⟩
  obtain ⟨b, o, ha, hi⟩ := hr hp
  refine ⟨b, o, ha, fun i hil => ?_⟩
  obtain ⟨h1, h3⟩ := hi i hil
  exact ⟨range_actsQ h1 hb, h3⟩
set_option maxRecDepth 100000 in
theorem act_inQ {H : Type} {enc : TypeId × Value → H} {W : World} {fuel : Nat} {cs : List Value} {x : DataW H × List MemPlace} (h : DataW.trod enc Try.prog W 0 (fun _ => true) true fuel 31 cs = some x) :
    ∃ a : AcQ, cs = [.int .i64 a.k, .int .i64 a.s, .int .i64 a.t] ∧ a.fit := by
  obtain ⟨xs, n, -, -, hlen, hxl, hf⟩ := DataW.trod_struct Try.underlying31 h
  have hl3 : cs.length = 3 := hlen.trans (by kernel_rfl)
  have hx3 : xs.length = 3 := hxl
  match cs, hl3, xs, hx3 with
  | [c0, c1, c2], _, [y0, y1, y2], _ =>
    have g0 : DataW.trod enc Try.prog W 0 (fun _ => true) true n 3 [c0] = some y0 := hf 0 _ rfl
    have g1 : DataW.trod enc Try.prog W 0 (fun _ => true) true n 3 [c1] = some y1 := hf 1 _ rfl
    have g2 : DataW.trod enc Try.prog W 0 (fun _ => true) true n 3 [c2] = some y2 := hf 2 _ rfl
    obtain ⟨s, e0, -, w0⟩ := DataW.trod_int Try.underlying3 g0
    obtain ⟨m, e1, -, w1⟩ := DataW.trod_int Try.underlying3 g1
    obtain ⟨q, e2, -, w2⟩ := DataW.trod_int Try.underlying3 g2
    simp at e0 e1 e2
    subst e0 e1 e2
    exact ⟨⟨s, m, q⟩, rfl, lit_i64 s w0, lit_i64 m w1, lit_i64 q w2⟩
set_option maxRecDepth 100000 in
theorem open_actsQ {H : Type} {enc : TypeId × Value → H} {W : World} {a : Option Addr} {len cap : Nat} {d : DataW H} {p : List MemPlace} (h : DataW.Trod enc Try.prog W 0 (fun _ => true) true 22 (.slice a len cap) d p) :
    ∃ acs, ActsQ W (.slice a len cap) acs ∧ acs.length ≤ 9223372036854775807 := by
  obtain ⟨fuel, hf⟩ := h
  rcases Deep.open_slice Try.underlying22 hf with ⟨hcs, _⟩ | ⟨x, l, c, m, n, D, Pl, hcs, _, hl, hm, hmm, _, hi⟩
  · simp [Value.cells] at hcs
    obtain ⟨rfl, rfl, rfl⟩ := hcs
    exact ⟨[], ⟨none, 0, rfl, Nat.le_refl _, fun _ => rfl, fun h => absurd h (by simp)⟩, by simp⟩
  · simp [Value.cells] at hcs
    obtain ⟨rfl, rfl, rfl⟩ := hcs
    have hcm : cap ≤ 9223372036854775807 := hm
    have hm2 : m = cap := by simpa using hmm
    have hC : Try.prog.cellsOf 31 = 3 := by kernel_rfl
    have hrow : ∀ i, i < len → ∃ A : AcQ, (∀ j y, [Value.int .i64 A.k, .int .i64 A.s, .int .i64 A.t][j]? = some y → W.cell? (x.add (i * 3 + j)) = some y) ∧ A.fit := fun i hil => by
      obtain ⟨cs', hc', ht⟩ := hi i (by omega)
      rw [hC] at hc'
      obtain ⟨_, hcl, hat⟩ := World.cells?_some hc'
      obtain ⟨o, e, hr⟩ := act_inQ ht
      refine ⟨o, fun j y hj => ?_, hr⟩
      have hj3 : j < 3 := by have := (List.getElem?_eq_some_iff.1 hj).1; simpa using this
      rw [← Deep.add_add, hat j hj3, e]
      exact hj
    haveI : Inhabited AcQ := ⟨AcQ.zero⟩
    obtain ⟨f, hfb⟩ := Deep.choose_lt hrow
    have hlen : ((List.range len).map f).length = len := by simp
    refine ⟨(List.range len).map f, ⟨some x, cap, by rw [hlen], by rw [hlen]; exact hl, (fun h => by cases h), fun hp => ?_⟩, by rw [hlen]; omega⟩
    rw [hlen] at hp
    obtain ⟨hc0, -⟩ := hfb 0 hp
    have h00 := hc0 0 _ rfl
    obtain ⟨b, off, spot⟩ := x
    have hspot : spot = none := by simpa [Addr.add] using World.cell?_spot h00
    subst hspot
    refine ⟨b, off, rfl, fun i hi2 => ?_⟩
    rw [hlen] at hi2
    have e : ((List.range len).map f).getD i AcQ.zero = f i := by simp [hi2]
    rw [e]
    obtain ⟨hc1, hr1⟩ := hfb i hi2
    refine ⟨fun j y hj => ?_, hr1⟩
    have := hc1 j y hj
    rw [Go.WideShapes.add_plain] at this
    show W.cell? ⟨b, off + i * 3 + j, none⟩ = some y
    rw [Nat.add_assoc]
    exact this
/-- A call's three cells. -/
theorem ActsQ.cells {w : World} {b o n cap : Nat} {acs : List AcQ} (h : ActsQ w (.slice (some ⟨b, o, none⟩) n cap) acs) (i : Nat) (hi : i < acs.length) :
    w.cell? ⟨b, o + i * 3, none⟩ = some (.int .i64 (acs.getD i AcQ.zero).k) ∧ w.cell? ⟨b, o + i * 3 + 1, none⟩ = some (.int .i64 (acs.getD i AcQ.zero).s) ∧ w.cell? ⟨b, o + i * 3 + 2, none⟩ = some (.int .i64 (acs.getD i AcQ.zero).t) ∧ (acs.getD i AcQ.zero).fit := by
  obtain ⟨a', cap', hv, hc, hn, hr⟩ := h
  obtain ⟨b', o', ha, hx⟩ := hr (by omega)
  injection hv with e1 e2 e3
  rw [ha] at e1
  injection e1 with e1
  injection e1 with e4 e5
  subst e4 e5
  obtain ⟨h1, h2⟩ := hx i hi
  exact ⟨h1 0 _ rfl, h1 1 _ rfl, h1 2 _ rfl, h2⟩
theorem ActsQ.some {w : World} {v : Value} {acs : List AcQ} (h : ActsQ w v acs) (hp : 0 < acs.length) : ∃ b o cap, v = .slice (some ⟨b, o, none⟩) acs.length cap := by
  obtain ⟨a', cap', hv, hc, hn, hr⟩ := h
  obtain ⟨b, o, ha, -⟩ := hr hp
  exact ⟨b, o, cap', by rw [hv, ha]⟩
theorem ActsQ.form {w : World} {v : Value} {acs : List AcQ} (h : ActsQ w v acs) : ∃ a cap, v = .slice a acs.length cap := by
  obtain ⟨a', cap', hv, -⟩ := h
  exact ⟨a', cap', hv⟩
end Go.Proofs.Ytplkoijgokkmfaa
namespace Go.Proofs.Ytplkoijgokkmfaa
open Go Go.RowKit
set_option maxRecDepth 100000 in
theorem open113 {a : Act} (h : Fr 113 a) : ∃ x : Nat → Value, a = ⟨List.toArray (x 0 :: x 1 :: x 2 :: x 3 :: x 4 :: x 5 :: x 6 :: x 7 :: x 8 :: x 9 :: x 10 :: x 11 :: x 12 :: x 13 :: x 14 :: x 15 :: x 16 :: x 17 :: x 18 :: x 19 :: x 20 :: x 21 :: x 22 :: x 23 :: x 24 :: x 25 :: x 26 :: x 27 :: x 28 :: x 29 :: x 30 :: x 31 :: x 32 :: x 33 :: x 34 :: x 35 :: x 36 :: x 37 :: x 38 :: x 39 :: x 40 :: x 41 :: x 42 :: x 43 :: x 44 :: x 45 :: x 46 :: x 47 :: x 48 :: x 49 :: x 50 :: x 51 :: x 52 :: x 53 :: x 54 :: x 55 :: x 56 :: x 57 :: x 58 :: x 59 :: x 60 :: x 61 :: x 62 :: x 63 :: x 64 :: x 65 :: x 66 :: x 67 :: x 68 :: x 69 :: x 70 :: x 71 :: x 72 :: x 73 :: x 74 :: x 75 :: x 76 :: x 77 :: x 78 :: x 79 :: x 80 :: x 81 :: x 82 :: x 83 :: x 84 :: x 85 :: x 86 :: x 87 :: x 88 :: x 89 :: x 90 :: x 91 :: x 92 :: x 93 :: x 94 :: x 95 :: x 96 :: x 97 :: x 98 :: x 99 :: x 100 :: x 101 :: x 102 :: x 103 :: x 104 :: x 105 :: x 106 :: x 107 :: x 108 :: x 109 :: x 110 :: x 111 :: x 112 :: []), []⟩ ∧ ∀ i, a.eval (.tmp i) = x i := ⟨fun i => a.tmps.getD i undef, h.form, fun _ => rfl⟩
/-- What stays in the frame. -/
structure FB (v0 v1 v5 v7 v8 v9 v10 : Value) (a : Act) : Prop where
  fr : Fr 113 a
  s0 : a.eval (.tmp 0) = v0
  s1 : a.eval (.tmp 1) = v1
  s5 : a.eval (.tmp 5) = v5
  s7 : a.eval (.tmp 7) = v7
  s8 : a.eval (.tmp 8) = v8
  s9 : a.eval (.tmp 9) = v9
  s10 : a.eval (.tmp 10) = v10
theorem memB_succ (l : List Int) (x : Int) (j : Nat) (h : j < l.length) : decide (x ∈ l.take (j + 1)) = (decide (x ∈ l.take j) || decide (l.getD j 0 = x)) := by
  rw [List.take_add_one, List.getD_eq_getElem?_getD, List.getElem?_eq_getElem h]
  simp only [Option.toList_some, List.mem_append, List.mem_singleton, Option.getD_some, Bool.decide_or]
  congr 1
  exact decide_eq_decide.2 ⟨fun e => e.symm, fun e => e.symm⟩
/-- Between two rounds of the innermost loop. -/
structure IJ (wf : World) (v0 v1 v5 v7 v8 v9 v10 : Value) (x : Int) (ns : List Int) (k2 j : Nat) (a : Act) (W : World) : Prop where
  fb : FB v0 v1 v5 v7 v8 v9 v10 a
  s11 : a.eval (.tmp 11) = .int .i64 (k2 : Int)
  s12 : a.eval (.tmp 12) = .bool (decide (x ∈ ns.take j))
  s13 : a.eval (.tmp 13) = .int .i64 (j : Int)
  bel : Below wf.heap.size wf W
set_option maxRecDepth 100000 in
set_option maxHeartbeats 4000000 in
theorem roundJ (wf : World) (v0 v1 v5 v7 v8 v9 v10 : Value) (us ns : List Int) (hu : Ints wf v9 us) (hns : Ints wf v10 ns) (hu2 : us.length ≤ 1000) (hn2 : ns.length ≤ 1000) (k2 : Nat) (hk2 : k2 < us.length)
    (Q : Exit → Act → World → Prop) (j : Nat) (a : Act) (wr : World) (hj : j < ns.length) (h : IJ wf v0 v1 v5 v7 v8 v9 v10 (us.getD k2 0) ns k2 j a wr) :
    Code.wp Try.prog (loopAt (Try.f4.body) 2) (Exit.then (fun a' w' => IJ wf v0 v1 v5 v7 v8 v9 v10 (us.getD k2 0) ns k2 (j + 1) a' w') Q) a wr := by
  obtain ⟨hf, s11, s12, s13, hbel⟩ := h
  have HBel := Bx.mk hbel
  have HUc := Bx.mk hu
  have HNc := Bx.mk hns
  obtain ⟨a9, c9, rfl, -, -, hu'⟩ := hu
  obtain ⟨a10, c10, rfl, -, -, hn'⟩ := hns
  obtain ⟨g9, o9, rfl, cu0⟩ := hu' (by omega)
  obtain ⟨g10, o10, rfl, cn0⟩ := hn' (by omega)
  have cu := (hbel.cell (p := ⟨g9, o9 + k2, none⟩) (World.block_lt_of_cell? _ _ (cu0 k2 hk2))).trans (cu0 k2 hk2)
  have cn := (hbel.cell (p := ⟨g10, o10 + j, none⟩) (World.block_lt_of_cell? _ _ (cn0 j hj))).trans (cn0 j hj)
  have HS := Bx.mk (memB_succ ns (us.getD k2 0) j hj)
  generalize us.getD k2 0 = ux at *
  generalize ns.getD j 0 = nx at *
  obtain ⟨b, hb⟩ : ∃ b, decide (ux ∈ ns.take j) = b := ⟨_, rfl⟩
  rw [hb] at s12 HS
  generalize us.length = un at *
  obtain ⟨nn, hnn⟩ : ∃ nn, ns.length = nn := ⟨_, rfl⟩
  rw [hnn] at hj hn2 hf ⊢
  have t1 : (j : Int) < (nn : Int) := by omega
  have t2 : (k2 : Int) < (un : Int) := by omega
  have t3 : (0 : Int) ≤ (j : Int) := by omega
  have t4 : (0 : Int) ≤ (k2 : Int) := by omega
  have t5 : (nn : Int) ≤ 1000 := by omega
  obtain ⟨y, rfl, hy⟩ := open113 hf.fr
  have e0 := (hy 0).symm.trans hf.s0
  have e1 := (hy 1).symm.trans hf.s1
  have e5 := (hy 5).symm.trans hf.s5
  have e7 := (hy 7).symm.trans hf.s7
  have e8 := (hy 8).symm.trans hf.s8
  have e9 := (hy 9).symm.trans hf.s9
  have e10 := (hy 10).symm.trans hf.s10
  have e11 := (hy 11).symm.trans s11
  have e12 := (hy 12).symm.trans s12
  have e13 := (hy 13).symm.trans s13
  clear hf hy s11 s12 s13 hu' hn' cu0 cn0 hbel hb hnn hj hk2 hu2 hn2 HUc HNc
  rw [e0, e1, e5, e7, e8, e9, e10, e11, e12, e13]
  clear e0 e1 e5 e7 e8 e9 e10 e11 e12 e13
  cases b with
  | true =>
    conv => arg 2; whnf
    go_wp2
    go_quiet (fail)
    have HB4 := Bx.mk (below_drewN HBel.out nq)
    clear cu cn
    generalize wr.drewN nq = w4 at *
    go_wp2
    exact ⟨⟨⟨rfl, rfl⟩, rfl, rfl, rfl, rfl, rfl, rfl, rfl⟩, by first | rfl | go_num, by rw [HS.out]; rfl, by first | rfl | go_num, HB4.out⟩
  | false =>
    by_cases hd : nx = ux
    · subst hd
      conv => arg 2; whnf
      go_wp2
      go_quiet (fail)
      have HB4 := Bx.mk (below_drewN HBel.out nq)
      clear cu cn
      generalize wr.drewN nq = w4 at *
      go_wp2
      exact ⟨⟨⟨rfl, rfl⟩, rfl, rfl, rfl, rfl, rfl, rfl, rfl⟩, by first | rfl | go_num, by rw [HS.out]; rw [Bool.false_or, decide_true]; rfl, by first | rfl | go_num, HB4.out⟩
    · skip
      conv => arg 2; whnf
      go_wp2
      go_quiet (fail)
      have HB4 := Bx.mk (below_drewN HBel.out nq)
      clear cu cn
      generalize wr.drewN nq = w4 at *
      go_wp2
      exact ⟨⟨⟨rfl, rfl⟩, rfl, rfl, rfl, rfl, rfl, rfl, rfl⟩, by first | rfl | go_num, by rw [HS.out]; rw [Bool.false_or]; rfl, by first | rfl | go_num, HB4.out⟩
set_option maxRecDepth 100000 in
set_option maxHeartbeats 4000000 in
theorem lastJ (wf : World) (v0 v1 v5 v7 v8 v9 v10 : Value) (us ns : List Int) (hu : Ints wf v9 us) (hns : Ints wf v10 ns) (hu2 : us.length ≤ 1000) (hn2 : ns.length ≤ 1000) (k2 : Nat) (x : Int) (Q : Exit → Act → World → Prop) (N : Act → World → Prop)
    (hq : ∀ a' w', FB v0 v1 v5 v7 v8 v9 v10 a' → a'.eval (.tmp 11) = .int .i64 (k2 : Int) → a'.eval (.tmp 12) = .bool (decide (x ∈ ns)) → Below wf.heap.size wf w' → Q (.exit 4) a' w') (a : Act) (wr : World) (h : IJ wf v0 v1 v5 v7 v8 v9 v10 x ns k2 ns.length a wr) :
    Code.wp Try.prog (loopAt (Try.f4.body) 2) (Exit.then N Q) a wr := by
  obtain ⟨hf, s11, s12, s13, hbel⟩ := h
  have HBel := Bx.mk hbel
  have HUc := Bx.mk hu
  have HNc := Bx.mk hns
  obtain ⟨a9, c9, rfl, -, -, hu'⟩ := hu
  obtain ⟨a10, c10, rfl, -, -, hn'⟩ := hns
  have HQ := Bx.mk hq
  rw [List.take_length] at s12
  generalize decide (x ∈ ns) = b at *
  obtain ⟨nn, hnn⟩ : ∃ nn, ns.length = nn := ⟨_, rfl⟩
  rw [hnn] at hn2 hf s13 HQ
  generalize us.length = un at *
  have t5 : (nn : Int) ≤ 1000 := by omega
  obtain ⟨y, rfl, hy⟩ := open113 hf.fr
  have e0 := (hy 0).symm.trans hf.s0
  have e1 := (hy 1).symm.trans hf.s1
  have e5 := (hy 5).symm.trans hf.s5
  have e7 := (hy 7).symm.trans hf.s7
  have e8 := (hy 8).symm.trans hf.s8
  have e9 := (hy 9).symm.trans hf.s9
  have e10 := (hy 10).symm.trans hf.s10
  have e11 := (hy 11).symm.trans s11
  have e12 := (hy 12).symm.trans s12
  have e13 := (hy 13).symm.trans s13
  clear hf hy s11 s12 s13 hu' hn' hbel hnn hu2 hn2 HUc HNc hq
  rw [e0, e1, e5, e7, e8, e9, e10, e11, e12, e13]
  clear e0 e1 e5 e7 e8 e9 e10 e11 e12 e13
  conv => arg 2; whnf
  go_wp2
  exact HQ.out _ _ ⟨⟨rfl, rfl⟩, rfl, rfl, rfl, rfl, rfl, rfl, rfl⟩ rfl rfl HBel.out
theorem loopJ (wf : World) (v0 v1 v5 v7 v8 v9 v10 : Value) (us ns : List Int) (hu : Ints wf v9 us) (hns : Ints wf v10 ns) (hu2 : us.length ≤ 1000) (hn2 : ns.length ≤ 1000) (k2 : Nat) (hk2 : k2 < us.length) (Q : Exit → Act → World → Prop) (a : Act) (wr : World) (h : IJ wf v0 v1 v5 v7 v8 v9 v10 (us.getD k2 0) ns k2 0 a wr)
    (hq : ∀ a' w', FB v0 v1 v5 v7 v8 v9 v10 a' → a'.eval (.tmp 11) = .int .i64 (k2 : Int) → a'.eval (.tmp 12) = .bool (decide (us.getD k2 0 ∈ ns)) → Below wf.heap.size wf w' → Q (.exit 4) a' w') :
    Code.wp Try.prog (.loop (loopAt (Try.f4.body) 2)) Q a wr :=
  wp_count ns.length (fun j a w' => IJ wf v0 v1 v5 v7 v8 v9 v10 (us.getD k2 0) ns k2 j a w') 0 (Nat.zero_le _) h (fun j a w' hj hI => roundJ wf v0 v1 v5 v7 v8 v9 v10 us ns hu hns hu2 hn2 k2 hk2 Q j a w' hj hI) (fun a w' hI => lastJ wf v0 v1 v5 v7 v8 v9 v10 us ns hu hns hu2 hn2 k2 _ Q _ hq a w' hI)
/-- Between two rounds of the loop over those who were known. -/
structure IL (wf : World) (v0 v1 v5 v7 v8 v9 v10 : Value) (k2 : Nat) (a : Act) (W : World) : Prop where
  fb : FB v0 v1 v5 v7 v8 v9 v10 a
  s11 : a.eval (.tmp 11) = .int .i64 (k2 : Int)
  bel : Below wf.heap.size wf W
set_option maxRecDepth 100000 in
set_option maxHeartbeats 4000000 in
theorem roundL (wf : World) (v0 v1 v5 v7 v8 v9 v10 : Value) (us ns : List Int) (hu : Ints wf v9 us) (hns : Ints wf v10 ns) (hu2 : us.length ≤ 1000) (hn2 : ns.length ≤ 1000) (hsub : ∀ x ∈ us, x ∈ ns)
    (Q : Exit → Act → World → Prop) (k2 : Nat) (a : Act) (wr : World) (hk2 : k2 < us.length) (h : IL wf v0 v1 v5 v7 v8 v9 v10 k2 a wr) :
    Code.wp Try.prog (loopAt (Try.f4.body) 1) (Exit.then (fun a' w' => IL wf v0 v1 v5 v7 v8 v9 v10 (k2 + 1) a' w') Q) a wr := by
  have HLo := Bx.mk fun (Q : Exit → Act → World → Prop) (a : Act) (wr : World) => loopJ wf v0 v1 v5 v7 v8 v9 v10 us ns hu hns hu2 hn2 k2 hk2 Q a wr
  have HIn : Bx (decide (us.getD k2 0 ∈ ns) = true) := Bx.mk (decide_eq_true (by
    rw [List.getD_eq_getElem?_getD, List.getElem?_eq_getElem hk2]
    exact hsub _ (List.getElem_mem hk2)))
  have HZ : Bx (decide (us.getD k2 0 ∈ ns.take 0) = false) := Bx.mk (by simp)
  obtain ⟨hf, s11, hbel⟩ := h
  have HBel := Bx.mk hbel
  obtain ⟨a9, c9, h9, -⟩ := hu
  subst h9
  have t2 : (k2 : Int) < (us.length : Int) := by omega
  have t4 : (0 : Int) ≤ (k2 : Int) := by omega
  have t5 : (us.length : Int) ≤ 1000 := by omega
  generalize us.length = un at *
  generalize us.getD k2 0 = ux at *
  obtain ⟨y, rfl, hy⟩ := open113 hf.fr
  have e0 := (hy 0).symm.trans hf.s0
  have e1 := (hy 1).symm.trans hf.s1
  have e5 := (hy 5).symm.trans hf.s5
  have e7 := (hy 7).symm.trans hf.s7
  have e8 := (hy 8).symm.trans hf.s8
  have e9 := (hy 9).symm.trans hf.s9
  have e10 := (hy 10).symm.trans hf.s10
  have e11 := (hy 11).symm.trans s11
  clear hf hy s11 hns hsub hbel hk2 hu2 hn2
  rw [e0, e1, e5, e7, e8, e9, e10, e11]
  clear e0 e1 e5 e7 e8 e9 e10 e11
  conv => arg 2; whnf
  go_wp2
  skip -- M1
  refine HLo.out _ _ _ ⟨⟨⟨rfl, rfl⟩, rfl, rfl, rfl, rfl, rfl, rfl, rfl⟩, rfl, by rw [HZ.out]; rfl, rfl, HBel.out⟩ ?_
  intro a2 w2 hf s11 s12 hb
  rw [HIn.out] at s12
  have HB2 := Bx.mk hb
  clear hb HLo HBel HIn HZ
  obtain ⟨y, rfl, hy⟩ := open113 hf.fr
  have e0 := (hy 0).symm.trans hf.s0
  have e1 := (hy 1).symm.trans hf.s1
  have e5 := (hy 5).symm.trans hf.s5
  have e7 := (hy 7).symm.trans hf.s7
  have e8 := (hy 8).symm.trans hf.s8
  have e9 := (hy 9).symm.trans hf.s9
  have e10 := (hy 10).symm.trans hf.s10
  have e11 := (hy 11).symm.trans s11
  have e12 := (hy 12).symm.trans s12
  clear hf hy s11 s12
  rw [e0, e1, e5, e7, e8, e9, e10, e11, e12]
  clear e0 e1 e5 e7 e8 e9 e10 e11 e12
  go_wp2
  exact ⟨⟨⟨rfl, rfl⟩, rfl, rfl, rfl, rfl, rfl, rfl, rfl⟩, by first | rfl | go_num, HB2.out⟩
set_option maxRecDepth 100000 in
set_option maxHeartbeats 4000000 in
theorem lastL (wf : World) (v0 v1 v5 v7 v8 v9 v10 : Value) (us ns : List Int) (hu : Ints wf v9 us) (hns : Ints wf v10 ns) (hu2 : us.length ≤ 1000) (hn2 : ns.length ≤ 1000)
    (Q : Exit → Act → World → Prop) (N : Act → World → Prop) (hq : ∀ a' w', FB v0 v1 v5 v7 v8 v9 v10 a' → Below wf.heap.size wf w' → Q (.exit 2) a' w') (a : Act) (wr : World) (h : IL wf v0 v1 v5 v7 v8 v9 v10 us.length a wr) :
    Code.wp Try.prog (loopAt (Try.f4.body) 1) (Exit.then N Q) a wr := by
  obtain ⟨hf, s11, hbel⟩ := h
  have HBel := Bx.mk hbel
  obtain ⟨a9, c9, h9, -⟩ := hu
  subst h9
  have HQ := Bx.mk hq
  have t5 : (us.length : Int) ≤ 1000 := by omega
  generalize us.length = un at *
  obtain ⟨y, rfl, hy⟩ := open113 hf.fr
  have e0 := (hy 0).symm.trans hf.s0
  have e1 := (hy 1).symm.trans hf.s1
  have e5 := (hy 5).symm.trans hf.s5
  have e7 := (hy 7).symm.trans hf.s7
  have e8 := (hy 8).symm.trans hf.s8
  have e9 := (hy 9).symm.trans hf.s9
  have e10 := (hy 10).symm.trans hf.s10
  have e11 := (hy 11).symm.trans s11
  clear hf hy s11 hns hbel hu2 hn2 hq
  rw [e0, e1, e5, e7, e8, e9, e10, e11]
  clear e0 e1 e5 e7 e8 e9 e10 e11
  conv => arg 2; whnf
  go_wp2
  exact HQ.out _ _ ⟨⟨rfl, rfl⟩, rfl, rfl, rfl, rfl, rfl, rfl, rfl⟩ HBel.out
theorem loopL (wf : World) (v0 v1 v5 v7 v8 v9 v10 : Value) (us ns : List Int) (hu : Ints wf v9 us) (hns : Ints wf v10 ns) (hu2 : us.length ≤ 1000) (hn2 : ns.length ≤ 1000) (hsub : ∀ x ∈ us, x ∈ ns) (Q : Exit → Act → World → Prop) (a : Act) (wr : World) (h : IL wf v0 v1 v5 v7 v8 v9 v10 0 a wr) (hq : ∀ a' w', FB v0 v1 v5 v7 v8 v9 v10 a' → Below wf.heap.size wf w' → Q (.exit 2) a' w') :
    Code.wp Try.prog (.loop (loopAt (Try.f4.body) 1)) Q a wr :=
  wp_count us.length (fun k a w' => IL wf v0 v1 v5 v7 v8 v9 v10 k a w') 0 (Nat.zero_le _) h (fun k a w' hk hI => roundL wf v0 v1 v5 v7 v8 v9 v10 us ns hu hns hu2 hn2 hsub Q k a w' hk hI) (fun a w' hI => lastL wf v0 v1 v5 v7 v8 v9 v10 us ns hu hns hu2 hn2 Q _ hq a w' hI)
end Go.Proofs.Ytplkoijgokkmfaa
namespace Go.Proofs.Ytplkoijgokkmfaa
open Go Go.RowKit
theorem grown_belowQ {w w1 : World} {p : Nat} (h : w.grownBy w1 (some p)) {B : Nat} (hB : B ≤ p) (hs : B ≤ w.heap.size) : Below B w w1 := ⟨h.os, h.tape, h.output, h.size, fun i hi => h.block i (by omega) (fun e => by injection e with e; omega)⟩
theorem tk1 : takeE [] 1 9 5 = 0 ∧ takeN [] 1 9 5 = [⟨9, 0, 1⟩] ∧ takeE [⟨9, 0, 1⟩] 1 9 31 = 15 ∧ takeN [⟨9, 0, 1⟩] 1 9 31 = [⟨9, 0, 1⟩] ∧ takeE [⟨9, 0, 1⟩] 1 9 32 = 0 := by
  have e1 : takeE [] 1 9 5 = 0 := by decide +kernel
  have e2 : takeE [⟨9, 0, 1⟩] 1 9 31 = 15 := by decide +kernel
  refine ⟨e1, ?_, e2, ?_, by decide +kernel⟩
  · unfold takeN; rw [if_pos e1]; rfl
  · unfold takeN; rw [if_neg (by rw [e2]; decide)]
set_option maxRecDepth 100000 in
set_option maxHeartbeats 4000000 in
theorem known11_any (w : World) : Calls Try.prog 9 #[] w fun e w' => e = .returned (.bool true) ∧ Below w.heap.size w w' := by
  have HN := Bx.mk (qnew_ok 1 w (by omega) (by omega))
  have HT := Bx.mk fun (q M : Nat) (l : List En) (s t : Int) (W : World) (h : QB W q M 1 l) (hs : in64 s) (ht : in64 t) (hok : OkQ 1 l) => qtake_any q M 1 l s t W h hs ht hok (by omega) (by omega)
  obtain ⟨e1, e2, e3, e4, e5⟩ := tk1
  have HE := Bx.mk (And.intro e1 (And.intro e2 (And.intro e3 (And.intro e4 e5))))
  clear e1 e2 e3 e4 e5
  go_enter Try.func9, Try.ntmps9
  go_wp2_with fail
  refine HN.out.mono ?_
  rintro e w1 ⟨q, M, rfl, hq, hM, hb, h⟩
  have R1 := Bx.mk (And.intro (And.intro hq hM) (And.intro hb h))
  clear hq hM hb h HN
  go_wp2_with fail
  have T1 := HT.out q M [] 9 5 w1 R1.out.2.2 (by unfold in64; omega) (by unfold in64; omega) (ok_nil 1)
  rw [HE.out.1, HE.out.2.1] at T1
  refine T1.mono ?_
  rintro e w2 ⟨rfl, h, hg⟩
  have R2 := Bx.mk (And.intro R1.out.1 (And.intro (R1.out.2.1.trans (grown_belowQ hg R1.out.1.2 R1.out.2.1.size)) h))
  clear h hg T1 R1
  have hok : OkQ 1 [⟨9, 0, 1⟩] := fun x hx => by obtain rfl : x = ⟨9, 0, 1⟩ := by simpa using hx
                                                 exact ⟨Int.le_refl _, Int.le_refl _, Int.le_refl _⟩
  have HO := Bx.mk hok
  clear hok
  go_wp2_with fail
  have T2 := HT.out q M [⟨9, 0, 1⟩] 9 31 w2 R2.out.2.2 (by unfold in64; omega) (by unfold in64; omega) HO.out
  rw [HE.out.2.2.1, HE.out.2.2.2.1] at T2
  refine T2.mono ?_
  rintro e w3 ⟨rfl, h, hg⟩
  have R3 := Bx.mk (And.intro R2.out.1 (And.intro (R2.out.2.1.trans (grown_belowQ hg R2.out.1.2 R2.out.2.1.size)) h))
  clear h hg T2 R2
  go_wp2_with fail
  have T3 := HT.out q M [⟨9, 0, 1⟩] 9 32 w3 R3.out.2.2 (by unfold in64; omega) (by unfold in64; omega) HO.out
  rw [HE.out.2.2.2.2] at T3
  refine T3.mono ?_
  rintro e w4 ⟨rfl, h, hg⟩
  have R4 := Bx.mk (R3.out.2.1.trans (grown_belowQ hg R3.out.1.2 R3.out.2.1.size))
  clear h hg T3 R3
  go_wp2
  go_ret
  exact ⟨rfl, R4.out⟩
end Go.Proofs.Ytplkoijgokkmfaa
