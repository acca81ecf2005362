/-
  Quotas: who is known, rising.
-/
import Derived.Test.YtplkoijgokkmfaaB3
import Derived.Test.YtplkoijgokkmfaaSrt
import Derived.Shelf.AbstractIn
import Derived.Shelf.SlIterI.Nil
import Derived.Shelf.SortM.Plain
import Derived.Shelf.SortM.SortNone
import Derived.Test.YtplkoijgokkmfaaB16
import Derived.Test.YtplkoijgokkmfaaB1
import Derived.Test.YtplkoijgokkmfaaRows
import Derived.ProofKit
import Derived.OpenShut
import Derived.ChangeOld
import Derived.Below
import Derived.Deep.DeepHandedRow
import Derived.Deep.Matrix
import Derived.Deep.Slices
namespace Go.Proofs.Ytplkoijgokkmfaa
open Go Go.RowKit Go.Maps Go.Sort Go.Shelf
/-- How elements read: in one way. -/
def RQ : Value → Option (DataW Unit × List MemPlace) := fun _ => some (.lit (.bool true), [])
set_option maxRecDepth 100000 in
theorem MapQ.owns {W : World} {M : Nat} {l : List En} (m : MapQ W M l) (hl : l.length ≤ 1000) : ∃ D : DataW Unit, W.ownsMap Try.prog 3 RQ M l.length D ∧ (l.map (·.s)).Perm (intKeys D) ∧ Maps.size D = l.length := by
  obtain ⟨es, clock, hb, hs, he⟩ := m.st
  have hsz : es.size = l.length := by have := congrArg List.length he; simpa using this
  have hrd : ∀ x ∈ es.toList, ∃ y, Go.WideElems.rd Try.prog 3 RQ x = some y := fun x hx => by
    obtain ⟨kl, hk⟩ := mapQ_keys he m.wf x hx
    exact ⟨_, Go.WideElems.rd_mk (key := x.key) (val := x.val) hk rfl⟩
  have F : Go.WideElems.Fit Try.prog 3 RQ es clock := ⟨by rw [hsz]; unfold maxLen; omega, hs, hrd⟩
  have hown : W.ownsMap Try.prog 3 RQ M l.length (.map ((es.toList.map (Go.WideElems.rg Try.prog 3 RQ)).foldr DataW.insert [])) := ⟨es, clock, hb, F, by omega, rfl⟩
  refine ⟨_, hown, ?_, ?_⟩
  · refine CollectedI.perm (left := fun _ => false) ⟨?_, fun x => ?_⟩ hown sKeyed Try.underlying3 (fun _ => rfl)
    · exact pw_of_map.1 m.nd
    · rw [List.mem_map]
      constructor
      · rintro ⟨c, hc, rfl⟩
        refine ⟨?_, rfl⟩
        have h1 : (enK c, enV c) ∈ es.toList.map fun e => (e.key, e.val) := by rw [he]; exact List.mem_map.2 ⟨c, hc, rfl⟩
        obtain ⟨e, hm, h2⟩ := List.mem_map.1 h1
        injection h2 with h3 h4
        obtain ⟨y, hy⟩ := hrd e hm
        have hk2 := Go.WideElems.rd_key hy
        rw [h3] at hk2
        obtain ⟨x, e1, e2, -⟩ := Maps.keyOf_i64 Try.underlying3 hk2
        have e3 : c.s = x := by unfold enK at e1; injection e1
        refine List.any_eq_true.2 ⟨Go.WideElems.rg Try.prog 3 RQ e, mem_sorted.2 (List.mem_map.2 ⟨e, hm, rfl⟩), ?_⟩
        rw [Go.WideElems.rg_of hy, e2, ← e3]
        simp [Lit.sameKey]
      · rintro ⟨hh, -⟩
        obtain ⟨p, hp, hpk⟩ := List.any_eq_true.1 hh
        obtain ⟨e, hm, rfl⟩ := List.mem_map.1 (mem_sorted.1 hp)
        obtain ⟨y, hy⟩ := hrd e hm
        have hk2 := Go.WideElems.rd_key hy
        rw [Go.WideElems.rg_of hy] at hpk
        obtain ⟨z, e1, e2, -⟩ := Maps.keyOf_i64 Try.underlying3 hk2
        rw [e2] at hpk
        have e4 : z = x := by simpa [Lit.sameKey] using hpk
        subst e4
        have h1 : (e.key, e.val) ∈ l.map fun x => (enK x, enV x) := by rw [← he]; exact List.mem_map.2 ⟨e, hm, rfl⟩
        obtain ⟨c, hc, h2⟩ := List.mem_map.1 h1
        injection h2 with h3 h4
        rw [e1] at h3
        unfold enK at h3
        injection h3 with _ h5
        exact ⟨c, hc, h5⟩
  · simp [Maps.size, length_sorted, hsz]
/-- slices.Sort's two contracts. -/
theorem sortsQ (m : Nat) : AnyZI.SortsIn Try.prog Try.sortedA_ren Fence.wide m :=
  ⟨fun blk off cap ss W hH hblk hsz => callsIn_wide.2 (AnyM.slices_Sort_int Try.sortA blk off cap ss W hH hblk hsz),
   fun p cap W => callsIn_wide.2 (AnyM.slices_Sort_int_none Try.sortA p cap W)⟩
/-- Who is known, rising. -/
def rowS (l : List En) : List Int := (l.map (·.s)).mergeSort leI
set_option maxRecDepth 100000 in
set_option maxHeartbeats 1000000 in
theorem senders_any (q M : Nat) (n : Int) (l : List En) (w : World) (h : QB w q M n l) (hl : l.length ≤ 1000) :
    Calls Try.prog 19 #[.pointer (some ⟨q, 0, none⟩)] w fun e w' => ∃ v, e = .returned v ∧ OwnI w' w.heap.size v (rowS l) ∧ Below w.heap.size w w' := by
  have hc := h.cells.2
  obtain ⟨D0, hown, hperm, hsize⟩ := h.hm.owns hl
  have hml := h.lt.2
  have HP := Bx.mk hperm
  have hmax : Maps.size D0 ≤ maxLen := by rw [hsize]; unfold maxLen; omega
  have hbytes : Maps.size D0 * 8 ≤ 140737488355328 := by rw [hsize]; omega
  refine (callsIn_wide (n := 6)).1 ?_
  have hseq : SeqGives Fence.wide 2 Try.prog 33 #[.pointer (some ⟨w.heap.size, 0, none⟩)] encZ (fun ss => ss.Perm (intKeys D0)) (Maps.size D0) (w.alloc (.cells #[.map (some M)] 56)) :=
    AnyZI.keys_gives (ρ := Try.keysA_ren) { Try.keysA with } Fence.wide _ trivial rfl (by omega) w.heap.size M l.length D0 _ (by simp) (by simp) (by
      obtain ⟨es, clock, hb, Ft, hs, hD⟩ := hown
      exact ⟨es, clock, (Below.heap_alloc _ _ M hml).trans hb, Ft, hs, hD⟩)
  have cK : ∀ mb W, CallsIn Fence.wide 5 Try.prog 28 #[.map mb] W fun e w' => e = .returned (.func (.func 33) #[] #[.pointer (some ⟨W.heap.size, 0, none⟩)]) ∧ w' = W.alloc (.cells #[.map mb] 56) := fun mb W => AnyZI.keys_in Try.keysA Fence.wide 5 trivial rfl mb W
  have cS := AnyZI.sorted_in Try.sortedA Fence.wide 5 trivial trivial trivial trivial rfl (by omega) (sortsQ _) (enters_of Try.func32 (by kernel_rfl) rfl) 33 #[.pointer (some ⟨w.heap.size, 0, none⟩)] trivial (enters_of Try.func33 (by kernel_rfl) rfl) _ _ hmax hbytes _ hseq
  change CallsIn _ _ Try.prog 27 _ _ _ at cS
  have hfK : Fence.wide.fn 28 := trivial
  have hfS : Fence.wide.fn 27 := trivial
  clear h hown hperm hsize hml hmax hbytes hseq
  refine callsIn_of_wp Try.func19 rfl trivial ?_ rfl
  simp only [Try.ntmps19, List.size_toArray, List.length_cons, List.length_nil, Nat.reduceAdd, Nat.reduceSub, Array.replicate_succ, Array.replicate_zero, List.push_toArray, List.append_toArray, List.nil_append, List.cons_append]
  gi_wp2_with (first
    | (gi_at_call 28; refine (cK _ _).mono ?_; rintro e w' ⟨rfl, rfl⟩)
    | (gi_at_call 27; refine cS.mono ?_; rintro e w' ⟨v, ss, rfl, hS, hrow, hnil, hb⟩))
  go_ret
  have hss : ss.mergeSort (fun x y => decide (x ≤ y)) = rowS l := mergeSort_of_perm_i (hS.trans HP.out.symm)
  refine ⟨v, rfl, ?_, ((Below.refl _ w).alloc (Nat.le_refl _) _).trans (hb.mono (by simp))⟩
  have hln : ss.length = (rowS l).length := by rw [← hss, List.length_mergeSort]
  have h1 := ownsRow_base_a hrow (by simp : w.heap.size ≤ _)
  rw [hss, hln] at h1
  exact h1
end Go.Proofs.Ytplkoijgokkmfaa
namespace Go.Proofs.Ytplkoijgokkmfaa
open Go Go.RowKit
theorem atQ_mapB (l : List En) (c : En) (s : Int) : atQ (l.map fun x => if x.s = c.s then c else x) s = if s = c.s then (if hasQ l s = true then some c else none) else atQ l s := by
  unfold hasQ
  induction l with
  | nil => simp [atQ]
  | cons x l ih =>
    unfold atQ at ih ⊢
    rw [List.map_cons, List.find?_cons, List.find?_cons]
    by_cases hx : x.s = c.s
    · rw [if_pos hx]
      by_cases hs : s = c.s
      · rw [if_pos hs, show decide (c.s = s) = true from decide_eq_true hs.symm, show decide (x.s = s) = true from decide_eq_true (hx.trans hs.symm)]
        simp
      · rw [if_neg hs, show decide (c.s = s) = false from decide_eq_false (fun e => hs e.symm), show decide (x.s = s) = false from decide_eq_false (fun e => hs (e.symm.trans hx))]
        rw [if_neg hs] at ih
        exact ih
    · rw [if_neg hx]
      by_cases hs : s = c.s
      · rw [if_pos hs] at ih ⊢
        rw [show decide (x.s = s) = false from decide_eq_false (fun e => hx (e.trans hs))]
        exact ih
      · rw [if_neg hs] at ih ⊢
        cases decide (x.s = s)
        · exact ih
        · rfl
theorem atQ_putB (l : List En) (c : En) (s : Int) : atQ (putQ l c) s = if s = c.s then some c else atQ l s := by
  unfold putQ
  split
  · rename_i h
    rw [atQ_mapB]
    by_cases hs : s = c.s
    · rw [if_pos hs, if_pos hs, hs, if_pos h]
    · rw [if_neg hs, if_neg hs]
  · rename_i h
    have h0 : atQ l c.s = none := by
      unfold hasQ at h
      cases h1 : atQ l c.s with
      | none => rfl
      | some x => rw [h1] at h; simp at h
    by_cases hs : s = c.s
    · subst hs
      rw [if_pos rfl]
      unfold atQ at h0 ⊢
      rw [List.find?_append, h0]
      simp
    · rw [if_neg hs]
      unfold atQ
      rw [List.find?_append]
      have : ([c].find? fun x => decide (x.s = s)) = none := by
        rw [List.find?_cons, show decide (c.s = s) = false from decide_eq_false (fun e => hs e.symm)]
        rfl
      rw [this]
      simp
theorem atQ_cutB (l : List En) (s u : Int) : atQ (cutQ l s) u = if u = s then none else atQ l u := by
  unfold cutQ atQ
  induction l with
  | nil => simp
  | cons x l ih =>
    by_cases hx : x.s = s
    · rw [List.filter_cons_of_neg (by simpa using hx), ih, List.find?_cons]
      by_cases hu : u = s
      · rw [if_pos hu, if_pos hu]
      · rw [if_neg hu, if_neg hu, show decide (x.s = u) = false from decide_eq_false (fun e => hu (e.symm.trans hx))]
    · rw [List.filter_cons_of_pos (by simpa using hx), List.find?_cons, ih, List.find?_cons]
      by_cases hu : u = s
      · rw [if_pos hu, if_pos hu, show decide (x.s = u) = false from decide_eq_false (fun e => hx (e.trans hu))]
      · rw [if_neg hu, if_neg hu]
theorem hasQ_putB (l : List En) (c : En) (s : Int) : hasQ (putQ l c) s = (decide (s = c.s) || hasQ l s) := by
  unfold hasQ
  rw [atQ_putB]
  by_cases hs : s = c.s
  · rw [if_pos hs, decide_eq_true hs]; rfl
  · rw [if_neg hs, decide_eq_false hs]; rfl
theorem perQ_putB (l : List En) (c : En) (s : Int) : perQ (putQ l c) s = if s = c.s then c.p else perQ l s := by
  unfold perQ
  rw [atQ_putB]
  by_cases hs : s = c.s
  · rw [if_pos hs, if_pos hs]
  · rw [if_neg hs, if_neg hs]
theorem cntQ_putB (l : List En) (c : En) (s : Int) : cntQ (putQ l c) s = if s = c.s then c.t else cntQ l s := by
  unfold cntQ
  rw [atQ_putB]
  by_cases hs : s = c.s
  · rw [if_pos hs, if_pos hs]
  · rw [if_neg hs, if_neg hs]
theorem hasQ_cutB (l : List En) (s u : Int) : hasQ (cutQ l s) u = (decide (u ≠ s) && hasQ l u) := by
  unfold hasQ
  rw [atQ_cutB]
  by_cases hu : u = s
  · rw [if_pos hu, decide_eq_false (fun h => h hu)]; rfl
  · rw [if_neg hu, decide_eq_true hu]; rfl
theorem perQ_cutB (l : List En) (s u : Int) : perQ (cutQ l s) u = if u = s then 0 else perQ l u := by
  unfold perQ
  rw [atQ_cutB]
  by_cases hu : u = s
  · rw [if_pos hu, if_pos hu]
  · rw [if_neg hu, if_neg hu]
theorem cntQ_cutB (l : List En) (s u : Int) : cntQ (cutQ l s) u = if u = s then 0 else cntQ l u := by
  unfold cntQ
  rw [atQ_cutB]
  by_cases hu : u = s
  · rw [if_pos hu, if_pos hu]
  · rw [if_neg hu, if_neg hu]
theorem isT_app (m : List Tk) (x : Tk) (s : Int) : isT (m ++ [x]) s = (isT m s || decide (x.s = s)) := by unfold isT; rw [List.any_append]; simp
theorem lastT_app (m : List Tk) (x : Tk) (s : Int) : lastT (m ++ [x]) s = if x.s = s then max (lastT m s) x.p else lastT m s := by unfold lastT; rw [List.foldl_append]; rfl
theorem timT_app (m : List Tk) (x : Tk) (s p : Int) : timT (m ++ [x]) s p = timT m s p + if (decide (x.s = s) && decide (x.p = p)) = true then 1 else 0 := by unfold timT; rw [List.countP_append, List.countP_singleton]
theorem isT_cut (m : List Tk) (s u : Int) : isT (cutT m s) u = (decide (u ≠ s) && isT m u) := by
  unfold isT cutT
  rw [List.any_filter]
  induction m with
  | nil => simp
  | cons x m ih =>
    rw [List.any_cons, List.any_cons, ih]
    by_cases hu : u = s
    · subst hu
      by_cases hx : x.s = u <;> simp [hx]
    · by_cases hx : x.s = u
      · simp [hx, hu]
      · simp [hx, hu]
theorem fold_cut (m : List Tk) (s u : Int) (hu : u ≠ s) : ∀ a : Int, (cutT m s).foldl (fun a x => if x.s = u then max a x.p else a) a = m.foldl (fun a x => if x.s = u then max a x.p else a) a := by
  unfold cutT
  induction m with
  | nil => intro a; rfl
  | cons x m ih =>
    intro a
    by_cases hx : x.s = s
    · rw [List.filter_cons_of_neg (by simpa using hx), ih, List.foldl_cons, if_neg (fun e => hu (e.symm.trans hx))]
    · rw [List.filter_cons_of_pos (by simpa using hx), List.foldl_cons, List.foldl_cons, ih]
theorem fold_none (m : List Tk) (u : Int) (h : ∀ x ∈ m, x.s ≠ u) : ∀ a : Int, m.foldl (fun a x => if x.s = u then max a x.p else a) a = a := by
  induction m with
  | nil => intro a; rfl
  | cons x m ih =>
    intro a
    rw [List.foldl_cons, if_neg (h x (.head _)), ih (fun y hy => h y (.tail _ hy))]
theorem cutT_ne (m : List Tk) (s : Int) : ∀ x ∈ cutT m s, x.s ≠ s := fun x hx => by
  have := (List.mem_filter.1 hx).2
  simpa using this
theorem lastT_cut (m : List Tk) (s u : Int) : lastT (cutT m s) u = if u = s then 0 else lastT m u := by
  unfold lastT
  by_cases hu : u = s
  · rw [if_pos hu, fold_none _ _ (by rw [hu]; exact cutT_ne m s)]
  · rw [if_neg hu, fold_cut _ _ _ hu]
theorem timT_cut (m : List Tk) (s u p : Int) : timT (cutT m s) u p = if u = s then 0 else timT m u p := by
  unfold timT
  by_cases hu : u = s
  · rw [if_pos hu, List.countP_eq_zero]
    intro x hx
    have := cutT_ne m s x hx
    simp [hu, this]
  · rw [if_neg hu]
    unfold cutT
    rw [List.countP_filter]
    refine List.countP_congr fun x _ => ?_
    by_cases hx : x.s = u
    · simp [hx, hu]
    · simp [hx]
/-- What a map of senders and the takes behind it hold alike. -/
structure RelQ (n : Int) (l : List En) (m : List Tk) : Prop where
  ok : OkQ n l
  len : l.length ≤ 16
  has : ∀ s, hasQ l s = isT m s
  last : ∀ s, perQ l s = lastT m s
  tim : ∀ s p, perQ l s ≤ p → (timT m s p : Int) = tmsQ l s p
theorem RelQ.start (n : Int) : RelQ n [] [] := ⟨ok_nil n, by simp, fun s => rfl, fun s => rfl, fun s p _ => by unfold tmsQ cntQ; simp [atQ, timT]⟩
theorem RelQ.look {n : Int} {l : List En} {m : List Tk} (h : RelQ n l m) (s t : Int) : lookT m s t = refK l s t := by unfold lookT refK; rw [h.last]
theorem refK_zero {l : List En} {s t : Int} (h : refK l s t = 0) : 1 ≤ s ∧ s ≤ 65535 ∧ 0 ≤ t ∧ perQ l s ≤ perT t := by
  unfold refK at h
  split at h
  · cases h
  · split at h
    · cases h
    · omega
theorem RelQ.try_ {n : Int} {l : List En} {m : List Tk} (h : RelQ n l m) (s t : Int) : tryT m s t n (l.length : Int) = takeE l n s t := by
  unfold tryT takeE
  rw [h.look]
  by_cases h0 : refK l s t = 0
  · rw [if_pos h0, if_pos h0, h.tim s _ (refK_zero h0).2.2.2, h.has]
  · rw [if_neg h0, if_neg h0]
theorem takeE_zero {n : Int} {l : List En} {s t : Int} (h : takeE l n s t = 0) : refK l s t = 0 ∧ tmsQ l s (perT t) < n ∧ (hasQ l s = false → (l.length : Int) < 16) := by
  unfold takeE at h
  by_cases h0 : refK l s t = 0
  · rw [if_pos h0] at h
    by_cases h1 : n ≤ tmsQ l s (perT t)
    · rw [if_pos h1] at h; cases h
    · rw [if_neg h1] at h
      by_cases h2 : hasQ l s = false ∧ 16 ≤ (l.length : Int)
      · rw [if_pos h2] at h; cases h
      · exact ⟨h0, by omega, fun h3 => by
          have : ¬ 16 ≤ (l.length : Int) := fun h4 => h2 ⟨h3, h4⟩
          omega⟩
  · rw [if_neg h0] at h
    exact absurd h h0
theorem putQ_len (l : List En) (c : En) : (putQ l c).length = if hasQ l c.s = true then l.length else l.length + 1 := by
  unfold putQ
  split <;> simp
theorem RelQ.take {n : Int} {l : List En} {m : List Tk} (h : RelQ n l m) (hn : 1 ≤ n) (s t : Int) (h0 : takeE l n s t = 0) : RelQ n (takeN l n s t) (m ++ [⟨s, perT t⟩]) := by
  have hok := takeN_ok h.ok hn s t
  obtain ⟨hr, ht, hf⟩ := takeE_zero h0
  obtain ⟨-, -, -, hp⟩ := refK_zero hr
  unfold takeN at hok ⊢
  rw [if_pos h0] at hok ⊢
  refine ⟨hok, ?_, fun u => ?_, fun u => ?_, fun u p hup => ?_⟩
  · rw [putQ_len]
    split
    · exact h.len
    · rename_i h1
      have := hf (by simpa using h1)
      omega
  · rw [hasQ_putB, isT_app, h.has]
    by_cases hu : u = s
    · subst hu; simp
    · rw [decide_eq_false hu, decide_eq_false (fun e : s = u => hu e.symm)]; simp
  · rw [perQ_putB, lastT_app]
    by_cases hu : u = s
    · subst hu
      rw [if_pos rfl, if_pos rfl, ← h.last]
      show perT t = max (perQ l u) (perT t)
      omega
    · rw [if_neg hu, if_neg (fun e : s = u => hu e.symm), h.last]
  · rw [perQ_putB] at hup
    rw [timT_app]
    unfold tmsQ
    rw [perQ_putB, cntQ_putB]
    by_cases hu : u = s
    · subst hu
      rw [if_pos rfl] at hup ⊢
      rw [if_pos rfl]
      simp only at hup ⊢
      by_cases hpp : perT t = p
      · subst hpp
        rw [if_pos rfl]
        have := h.tim u (perT t) hp
        simp only [decide_true, Bool.and_self, if_true]
        show ((timT m u (perT t) + 1 : Nat) : Int) = tmsQ l u (perT t) + 1
        omega
      · rw [if_neg hpp]
        have h1 := h.tim u p (by omega)
        have h2 : tmsQ l u p = 0 := by unfold tmsQ; rw [if_neg (by omega)]
        rw [decide_eq_false hpp]
        simp only [Bool.and_false, Bool.false_eq_true, if_false]
        omega
    · rw [if_neg hu] at hup ⊢
      rw [if_neg hu]
      rw [decide_eq_false (fun e : s = u => hu e.symm)]
      simp only [Bool.false_and, Bool.false_eq_true, if_false]
      exact h.tim u p hup
theorem RelQ.cut {n : Int} {l : List En} {m : List Tk} (h : RelQ n l m) (s : Int) : RelQ n (cutQ l s) (cutT m s) := by
  refine ⟨fun x hx => h.ok x (List.mem_filter.1 hx).1, Nat.le_trans (List.length_filter_le _ _) h.len, fun u => ?_, fun u => ?_, fun u p hup => ?_⟩
  · rw [hasQ_cutB, isT_cut, h.has]
  · rw [perQ_cutB, lastT_cut, h.last]
  · rw [perQ_cutB] at hup
    rw [timT_cut]
    unfold tmsQ
    rw [perQ_cutB, cntQ_cutB]
    by_cases hu : u = s
    · rw [if_pos hu, if_pos hu, if_pos hu]; split <;> rfl
    · rw [if_neg hu] at hup ⊢
      rw [if_neg hu, if_neg hu]
      exact h.tim u p hup
/-- The senders that takes have, each once. -/
def ddT (m : List Tk) : List Int := m.foldl (fun acc x => if x.s ∈ acc then acc else acc ++ [x.s]) []
theorem ddT_app (m : List Tk) (x : Tk) : ddT (m ++ [x]) = if x.s ∈ ddT m then ddT m else ddT m ++ [x.s] := by unfold ddT; rw [List.foldl_append]; rfl
theorem snoc_ind {P : List Tk → Prop} (h0 : P []) (h1 : ∀ m x, P m → P (m ++ [x])) (m : List Tk) : P m := by
  have : ∀ r : List Tk, P r.reverse := fun r => by
    induction r with
    | nil => exact h0
    | cons x r ih => rw [List.reverse_cons]; exact h1 _ _ ih
  have h := this m.reverse
  rwa [List.reverse_reverse] at h
theorem ddT_props (m : List Tk) : (ddT m).Nodup ∧ ∀ s, s ∈ ddT m ↔ isT m s = true := by
  refine snoc_ind (P := fun m => (ddT m).Nodup ∧ ∀ s, s ∈ ddT m ↔ isT m s = true) ⟨List.nodup_nil, fun s => by simp [ddT, isT]⟩ (fun m x ih => ?_) m
  obtain ⟨h1, h2⟩ := ih
  rw [ddT_app]
  by_cases hx : x.s ∈ ddT m
  · rw [if_pos hx]
    refine ⟨h1, fun s => ?_⟩
    rw [isT_app, h2]
    constructor
    · intro h; rw [h]; rfl
    · intro h
      rcases Bool.or_eq_true_iff.1 h with h | h
      · exact h
      · rw [← of_decide_eq_true h]; exact (h2 _).1 hx
  · rw [if_neg hx]
    refine ⟨?_, fun s => ?_⟩
    · rw [List.nodup_append]
      exact ⟨h1, by simp, fun a ha b hb e => by
        obtain rfl : b = x.s := by simpa using hb
        exact hx (e ▸ ha)⟩
    · rw [List.mem_append, isT_app, h2]
      simp only [List.mem_singleton, Bool.or_eq_true, decide_eq_true_eq]
      constructor
      · rintro (h | h)
        · exact .inl h
        · exact .inr h.symm
      · rintro (h | h)
        · exact .inl h
        · exact .inr h.symm
theorem firstU_app (m : List Tk) (x : Tk) (i j : Nat) (hi : i < m.length) (hj : j ≤ m.length) : firstU (m ++ [x]) i j = firstU m i j := by
  have e : ∀ k, k < m.length → (m ++ [x]).getD k Tk.zero = m.getD k Tk.zero := fun k hk => by
    rw [List.getD_eq_getElem?_getD, List.getD_eq_getElem?_getD, List.getElem?_append_left hk]
  unfold firstU
  rw [Bool.eq_iff_iff, List.all_eq_true, List.all_eq_true]
  refine ⟨fun h k hk => ?_, fun h k hk => ?_⟩
  · have := h k hk
    rwa [e k (by have := List.mem_range.1 hk; omega), e i hi] at this
  · have := h k hk
    rwa [e k (by have := List.mem_range.1 hk; omega), e i hi]
theorem firstU_new (m : List Tk) (x : Tk) : firstU (m ++ [x]) m.length m.length = !isT m x.s := by
  have e : (m ++ [x]).getD m.length Tk.zero = x := by rw [List.getD_eq_getElem?_getD, List.getElem?_append_right (Nat.le_refl _)]; simp
  unfold firstU isT
  rw [e, Bool.eq_iff_iff, List.all_eq_true, Bool.not_eq_true', List.any_eq_false]
  constructor
  · intro h y hy
    obtain ⟨k, hk, rfl⟩ := List.mem_iff_getElem.1 hy
    have := h k (List.mem_range.2 hk)
    rw [List.getD_eq_getElem?_getD, List.getElem?_append_left hk, List.getElem?_eq_getElem hk] at this
    simpa using this
  · intro h k hk
    have hk2 := List.mem_range.1 hk
    have := h _ (List.getElem_mem hk2)
    rw [List.getD_eq_getElem?_getD, List.getElem?_append_left hk2, List.getElem?_eq_getElem hk2]
    simpa using this
theorem countN_app (m : List Tk) (x : Tk) (k : Nat) (hk : k ≤ m.length) : countN (m ++ [x]) k = countN m k := by
  unfold countN
  congr 1
  refine List.filter_congr fun i hi => ?_
  have := List.mem_range.1 hi
  exact firstU_app m x i i (by omega) (by omega)
theorem countN_dd (m : List Tk) : countN m m.length = (ddT m).length := by
  refine snoc_ind (P := fun m => countN m m.length = (ddT m).length) rfl (fun m x ih => ?_) m
  rw [List.length_append, List.length_singleton, countN_succ, countN_app m x _ (Nat.le_refl _), ih, firstU_new, ddT_app]
  cases hx : isT m x.s with
  | true => rw [if_pos ((ddT_props m).2 _ |>.2 hx)]; simp
  | false =>
    have hm : ¬ x.s ∈ ddT m := fun h => by
      have := ((ddT_props m).2 _).1 h
      rw [hx] at this
      cases this
    rw [if_neg hm]
    simp
theorem RelQ.count {n : Int} {l : List En} {m : List Tk} (h : RelQ n l m) (nd : l.Pairwise (fun x y => x.s ≠ y.s)) : countN m m.length = l.length := by
  rw [countN_dd, ← List.length_map (f := fun x : En => x.s)]
  refine List.Perm.length_eq ((List.perm_ext_iff_of_nodup (ddT_props m).1 (pw_of_map.1 nd)).2 fun s => ?_)
  rw [(ddT_props m).2, ← h.has, hasQ_iff, List.mem_map]
theorem rowS_len (l : List En) : (rowS l).length = l.length := by unfold rowS; rw [List.length_mergeSort, List.length_map]
theorem rowS_mem (l : List En) (s : Int) : s ∈ rowS l ↔ hasQ l s = true := by
  unfold rowS
  rw [List.mem_mergeSort, List.mem_map, hasQ_iff]
theorem rowS_rise (l : List En) (nd : l.Pairwise (fun x y => x.s ≠ y.s)) : (rowS l).Pairwise (fun a b => a < b) := by
  have tr : ∀ a b c : Int, Go.leI a b = true → Go.leI b c = true → Go.leI a c = true := fun a b c h1 h2 => by simp only [Go.leI, decide_eq_true_eq] at *; exact Int.le_trans h1 h2
  have to : ∀ a b : Int, (Go.leI a b || Go.leI b a) = true := fun a b => by simp only [Go.leI, Bool.or_eq_true, decide_eq_true_eq]; exact Int.le_total a b
  have h1 : (rowS l).Pairwise (fun a b => Go.leI a b = true) := List.pairwise_mergeSort tr to _
  have h2 : (rowS l).Nodup := (List.mergeSort_perm _ _).nodup_iff.2 (pw_of_map.1 nd)
  refine (h1.and h2).imp fun {a b} h => ?_
  have := h.1
  simp only [Go.leI, decide_eq_true_eq] at this
  have := h.2
  omega
end Go.Proofs.Ytplkoijgokkmfaa
namespace Go.Proofs.Ytplkoijgokkmfaa
open Go Go.ChangeShapes Go.WideShapes Go.ChangeAt Go.RowKit
/-- A call: its kind, a sender, a tick. -/
structure AcQ where
  k : Int
  s : Int
  t : Int
def AcQ.zero : AcQ := ⟨0, 0, 0⟩
/-- A call's numbers are numbers. -/
def AcQ.fit (a : AcQ) : Prop := in64 a.k ∧ in64 a.s ∧ in64 a.t
/-- Calls behind a slice. -/
def ActsQ (w : World) (v : Value) (acs : List AcQ) : Prop :=
  ∃ a cap, v = .slice a acs.length cap ∧ acs.length ≤ cap ∧ (a = none → cap = 0) ∧ (0 < acs.length → ∃ b o, a = some ⟨b, o, none⟩ ∧ ∀ i, i < acs.length → w.rangeAt b (o + i * 3) [.int .i64 (acs.getD i AcQ.zero).k, .int .i64 (acs.getD i AcQ.zero).s, .int .i64 (acs.getD i AcQ.zero).t] ∧ (acs.getD i AcQ.zero).fit)
theorem range_actsQ {w w1 : World} {b o : Nat} {x : Value} {l : List Value} (h : w.rangeAt b o (x :: l)) (hb : Below w.heap.size w w1) : w1.rangeAt b o (x :: l) := fun j u hj => by
  have h1 := h j u hj
  rw [hb.cell (World.block_lt_of_cell? _ _ h1)]
  exact h1
theorem ActsQ.later {w w1 : World} {v : Value} {acs : List AcQ} (h : ActsQ w v acs) (hb : Below w.heap.size w w1) : ActsQ w1 v acs := by
  obtain ⟨a, cap, hv, hc, hn, hr⟩ := h
  refine ⟨a, cap, hv, hc, hn, fun hp => ?_⟩
  obtain ⟨b, o, ha, hi⟩ := hr hp
  refine ⟨b, o, ha, fun i hil => ?_⟩
  obtain ⟨h1, h3⟩ := hi i hil
  exact ⟨range_actsQ h1 hb, h3⟩
set_option maxRecDepth 100000 in
theorem act_inQ {H : Type} {enc : TypeId × Value → H} {W : World} {fuel : Nat} {cs : List Value} {x : DataW H × List MemPlace} (h : DataW.trod enc Try.prog W 0 (fun _ => true) true fuel 31 cs = some x) :
    ∃ a : AcQ, cs = [.int .i64 a.k, .int .i64 a.s, .int .i64 a.t] ∧ a.fit := by
  obtain ⟨xs, n, -, -, hlen, hxl, hf⟩ := DataW.trod_struct Try.underlying31 h
  have hl3 : cs.length = 3 := hlen.trans (by kernel_rfl)
  have hx3 : xs.length = 3 := hxl
  match cs, hl3, xs, hx3 with
  | [c0, c1, c2], _, [y0, y1, y2], _ =>
    have g0 : DataW.trod enc Try.prog W 0 (fun _ => true) true n 3 [c0] = some y0 := hf 0 _ rfl
    have g1 : DataW.trod enc Try.prog W 0 (fun _ => true) true n 3 [c1] = some y1 := hf 1 _ rfl
    have g2 : DataW.trod enc Try.prog W 0 (fun _ => true) true n 3 [c2] = some y2 := hf 2 _ rfl
    obtain ⟨s, e0, -, w0⟩ := DataW.trod_int Try.underlying3 g0
    obtain ⟨m, e1, -, w1⟩ := DataW.trod_int Try.underlying3 g1
    obtain ⟨q, e2, -, w2⟩ := DataW.trod_int Try.underlying3 g2
    simp at e0 e1 e2
    subst e0 e1 e2
    exact ⟨⟨s, m, q⟩, rfl, lit_i64 s w0, lit_i64 m w1, lit_i64 q w2⟩
set_option maxRecDepth 100000 in
theorem open_actsQ {H : Type} {enc : TypeId × Value → H} {W : World} {a : Option Addr} {len cap : Nat} {d : DataW H} {p : List MemPlace} (h : DataW.Trod enc Try.prog W 0 (fun _ => true) true 22 (.slice a len cap) d p) :
    ∃ acs, ActsQ W (.slice a len cap) acs ∧ acs.length ≤ 9223372036854775807 := by
  obtain ⟨fuel, hf⟩ := h
  rcases Deep.open_slice Try.underlying22 hf with ⟨hcs, _⟩ | ⟨x, l, c, m, n, D, Pl, hcs, _, hl, hm, hmm, _, hi⟩
  · simp [Value.cells] at hcs
    obtain ⟨rfl, rfl, rfl⟩ := hcs
    exact ⟨[], ⟨none, 0, rfl, Nat.le_refl _, fun _ => rfl, fun h => absurd h (by simp)⟩, by simp⟩
  · simp [Value.cells] at hcs
    obtain ⟨rfl, rfl, rfl⟩ := hcs
    have hcm : cap ≤ 9223372036854775807 := hm
    have hm2 : m = cap := by simpa using hmm
    have hC : Try.prog.cellsOf 31 = 3 := by kernel_rfl
    have hrow : ∀ i, i < len → ∃ A : AcQ, (∀ j y, [Value.int .i64 A.k, .int .i64 A.s, .int .i64 A.t][j]? = some y → W.cell? (x.add (i * 3 + j)) = some y) ∧ A.fit := fun i hil => by
      obtain ⟨cs', hc', ht⟩ := hi i (by omega)
      rw [hC] at hc'
      obtain ⟨_, hcl, hat⟩ := World.cells?_some hc'
      obtain ⟨o, e, hr⟩ := act_inQ ht
      refine ⟨o, fun j y hj => ?_, hr⟩
      have hj3 : j < 3 := by have := (List.getElem?_eq_some_iff.1 hj).1; simpa using this
      rw [← Deep.add_add, hat j hj3, e]
      exact hj
    haveI : Inhabited AcQ := ⟨AcQ.zero⟩
    obtain ⟨f, hfb⟩ := Deep.choose_lt hrow
    have hlen : ((List.range len).map f).length = len := by simp
    refine ⟨(List.range len).map f, ⟨some x, cap, by rw [hlen], by rw [hlen]; exact hl, (fun h => by cases h), fun hp => ?_⟩, by rw [hlen]; omega⟩
    rw [hlen] at hp
    obtain ⟨hc0, -⟩ := hfb 0 hp
    have h00 := hc0 0 _ rfl
    obtain ⟨b, off, spot⟩ := x
    have hspot : spot = none := by simpa [Addr.add] using World.cell?_spot h00
    subst hspot
    refine ⟨b, off, rfl, fun i hi2 => ?_⟩
    rw [hlen] at hi2
    have e : ((List.range len).map f).getD i AcQ.zero = f i := by simp [hi2]
    rw [e]
    obtain ⟨hc1, hr1⟩ := hfb i hi2
    refine ⟨fun j y hj => ?_, hr1⟩
    have := hc1 j y hj
    rw [Go.WideShapes.add_plain] at this
    show W.cell? ⟨b, off + i * 3 + j, none⟩ = some y
    rw [Nat.add_assoc]
    exact this
/-- A call's three cells. -/
theorem ActsQ.cells {w : World} {b o n cap : Nat} {acs : List AcQ} (h : ActsQ w (.slice (some ⟨b, o, none⟩) n cap) acs) (i : Nat) (hi : i < acs.length) :
    w.cell? ⟨b, o + i * 3, none⟩ = some (.int .i64 (acs.getD i AcQ.zero).k) ∧ w.cell? ⟨b, o + i * 3 + 1, none⟩ = some (.int .i64 (acs.getD i AcQ.zero).s) ∧ w.cell? ⟨b, o + i * 3 + 2, none⟩ = some (.int .i64 (acs.getD i AcQ.zero).t) ∧ (acs.getD i AcQ.zero).fit := by
  obtain ⟨a', cap', hv, hc, hn, hr⟩ := h
  obtain ⟨b', o', ha, hx⟩ := hr (by omega)
  injection hv with e1 e2 e3
  rw [ha] at e1
  injection e1 with e1
  injection e1 with e4 e5
  subst e4 e5
  obtain ⟨h1, h2⟩ := hx i hi
  exact ⟨h1 0 _ rfl, h1 1 _ rfl, h1 2 _ rfl, h2⟩
theorem ActsQ.some {w : World} {v : Value} {acs : List AcQ} (h : ActsQ w v acs) (hp : 0 < acs.length) : ∃ b o cap, v = .slice (some ⟨b, o, none⟩) acs.length cap := by
  obtain ⟨a', cap', hv, hc, hn, hr⟩ := h
  obtain ⟨b, o, ha, -⟩ := hr hp
  exact ⟨b, o, cap', by rw [hv, ha]⟩
theorem ActsQ.form {w : World} {v : Value} {acs : List AcQ} (h : ActsQ w v acs) : ∃ a cap, v = .slice a acs.length cap := by
  obtain ⟨a', cap', hv, -⟩ := h
  exact ⟨a', cap', hv⟩
end Go.Proofs.Ytplkoijgokkmfaa
namespace Go.Proofs.Ytplkoijgokkmfaa
open Go Go.RowKit
theorem grown_belowQ {w w1 : World} {p : Nat} (h : w.grownBy w1 (some p)) {B : Nat} (hB : B ≤ p) (hs : B ≤ w.heap.size) : Below B w w1 := ⟨h.os, h.tape, h.output, h.size, fun i hi => h.block i (by omega) (fun e => by injection e with e; omega)⟩
theorem cutQ_cut (l : List En) (s : Int) : cutQ (cutQ l s) s = cutQ l s := by unfold cutQ; rw [List.filter_filter]; simp
theorem cutQ_le (l : List En) (s : Int) : (cutQ l s).length ≤ l.length := List.length_filter_le _ _
theorem cell_grown {W W1 : World} {M g i : Nat} {v : Value} (h : W.cell? ⟨g, i, none⟩ = some v) (hg : W.grownBy W1 (some M)) (hne : g ≠ M) : W1.cell? ⟨g, i, none⟩ = some v := by
  rw [← h]
  unfold World.cell?
  rw [hg.block g (World.block_lt_of_cell? _ _ h) (fun e => hne (by injection e))]
/-- Without a sender: the same world whatever the call's type. -/
theorem MapQ.dropT {W : World} {M : Nat} {l : List En} (m : MapQ W M l) (s : Int) (h : in64 s) :
    ∃ W1, (∀ ty, (Builtin.delete_ #[56, 3] ty #[.map (some M), .int .i64 s]).run Try.prog W = .ok (.tuple #[]) W1) ∧ MapQ W1 M (cutQ l s) ∧ W.grownBy W1 (some M) := by
  obtain ⟨W1, h1, h2, h3, -⟩ := m.drop s h 0
  exact ⟨W1, fun ty => h1, h2, h3⟩
set_option maxRecDepth 100000 in
set_option maxHeartbeats 4000000 in
theorem qdrop_two (q M g : Nat) (n : Int) (l : List En) (s : Int) (w : World) (h : QB w q M n l) (hs : in64 s) (hl : l.length ≤ 1000) (hc0 : w.cell? ⟨g, 0, none⟩ = some (.int .i64 s)) (hc1 : w.cell? ⟨g, 1, none⟩ = some (.int .i64 s)) :
    Calls Try.prog 12 #[.pointer (some ⟨q, 0, none⟩), .slice (some ⟨g, 0, none⟩) 2 2] w fun e w' => e = .returned (.int .i64 ((l.length : Int) - ((cutQ l s).length : Int))) ∧ QB w' q M n (cutQ l s) ∧ w.grownBy w' (some M) := by
  have hgM : g ≠ M := by
    rintro rfl
    obtain ⟨es, clock, hb, -, -⟩ := h.hm.st
    simp [World.cell?, hb] at hc0
  obtain ⟨w1, hd0, hm1, hg1⟩ := h.hm.dropT s hs
  have h1 := h.turn hg1 hm1
  obtain ⟨w2, hd1, hm2, hg2⟩ := h1.hm.dropT s hs
  have h2 := h1.turn hg2 hm2
  rw [cutQ_cut] at h2
  have hb0 := h.cells.2
  have hb1 := h1.cells.2
  have hb2 := h2.cells.2
  have hln0 := fun ty => h.hm.len ty
  have hln2 := fun ty => h2.hm.len ty
  have hc3 := cell_grown hc1 hg1 hgM
  have H2 := Bx.mk (And.intro h2 (kb_trans hg1 hg2))
  have hle := cutQ_le l s
  have hwr : IntKind.i64.wrap ((l.length : Int) - ((cutQ l s).length : Int)) = (l.length : Int) - ((cutQ l s).length : Int) := by simp [IntKind.wrap_i64]; omega
  generalize l.length = L at *
  generalize (cutQ l s).length = L1 at *
  clear h h1 h2 hm1 hm2 hg1 hg2 hle hl hs hc1
  go_enter Try.func12, Try.ntmps12
  go_wp2
  refine wp_loop_rounds 3 ?_
  rw [rounds_succ]
  go_wp2
  rw [rounds_succ]
  go_wp2
  rw [rounds_succ]
  go_wp2
  go_ret
  exact ⟨rfl, H2.out⟩
theorem tk1 : takeE [] 1 9 5 = 0 ∧ takeN [] 1 9 5 = [⟨9, 0, 1⟩] ∧ takeE [⟨9, 0, 1⟩] 1 9 31 = 15 ∧ takeN [⟨9, 0, 1⟩] 1 9 31 = [⟨9, 0, 1⟩] ∧ takeE [⟨9, 0, 1⟩] 1 9 32 = 0 := by
  have e1 : takeE [] 1 9 5 = 0 := by decide +kernel
  have e2 : takeE [⟨9, 0, 1⟩] 1 9 31 = 15 := by decide +kernel
  refine ⟨e1, ?_, e2, ?_, by decide +kernel⟩
  · unfold takeN; rw [if_pos e1]; rfl
  · unfold takeN; rw [if_neg (by rw [e2]; decide)]
set_option maxRecDepth 100000 in
set_option maxHeartbeats 4000000 in
theorem known11_any (w : World) : Calls Try.prog 9 #[] w fun e w' => e = .returned (.bool true) ∧ Below w.heap.size w w' := by
  have HN := Bx.mk (qnew_ok 1 w (by omega) (by omega))
  have HT := Bx.mk fun (q M : Nat) (l : List En) (s t : Int) (W : World) (h : QB W q M 1 l) (hs : in64 s) (ht : in64 t) (hok : OkQ 1 l) => qtake_any q M 1 l s t W h hs ht hok (by omega) (by omega)
  obtain ⟨e1, e2, e3, e4, e5⟩ := tk1
  have HE := Bx.mk (And.intro e1 (And.intro e2 (And.intro e3 (And.intro e4 e5))))
  clear e1 e2 e3 e4 e5
  go_enter Try.func9, Try.ntmps9
  go_wp2_with fail
  refine HN.out.mono ?_
  rintro e w1 ⟨q, M, rfl, hq, hM, hb, h⟩
  have R1 := Bx.mk (And.intro (And.intro hq hM) (And.intro hb h))
  clear hq hM hb h HN
  go_wp2_with fail
  have T1 := HT.out q M [] 9 5 w1 R1.out.2.2 (by unfold in64; omega) (by unfold in64; omega) (ok_nil 1)
  rw [HE.out.1, HE.out.2.1] at T1
  refine T1.mono ?_
  rintro e w2 ⟨rfl, h, hg⟩
  have R2 := Bx.mk (And.intro R1.out.1 (And.intro (R1.out.2.1.trans (grown_belowQ hg R1.out.1.2 R1.out.2.1.size)) h))
  clear h hg T1 R1
  have hok : OkQ 1 [⟨9, 0, 1⟩] := fun x hx => by obtain rfl : x = ⟨9, 0, 1⟩ := by simpa using hx
                                                 exact ⟨Int.le_refl _, Int.le_refl _, Int.le_refl _⟩
  have HO := Bx.mk hok
  clear hok
  go_wp2_with fail
  have T2 := HT.out q M [⟨9, 0, 1⟩] 9 31 w2 R2.out.2.2 (by unfold in64; omega) (by unfold in64; omega) HO.out
  rw [HE.out.2.2.1, HE.out.2.2.2.1] at T2
  refine T2.mono ?_
  rintro e w3 ⟨rfl, h, hg⟩
  have R3 := Bx.mk (And.intro R2.out.1 (And.intro (R2.out.2.1.trans (grown_belowQ hg R2.out.1.2 R2.out.2.1.size)) h))
  clear h hg T2 R2
  go_wp2_with fail
  have T3 := HT.out q M [⟨9, 0, 1⟩] 9 32 w3 R3.out.2.2 (by unfold in64; omega) (by unfold in64; omega) HO.out
  rw [HE.out.2.2.2.2] at T3
  refine T3.mono ?_
  rintro e w4 ⟨rfl, h, hg⟩
  have R4 := Bx.mk (R3.out.2.1.trans (grown_belowQ hg R3.out.1.2 R3.out.2.1.size))
  clear h hg T3 R3
  go_wp2
  go_ret
  exact ⟨rfl, R4.out⟩
end Go.Proofs.Ytplkoijgokkmfaa
