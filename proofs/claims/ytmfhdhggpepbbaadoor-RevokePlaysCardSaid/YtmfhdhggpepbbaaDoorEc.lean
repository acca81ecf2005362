/-
  Revocations: rows made longer, rows compared, versions.
-/
import Derived.Test.YtmfhdhggpepbbaaDoorEb
import Derived.Deep.AppendSrc
import Derived.Laws.AppendOwn
namespace Go.Proofs.YtmfhdhggpepbbaaDoor
open Go Go.RowKit
theorem i64s_one (l : List Int) : ∀ u ∈ i64s l, u.oneCell' = true := by
  intro u hu
  obtain ⟨n, _, rfl⟩ := List.mem_map.1 hu
  rfl
theorem i64s_len (l : List Int) : (i64s l).length = l.length := by simp [i64s]
theorem IsL.cells {W : World} {ad : Addr} {n cap : Nat} {l : List Int} (h : IsL W (.slice (some ad) n cap) l) : ∀ j u, (i64s l)[j]? = some u → W.cell? (ad.add j) = some u := by
  intro j u hu
  have hj : j < l.length := by have := (List.getElem?_eq_some_iff.1 hu).1; simpa [i64s] using this
  obtain ⟨a', cap0, hv, hc, hn, hr⟩ := h
  injection hv with e1 e2 e3
  subst e1
  obtain ⟨c, o, cs, fr, ha, hh, hcs⟩ := hr (by omega)
  injection ha with ha
  subst ha
  rw [Addr.add_lit, cell_of_row _ _ _ _ _ _ hh, hcs j hj, ← i64s_get l j hj]
  exact hu
theorem isL_new (W : World) (l : List Int) (rest : Array Value) (cap : Nat) (hc : l.length ≤ cap) : IsL (W.alloc (.cells ((i64s l).toArray ++ rest) 3)) (.slice (some ⟨W.heap.size, 0, none⟩) l.length cap) l := by
  refine ⟨_, cap, rfl, hc, (fun h => by cases h), fun _ => ⟨W.heap.size, 0, _, _, rfl, hnew _ _ _ rfl, fun i hi => ?_⟩⟩
  rw [Nat.zero_add, Array.getElem?_append_left (by simp [i64s_len]; exact hi)]
  simpa using i64s_get l i hi
set_option maxRecDepth 100000 in
/-- A row that is full, and more behind it: a row of its own. -/
theorem run_longer (w : World) (a : Option Addr) (v2 : Value) (l1 l2 : List Int) (h1 : IsL w (.slice a l1.length l1.length) l1) (h2 : IsL w v2 l2) (hn : l1.length + l2.length ≤ 1000000) (ty : TypeId) :
    ∃ v' w', (Builtin.append_ #[26, 26] ty #[.slice a l1.length l1.length, v2]).run Tryd.prog w = .ok v' w' ∧ IsL w' v' (l1 ++ l2) ∧ Below w.heap.size w w' := by
  have hi : Tryd.prog.info? 3 = some ((Tryd.prog.info? 3).getD default) := by kernel_rfl
  have hz : ((Tryd.prog.info? 3).getD default).zero = some (.int .i64 0) := by kernel_rfl
  have hsz : ((Tryd.prog.info? 3).getD default).size = 1 := by kernel_rfl
  have hby : ((Tryd.prog.info? 3).getD default).bytes = 8 := by kernel_rfl
  generalize (Tryd.prog.info? 3).getD default = inf at hi hz hsz hby
  obtain ⟨a2, c2, rfl, hc2, hn2, hr2⟩ := id h2
  by_cases hl : l2.length = 0
  · have h0 : l2 = [] := List.eq_nil_of_length_eq_zero hl
    subst h0
    rw [List.append_nil]
    refine ⟨_, w, ?_, h1, Below.refl _ _⟩
    have hrun : ∀ W : World, (Builtin.firstCells inf.size 0 (.slice a2 0 c2)).run Tryd.prog W = .ok #[] W := fun W => by
      cases a2 with
      | none => simpa using run_firstCells_none (P := Tryd.prog) W inf.size 0 0 c2
      | some ad => simpa using run_firstCells_some (P := Tryd.prog) W inf.size 0 ad 0 c2 [] (by simp) (by simp)
    cases a <;> simp [Builtin.append_, run_underlying Tryd.underlying26, sizeOf, typeInfo, hi, Builtin.lenOf, hrun, storeCells]
  · obtain ⟨c, o, cs, fr, rfl, hh, hcs⟩ := hr2 (by omega)
    have hcells := h2.cells
    rcases a with _ | ad
    · have hl1 : l1.length = 0 := by
        obtain ⟨a', cap0, hv, _, hn', _⟩ := h1
        injection hv with e1 e2 e3
        rw [← e3] at hn'
        exact hn' e1.symm
      have h10 : l1 = [] := List.eq_nil_of_length_eq_zero hl1
      subst h10
      have hrun := run_append_nil (P := Tryd.prog) (w := w) 26 ty 3 inf _ Tryd.underlying26 hi hz ⟨c, o, none⟩ l2.length c2 (i64s l2) (by rw [i64s_len, hsz]; omega) hcells (by omega) (by omega) (by rw [hby]; omega)
      refine ⟨_, _, hrun, ?_, (Below.refl _ _).drew.trans ((Below.refl _ _).alloc (by simp) _)⟩
      exact isL_new w.drew l2 _ _ (grownCap_ge w _ _ _)
    · have hcells1 := h1.cells
      have hrun := run_append_grow (P := Tryd.prog) (w := w) 26 ty 3 inf _ Tryd.underlying26 hi hz ad l1.length l1.length (i64s l1) (by rw [i64s_len, hsz]; omega) hcells1 ⟨c, o, none⟩ l2.length c2 (i64s l2) (by rw [i64s_len, hsz]; omega) hcells (by omega) (by omega)
        (growslice_fits (by omega) (by rw [hby]; omega))
      refine ⟨_, _, hrun, ?_, (Below.refl _ _).drew.trans ((Below.refl _ _).alloc (by simp) _)⟩
      have := isL_new w.drew (l1 ++ l2) (Builtin.zeroCells (Value.int .i64 0).cells (grownCap w (l1.length + l2.length) l1.length 3 - (l1.length + l2.length))) (grownCap w (l1.length + l2.length) l1.length 3) (by rw [List.length_append]; exact grownCap_ge w _ _ _)
      rw [List.length_append] at this
      rw [show (i64s l1).toArray ++ (i64s l2).toArray = (i64s (l1 ++ l2)).toArray by simp [i64s]]
      exact this
set_option maxRecDepth 100000 in
theorem cut_three_i (a : Option Addr) (n cap m : Nat) (hc : m ≤ cap) (W : World) : (Instr.slice 26 (.slice a n cap) none (some (.int .i64 (m : Int))) (some (.int .i64 (m : Int)))).run Tryd.prog W = .ok (.slice a m m) W := by
  have he : Tryd.prog.elem 26 = 3 := by kernel_rfl
  have hs : ((sizeOf 3).run Tryd.prog W) = .ok 1 W := by kernel_rfl
  rw [run_slice_hm W 26 a n cap (by rw [he]; exact Tryd.underlying26) .i64 .i64 (m : Int) (m : Int) (by omega) (by omega) (by omega), he, hs]
  simp only [Result.andThen, sliced, Int.toNat_natCast, Nat.zero_mul, Nat.sub_zero]
  congr 2
  rcases a with _ | ad
  · simp
  · simp [Addr.add]
/-- At the list of a plain region's operations. -/
theorem wpList_longer {w : World} {ops : Array Oper} {rest : List Oper} {o : Oper} {a : Act} {Q : Exit → Act → World → Prop} (hgd : o.guard = none) (s x : Operand)
    (ho : o.op = .call { callee := .builtin .append, args := #[s, x], argTypes := #[26, 26] }) (a0 : Option Addr) (v2 : Value) (l1 l2 : List Int) (hs : a.eval s = .slice a0 l1.length l1.length) (hx : a.eval x = v2)
    (h1 : IsL w (.slice a0 l1.length l1.length) l1) (h2 : IsL w v2 l2) (hn : l1.length + l2.length ≤ 1000000)
    (h : ∀ v' w', IsL w' v' (l1 ++ l2) → Below w.heap.size w w' → wpList Tryd.prog ops Q rest (a.put o.dst v') w') : wpList Tryd.prog ops Q (o :: rest) a w := by
  refine wpList_plain hgd fun K hK => ?_
  obtain ⟨v', w', hrun, h1, h2⟩ := run_longer w a0 v2 l1 l2 h1 h2 hn o.type
  unfold Oper.wp
  simp [execOp, ho, resolve, invoke, builtin, hs, hx, hrun, Result.andThen]
  exact hK _ _ (h v' w' h1 h2)
set_option maxRecDepth 100000 in
theorem longer_any (l1 l2 : List Int) (v1 v2 : Value) (w : World) (h1 : IsL w v1 l1) (h2 : IsL w v2 l2) (hn : l1.length + l2.length ≤ 1000000) :
    Calls Tryd.prog 43 #[v1, v2] w fun e w' => ∃ v, e = .returned v ∧ IsL w' v (l1 ++ l2) ∧ Below w.heap.size w w' := by
  obtain ⟨a, cap, rfl, hc, hn1, hr1⟩ := id h1
  have hcut := fun W => cut_three_i a l1.length cap l1.length hc W
  have h1' : IsL w (.slice a l1.length l1.length) l1 := by
    have := h1.cut l1.length (Nat.le_refl _) l1.length (Nat.le_refl _) (fun e => by have := hn1 e; omega)
    rw [List.take_length] at this
    exact this
  obtain ⟨a2, cap2, hv2⟩ := h2.form
  subst hv2
  have H1 := Bx.mk h1'
  have H2 := Bx.mk h2
  have HN := Bx.mk hn
  clear h1 h1' h2 hn hc hn1 hr1
  go_enter Tryd.func43, Tryd.ntmps43
  go_wp2_with (refine wpList_longer rfl _ _ rfl a _ l1 l2 rfl rfl H1.out H2.out HN.out ?_; intro v' w' hl hb; have HL := Bx.mk hl; have HB := Bx.mk hb; clear hl hb H1 H2 HN)
  go_ret
  exact ⟨_, rfl, HL.out, HB.out⟩
theorem isSeed_any (n : Int) (w : World) : Calls Tryd.prog 41 #[.int .i64 n] w fun e w' => e = .returned (.bool (decide (0 ≤ n ∧ n < 4))) ∧ w' = w := by
  by_cases h1 : n < 0
  · go_enter Tryd.func41, Tryd.ntmps41
    go_wp2
    go_ret
    refine ⟨ret_bool ?_, rfl⟩
    simp; omega
  · go_enter Tryd.func41, Tryd.ntmps41
    go_wp2
    go_ret
    refine ⟨ret_bool ?_, rfl⟩
    simp
    try omega
/-- Are all of them serials? -/
def allS (l : List Int) : Bool := l.all okS
theorem allSerials_any (l : List Int) (v : Value) (w : World) (hv : IsL w v l) (hl : l.length ≤ 1000000) :
    Calls Tryd.prog 42 #[v] w fun e w' => e = .returned (.bool (allS l)) ∧ Below w.heap.size w w' := by
  obtain ⟨z, hz⟩ : ∃ z, allS l = z := ⟨_, rfl⟩
  rw [hz]
  have HC : Bx (Calls Tryd.prog 70 #[v, .func (.func 71) #[] #[]] w fun e w' => e = .returned (.bool (!z)) ∧ Below w.heap.size w w') := Bx.mk (by
    refine (conF_any l v 71 #[] (fun k => !okS (l.getD k 0)) (fun _ w' => Below w.heap.size w w') w (fun args w => by kernel_rfl) (Below.refl _ _) hl ?_ ?_).mono ?_
    · intro k w' h1
      exact (hv.later h1).ints
    · intro k w' hk hr h1
      refine (serial_any (l.getD k 0) w').mono ?_
      rintro e w2 ⟨rfl, rfl⟩
      exact ⟨rfl, h1⟩
    · rintro e w' ⟨y, rfl, ⟨rfl, k, hk, h1, h2, h3⟩ | ⟨rfl, h1, h2⟩⟩
      · refine ⟨?_, h3⟩
        have : z = false := by
          rw [← hz]
          unfold allS
          rw [List.all_eq_false]
          refine ⟨l.getD k 0, ?_, by simpa using h2⟩
          rw [List.getD_eq_getElem?_getD, List.getElem?_eq_getElem hk]
          exact List.getElem_mem hk
        rw [this]
        rfl
      · refine ⟨?_, h2⟩
        have : z = true := by
          rw [← hz]
          unfold allS
          rw [List.all_eq_true]
          intro x hx
          obtain ⟨k, hk, rfl⟩ := List.getElem_of_mem hx
          have := h1 k hk
          rw [List.getD_eq_getElem?_getD, List.getElem?_eq_getElem hk] at this
          simpa using this
        rw [this]
        rfl)
  clear hv hl hz
  go_enter Tryd.func42, Tryd.ntmps42
  go_wp2_with fail
  refine HC.out.mono ?_
  rintro e w1 ⟨rfl, hb⟩
  go_wp2
  go_ret
  exact ⟨ret_bool (by simp), hb⟩
end Go.Proofs.YtmfhdhggpepbbaaDoor
