/-
  The walk of what cuts parts.
-/
import Derived.Test.YtkfgpnigeknhmaaDoorLc
namespace Go.Proofs.YtkfgpnigeknhmaaDoor
open Go Go.RowKit
/-- Parts behind a slice of slices. -/
def Parts (w : World) (v : Value) (pss : List (List UInt8)) : Prop :=
  ∃ a cap, v = .slice a pss.length cap ∧ (0 < pss.length → ∃ p o, a = some ⟨p, o, none⟩ ∧ ∀ j, j < pss.length → ∃ x, w.cell? ⟨p, o + j, none⟩ = some x ∧ Bytes w x (pss.getD j []))
/-- Values in a row that the call owns. -/
def OwnP (w : World) (base : Nat) (v : Value) (xs : List Value) : Prop := w.ownsRow base 23 1 v xs.length xs
/-- What is left of parts: twelve of them, a hundred bytes of each. -/
def cutP (pss : List (List UInt8)) : List (List UInt8) := (pss.take 12).map (·.take 100)
/-- Values that are slices of parts. -/
def Vals (w : World) (xs : List Value) (qs : List (List UInt8)) : Prop := xs.length = qs.length ∧ ∀ j, j < xs.length → Bytes w (xs.getD j undef) (qs.getD j [])
theorem Vals.snoc {w : World} {xs : List Value} {qs : List (List UInt8)} (h : Vals w xs qs) {x : Value} {q : List UInt8} (hx : Bytes w x q) : Vals w (xs ++ [x]) (qs ++ [q]) := by
  refine ⟨by simp [h.1], fun j hj => ?_⟩
  rw [List.length_append] at hj
  by_cases hlt : j < xs.length
  · have e1 : (xs ++ [x]).getD j undef = xs.getD j undef := by simp [List.getElem?_append_left hlt]
    have e2 : (qs ++ [q]).getD j [] = qs.getD j [] := by simp [List.getElem?_append_left (h.1 ▸ hlt)]
    rw [e1, e2]
    exact h.2 j hlt
  · have ej : j = xs.length := by simp at hj; omega
    subst ej
    have e1 : (xs ++ [x]).getD xs.length undef = x := by simp
    have e2 : (qs ++ [q]).getD xs.length [] = q := by rw [h.1]; simp
    rw [e1, e2]
    exact hx
theorem OwnP.later {w w1 : World} {base B : Nat} {v : Value} {xs : List Value} (h : OwnP w base v xs) (hb : Below B w w1) (hB : ∀ g, v.ownBlock = some g → g < B) : OwnP w1 base v xs := by
  refine ⟨h.1, ?_⟩
  rcases h.2 with h0 | ⟨g, cap, cur, hv, hb', hg, hr⟩
  · exact .inl h0
  · refine .inr ⟨g, cap, cur, hv, hb', ?_, hr⟩
    rw [hb.block g (hB g (by rw [hv]; rfl))]
    exact hg
theorem OwnP.lt {w : World} {base : Nat} {v : Value} {xs : List Value} (h : OwnP w base v xs) : ∀ g, v.ownBlock = some g → g < w.heap.size ∧ base ≤ g := by
  intro g hg
  rcases h.2 with ⟨rfl, _⟩ | ⟨g', cap, cur, rfl, hb, hh, _⟩
  · cases hg
  · injection hg with hg
    subst hg
    exact ⟨(Array.getElem?_eq_some_iff.1 hh).1, hb⟩
theorem ownB_a {W : World} {base : Nat} {v : Value} {l : List UInt8} (h : OwnB W base v l) (o : Obj) : OwnB (W.alloc o) base v l := h.later (below_a _) (fun g hg => (h.lt g hg).1)
theorem OwnP.a {W : World} {base : Nat} {v : Value} {xs : List Value} (h : OwnP W base v xs) (o : Obj) : OwnP (W.alloc o) base v xs := h.later (below_a _) (fun g hg => (h.lt g hg).1)
/-- Rows of unlike kinds lie in unlike blocks. -/
theorem own_ne {w : World} {base base' : Nat} {v v' : Value} {xs : List Value} {l : List UInt8} (h : OwnP w base v xs) (h' : OwnB w base' v' l) : ∀ g, v.ownBlock = some g → v'.ownBlock ≠ some g := by
  intro g hg hg'
  rcases h.2 with ⟨rfl, _⟩ | ⟨g1, cap, cur, rfl, _, hh, _⟩
  · cases hg
  · rcases h'.2 with ⟨rfl, _⟩ | ⟨g2, cap', cur', rfl, _, hh', _⟩
    · cases hg'
    · injection hg with hg
      injection hg' with hg'
      simp only at hg hg'
      subst hg
      subst hg'
      rw [hh] at hh'
      injection hh' with e
      injection e with _ e2
      exact absurd e2 (by decide)
theorem OwnB.grown {w w1 : World} {base : Nat} {v : Value} {l : List UInt8} {row : Option Nat} (h : OwnB w base v l) (hg : w.grownBy w1 row) (hne : ∀ g, row = some g → v.ownBlock ≠ some g) : OwnB w1 base v l := by
  refine ⟨h.1, ?_⟩
  rcases h.2 with h0 | ⟨g, cap, cur, hv, hb', hh, hr⟩
  · exact .inl h0
  · refine .inr ⟨g, cap, cur, hv, hb', ?_, hr⟩
    rw [hg.block g (Array.getElem?_eq_some_iff.1 hh).1 (fun e => hne g e.symm (by rw [hv]; rfl))]
    exact hh
theorem OwnP.grown {w w1 : World} {base : Nat} {v : Value} {xs : List Value} {row : Option Nat} (h : OwnP w base v xs) (hg : w.grownBy w1 row) (hne : ∀ g, row = some g → v.ownBlock ≠ some g) : OwnP w1 base v xs := by
  refine ⟨h.1, ?_⟩
  rcases h.2 with h0 | ⟨g, cap, cur, hv, hb', hh, hr⟩
  · exact .inl h0
  · refine .inr ⟨g, cap, cur, hv, hb', ?_, hr⟩
    rw [hg.block g (Array.getElem?_eq_some_iff.1 hh).1 (fun e => hne g e.symm (by rw [hv]; rfl))]
    exact hh
theorem ownP_below {w w1 : World} {base : Nat} {v : Value} {xs : List Value} (h : OwnP w base v xs) (hg : w.grownBy w1 v.ownBlock) (hb : base ≤ w.heap.size) : Below base w w1 :=
  ⟨hg.os, hg.tape, hg.output, hg.size, fun i hi => hg.block i (by omega) (fun e => by have := (h.lt i e.symm).2; omega)⟩
/-- One slice more in a row of slices. -/
theorem wpList_apP {w : World} {ops : Array Oper} {rest : List Oper} {o : Oper} {a : Act} {Q : Exit → Act → World → Prop} (hgd : o.guard = none) (s x : Operand)
    (ho : o.op = .call { callee := .builtin .append, args := #[s, x], argTypes := #[22, 22] }) (base : Nat) (v : Value) (xs : List Value) (hs : a.eval s = v) (hown : OwnP w base v xs) (B : Nat) (y : Value) (hx : a.eval x = .slice (some ⟨B, 0, none⟩) 1 1)
    (hB : w.heap[B]? = some (.cells #[y] 23 (0, 0))) (hy : y.oneCell' = true) (hn : xs.length ≤ 1000) (hbase : base ≤ w.heap.size)
    (h : ∀ v' w', OwnP w' base v' (xs ++ [y]) → w.grownBy w' v.ownBlock → wpList Tryd.prog ops Q rest (a.put o.dst v') w') : wpList Tryd.prog ops Q (o :: rest) a w := by
  have hi : Tryd.prog.info? 23 = some ((Tryd.prog.info? 23).getD default) := by kernel_rfl
  refine wpList_plain hgd fun K hK => ?_
  obtain ⟨v', w', hrun, h2, h3, _, _⟩ := run_append_own_at (P := Tryd.prog) w base 22 o.type 23 _ (.slice none 0 0) 1 24 Tryd.underlying22 hi (by kernel_rfl) (by kernel_rfl) (by kernel_rfl) rfl (by omega) v xs.length xs hown ⟨B, 0, none⟩ 1 1 [y] rfl
    (fun j u hu => by
      match j, hu with
      | 0, hu =>
        have : u = y := by simpa using hu.symm
        rw [this]
        show w.cell? ((⟨B, 0, none⟩ : Addr).add 0) = _
        rw [show (⟨B, 0, none⟩ : Addr).add 0 = ⟨B, 0, none⟩ from rfl, cell_of_row _ _ _ _ _ _ hB]
        rfl
      | j + 1, hu => simp at hu)
    (fun u hu => by have : u = y := by simpa using hu
                    rw [this]; exact hy) (by simp only [maxLen]; omega) (by omega) hbase
  unfold Oper.wp
  simp [execOp, ho, resolve, invoke, builtin, hs, hx, hrun, Result.andThen]
  refine hK _ _ (h v' w' ?_ h3)
  unfold OwnP
  rw [List.length_append]
  exact h2
theorem bytes_form {w : World} {x : Value} {q : List UInt8} (h : Bytes w x q) : ∃ a cap, x = .slice a q.length cap ∧ q.length ≤ cap ∧ (a = none → cap = 0) := by
  obtain ⟨a, cap, hv, hc, hn, _⟩ := h
  exact ⟨a, cap, hv, hc, hn⟩
/-- What cutting parts gives. -/
def FewP (w : World) (pss : List (List UInt8)) (e : Ending) (w' : World) : Prop := ∃ vo va xs, e = .returned (.tuple #[vo, va]) ∧ Vals w xs (cutP pss) ∧ OwnP w' w.heap.size vo xs ∧ OwnB w' w.heap.size va (cutP pss).flatten ∧ Below w.heap.size w w'
/-- At the head of each round. -/
def FewRel (w : World) (pss : List (List UInt8)) (o al i : Value) (wr : World) : Prop :=
  ∃ k xs, k ≤ pss.length ∧ k ≤ 12 ∧ i = .int .i64 ((k : Nat) : Int) ∧ Vals w xs ((pss.take k).map (·.take 100)) ∧ OwnP wr w.heap.size o xs ∧ OwnB wr w.heap.size al ((pss.take k).map (·.take 100)).flatten ∧ Below w.heap.size w wr
theorem few_len (pss : List (List UInt8)) (k : Nat) : ((pss.take k).map (·.take 100)).flatten.length ≤ 100 * k := by
  induction k generalizing pss with
  | zero => simp
  | succ k ih =>
    cases pss with
    | nil => simp
    | cons p pss =>
      simp only [List.take_succ_cons, List.map_cons, List.flatten_cons, List.length_append, List.length_take]
      have := ih pss
      omega
theorem few_succ (pss : List (List UInt8)) (k : Nat) (h : k < pss.length) : (pss.take (k + 1)).map (·.take 100) = (pss.take k).map (·.take 100) ++ [(pss.getD k []).take 100] := by
  rw [List.take_succ_eq_append_getElem h, List.map_append]
  simp [h]
theorem few1 {w wq w1 : World} {o : Obj} {u4 u5 v1 : Value} {xs ys : List Value} {l : List UInt8} (h : OwnP wq w.heap.size u4 xs ∧ OwnB wq w.heap.size u5 l ∧ Below w.heap.size w wq) (h1 : OwnP w1 w.heap.size v1 ys) (g1 : (wq.alloc o).grownBy w1 u4.ownBlock) :
    OwnP w1 w.heap.size v1 ys ∧ OwnB w1 w.heap.size u5 l ∧ Below w.heap.size w w1 := by
  obtain ⟨a, b, c⟩ := h
  have hs : w.heap.size ≤ (wq.alloc o).heap.size := Nat.le_trans c.size (below_a o).size
  refine ⟨h1, (ownB_a b o).grown g1 (fun g hg => own_ne (a.a o) (ownB_a b o) g hg), ?_⟩
  exact (c.trans ((below_a o).mono c.size)).trans (ownP_below (a.a o) g1 hs)
theorem few2 {w w1 w2 : World} {v1 v2 u5 : Value} {ys : List Value} {l l2 : List UInt8} (h : OwnP w1 w.heap.size v1 ys ∧ OwnB w1 w.heap.size u5 l ∧ Below w.heap.size w w1) (h2 : OwnB w2 w.heap.size v2 l2) (g : w1.grownBy w2 u5.ownBlock) :
    OwnP w2 w.heap.size v1 ys ∧ OwnB w2 w.heap.size v2 l2 ∧ Below w.heap.size w w2 := by
  obtain ⟨a, b, c⟩ := h
  exact ⟨a.grown g (fun x hx hx' => own_ne a b x hx' hx), h2, c.trans (own_below b g c.size)⟩
set_option maxRecDepth 100000 in
set_option maxHeartbeats 1000000 in
theorem few_any (pss : List (List UInt8)) (v : Value) (w : World) (hv : Parts w v pss) (hn : pss.length ≤ 9223372036854775807) (hp : ∀ p ∈ pss, p.length ≤ 9223372036854775807) :
    Calls Tryd.prog 11 #[v] w (FewP w pss) := by
  have HV := Bx.mk hv
  have HP := Bx.mk hp
  obtain ⟨a, cap, rfl, -⟩ := hv
  obtain ⟨n, hnn⟩ : ∃ n, pss.length = n := ⟨_, rfl⟩
  have HN := Bx.mk hnn
  rw [hnn] at HV hn ⊢
  clear hnn hp
  have hn1 : (n : Int) ≤ 9223372036854775807 := by omega
  go_enter Tryd.func11, Tryd.ntmps11
  go_wp2
  go_loopw [4, 5, 6] (fun o al i wr => FewRel w pss o al i wr) (fun _ _ i _ => 12 - (intOf i).toNat)
  case atStart => exact ⟨0, [], by omega, by omega, rfl, ⟨rfl, fun j hj => by simp at hj⟩, ⟨rfl, .inl ⟨rfl, rfl⟩⟩, OwnB.nil _ _, Below.refl _ _⟩
  case round =>
    obtain ⟨k, xs, hk, hk12, rfl, hvals, hop, hob, hbel⟩ := hrel
    have hkn : k ≤ n := by have := HN.out; omega
    have HA := Bx.mk (And.intro hvals (And.intro hop (And.intro hob hbel)))
    clear hvals hop hob hbel hk
    by_cases hlt : k < n ∧ k < 12
    · obtain ⟨hkn', hk12'⟩ := hlt
      have t1 : (k : Int) < (n : Int) := by omega
      have t2 : (k : Int) < 12 := by omega
      obtain ⟨a', cap', hv', hr'⟩ := HV.out
      injection hv' with e1 e2 e3
      obtain ⟨p, o, ha, hcell⟩ := hr' (by omega)
      subst e1
      subst ha
      obtain ⟨x, hx, hxb⟩ := hcell k (by rw [HN.out]; exact hkn')
      have HXB := Bx.mk hxb
      have hcw : wr.cell? ⟨p, o + k, none⟩ = some x := by
        have hlt := World.block_lt_of_cell? _ _ hx
        rw [HA.out.2.2.2.cell (p := ⟨p, o + k, none⟩) hlt]
        exact hx
      obtain ⟨ax, cx, hxf, hxc, hxn⟩ := bytes_form hxb
      have HQl : Bx ((pss.getD k []).length ≤ 9223372036854775807) := Bx.mk (by
        have hm : pss.getD k [] ∈ pss := by
          have h : k < pss.length := by rw [HN.out]; exact hkn'
          rw [List.getD_eq_getElem?_getD, List.getElem?_eq_getElem h]
          exact List.getElem_mem h
        exact HP.out _ hm)
      have HSc : Bx ((pss.take (k + 1)).map (·.take 100) = (pss.take k).map (·.take 100) ++ [(pss.getD k []).take 100]) := Bx.mk (few_succ pss k (by rw [HN.out]; exact hkn'))
      have HFl := Bx.mk (few_len pss k)
      generalize pss.getD k [] = pk at *
      subst hxf
      obtain ⟨pl, hpl⟩ : ∃ pl, pk.length = pl := ⟨_, rfl⟩
      have HPL := Bx.mk hpl
      rw [hpl] at hcw hxc HQl
      have HXB2 : Bx (Bytes w (.slice ax pl cx) pk) := Bx.mk (by rw [← hpl]; exact HXB.out)
      obtain ⟨mm, hmm⟩ : ∃ mm, mm = min pl 100 := ⟨_, rfl⟩
      have m1 : (if (100 : Int) < (pl : Int) then (100 : Int) else (pl : Int)) = (mm : Int) := by split <;> omega
      have s1 := fun W => cut_bytes ax pl cx mm (by omega) (by omega) hxn W
      have HB2 : Bx (Bytes w (.slice ax mm cx) (pk.take 100)) := Bx.mk (by
        have h := HXB2.out.take mm (by omega)
        have e : pk.take mm = pk.take 100 := by
          rw [hmm, ← hpl, ← List.take_take, List.take_of_length_le (by rw [List.length_take]; omega)]
        rw [e] at h
        exact h)
      have hpl1 : (pl : Int) ≤ 9223372036854775807 := by have := HQl.out; omega
      clear hx hxb hcell hr' e2 e3 HXB hxc hxn hpl hmm HQl
      go_wp2
      go_quiet (fail)
      clear s1 m1 hpl1 hcw
      have HA2 : Bx (OwnP (wr.drewN nq) w.heap.size u4 xs ∧ OwnB (wr.drewN nq) w.heap.size u5 ((pss.take k).map (·.take 100)).flatten ∧ Below w.heap.size w (wr.drewN nq)) := Bx.mk ⟨HA.out.2.1, HA.out.2.2.1, below_drewN HA.out.2.2.2 _⟩
      have HVl := Bx.mk HA.out.1
      clear HA
      generalize wr.drewN nq = wq at *
      have HXl : Bx (xs.length ≤ 1000) := Bx.mk (by have := HVl.out.1; rw [List.length_map, List.length_take] at this; omega)
      go_wp2_with (first | (refine wpList_apP rfl _ _ rfl w.heap.size _ xs (by rfl) (HA2.out.1.a _) wq.heap.size (.slice ax mm cx) (by rfl) (hnew _ _ _ rfl) rfl HXl.out (Nat.le_trans HA2.out.2.2.size (below_a _).size) ?_; intro v1 w1 h1 g1; have H1 : Bx (OwnP w1 w.heap.size v1 (xs ++ [.slice ax mm cx]) ∧ OwnB w1 w.heap.size u5 ((pss.take k).map (·.take 100)).flatten ∧ Below w.heap.size w w1) := Bx.mk (few1 HA2.out h1 g1); clear h1 g1) | (refine wpList_ap rfl _ _ rfl w.heap.size _ ((pss.take k).map (·.take 100)).flatten (by rfl) H1.out.2.1 _ (pk.take 100) (by rfl) (HB2.out.later H1.out.2.2) (by have := HFl.out; rw [List.length_take]; omega) H1.out.2.2.size ?_; intro v2 w2 h1 g1 _; have H2 : Bx (OwnP w2 w.heap.size v1 (xs ++ [.slice ax mm cx]) ∧ OwnB w2 w.heap.size v2 ((pss.take (k + 1)).map (·.take 100)).flatten ∧ Below w.heap.size w w2) := Bx.mk (few2 H1.out (by rw [HSc.out, List.flatten_append, List.flatten_singleton]; exact h1) g1); clear h1 g1))
      go_roundw
      case rel => exact ⟨k + 1, xs ++ [.slice ax mm cx], by have := HN.out; omega, by omega, by go_num, by rw [HSc.out]; exact HVl.out.snoc HB2.out, H2.out⟩
      case measure => simp [intOf]; omega
    · have HE : Bx ((pss.take k).map (·.take 100) = cutP pss) := Bx.mk (by
        unfold cutP
        by_cases h : k = 12
        · rw [h]
        · have h1 : pss.length ≤ k := by rw [HN.out]; omega
          rw [List.take_of_length_le h1, List.take_of_length_le (by omega)])
      have HF : Bx (Vals w xs (cutP pss) ∧ OwnP wr w.heap.size u4 xs ∧ OwnB wr w.heap.size u5 (cutP pss).flatten ∧ Below w.heap.size w wr) := Bx.mk (by rw [← HE.out]; exact HA.out)
      clear HA HE
      by_cases h1 : k < n
      · have t1 : (k : Int) < (n : Int) := by omega
        have t2 : ¬ (k : Int) < 12 := by omega
        go_wp2
        go_ret2
        exact ⟨u4, u5, xs, rfl, HF.out⟩
      · have t1 : ¬ (k : Int) < (n : Int) := by omega
        go_wp2
        go_ret2
        exact ⟨u4, u5, xs, rfl, HF.out⟩
end Go.Proofs.YtkfgpnigeknhmaaDoor
