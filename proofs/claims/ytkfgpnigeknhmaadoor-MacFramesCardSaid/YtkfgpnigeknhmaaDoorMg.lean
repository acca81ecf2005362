/-
  The walk of what cuts parts (eight, of sixty bytes).
-/
import Derived.Test.YtkfgpnigeknhmaaDoorLa
namespace Go.Proofs.YtkfgpnigeknhmaaDoor
open Go Go.RowKit
/-- What is left of parts: eight of them, sixty bytes of each. -/
def cutQ (pss : List (List UInt8)) : List (List UInt8) := (pss.take 8).map (·.take 60)
/-- What cutting parts gives. -/
def FewQ (w : World) (pss : List (List UInt8)) (e : Ending) (w' : World) : Prop := ∃ vo va xs, e = .returned (.tuple #[vo, va]) ∧ Vals w xs (cutQ pss) ∧ OwnP w' w.heap.size vo xs ∧ OwnB w' w.heap.size va (cutQ pss).flatten ∧ Below w.heap.size w w'
/-- At the head of each round. -/
def FewRelQ (w : World) (pss : List (List UInt8)) (o al i : Value) (wr : World) : Prop :=
  ∃ k xs, k ≤ pss.length ∧ k ≤ 8 ∧ i = .int .i64 ((k : Nat) : Int) ∧ Vals w xs ((pss.take k).map (·.take 60)) ∧ OwnP wr w.heap.size o xs ∧ OwnB wr w.heap.size al ((pss.take k).map (·.take 60)).flatten ∧ Below w.heap.size w wr
theorem few_lenQ (pss : List (List UInt8)) (k : Nat) : ((pss.take k).map (·.take 60)).flatten.length ≤ 60 * k := by
  induction k generalizing pss with
  | zero => simp
  | succ k ih =>
    cases pss with
    | nil => simp
    | cons p pss =>
      simp only [List.take_succ_cons, List.map_cons, List.flatten_cons, List.length_append, List.length_take]
      have := ih pss
      omega
theorem few_succQ (pss : List (List UInt8)) (k : Nat) (h : k < pss.length) : (pss.take (k + 1)).map (·.take 60) = (pss.take k).map (·.take 60) ++ [(pss.getD k []).take 60] := by
  rw [List.take_succ_eq_append_getElem h, List.map_append]
  simp [h]
set_option maxRecDepth 100000 in
set_option maxHeartbeats 1000000 in
theorem few2_any (pss : List (List UInt8)) (v : Value) (w : World) (hv : Parts w v pss) (hn : pss.length ≤ 9223372036854775807) (hp : ∀ p ∈ pss, p.length ≤ 9223372036854775807) :
    Calls Tryd.prog 25 #[v] w (FewQ w pss) := by
  have HV := Bx.mk hv
  have HP := Bx.mk hp
  obtain ⟨a, cap, rfl, -⟩ := hv
  obtain ⟨n, hnn⟩ : ∃ n, pss.length = n := ⟨_, rfl⟩
  have HN := Bx.mk hnn
  rw [hnn] at HV hn ⊢
  clear hnn hp
  have hn1 : (n : Int) ≤ 9223372036854775807 := by omega
  go_enter Tryd.func25, Tryd.ntmps25
  go_wp2
  go_loopw [4, 5, 6] (fun o al i wr => FewRelQ w pss o al i wr) (fun _ _ i _ => 8 - (intOf i).toNat)
  case atStart => exact ⟨0, [], by omega, by omega, rfl, ⟨rfl, fun j hj => by simp at hj⟩, ⟨rfl, .inl ⟨rfl, rfl⟩⟩, OwnB.nil _ _, Below.refl _ _⟩
  case round =>
    obtain ⟨k, xs, hk, hk8, rfl, hvals, hop, hob, hbel⟩ := hrel
    have hkn : k ≤ n := by have := HN.out; omega
    have HA := Bx.mk (And.intro hvals (And.intro hop (And.intro hob hbel)))
    clear hvals hop hob hbel hk
    by_cases hlt : k < n ∧ k < 8
    · obtain ⟨hkn', hk8'⟩ := hlt
      have t1 : (k : Int) < (n : Int) := by omega
      have t2 : (k : Int) < 8 := by omega
      obtain ⟨a', cap', hv', hr'⟩ := HV.out
      injection hv' with e1 e2 e3
      obtain ⟨p, o, ha, hcell⟩ := hr' (by omega)
      subst e1
      subst ha
      obtain ⟨x, hx, hxb⟩ := hcell k (by rw [HN.out]; exact hkn')
      have HXB := Bx.mk hxb
      have hcw : wr.cell? ⟨p, o + k, none⟩ = some x := by
        have hlt := World.block_lt_of_cell? _ _ hx
        rw [HA.out.2.2.2.cell (p := ⟨p, o + k, none⟩) hlt]
        exact hx
      obtain ⟨ax, cx, hxf, hxc, hxn⟩ := bytes_form hxb
      have HQl : Bx ((pss.getD k []).length ≤ 9223372036854775807) := Bx.mk (by
        have hm : pss.getD k [] ∈ pss := by
          have h : k < pss.length := by rw [HN.out]; exact hkn'
          rw [List.getD_eq_getElem?_getD, List.getElem?_eq_getElem h]
          exact List.getElem_mem h
        exact HP.out _ hm)
      have HSc : Bx ((pss.take (k + 1)).map (·.take 60) = (pss.take k).map (·.take 60) ++ [(pss.getD k []).take 60]) := Bx.mk (few_succQ pss k (by rw [HN.out]; exact hkn'))
      have HFl := Bx.mk (few_lenQ pss k)
      generalize pss.getD k [] = pk at *
      subst hxf
      obtain ⟨pl, hpl⟩ : ∃ pl, pk.length = pl := ⟨_, rfl⟩
      have HPL := Bx.mk hpl
      rw [hpl] at hcw hxc HQl
      have HXB2 : Bx (Bytes w (.slice ax pl cx) pk) := Bx.mk (by rw [← hpl]; exact HXB.out)
      obtain ⟨mm, hmm⟩ : ∃ mm, mm = min pl 60 := ⟨_, rfl⟩
      have m1 : (if (60 : Int) < (pl : Int) then (60 : Int) else (pl : Int)) = (mm : Int) := by split <;> omega
      have s1 := fun W => cut_bytes ax pl cx mm (by omega) (by omega) hxn W
      have HB2 : Bx (Bytes w (.slice ax mm cx) (pk.take 60)) := Bx.mk (by
        have h := HXB2.out.take mm (by omega)
        have e : pk.take mm = pk.take 60 := by
          rw [hmm, ← hpl, ← List.take_take, List.take_of_length_le (by rw [List.length_take]; omega)]
        rw [e] at h
        exact h)
      have hpl1 : (pl : Int) ≤ 9223372036854775807 := by have := HQl.out; omega
      clear hx hxb hcell hr' e2 e3 HXB hxc hxn hpl hmm HQl
      go_wp2
      go_quiet (fail)
      clear s1 m1 hpl1 hcw
      have HA2 : Bx (OwnP (wr.drewN nq) w.heap.size u4 xs ∧ OwnB (wr.drewN nq) w.heap.size u5 ((pss.take k).map (·.take 60)).flatten ∧ Below w.heap.size w (wr.drewN nq)) := Bx.mk ⟨HA.out.2.1, HA.out.2.2.1, below_drewN HA.out.2.2.2 _⟩
      have HVl := Bx.mk HA.out.1
      clear HA
      generalize wr.drewN nq = wq at *
      have HXl : Bx (xs.length ≤ 1000) := Bx.mk (by have := HVl.out.1; rw [List.length_map, List.length_take] at this; omega)
      go_wp2_with (first | (refine wpList_apP rfl _ _ rfl w.heap.size _ xs (by rfl) (HA2.out.1.a _) wq.heap.size (.slice ax mm cx) (by rfl) (hnew _ _ _ rfl) rfl HXl.out (Nat.le_trans HA2.out.2.2.size (below_a _).size) ?_; intro v1 w1 h1 g1; have H1 : Bx (OwnP w1 w.heap.size v1 (xs ++ [.slice ax mm cx]) ∧ OwnB w1 w.heap.size u5 ((pss.take k).map (·.take 60)).flatten ∧ Below w.heap.size w w1) := Bx.mk (few1 HA2.out h1 g1); clear h1 g1) | (refine wpList_ap rfl _ _ rfl w.heap.size _ ((pss.take k).map (·.take 60)).flatten (by rfl) H1.out.2.1 _ (pk.take 60) (by rfl) (HB2.out.later H1.out.2.2) (by have := HFl.out; rw [List.length_take]; omega) H1.out.2.2.size ?_; intro v2 w2 h1 g1 _; have H2 : Bx (OwnP w2 w.heap.size v1 (xs ++ [.slice ax mm cx]) ∧ OwnB w2 w.heap.size v2 ((pss.take (k + 1)).map (·.take 60)).flatten ∧ Below w.heap.size w w2) := Bx.mk (few2 H1.out (by rw [HSc.out, List.flatten_append, List.flatten_singleton]; exact h1) g1); clear h1 g1))
      go_roundw
      case rel => exact ⟨k + 1, xs ++ [.slice ax mm cx], by have := HN.out; omega, by omega, by go_num, by rw [HSc.out]; exact HVl.out.snoc HB2.out, H2.out⟩
      case measure => simp [intOf]; omega
    · have HE : Bx ((pss.take k).map (·.take 60) = cutQ pss) := Bx.mk (by
        unfold cutQ
        by_cases h : k = 8
        · rw [h]
        · have h1 : pss.length ≤ k := by rw [HN.out]; omega
          rw [List.take_of_length_le h1, List.take_of_length_le (by omega)])
      have HF : Bx (Vals w xs (cutQ pss) ∧ OwnP wr w.heap.size u4 xs ∧ OwnB wr w.heap.size u5 (cutQ pss).flatten ∧ Below w.heap.size w wr) := Bx.mk (by rw [← HE.out]; exact HA.out)
      clear HA HE
      by_cases h1 : k < n
      · have t1 : (k : Int) < (n : Int) := by omega
        have t2 : ¬ (k : Int) < 8 := by omega
        go_wp2
        go_ret2
        exact ⟨u4, u5, xs, rfl, HF.out⟩
      · have t1 : ¬ (k : Int) < (n : Int) := by omega
        go_wp2
        go_ret2
        exact ⟨u4, u5, xs, rfl, HF.out⟩
end Go.Proofs.YtkfgpnigeknhmaaDoor
