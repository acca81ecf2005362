/-
  What cuts bytes and parts, the example of the sixth layer, the document's Secret and Prove, tokens beside themselves.
-/
import Derived.Test.YtdionedinmkeiaaDoorQk
import Derived.Test.YtdionedinmkeiaaDoorQd
import Derived.Test.YtdionedinmkeiaaDoorQh
import Derived.Test.YtdionedinmkeiaaDoorCb
import Derived.Test.YtdionedinmkeiaaDoorQa
import Derived.Stop.BytesEq
import Derived.Laws.StructEq
namespace Go.Proofs.YtdionedinmkeiaaDoor
open Go Go.RowKit
/-- At most four parts, of at most 40 bytes. -/
def cut4 (pss : List (List UInt8)) : List (List UInt8) := (pss.take 4).map (·.take 40)
theorem cut4_len (pss : List (List UInt8)) : (cut4 pss).length ≤ 4 := by
  unfold cut4
  rw [List.length_map, List.length_take]
  omega
theorem cut4_each (pss : List (List UInt8)) : ∀ p ∈ cut4 pss, p.length ≤ 40 := by
  intro p hp
  unfold cut4 at hp
  obtain ⟨q, _, rfl⟩ := List.mem_map.1 hp
  simp only [List.length_take]
  omega
theorem few4_succ (pss : List (List UInt8)) (k : Nat) (h : k < pss.length) : (pss.take (k + 1)).map (·.take 40) = (pss.take k).map (·.take 40) ++ [(pss.getD k []).take 40] := by
  rw [List.take_succ_eq_append_getElem h, List.map_append]
  simp [h]
/-- What few hands back. -/
def Few4 (w : World) (pss : List (List UInt8)) (e : Ending) (w' : World) : Prop := ∃ vo xs, e = .returned vo ∧ Vals w xs (cut4 pss) ∧ OwnP w' w.heap.size vo xs ∧ Below w.heap.size w w'
def Few4Rel (w : World) (pss : List (List UInt8)) (o i : Value) (wr : World) : Prop :=
  ∃ k xs, k ≤ pss.length ∧ k ≤ 4 ∧ i = .int .i64 ((k : Nat) : Int) ∧ Vals w xs ((pss.take k).map (·.take 40)) ∧ OwnP wr w.heap.size o xs ∧ Below w.heap.size w wr
theorem parts_of {W : World} {vo : Value} {xs : List Value} {qs : List (List UInt8)} {b : Nat} (h : OwnP W b vo xs) (hv : Vals W xs qs) : Parts W vo qs := by
  rcases h.2 with ⟨hn, h0⟩ | ⟨g, cap, cur, hvo, _, hg, hc1, hc2, hc3, hc4⟩
  · have : qs = [] := List.length_eq_zero_iff.1 (by rw [← hv.1]; exact h0)
    subst this
    exact ⟨none, 0, hn, fun e => by simp at e⟩
  · refine ⟨_, cap, by rw [← hv.1]; exact hvo, fun _ => ⟨g, 0, rfl, fun j hj => ?_⟩⟩
    rw [← hv.1] at hj
    refine ⟨xs.getD j undef, ?_, hv.2 j hj⟩
    rw [cell_of_row _ _ _ _ _ _ hg, Nat.zero_add, ← Array.getElem?_toList]
    have h1 : (cur.toList.take (xs.length * 1))[j]? = xs[j]? := by rw [hc4]
    rw [List.getElem?_take_of_lt (by omega)] at h1
    rw [h1]
    simp [hj]
theorem mk_one : mkN [1] = 2 := by decide
theorem in_c : okC ⟨5, ((mkN [1] : Nat) : Int), 100, 1⟩ = true := by decide
end Go.Proofs.YtdionedinmkeiaaDoor
namespace Go.Proofs.YtdionedinmkeiaaDoor
open Go Go.RowKit
theorem row_rng {W : World} {g : Nat} {l : List Value} {t : TypeId} (h : W.heap[g]? = some (.cells l.toArray t (0, 0))) : W.rangeAt g 0 l := by
  intro j u hj
  show W.cell? ⟨g, 0 + j, none⟩ = some u
  rw [cell_of_row _ _ _ _ _ _ h, Nat.zero_add]
  simpa using hj
theorem partsR_one {W : World} {v : Value} {p : List UInt8} (h : Bytes W v p) (t : TypeId) : PartsR (W.alloc (.cells #[v] t)) (.slice (some ⟨W.heap.size, 0, none⟩) 1 1) [p] := by
  refine ⟨[v], .inr ⟨W.heap.size, 0, 1, rfl, fun j hj => ?_⟩, rfl, fun j hj => ?_⟩
  · obtain rfl : j = 0 := by simpa using hj
    rw [cell_of_row _ _ _ _ _ _ (hnew W _ _ rfl)]; rfl
  · obtain rfl : j = 0 := by simpa using hj
    exact h.later (below_a _)
set_option maxRecDepth 100000 in
set_option maxHeartbeats 1000000 in
theorem rsecret_any (tbl : List Value) (htb : u32s (kTab ++ hTab) = tbl.toArray) (key : List UInt8) (c : Cl) (vk : Value) (w : World) (hk : Bytes w vk key) (hkl : key.length ≤ 1000000) (hc : okC c = true) :
    Calls Tryd.prog 18 #[.agg tbl.toArray, vk, clV c] w fun e w' => e = .returned (.agg (u8s (secK key c))) ∧ Below w.heap.size w w' := by
  obtain ⟨z1, hz1⟩ : ∃ z, u8s (List.replicate 32 0) = z := ⟨_, rfl⟩
  have hz1v : ∀ W : World, (zeroValue 40).run Tryd.prog W = .ok (.agg z1) W := fun W => by rw [← hz1, zero32]; kernel_rfl
  have HZ1 := Bx.mk hz1
  have HK := Bx.mk hk
  have HTI : Bx ((Tryd.prog.info? 32).map (·.size) = some tbl.length) := Bx.mk (tbl_size3 htb)
  have HBy := Bx.mk fun (W : World) => rbytes_any c W hc
  have HDe := Bx.mk fun (W : World) (vp : Value) (h : Bytes W vk key) (hp : PartsR W vp [clB c]) => rderive_any tbl htb key tokL [clB c] vk vp W h hp hkl (by decide) (by simp) (by intro p hp; simp at hp; rw [hp, clB_length]; omega)
  have HE : Bx (secK key c = hmac key (frame [tokL, clB c])) := Bx.mk rfl
  have HL : Bx ((secK key c).length = 32) := Bx.mk (secK_length _ _)
  rw [← HE.out] at HDe
  generalize secK key c = sk at *
  have HI : Bx ((Tryd.prog.info? 40).map (·.size) = some (u8s sk).size ∧ (u8s sk).size = z1.size) := Bx.mk ⟨by rw [u8s_size, HL.out]; kernel_rfl, by rw [← HZ1.out, u8s_size, u8s_size, HL.out]; rfl⟩
  obtain ⟨a, cap, rfl, -⟩ := hk
  obtain ⟨n, hn⟩ : ∃ n, key.length = n := ⟨_, rfl⟩
  rw [hn] at HK HDe ⊢
  clear hz1 htb hkl hc HE hn
  have HCB : Bx ((clB c).length = 9) := Bx.mk (clB_length _)
  generalize clB c = cb at *
  obtain ⟨i, r, x, q⟩ := c
  unfold clV at HBy ⊢
  simp only at HBy ⊢
  obtain ⟨B, hB⟩ : ∃ B, w.heap.size = B := ⟨_, rfl⟩
  have H0 := Bx.mk (And.intro ((((KS.start w B hB).new (.cells tbl.toArray 32)).new (.cells #[.int .i64 i, .int .i64 r, .int .i64 x, .int .i64 q] 24)).new (.cells z1 40)) True.intro)
  rw [alloc_size, alloc_size, hB] at H0
  have HB := Bx.mk hB
  rw [hB]
  go_enter Tryd.func18, Tryd.ntmps18
  go_upto_region 1 with fail
  generalize ((w.alloc (.cells tbl.toArray 32)).alloc (.cells #[.int .i64 i, .int .i64 r, .int .i64 x, .int .i64 q] 24)).alloc (.cells z1 40) = w0 at *
  have B0 := Bx.mk (And.intro H0.out.1.drew (HK.out.later (by rw [HB.out]; exact H0.out.1.below.drew)))
  clear H0
  refine wp_region_noPanic ?_
  refine wp_region_held_drew (S := fun W => W.rangeAt B 0 tbl ∧ W.rangeAt (B + 1) 0 [.int .i64 i, .int .i64 r, .int .i64 x, .int .i64 q]) (by kernel_rfl) (⟨row_rng (B0.out.1.rows _ (.tail _ (.tail _ (.head _)))), row_rng (l := [.int .i64 i, .int .i64 r, .int .i64 x, .int .i64 q]) (B0.out.1.rows _ (.tail _ (.head _)))⟩) (fun hHeld => ?_)
  generalize w0.drew = W0 at *
  refine takeL 0 rfl (by kernel_rfl) (by kernel_rfl) (by kernel_rfl) (fun _ _ _ h => h) (yieldsIf_load_mid (by rfl) _ _ rfl _ _ rfl _ _ (fun w hSw => hSw.1) Tryd.underlying32 rfl HTI.out) hHeld ?_
  try simp only [Act.put, List.setIfInBounds_toArray, List.set_cons_zero, List.set_cons_succ]
  refine takeL 1 (v := ?_) rfl (by kernel_rfl) (by kernel_rfl) (by kernel_rfl) (fun _ _ _ h => h) (Or.inl ⟨by rfl, ?_⟩) hHeld ?_
  rotate_left 1
  · (intro w hSw; go_simp; try with_reducible rfl)
  try simp only [Act.put, List.setIfInBounds_toArray, List.set_cons_zero, List.set_cons_succ]
  refine takeL 2 rfl (by kernel_rfl) (by kernel_rfl) (by kernel_rfl) (fun _ _ _ h => h) (yieldsIf_load_mid (by rfl) _ _ rfl _ _ rfl _ _ (fun w hSw => hSw.2) Tryd.underlying24 rfl (by kernel_rfl)) hHeld ?_
  try simp only [Act.put, List.setIfInBounds_toArray, List.set_cons_zero, List.set_cons_succ]
  refine stepL 3 (by kernel_rfl) rfl (fun K hK => ?_)
  go_simp
  refine (HBy.out W0).mono ?_
  rintro e W1 ⟨v1, rfl, ho1, hb1⟩
  show K _ _
  have B1 := Bx.mk (And.intro (B0.out.1.later hb1) (And.intro (B0.out.2.later hb1) ho1.bytes))
  obtain ⟨a1, c1, hv1, -⟩ := ho1.bytes
  subst hv1
  rw [HCB.out] at B1
  clear ho1 hb1 B0
  rw [HCB.out]
  refine hK.out _ _ ⟨row_rng (B1.out.1.rows _ (.tail _ (.tail _ (.head _)))), row_rng (l := [.int .i64 i, .int .i64 r, .int .i64 x, .int .i64 q]) (B1.out.1.rows _ (.tail _ (.head _)))⟩ (fun hHeld => ?_)
  clear hK K
  try simp only [Act.put, List.setIfInBounds_toArray, List.set_cons_zero, List.set_cons_succ]
  refine stepL 4 (by kernel_rfl) rfl (fun K hK => ?_)
  go_simp
  show K _ _
  have B2 := Bx.mk (And.intro (B1.out.1.alloc (.cells #[.slice a1 9 c1] 22)) (And.intro (B1.out.2.1.later (below_a (.cells #[.slice a1 9 c1] 22))) (partsR_one B1.out.2.2 22)))
  clear B1
  refine hK.out _ _ ⟨row_rng (B2.out.1.rows _ (.tail _ (.tail _ (.head _)))), row_rng (l := [.int .i64 i, .int .i64 r, .int .i64 x, .int .i64 q]) (B2.out.1.rows _ (.tail _ (.head _)))⟩ (fun hHeld => ?_)
  clear hK K
  try simp only [Act.put, List.setIfInBounds_toArray, List.set_cons_zero, List.set_cons_succ]
  generalize W1.alloc (.cells #[.slice a1 9 c1] 22) = W2 at *
  generalize W1.heap.size = D1 at *
  refine stepL 5 (by kernel_rfl) rfl (fun K hK => ?_)
  go_simp
  refine (HDe.out W2 _ B2.out.2.1 B2.out.2.2).mono ?_
  rintro e W3 ⟨rfl, hb3⟩
  show K _ _
  have B3 := Bx.mk (And.intro (B2.out.1.later hb3) True.intro)
  clear hb3 B2
  refine hK.out _ _ ⟨row_rng (B3.out.1.rows _ (.tail _ (.tail _ (.head _)))), row_rng (l := [.int .i64 i, .int .i64 r, .int .i64 x, .int .i64 q]) (B3.out.1.rows _ (.tail _ (.head _)))⟩ (fun hHeld => ?_)
  clear hK K
  try simp only [Act.put, List.setIfInBounds_toArray, List.set_cons_zero, List.set_cons_succ]
  refine stepL 6 (by kernel_rfl) rfl (fun K hK => ?_)
  refine step_st rfl 40 _ _ rfl (B + 1 + 1) (u8s sk) (by rfl) (by rfl) (there_row (B3.out.1.rows _ (.head _)) 0 _ (by rw [HI.out.2]; omega)) HI.out.1 (one_u8s _) ?_
  have hr2 := heap_setCells_all (ds := u8s sk) (B3.out.1.rows _ (.head _)) HI.out.2
  have B4 := Bx.mk (And.intro (B3.out.1.set (kb_setCells (u8s sk).toList 0 W3) hr2 (by omega) (by intro y hy; simp at hy; rcases hy with rfl | rfl <;> (simp only; omega))) True.intro)
  clear hr2 B3
  refine hK.out _ _ ⟨row_rng (B4.out.1.rows _ (.tail _ (.tail _ (.head _)))), row_rng (l := [.int .i64 i, .int .i64 r, .int .i64 x, .int .i64 q]) (B4.out.1.rows _ (.tail _ (.head _)))⟩ (fun hHeld => ?_)
  clear hK K
  try simp only [Act.put]
  refine wpAnyH_done (by kernel_rfl) ?_ _
  refine NoPanic.normal ?_
  clear hHeld
  try go_wp2
  refine bodyPost_ret (results_cell_row rfl _ _ (B + 1 + 1) _ (u8s sk) _ _ rfl (B4.out.1.rows _ (.head _)) Tryd.underlying40 rfl HI.out.1) rfl ?_
  exact ⟨rfl, B4.out.1.below⟩
end Go.Proofs.YtdionedinmkeiaaDoor
namespace Go.Proofs.YtdionedinmkeiaaDoor
open Go Go.RowKit
theorem self_cl (d : Nat) (T : TypeId) (hT : T = 37 ∨ T = 24) (c : Cl) (W : World) : (Op.equalIn (d + 2) T (.agg (clC c)) (.agg (clC c))).run Tryd.prog W = .ok true W := by
  unfold clC
  rcases hT with rfl | rfl
  · go_simp
  · go_simp
theorem self_cl_eql (T : TypeId) (hT : T = 37 ∨ T = 24) (c : Cl) (W : World) : (binOp .eql T (.agg (clC c)) (.agg (clC c))).run Tryd.prog W = .ok (.bool true) W := by
  rw [run_eql_struct, self_cl 9998 T hT c W]
  rfl
theorem self_cl_neq (T : TypeId) (hT : T = 37 ∨ T = 24) (c : Cl) (W : World) : (binOp .neq T (.agg (clC c)) (.agg (clC c))).run Tryd.prog W = .ok (.bool false) W := by
  rw [run_neq_struct, self_cl 9998 T hT c W]
  rfl
theorem sec_size1 (W : World) : (sizeOf 5).run Tryd.prog W = .ok 1 W := by kernel_rfl
theorem sec_eql (l m : List UInt8) (hl : l.length = 32) (hm : m.length = 32) (W : World) : (binOp .eql 40 (.agg (u8s l)) (.agg (u8s m))).run Tryd.prog W = .ok (.bool (l == m)) W := by
  rw [u8s_cell, u8s_cell]
  exact Go.run_eql_bytes W 40 5 32 Tryd.underlying40 Tryd.underlying5 sec_size1 l m hl hm
theorem tk_left (c : Cl) (s : List UInt8) : (tkC c s).extract 0 4 = clC c := by
  apply Array.ext'
  rw [Array.toList_extract, tkC_list]
  simp [List.extract, clC]
theorem tk_right (c : Cl) (s : List UInt8) (h : s.length = 32) : (tkC c s).extract 4 36 = u8s s := by
  have h32 : (u8s s).toList.length = 32 := by rw [Array.length_toList, u8s_size, h]
  apply Array.ext'
  rw [Array.toList_extract, tkC_list, List.extract]
  rw [List.drop_append_of_le_length (by simp [clC])]
  rw [show List.drop 4 (clC c).toList = [] from rfl, List.nil_append, List.take_of_length_le (by rw [h32]; omega)]
theorem part_cl (c : Cl) (s : List UInt8) (W : World) : (part 37 (tkC c s) 0).run Tryd.prog W = .ok (.agg (clC c)) W := by
  have h1 : (isAgg 37).run Tryd.prog W = .ok true W := by kernel_rfl
  have h2 : (sizeOf 37).run Tryd.prog W = .ok 4 W := by kernel_rfl
  unfold part
  simp only [Sem.run_bind, h1, Result.andThen_ok, if_true, h2, Sem.run_pure, Nat.zero_add, tk_left]
theorem part_sec (c : Cl) (s : List UInt8) (h : s.length = 32) (W : World) : (part 40 (tkC c s) 4).run Tryd.prog W = .ok (.agg (u8s s)) W := by
  have h1 : (isAgg 40).run Tryd.prog W = .ok true W := by kernel_rfl
  have h2 : (sizeOf 40).run Tryd.prog W = .ok 32 W := by kernel_rfl
  unfold part
  simp only [Sem.run_bind, h1, Result.andThen_ok, if_true, h2, Sem.run_pure]
  rw [show 4 + 32 = 36 from rfl, tk_right c s h]
theorem tk_fields : ∃ f g : Field, (Tryd.prog.fieldsOf 53).toList = [f, g] ∧ f.name ≠ "_" ∧ f.type = 37 ∧ f.offset = 0 ∧ g.name ≠ "_" ∧ g.type = 40 ∧ g.offset = 4 :=
  ⟨(Tryd.prog.fieldsOf 53).toList.getD 0 default, (Tryd.prog.fieldsOf 53).toList.getD 1 default, by kernel_rfl, of_decide_eq_true (by kernel_rfl), by kernel_rfl, by kernel_rfl, of_decide_eq_true (by kernel_rfl), by kernel_rfl, by kernel_rfl⟩
theorem self_tk (c : Cl) (s : List UInt8) (h : s.length = 32) (W : World) : (Op.equalIn 10000 53 (.agg (tkC c s)) (.agg (tkC c s))).run Tryd.prog W = .ok true W := by
  rw [run_equalIn_struct W 9999 53 _ _ (by kernel_rfl) (by kernel_rfl)]
  obtain ⟨f, g, hf, n1, t1, o1, n2, t2, o2⟩ := tk_fields
  have e1 := self_cl 9997 37 (.inl rfl) c W
  have e2 := Go.run_equalIn_bytes (P := Tryd.prog) W 9997 40 5 32 Tryd.underlying40 Tryd.underlying5 sec_size1 s s h h
  rw [← u8s_cell] at e2
  rw [hf]
  simp only [Op.eqFields, n1, n2, ne_eq, not_false_eq_true, if_true, t1, o1, t2, o2, Sem.run_bind, part_cl, part_sec c s h, Result.andThen_ok, e1, e2, Bool.not_true, Bool.false_eq_true, if_false, beq_self_eq_true, Sem.run_pure]
theorem self_tk_eql (c : Cl) (s : List UInt8) (h : s.length = 32) (W : World) : (binOp .eql 53 (.agg (tkC c s)) (.agg (tkC c s))).run Tryd.prog W = .ok (.bool true) W := by
  rw [run_eql_struct, self_tk c s h W]
  rfl
theorem self_tk_neq (c : Cl) (s : List UInt8) (h : s.length = 32) (W : World) : (binOp .neq 53 (.agg (tkC c s)) (.agg (tkC c s))).run Tryd.prog W = .ok (.bool false) W := by
  rw [run_neq_struct, self_tk c s h W]
  rfl
end Go.Proofs.YtdionedinmkeiaaDoor
namespace Go.Proofs.YtdionedinmkeiaaDoor
open Go Go.RowKit
/-- A load of a whole array, where its guard is decided. -/
theorem wpList_load_roww {P : Program} {ops : Array Oper} {rest : List Oper} {o : Oper} {a : Act} {w : World} {Q : Exit → Act → World → Prop} (hw : Region.wanted o (yielded ops a.tmps) = true) (ty : TypeId) (x : Operand) (ho : o.op = .load ty x)
    (g : Nat) (hx : a.eval x = .pointer (some ⟨g, 0, none⟩)) (t : TypeId) (cs : Array Value) (fr : Nat × Nat) (d : TypeDesc) (hg : w.heap[g]? = some (.cells cs t fr))
    (hu : P.underlying ty = some d) (hd : (match d with | .struct _ | .array _ _ => true | _ => false) = true) (hi : (P.info? ty).map (·.size) = some cs.size)
    (h : wpList P ops Q rest (a.put o.dst (.agg cs)) w) : wpList P ops Q (o :: rest) a w := by
  refine wpList_step fun K hK => ?_
  rw [if_pos hw]
  exact wp_load_row ty x ho g hx t cs fr d hg hu hd hi (hK _ _ h)
/-- A build, where its guard is decided. -/
theorem wpList_buildw {P : Program} {ops : Array Oper} {rest : List Oper} {o : Oper} {a : Act} {w : World} {Q : Exit → Act → World → Prop} (hw : Region.wanted o (yielded ops a.tmps) = true) (t : TypeId) (parts : Array (Nat × Operand)) (ho : o.op = .build t parts)
    (cells : Array Value) (hf : P.built t (parts.map fun (i, x) => (i, a.eval x)).toList = some cells)
    (h : wpList P ops Q rest (a.put o.dst (.agg cells)) w) : wpList P ops Q (o :: rest) a w := by
  refine wpList_step fun K hK => ?_
  rw [if_pos hw]
  refine wp_build t parts ho (by rw [hf]; rfl) ?_
  rw [hf]
  exact hK _ _ h
end Go.Proofs.YtdionedinmkeiaaDoor
