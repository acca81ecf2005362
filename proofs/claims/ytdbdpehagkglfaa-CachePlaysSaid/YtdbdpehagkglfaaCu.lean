/-
  What many texts want: bytes, rows that a call owns, frames.
-/
import Derived.Laws.BitsAllLaws
import Derived.IntWalk
import Derived.Laws.Rows
import Derived.Below
import Derived.WalkKit
import Derived.ProofKit
import Derived.Handy
import Derived.PlainAid
import Derived.WalkLawsBesides
import Derived.Outline
import Derived.BigQuiet
import Derived.Deep.QuietTactic
import Derived.Lib.Hide
import Derived.Deep.MidRow
import Derived.Deep.RegionHeld3
import Derived.Deep.Cut
import Derived.Laws.MakeOwn
import Derived.Laws.CopyOwn
import Derived.Maps.AppendAt
import Derived.Laws.AppendOwnNone
import Derived.Lib.BufferRead
import Derived.Laws.IdiomStrings
import Derived.RegionTactic
import Derived.Control
import Derived.Deep.LoopGhost
import Derived.StillTailTactics
import Derived.Stop.BytesEq
import Derived.OwnWalk
import Derived.Lib.SlBytesConst
import Derived.WalkMore
import Derived.ChangeKeysEq
import Derived.OpenShut
import Derived.ShutString
import Derived.ChangeOld
import Derived.Deep.DeepHandedRow
import Derived.Lib.LaidTab
import Derived.Deep.Matrix
import Derived.Test.YtdbdpehagkglfaaProg
import Derived.Test.YtdbdpehagkglfaaRows
import Derived.Deep.Slices
namespace Go.Proofs.Ytdbdpehagkglfaa
open Go Go.RowKit Go.ChangeShapes Go.WideShapes Go.ChangeAt
/-- A fact that is put away: the walk sees nothing of it. -/
structure Bx (p : Prop) : Prop where
  out : p
/-- A byte as the model's integer. -/
def ub (b : UInt8) : Int := (b.toNat : Int)
theorem ub_inj {x y : UInt8} (h : ub x = ub y) : x = y := by unfold ub at h; exact UInt8.toNat_inj.mp (by omega)
/-- Bytes as cells. -/
def u8s (l : List UInt8) : Array Value := (l.map fun x => Value.int .u8 (ub x)).toArray
theorem u8s_get (l : List UInt8) (i : Nat) (h : i < l.length) : (u8s l)[i]? = some (.int .u8 (ub (l.getD i 0))) := by
  simp [u8s, h]
theorem u8s_size (l : List UInt8) : (u8s l).size = l.length := by simp [u8s]
theorem hold (w : World) (o : Obj) (i : Nat) (h : i < w.heap.size) : (w.alloc o).heap[i]? = w.heap[i]? := by
  show (w.heap.push o)[i]? = w.heap[i]?
  rw [Array.getElem?_push, if_neg (Nat.ne_of_lt h)]
theorem hnew (w : World) (o : Obj) (i : Nat) (h : i = w.heap.size) : (w.alloc o).heap[i]? = some o := by
  subst h
  show (w.heap.push o)[w.heap.size]? = some o
  simp
theorem below_setCells {B b : Nat} (hb : B ≤ b) : ∀ (vs : List Value) (o : Nat) (a w : World), Below B a w → Below B a (w.setCells b o vs)
  | [], _, _, _, h => h
  | v :: vs, o, a, w, h => below_setCells hb vs (o + 1) a (w.setCell ⟨b, o, none⟩ v) (h.setCell hb v)
/-- Values written one behind the other into an array. -/
def spl (cs : Array Value) (o : Nat) : List Value → Array Value
  | [] => cs
  | v :: vs => spl (cs.setIfInBounds o v) (o + 1) vs
theorem heap_setCells_same (b : Nat) (t : TypeId) : ∀ (vs : List Value) (o : Nat) (w : World) (cs : Array Value), w.heap[b]? = some (.cells cs t (0, 0)) → (w.setCells b o vs).heap[b]? = some (.cells (spl cs o vs) t (0, 0))
  | [], _, _, _, h => h
  | v :: vs, o, w, cs, h => heap_setCells_same b t vs (o + 1) (w.setCell ⟨b, o, none⟩ v) (cs.setIfInBounds o v) (heap_setCell_same w b o cs t v h)
theorem one_u8s (l : List UInt8) : (u8s l).all (·.oneCell') = true := by
  simp [u8s, Value.oneCell']
theorem kb_refl (b : Nat) (w : World) : w.grownBy w (some b) := ⟨rfl, rfl, rfl, Nat.le_refl _, fun _ _ _ => rfl⟩
theorem kb_trans {b : Option Nat} {w w1 w2 : World} (h : w.grownBy w1 b) (k : w1.grownBy w2 b) : w.grownBy w2 b :=
  ⟨k.os.trans h.os, k.tape.trans h.tape, k.output.trans h.output, Nat.le_trans h.size k.size, fun i hi hne => (k.block i (Nat.lt_of_lt_of_le hi h.size) hne).trans (h.block i hi hne)⟩
theorem kb_below {w w1 : World} (b : Option Nat) (h : Below w.heap.size w w1) : w.grownBy w1 b := ⟨h.os, h.tape, h.output, h.size, fun i hi _ => h.block i hi⟩
theorem kb_drewN (b : Option Nat) (w : World) (n : Nat) : w.grownBy (w.drewN n) b := ⟨rfl, rfl, rfl, Nat.le_refl _, fun _ _ _ => rfl⟩
theorem kb_setCell {b : Nat} (w : World) (o : Nat) (v : Value) : w.grownBy (w.setCell ⟨b, o, none⟩ v) (some b) :=
  ⟨rfl, rfl, rfl, by simp, fun i _ hne => heap_setCell_other w ⟨b, o, none⟩ i v (fun e => hne (by rw [e]))⟩
theorem kb_setCells {b : Nat} : ∀ (vs : List Value) (o : Nat) (w : World), w.grownBy (w.setCells b o vs) (some b)
  | [], _, w => kb_refl b w
  | v :: vs, o, w => kb_trans (kb_setCell w o v) (kb_setCells vs (o + 1) (w.setCell ⟨b, o, none⟩ v))
/-- Bytes behind a slice whose block isn't b. -/
def BytesAt (w : World) (b : Nat) (v : Value) (ps : List UInt8) : Prop :=
  ∃ a cap, v = .slice a ps.length cap ∧ ps.length ≤ cap ∧ (0 < ps.length → ∃ c o, c ≠ b ∧ a = some ⟨c, o, none⟩ ∧ ∀ j, j < ps.length → w.cell? ⟨c, o + j, none⟩ = some (.int .u8 (ub (ps.getD j 0))))
theorem BytesAt.later {w w1 : World} {b : Nat} {v : Value} {ps : List UInt8} (h : BytesAt w b v ps) (hk : w.grownBy w1 (some b)) : BytesAt w1 b v ps := by
  obtain ⟨a, cap, hv, hc, hr⟩ := h
  refine ⟨a, cap, hv, hc, fun hp => ?_⟩
  obtain ⟨c, o, hne, ha, hcell⟩ := hr hp
  refine ⟨c, o, hne, ha, fun j hj => ?_⟩
  exact hk.cell (hcell j hj) (by simpa using hne)
/-- Parts behind a slice of slices, none of them in block b. -/
def PartsAt (w : World) (b : Nat) (v : Value) (pss : List (List UInt8)) : Prop :=
  ∃ a cap, v = .slice a pss.length cap ∧ (0 < pss.length → ∃ p o, p ≠ b ∧ a = some ⟨p, o, none⟩ ∧ ∀ j, j < pss.length → ∃ x, w.cell? ⟨p, o + j, none⟩ = some x ∧ BytesAt w b x (pss.getD j []))
theorem PartsAt.later {w w1 : World} {b : Nat} {v : Value} {pss : List (List UInt8)} (h : PartsAt w b v pss) (hk : w.grownBy w1 (some b)) : PartsAt w1 b v pss := by
  obtain ⟨a, cap, hv, hr⟩ := h
  refine ⟨a, cap, hv, fun hp => ?_⟩
  obtain ⟨p, o, hne, ha, hcell⟩ := hr hp
  refine ⟨p, o, hne, ha, fun j hj => ?_⟩
  obtain ⟨x, hx, hb⟩ := hcell j hj
  exact ⟨x, hk.cell hx (by simpa using hne), hb.later hk⟩
/-- Bytes behind a slice. -/
def Bytes (w : World) (v : Value) (ps : List UInt8) : Prop :=
  ∃ a cap, v = .slice a ps.length cap ∧ ps.length ≤ cap ∧ (a = none → cap = 0) ∧ (0 < ps.length → ∃ c o, a = some ⟨c, o, none⟩ ∧ ∀ j, j < ps.length → w.cell? ⟨c, o + j, none⟩ = some (.int .u8 (ub (ps.getD j 0))))
theorem Bytes.at_ {w : World} {v : Value} {ps : List UInt8} (h : Bytes w v ps) (b : Nat) (hb : w.heap.size ≤ b) : BytesAt w b v ps := by
  obtain ⟨a, cap, hv, hc, _, hr⟩ := h
  refine ⟨a, cap, hv, hc, fun hp => ?_⟩
  obtain ⟨c, o, ha, hcell⟩ := hr hp
  have := World.block_lt_of_cell? _ _ (hcell 0 hp)
  exact ⟨c, o, by simp only at this; omega, ha, hcell⟩
theorem Bytes.later {w w1 : World} {v : Value} {ps : List UInt8} (h : Bytes w v ps) (hb : Below w.heap.size w w1) : Bytes w1 v ps := by
  obtain ⟨a, cap, hv, hc, hn, hr⟩ := h
  refine ⟨a, cap, hv, hc, hn, fun hp => ?_⟩
  obtain ⟨c, o, ha, hcell⟩ := hr hp
  refine ⟨c, o, ha, fun j hj => ?_⟩
  have := World.block_lt_of_cell? _ _ (hcell j hj)
  rw [hb.cell (p := ⟨c, o + j, none⟩) this]
  exact hcell j hj
/-- Bytes in a row that the call owns. -/
def OwnB (w : World) (base : Nat) (v : Value) (l : List UInt8) : Prop := w.ownsRow base 5 1 v l.length (u8s l).toList
theorem OwnB.bytes {w : World} {base : Nat} {v : Value} {l : List UInt8} (h : OwnB w base v l) : Bytes w v l := by
  rcases h.2 with ⟨rfl, h0⟩ | ⟨g, cap, cur, rfl, hb, hg, hn, hm, hs, hc⟩
  · refine ⟨none, 0, by rw [h0], by omega, fun _ => rfl, fun hp => by omega⟩
  · refine ⟨_, cap, rfl, hn, (fun hx => by cases hx), fun _ => ⟨g, 0, rfl, fun j hj => ?_⟩⟩
    rw [cell_of_row _ _ _ _ _ _ hg, Nat.zero_add, ← Array.getElem?_toList]
    have h1 : (cur.toList.take (l.length * 1))[j]? = (u8s l).toList[j]? := by rw [hc]
    rw [List.getElem?_take, if_pos (by omega), Array.getElem?_toList (xs := u8s l), u8s_get l j hj] at h1
    exact h1
theorem OwnB.later {w w1 : World} {base B : Nat} {v : Value} {l : List UInt8} (h : OwnB w base v l) (hb : Below B w w1) (hB : ∀ g, v.ownBlock = some g → g < B) : OwnB w1 base v l := by
  refine ⟨h.1, ?_⟩
  rcases h.2 with h0 | ⟨g, cap, cur, hv, hb', hg, hr⟩
  · exact .inl h0
  · refine .inr ⟨g, cap, cur, hv, hb', ?_, hr⟩
    rw [hb.block g (hB g (by rw [hv]; rfl))]
    exact hg
theorem OwnB.lt {w : World} {base : Nat} {v : Value} {l : List UInt8} (h : OwnB w base v l) : ∀ g, v.ownBlock = some g → g < w.heap.size ∧ base ≤ g := by
  intro g hg
  rcases h.2 with ⟨rfl, _⟩ | ⟨g', cap, cur, rfl, hb, hh, _⟩
  · cases hg
  · injection hg with hg
    subst hg
    exact ⟨(Array.getElem?_eq_some_iff.1 hh).1, hb⟩
theorem OwnB.nil (w : World) (base : Nat) : OwnB w base (.slice none 0 0) [] := ⟨rfl, .inl ⟨rfl, rfl⟩⟩
theorem own_below {w w1 : World} {base : Nat} {v : Value} {l : List UInt8} (h : OwnB w base v l) (hg : w.grownBy w1 v.ownBlock) (hb : base ≤ w.heap.size) : Below base w w1 :=
  ⟨hg.os, hg.tape, hg.output, hg.size, fun i hi => hg.block i (by omega) (fun e => by have := (h.lt i e.symm).2; omega)⟩
set_option maxRecDepth 100000 in
theorem run_ap (w : World) (base : Nat) (v : Value) (l : List UInt8) (hown : OwnB w base v l) (x : Value) (ps : List UInt8) (hx : Bytes w x ps) (hn : l.length + ps.length ≤ 140737488355328) (hbase : base ≤ w.heap.size) (ty : TypeId) :
    ∃ v' w', (Builtin.append_ #[30, 30] ty #[v, x]).run Try.prog w = .ok v' w' ∧ OwnB w' base v' (l ++ ps) ∧ w.grownBy w' v.ownBlock ∧ (v'.ownBlock = v.ownBlock ∨ v'.ownBlock = some w.heap.size) := by
  have hi : Try.prog.info? 5 = some ((Try.prog.info? 5).getD default) := by kernel_rfl
  obtain ⟨a, cap, rfl, hc, hnone, hr⟩ := hx
  rcases a with _ | ad
  · have h0 : ps = [] := by have := hnone rfl; exact List.eq_nil_of_length_eq_zero (by omega)
    have hz := hnone rfl
    subst h0
    subst hz
    refine ⟨v, w, ?_, by rw [List.append_nil]; exact hown, World.grownBy.refl w _, .inl rfl⟩
    exact run_append_owned_none (P := Try.prog) (w := w) base 30 ty 5 _ 1 Try.underlying30 hi v l.length _ hown
  · have hnews : ∀ j u, (u8s ps).toList[j]? = some u → w.cell? (ad.add j) = some u := by
      intro j u hu
      have hj : j < ps.length := by have := (List.getElem?_eq_some_iff.1 hu).1; simpa [u8s_size] using this
      obtain ⟨c, o, ha, hcell⟩ := hr (by omega)
      injection ha with ha
      subst ha
      rw [Array.getElem?_toList, u8s_get ps j hj] at hu
      rw [show (⟨c, o, none⟩ : Addr).add j = ⟨c, o + j, none⟩ by unfold Addr.add; split <;> simp_all, hcell j hj]
      exact hu
    obtain ⟨v', w', hrun, h2, h3, _, h5⟩ := run_append_own_at (P := Try.prog) w base 30 ty 5 _ (.int .u8 0) 1 1 Try.underlying30 hi (by kernel_rfl) (by kernel_rfl) (by kernel_rfl) rfl (by omega) v l.length _ hown ad ps.length cap (u8s ps).toList (by rw [Array.length_toList, u8s_size]; omega) hnews
      (fun u hu => (Array.all_eq_true'.1 (one_u8s ps)) u (by simpa using hu)) (by simp only [maxLen]; omega) (by omega) hbase
    refine ⟨v', w', hrun, ?_, h3, h5⟩
    unfold OwnB
    rw [List.length_append]
    have e : (u8s (l ++ ps)).toList = (u8s l).toList ++ (u8s ps).toList := by simp [u8s]
    rw [e]
    exact h2
/-- At the list of a plain region's operations. -/
theorem wpList_ap {w : World} {ops : Array Oper} {rest : List Oper} {o : Oper} {a : Act} {Q : Exit → Act → World → Prop} (hgd : o.guard = none) (s x : Operand)
    (ho : o.op = .call { callee := .builtin .append, args := #[s, x], argTypes := #[30, 30] }) (base : Nat) (v : Value) (l : List UInt8) (hs : a.eval s = v) (hown : OwnB w base v l) (xv : Value) (ps : List UInt8) (hx : a.eval x = xv) (hb : Bytes w xv ps)
    (hn : l.length + ps.length ≤ 140737488355328) (hbase : base ≤ w.heap.size)
    (h : ∀ v' w', OwnB w' base v' (l ++ ps) → w.grownBy w' v.ownBlock → (v'.ownBlock = v.ownBlock ∨ v'.ownBlock = some w.heap.size) → wpList Try.prog ops Q rest (a.put o.dst v') w') : wpList Try.prog ops Q (o :: rest) a w := by
  refine wpList_plain hgd fun K hK => ?_
  obtain ⟨v', w', hrun, h1, h2, h3⟩ := run_ap w base v l hown xv ps hb hn hbase o.type
  unfold Oper.wp
  simp [execOp, ho, resolve, invoke, builtin, hs, hx, hrun, Result.andThen]
  exact hK _ _ (h v' w' h1 h2 h3)
theorem built (W : World) (ps : List UInt8) : Bytes (W.alloc (.cells (u8s ps) 5)) (.slice (some ⟨W.heap.size, 0, none⟩) ps.length ps.length) ps :=
  ⟨_, _, rfl, Nat.le_refl _, (fun h => by cases h), fun _ => ⟨W.heap.size, 0, rfl, fun j hj => by
    rw [cell_of_row _ _ _ _ _ _ (hnew W _ _ rfl), Nat.zero_add]; exact u8s_get _ _ hj⟩⟩
theorem Bytes.cell {w : World} {ps : List UInt8} {a : Option Addr} {n cap : Nat} (h : Bytes w (.slice a n cap) ps) (k : Nat) (hk : k < n) : ∃ c o, a = some ⟨c, o, none⟩ ∧ w.cell? ⟨c, o + k, none⟩ = some (.int .u8 (ub (ps.getD k 0))) := by
  obtain ⟨a', cap', hv, hc, hn, hr⟩ := h
  injection hv with e1 e2 e3
  subst e1
  obtain ⟨c, o, ha, hcell⟩ := hr (by omega)
  exact ⟨c, o, ha, hcell k (by omega)⟩
theorem ext_getD {a b : List UInt8} (hl : a.length = b.length) (h : ∀ i, i < a.length → a.getD i 0 = b.getD i 0) : a = b := by
  apply List.ext_getElem hl
  intro i h1 h2
  have := h i h1
  simpa [h1, h2] using this
set_option maxRecDepth 100000 in
theorem same_any (xs bs : List UInt8) (va vb : Value) (w : World) (ha : Bytes w va xs) (hb : Bytes w vb bs) (hl : xs.length ≤ 140737488355328) (hl2 : bs.length ≤ 140737488355328) :
    Calls Try.prog 46 #[va, vb] w fun e w' => e = .returned (.bool (decide (xs = bs))) ∧ ∃ n, w' = w.drewN n := by
  have HA := Bx.mk ha
  have HB := Bx.mk hb
  obtain ⟨a, cap, rfl, -⟩ := ha
  obtain ⟨b, cap2, rfl, -⟩ := hb
  obtain ⟨n, hn⟩ : ∃ n, xs.length = n := ⟨_, rfl⟩
  obtain ⟨m, hm⟩ : ∃ m, bs.length = m := ⟨_, rfl⟩
  have HN := Bx.mk hn
  have HM := Bx.mk hm
  rw [hn] at hl HA ⊢
  rw [hm] at hl2 HB ⊢
  clear hn hm
  have hl1 : (n : Int) ≤ 140737488355328 := by omega
  by_cases hne : n = m
  · subst hne
    obtain ⟨r, hr⟩ : ∃ r, decide (xs = bs) = r := ⟨_, rfl⟩
    have HR := Bx.mk hr
    rw [hr]
    clear hr hl hl2
    have e0 : ((n : Int) != (n : Int)) = false := by simp
    go_enter Try.func46, Try.ntmps46
    go_wp2
    go_loopw [5] (fun i wr => ∃ k q : Nat, k ≤ n ∧ i = .int .i64 k ∧ Bx (∀ j, j < k → xs.getD j 0 = bs.getD j 0) ∧ wr = w.drewN q) (fun i _ => n - (intOf i).toNat)
    case atStart => exact ⟨0, 0, Nat.zero_le _, rfl, Bx.mk (fun j hj => by omega), rfl⟩
    case round =>
      obtain ⟨k, q, hk, rfl, HK, rfl⟩ := hrel
      by_cases hlt : k < n
      · obtain ⟨c, o, rfl, hca⟩ := HA.out.cell k hlt
        obtain ⟨d, p, rfl, hcb⟩ := HB.out.cell k hlt
        have hk1 : (k : Int) < (n : Int) := by omega
        by_cases he : xs.getD k 0 = bs.getD k 0
        · have HE : Bx (∀ j, j < k + 1 → xs.getD j 0 = bs.getD j 0) := Bx.mk (fun j hj => by
            by_cases h : j = k
            · rw [h]; exact he
            · exact HK.out j (by omega))
          rw [← he] at hcb
          clear he HK
          generalize xs.getD k 0 = x at *
          have e1 : (ub x != ub x) = false := by simp
          go_wp2
          go_quiet (fail)
          go_wp2
          go_roundw
          case rel => exact ⟨k + 1, _, by omega, by go_num, HE, rfl⟩
          case measure => simp [intOf]; omega
        · have HF : Bx (r = false) := Bx.mk (by rw [← HR.out]; exact decide_eq_false (fun h => he (by rw [h])))
          have e1 : (ub (xs.getD k 0) != ub (bs.getD k 0)) = true := by
            simp only [bne_iff_ne, ne_eq]
            exact fun h => he (ub_inj h)
          clear he HK
          generalize xs.getD k 0 = x at *
          generalize bs.getD k 0 = y at *
          go_wp2
          go_quiet (fail)
          go_wp2
          go_ret
          exact ⟨by rw [HF.out]; rfl, q + nq, by simp⟩
      · have HT : Bx (r = true) := Bx.mk (by rw [← HR.out]; exact decide_eq_true (ext_getD (by rw [HN.out, HM.out]) (fun j hj => HK.out j (by rw [HN.out] at hj; omega))))
        clear HK
        go_wp2
        go_ret
        exact ⟨by rw [HT.out]; rfl, _, rfl⟩
  · have HF : Bx (decide (xs = bs) = false) := Bx.mk (decide_eq_false (fun h => hne (by rw [← HN.out, ← HM.out, h])))
    have e0 : ((n : Int) != (m : Int)) = true := by simp only [bne_iff_ne, ne_eq]; omega
    obtain ⟨r, hr⟩ : ∃ r, decide (xs = bs) = r := ⟨_, rfl⟩
    rw [hr] at HF ⊢
    clear hr hne
    go_enter Try.func46, Try.ntmps46
    go_wp2
    go_ret
    exact ⟨by rw [HF.out]; rfl, 0, rfl⟩
theorem below_a {W : World} (o : Obj) : Below W.heap.size W (W.alloc o) := (Below.refl _ _).alloc (Nat.le_refl _) _
set_option maxRecDepth 100000 in
theorem cut_bytes (a : Option Addr) (n cap m : Nat) (hm : m ≤ n) (hc : n ≤ cap) (ha : a = none → cap = 0) (W : World) : (Instr.slice 30 (.slice a n cap) none (some (.int .i64 (m : Int))) none).run Try.prog W = .ok (.slice a m cap) W := by
  have he : Try.prog.elem 30 = 5 := by kernel_rfl
  have hs : ((sizeOf 5).run Try.prog W) = .ok 1 W := by kernel_rfl
  rw [run_slice_h W 30 a n cap (by rw [he]; exact Try.underlying30) .i64 (m : Int) (by omega) (by omega), he, hs]
  simp only [Result.andThen, sliced, Int.toNat_natCast, Nat.zero_mul, Nat.sub_zero]
  congr 2
  rcases a with _ | ad
  · simp
  · simp [Addr.add]
theorem Bytes.take {w : World} {a : Option Addr} {n cap : Nat} {bs : List UInt8} (h : Bytes w (.slice a n cap) bs) (m : Nat) (hm : m ≤ n) : Bytes w (.slice a m cap) (bs.take m) := by
  obtain ⟨a', cap', hv, hc, hn, hr⟩ := h
  injection hv with e1 e2 e3
  subst e1 e3
  have hl : (bs.take m).length = m := by rw [List.length_take]; omega
  refine ⟨a, cap, by rw [hl], by omega, hn, fun hp => ?_⟩
  obtain ⟨c, o, ha, hcell⟩ := hr (by omega)
  refine ⟨c, o, ha, fun j hj => ?_⟩
  rw [hcell j (by omega)]
  simp [show j < m by omega]
/-- Parts behind a slice of slices. -/
def Parts (w : World) (v : Value) (pss : List (List UInt8)) : Prop :=
  ∃ a cap, v = .slice a pss.length cap ∧ (0 < pss.length → ∃ p o, a = some ⟨p, o, none⟩ ∧ ∀ j, j < pss.length → ∃ x, w.cell? ⟨p, o + j, none⟩ = some x ∧ Bytes w x (pss.getD j []))
/-- Values in a row that the call owns. -/
def OwnP (w : World) (base : Nat) (v : Value) (xs : List Value) : Prop := w.ownsRow base 30 1 v xs.length xs
/-- Values that are slices of parts. -/
def Vals (w : World) (xs : List Value) (qs : List (List UInt8)) : Prop := xs.length = qs.length ∧ ∀ j, j < xs.length → Bytes w (xs.getD j undef) (qs.getD j [])
theorem OwnP.later {w w1 : World} {base B : Nat} {v : Value} {xs : List Value} (h : OwnP w base v xs) (hb : Below B w w1) (hB : ∀ g, v.ownBlock = some g → g < B) : OwnP w1 base v xs := by
  refine ⟨h.1, ?_⟩
  rcases h.2 with h0 | ⟨g, cap, cur, hv, hb', hg, hr⟩
  · exact .inl h0
  · refine .inr ⟨g, cap, cur, hv, hb', ?_, hr⟩
    rw [hb.block g (hB g (by rw [hv]; rfl))]
    exact hg
theorem OwnP.lt {w : World} {base : Nat} {v : Value} {xs : List Value} (h : OwnP w base v xs) : ∀ g, v.ownBlock = some g → g < w.heap.size ∧ base ≤ g := by
  intro g hg
  rcases h.2 with ⟨rfl, _⟩ | ⟨g', cap, cur, rfl, hb, hh, _⟩
  · cases hg
  · injection hg with hg
    subst hg
    exact ⟨(Array.getElem?_eq_some_iff.1 hh).1, hb⟩
theorem OwnP.a {W : World} {base : Nat} {v : Value} {xs : List Value} (h : OwnP W base v xs) (o : Obj) : OwnP (W.alloc o) base v xs := h.later (below_a _) (fun g hg => (h.lt g hg).1)
theorem OwnB.grown {w w1 : World} {base : Nat} {v : Value} {l : List UInt8} {row : Option Nat} (h : OwnB w base v l) (hg : w.grownBy w1 row) (hne : ∀ g, row = some g → v.ownBlock ≠ some g) : OwnB w1 base v l := by
  refine ⟨h.1, ?_⟩
  rcases h.2 with h0 | ⟨g, cap, cur, hv, hb', hh, hr⟩
  · exact .inl h0
  · refine .inr ⟨g, cap, cur, hv, hb', ?_, hr⟩
    rw [hg.block g (Array.getElem?_eq_some_iff.1 hh).1 (fun e => hne g e.symm (by rw [hv]; rfl))]
    exact hh
theorem OwnP.grown {w w1 : World} {base : Nat} {v : Value} {xs : List Value} {row : Option Nat} (h : OwnP w base v xs) (hg : w.grownBy w1 row) (hne : ∀ g, row = some g → v.ownBlock ≠ some g) : OwnP w1 base v xs := by
  refine ⟨h.1, ?_⟩
  rcases h.2 with h0 | ⟨g, cap, cur, hv, hb', hh, hr⟩
  · exact .inl h0
  · refine .inr ⟨g, cap, cur, hv, hb', ?_, hr⟩
    rw [hg.block g (Array.getElem?_eq_some_iff.1 hh).1 (fun e => hne g e.symm (by rw [hv]; rfl))]
    exact hh
theorem bytes_form {w : World} {x : Value} {q : List UInt8} (h : Bytes w x q) : ∃ a cap, x = .slice a q.length cap ∧ q.length ≤ cap ∧ (a = none → cap = 0) := by
  obtain ⟨a, cap, hv, hc, hn, _⟩ := h
  exact ⟨a, cap, hv, hc, hn⟩
/-- The loops' bodies of a code, in the order of its text. -/
def loopsOf : Code → List Code
  | .loop c => c :: loopsOf c
  | .seq a b => loopsOf a ++ loopsOf b
  | .block _ c => loopsOf c
  | .scope c => loopsOf c
  | .cond _ a b => loopsOf a ++ loopsOf b
  | _ => []
def loopAt (c : Option Code) (k : Nat) : Code := ((c.map loopsOf).getD []).getD k .skip
/-- A frame of n slots, with nothing deferred. -/
structure Fr (n : Nat) (a : Act) : Prop where
  none : a.defers = []
  size : a.tmps.size = n
theorem list_range {α : Type} (l : List α) (d : α) : l = (List.range l.length).map fun i => l.getD i d := by
  apply List.ext_getElem
  · simp
  · intro i h1 h2; simp [h1]
theorem Fr.form {n : Nat} {a : Act} (h : Fr n a) : a = ⟨((List.range n).map fun i => a.tmps.getD i undef).toArray, []⟩ := by
  obtain ⟨⟨l⟩, d⟩ := a
  obtain ⟨h1, h2⟩ := h
  simp only at h1 h2
  have h3 : l.length = n := by simpa using h2
  subst h1 h3
  show (⟨⟨l⟩, []⟩ : Act) = ⟨((List.range l.length).map fun i => (⟨l⟩ : Array Value).getD i undef).toArray, []⟩
  have : (fun i => (⟨l⟩ : Array Value).getD i undef) = fun i => l.getD i undef := by
    funext i; simp [Array.getD_eq_getD_getElem?, List.getD_eq_getElem?_getD]
  rw [this, ← list_range]
/-- A loop that counts from k0 up to n. -/
theorem wp_count {P : Program} {Q : Exit → Act → World → Prop} {a : Act} {w : World} {c : Code} (n : Nat) (I : Nat → Act → World → Prop) (k0 : Nat) (hk : k0 ≤ n) (h0 : I k0 a w)
    (round : ∀ k a w, k < n → I k a w → c.wp P (Exit.then (fun a' w' => I (k + 1) a' w') Q) a w) (last : ∀ a w, I n a w → c.wp P (Exit.then (fun _ _ => False) Q) a w) : (Code.loop c).wp P Q a w := by
  refine wp_loop_ghost (fun m a w => ∃ k, k ≤ n ∧ m = n - k ∧ I k a w) (n - k0) ⟨k0, hk, rfl, h0⟩ ?_
  rintro m a w ⟨k, hk, rfl, hI⟩
  by_cases hlt : k < n
  · refine wp_mono (round k a w hlt hI) ?_
    rintro (_ | _ | _ | _ | _ | _) a' w' hq'
    case normal => exact ⟨n - (k + 1), by omega, k + 1, by omega, rfl, hq'⟩
    all_goals exact hq'
  · obtain rfl : k = n := by omega
    refine wp_mono (last a w hI) ?_
    rintro (_ | _ | _ | _ | _ | _) a' w' hq'
    case normal => exact absurd hq' id
    all_goals exact hq'
theorem own_form {w : World} {base : Nat} {v : Value} {l : List UInt8} (h : OwnB w base v l) : ∃ a cap, v = .slice a l.length cap := by
  obtain ⟨a, cap, hv, _⟩ := h.bytes
  exact ⟨a, cap, hv⟩
theorem own_empty (W : World) (base : Nat) (hb : base ≤ W.heap.size) : OwnB (W.alloc (.cells #[] 5)) base (.slice (some ⟨W.heap.size, 0, none⟩) 0 0) [] :=
  ⟨rfl, .inr ⟨W.heap.size, 0, _, rfl, hb, hnew _ _ _ rfl, Nat.le_refl _, Nat.zero_le _, rfl, rfl⟩⟩
theorem OwnB.kept {w w1 : World} {base b : Nat} {v : Value} {l : List UInt8} (h : OwnB w base v l) (hk : w.grownBy w1 (some b)) (hne : v.ownBlock ≠ some b) : OwnB w1 base v l := by
  refine ⟨h.1, ?_⟩
  rcases h.2 with h0 | ⟨g', cap, cur, hv, hb', hg', hr⟩
  · exact .inl h0
  · refine .inr ⟨g', cap, cur, hv, hb', ?_, hr⟩
    rw [hk.block g' (Array.getElem?_eq_some_iff.1 hg').1 (fun e => hne (by rw [hv]; exact e))]
    exact hg'
theorem takeL {P : Program} {ops : Array Oper} {Q : Exit → Act → World → Prop} {md : Region.Mode} {S : World → Prop} (i : Nat) {oi : Oper} {v : Value} {fuel : Nat} {listed : Array Bool} {a : Act} {w : World} (hi : ops.toList[i]? = some oi)
    (hs : Region.noSelect ops = true) (hf : Region.free md ops listed i = true) (hr : (Region.ready md ops listed).contains i = true)
    (hQ : ∀ c a w, Q (.panic c) (a.put oi.dst v) w → Q (.panic c) a w) (hy : YieldsIf P ops S oi v a) (hS : S w)
    (h : wpAnyH P md ops Q S fuel (listed.setIfInBounds i true) (a.put oi.dst v) w) : wpAnyH P md ops Q S (fuel + 1) listed a w :=
  wpAnyH_take (by rw [← Array.getElem?_toList]; exact hi) hs hf hr hQ hy hS h
theorem stepL {P : Program} {ops : Array Oper} {Q : Exit → Act → World → Prop} {md : Region.Mode} {S : World → Prop} (i : Nat) {fuel : Nat} {listed : Array Bool} {a : Act} {w : World} {o : Oper} (hr : Region.ready md ops listed = [i]) (hi : ops.toList[i]? = some o)
    (h : ∀ K' : Act → World → Prop, Shut (∀ a w, S w → (S w → wpAnyH P md ops Q S fuel (listed.setIfInBounds i true) a w) → K' a w) → if Region.wanted o (yielded ops a.tmps) = true then Oper.wp P o a w K' Q else K' (a.put o.dst undef) w) :
    wpAnyH P md ops Q S (fuel + 1) listed a w :=
  wpAnyH_ready hr (by simp) (AllReadyH.cons (by rw [← Array.getElem?_toList]; exact hi) h AllReadyH.nil)
theorem Parts.later {w w1 : World} {v : Value} {pss : List (List UInt8)} (h : Parts w v pss) (hb : Below w.heap.size w w1) : Parts w1 v pss := by
  obtain ⟨a, cap, hv, hr⟩ := h
  refine ⟨a, cap, hv, fun hp => ?_⟩
  obtain ⟨p, o, ha, hcell⟩ := hr hp
  refine ⟨p, o, ha, fun j hj => ?_⟩
  obtain ⟨x, hx, hxb⟩ := hcell j hj
  exact ⟨x, by rw [hb.cell (p := ⟨p, o + j, none⟩) (World.block_lt_of_cell? _ _ hx)]; exact hx, hxb.later hb⟩
theorem Parts.at_ {w : World} {v : Value} {pss : List (List UInt8)} (h : Parts w v pss) (b : Nat) (hb : w.heap.size ≤ b) : PartsAt w b v pss := by
  obtain ⟨a, cap, hv, hr⟩ := h
  refine ⟨a, cap, hv, fun hp => ?_⟩
  obtain ⟨p, o, ha, hcell⟩ := hr hp
  refine ⟨p, o, ?_, ha, fun j hj => ?_⟩
  · obtain ⟨x, hx, -⟩ := hcell 0 hp
    have := World.block_lt_of_cell? _ _ hx
    simp only at this
    omega
  · obtain ⟨x, hx, hxb⟩ := hcell j hj
    exact ⟨x, hx, hxb.at_ b hb⟩
theorem Vals.later {w w1 : World} {xs : List Value} {qs : List (List UInt8)} (h : Vals w xs qs) (hb : Below w.heap.size w w1) : Vals w1 xs qs := ⟨h.1, fun j hj => (h.2 j hj).later hb⟩
theorem OwnB.weak {w : World} {base base' : Nat} {v : Value} {l : List UInt8} (h : OwnB w base v l) (hb : base' ≤ base) : OwnB w base' v l := by
  refine ⟨h.1, ?_⟩
  rcases h.2 with h0 | ⟨g, cap, cur, hv, hb', hr⟩
  · exact .inl h0
  · exact .inr ⟨g, cap, cur, hv, Nat.le_trans hb hb', hr⟩
/-- Bytes, and none of them in block g. -/
def BN (W : World) (g : Nat) (v : Value) (l : List UInt8) : Prop := Bytes W v l ∧ BytesAt W g v l
theorem BN.later {W W1 : World} {g : Nat} {v : Value} {l : List UInt8} (h : BN W g v l) (hk : W.grownBy W1 (some g)) : BN W1 g v l := by
  refine ⟨?_, h.2.later hk⟩
  obtain ⟨a, cap, hv, hc, hz, hr⟩ := h.1
  obtain ⟨a', cap', hv', hc', hr'⟩ := h.2.later hk
  rw [hv] at hv'
  injection hv' with e1 e2 e3
  subst e1
  exact ⟨a, cap, hv, hc, hz, fun hp => by obtain ⟨c, o, _, ha, hcell⟩ := hr' hp; exact ⟨c, o, ha, hcell⟩⟩
/-- A row of values behind a slice of slices. -/
def RowP (w : World) (x : Value) (ys : List Value) : Prop := (x = .slice none 0 0 ∧ ys = []) ∨ ∃ g o cap, x = .slice (some ⟨g, o, none⟩) ys.length cap ∧ ∀ j, j < ys.length → w.cell? ⟨g, o + j, none⟩ = some (ys.getD j undef)
/-- Parts behind a row of slices. -/
def PartsR (w : World) (x : Value) (ps : List (List UInt8)) : Prop := ∃ ys, RowP w x ys ∧ Vals w ys ps
theorem RowP.later {w w1 : World} {x : Value} {ys : List Value} (h : RowP w x ys) (hb : Below w.heap.size w w1) : RowP w1 x ys := by
  rcases h with h | ⟨g, o, cap, hx, hc⟩
  · exact .inl h
  · refine .inr ⟨g, o, cap, hx, fun j hj => ?_⟩
    rw [hb.cell (p := ⟨g, o + j, none⟩) (World.block_lt_of_cell? _ _ (hc j hj))]
    exact hc j hj
theorem PartsR.later {w w1 : World} {x : Value} {ps : List (List UInt8)} (h : PartsR w x ps) (hb : Below w.heap.size w w1) : PartsR w1 x ps := by
  obtain ⟨ys, h1, h2⟩ := h
  exact ⟨ys, h1.later hb, h2.later hb⟩
theorem Vals.cons {w : World} {xs : List Value} {qs : List (List UInt8)} (h : Vals w xs qs) {x : Value} {q : List UInt8} (hx : Bytes w x q) : Vals w ([x] ++ xs) (q :: qs) := by
  refine ⟨by simp [h.1], fun j hj => ?_⟩
  match j, hj with
  | 0, _ => exact hx
  | j + 1, hj => exact h.2 j (by simpa using hj)
set_option maxRecDepth 100000 in
/-- append of bytes to bytes that the call owns, of any type of slices of bytes. -/
theorem run_apT (T : TypeId) (hu : Try.prog.underlying T = some (TypeDesc.slice 5)) (w : World) (base : Nat) (v : Value) (l : List UInt8) (hown : OwnB w base v l) (x : Value) (ps : List UInt8) (hx : Bytes w x ps) (hn : l.length + ps.length ≤ 140737488355328) (hbase : base ≤ w.heap.size) (ty : TypeId) :
    ∃ v' w', (Builtin.append_ #[T, T] ty #[v, x]).run Try.prog w = .ok v' w' ∧ OwnB w' base v' (l ++ ps) ∧ w.grownBy w' v.ownBlock ∧ (v'.ownBlock = v.ownBlock ∨ v'.ownBlock = some w.heap.size) := by
  have hi : Try.prog.info? 5 = some ((Try.prog.info? 5).getD default) := by kernel_rfl
  obtain ⟨a, cap, rfl, hc, hnone, hr⟩ := hx
  rcases a with _ | ad
  · have h0 : ps = [] := by have := hnone rfl; exact List.eq_nil_of_length_eq_zero (by omega)
    have hz := hnone rfl
    subst h0
    subst hz
    refine ⟨v, w, ?_, by rw [List.append_nil]; exact hown, World.grownBy.refl w _, .inl rfl⟩
    exact run_append_owned_none (P := Try.prog) (w := w) base T ty 5 _ 1 hu hi v l.length _ hown
  · have hnews : ∀ j u, (u8s ps).toList[j]? = some u → w.cell? (ad.add j) = some u := by
      intro j u hu
      have hj : j < ps.length := by have := (List.getElem?_eq_some_iff.1 hu).1; simpa [u8s_size] using this
      obtain ⟨c, o, ha, hcell⟩ := hr (by omega)
      injection ha with ha
      subst ha
      rw [Array.getElem?_toList, u8s_get ps j hj] at hu
      rw [show (⟨c, o, none⟩ : Addr).add j = ⟨c, o + j, none⟩ by unfold Addr.add; split <;> simp_all, hcell j hj]
      exact hu
    obtain ⟨v', w', hrun, h2, h3, _, h5⟩ := run_append_own_at (P := Try.prog) w base T ty 5 _ (.int .u8 0) 1 1 hu hi (by kernel_rfl) (by kernel_rfl) (by kernel_rfl) rfl (by omega) v l.length _ hown ad ps.length cap (u8s ps).toList (by rw [Array.length_toList, u8s_size]; omega) hnews
      (fun u hu => (Array.all_eq_true'.1 (one_u8s ps)) u (by simpa using hu)) (by simp only [maxLen]; omega) (by omega) hbase
    refine ⟨v', w', hrun, ?_, h3, h5⟩
    unfold OwnB
    rw [List.length_append]
    have e : (u8s (l ++ ps)).toList = (u8s l).toList ++ (u8s ps).toList := by simp [u8s]
    rw [e]
    exact h2
theorem wpList_apT (T : TypeId) (hu : Try.prog.underlying T = some (TypeDesc.slice 5)) {w : World} {ops : Array Oper} {rest : List Oper} {o : Oper} {a : Act} {Q : Exit → Act → World → Prop} (hgd : o.guard = none) (s x : Operand)
    (ho : o.op = .call { callee := .builtin .append, args := #[s, x], argTypes := #[T, T] }) (base : Nat) (v : Value) (l : List UInt8) (hs : a.eval s = v) (hown : OwnB w base v l) (xv : Value) (ps : List UInt8) (hx : a.eval x = xv) (hb : Bytes w xv ps)
    (hn : l.length + ps.length ≤ 140737488355328) (hbase : base ≤ w.heap.size)
    (h : ∀ v' w', OwnB w' base v' (l ++ ps) → w.grownBy w' v.ownBlock → (v'.ownBlock = v.ownBlock ∨ v'.ownBlock = some w.heap.size) → wpList Try.prog ops Q rest (a.put o.dst v') w') : wpList Try.prog ops Q (o :: rest) a w := by
  refine wpList_plain hgd fun K hK => ?_
  obtain ⟨v', w', hrun, h1, h2, h3⟩ := run_apT T hu w base v l hown xv ps hb hn hbase o.type
  unfold Oper.wp
  simp [execOp, ho, resolve, invoke, builtin, hs, hx, hrun, Result.andThen]
  exact hK _ _ (h v' w' h1 h2 h3)
theorem Bytes.nil (w : World) : Bytes w (.slice none 0 0) [] := ⟨none, 0, rfl, by simp, fun _ => rfl, fun h => absurd h (by simp)⟩
theorem Parts.nil (w : World) : Parts w (.slice none 0 0) [] := ⟨none, 0, rfl, fun h => absurd h (by simp)⟩
theorem OwnB.set {w : World} {base g n cap : Nat} {l : List UInt8} (h : OwnB w base (.slice (some ⟨g, 0, none⟩) n cap) l) (i : Nat) (x : UInt8) : OwnB (w.setCell ⟨g, i, none⟩ (.int .u8 (ub x))) base (.slice (some ⟨g, 0, none⟩) n cap) (l.set i x) := by
  refine ⟨by simp [u8s], ?_⟩
  rcases h.2 with ⟨hn, _⟩ | ⟨g', cap', cur, hv, hb, hg, h1, h2, h3, h4⟩
  · cases hn
  · injection hv with e1 e2 e3
    injection e1 with e1
    injection e1 with e1 _
    subst e1
    refine .inr ⟨g, cap', cur.setIfInBounds i (.int .u8 (ub x)), by rw [e2, e3, List.length_set], hb, heap_setCell_same _ _ _ _ _ _ hg, by rw [List.length_set]; exact h1, h2, by simpa using h3, ?_⟩
    rw [List.length_set, Array.toList_setIfInBounds, List.take_set, h4]
    simp [u8s, List.map_set]
theorem OwnB.row {w : World} {base n cap g : Nat} {l : List UInt8} (h : OwnB w base (.slice (some ⟨g, 0, none⟩) n cap) l) : ∃ cur, w.heap[g]? = some (.cells cur 5 (0, 0)) ∧ base ≤ g := by
  rcases h.2 with ⟨hn, _⟩ | ⟨g', cap', cur, hv, hb, hg, _⟩
  · cases hn
  · injection hv with e1 _ _
    injection e1 with e1
    injection e1 with e1 _
    subst e1
    exact ⟨cur, hg, hb⟩
theorem OwnB.form {w : World} {base : Nat} {v : Value} {l : List UInt8} (h : OwnB w base v l) : (v = .slice none 0 0 ∧ l = []) ∨ ∃ g cap, v = .slice (some ⟨g, 0, none⟩) l.length cap := by
  rcases h.2 with ⟨hn, h0⟩ | ⟨g, cap, cur, hv, -⟩
  · exact .inl ⟨hn, List.eq_nil_of_length_eq_zero h0⟩
  · exact .inr ⟨g, cap, hv⟩
theorem Bytes.drop {w : World} {c o n cap : Nat} {bs : List UInt8} (h : Bytes w (.slice (some ⟨c, o, none⟩) n cap) bs) (m : Nat) (hm : m < n) : Bytes w (.slice (some ⟨c, o + m, none⟩) (n - m) (cap - m)) (bs.drop m) := by
  obtain ⟨a', cap', hv, hc, hn, hr⟩ := h
  injection hv with e1 e2 e3
  subst e1 e3
  have hl : (bs.drop m).length = n - m := by rw [List.length_drop]; omega
  refine ⟨_, _, by rw [hl], by omega, (fun h => by cases h), fun _ => ⟨c, o + m, rfl, fun j hj => ?_⟩⟩
  rw [hl] at hj
  obtain ⟨c', o', he, hcell⟩ := hr (by omega)
  injection he with he
  injection he with h1 h2
  subst h1
  subst h2
  rw [Nat.add_assoc, hcell (m + j) (by omega)]
  simp [List.getElem?_drop]
theorem lit_i64 (n : Int) (h : (Lit.int .i64 n).wf = true) : -9223372036854775808 ≤ n ∧ n ≤ 9223372036854775807 := by
  have h2 : (decide (IntKind.i64.min ≤ n) && decide (n ≤ IntKind.i64.max)) = true := h
  rw [Bool.and_eq_true, decide_eq_true_eq, decide_eq_true_eq] at h2
  exact h2
theorem consM {P : Program} {ops : Array Oper} {Q : Exit → Act → World → Prop} {md : Region.Mode} {S : World → Prop} {fuel : Nat} {listed : Array Bool} {a : Act} {w : World} (i : Nat) {o : Oper} {rs : List Nat} (ho : ops.toList[i]? = some o)
    (h : ∀ K' : Act → World → Prop, Shut (∀ a w, S w → (S w → wpAnyH P md ops Q S fuel (listed.setIfInBounds i true) a w) → K' a w) → if Region.wanted o (yielded ops a.tmps) = true then Oper.wp P o a w K' Q else K' (a.put o.dst undef) w)
    (hs : AllReadyH P md ops Q S fuel listed a w rs) : AllReadyH P md ops Q S fuel listed a w (i :: rs) := AllReadyH.cons (by rw [← Array.getElem?_toList]; exact ho) h hs
end Go.Proofs.Ytdbdpehagkglfaa
namespace Go.Proofs.Ytdbdpehagkglfaa
open Go Go.RowKit
/-- Claims, as numbers. -/
structure Cl where
  id : Int
  ro : Int
  ex : Int
  se : Int
/-- No claims. -/
def c0 : Cl := ⟨0, 0, 0, 0⟩
/-- Claims, as a value. -/
def clV (c : Cl) : Value := .agg #[.int .i64 c.id, .int .i64 c.ro, .int .i64 c.ex, .int .i64 c.se]
/-- Are the four within their limits? -/
def okC (c : Cl) : Bool := decide (1 ≤ c.id) && decide (c.id ≤ 65535) && decide (0 ≤ c.ro) && decide (c.ro ≤ 255) && decide (0 ≤ c.ex) && decide (c.ex ≤ 1073741824) && decide (1 ≤ c.se) && decide (c.se ≤ 65535)
/-- The limits, as cells. -/
def limC (c : Cl) : Array Value := #[.int .i64 c.id, .int .i64 1, .int .i64 65535, .int .i64 c.ro, .int .i64 0, .int .i64 255, .int .i64 c.ex, .int .i64 0, .int .i64 1073741824, .int .i64 c.se, .int .i64 1, .int .i64 65535]
set_option maxRecDepth 100000 in
theorem limits_any (c : Cl) (w : World) : Calls Try.prog 52 #[clV c] w fun e w' => ∃ g, e = .returned (.slice (some ⟨g, 0, none⟩) 4 4) ∧ w'.heap[g]? = some (.cells (limC c) 102 (0, 0)) ∧ Below w.heap.size w w' := by
  obtain ⟨i, r, x, s⟩ := c
  unfold clV
  simp only
  go_enter Try.func52, Try.ntmps52
  go_wp2
  go_ret
  refine ⟨w.heap.size + 1, rfl, ?_, (below_a _).trans ((below_a _).mono (by simp))⟩
  rw [hnew _ _ _ (by simp)]
  rfl
/-- The limits, one by one. -/
def lims (c : Cl) : List (Int × Int × Int) := [(c.id, 1, 65535), (c.ro, 0, 255), (c.ex, 0, 1073741824), (c.se, 1, 65535)]
/-- Is a number within its limits? -/
def inL (l : Int × Int × Int) : Bool := decide (l.2.1 ≤ l.1) && decide (l.1 ≤ l.2.2)
theorem okC_all (c : Cl) : okC c = (lims c).all inL := by
  simp [okC, lims, inL, Bool.and_assoc]
theorem all_take_succ (l : List (Int × Int × Int)) (k : Nat) (hk : k < l.length) : (l.take (k + 1)).all inL = ((l.take k).all inL && inL (l.getD k (0, 0, 0))) := by
  rw [List.take_add_one, List.all_append, List.getElem?_eq_getElem hk, List.getD_eq_getElem?_getD, List.getElem?_eq_getElem hk]
  simp
theorem all_false (l : List (Int × Int × Int)) (k : Nat) (hk : k < l.length) (h : inL (l.getD k (0, 0, 0)) = false) : l.all inL = false := by
  rw [List.getD_eq_getElem?_getD, List.getElem?_eq_getElem hk] at h
  exact List.all_eq_false.mpr ⟨l[k], List.getElem_mem _, by simp at h; simp [h]⟩
theorem lim_cells (c : Cl) (W : World) (g : Nat) (h : W.heap[g]? = some (.cells (limC c) 102 (0, 0))) (k : Nat) (hk : k < 4) :
    W.cell? ⟨g, k * 3, none⟩ = some (.int .i64 ((lims c).getD k (0, 0, 0)).1) ∧ W.cell? ⟨g, k * 3 + 1, none⟩ = some (.int .i64 ((lims c).getD k (0, 0, 0)).2.1) ∧ W.cell? ⟨g, k * 3 + 2, none⟩ = some (.int .i64 ((lims c).getD k (0, 0, 0)).2.2) := by
  have hc : k = 0 ∨ k = 1 ∨ k = 2 ∨ k = 3 := by omega
  rcases hc with rfl | rfl | rfl | rfl <;> refine ⟨?_, ?_, ?_⟩ <;> rw [cell_of_row _ _ _ _ _ _ h] <;> rfl
set_option maxRecDepth 100000 in
set_option maxHeartbeats 1000000 in
theorem ccheck_any (c : Cl) (w : World) : Calls Try.prog 32 #[clV c] w fun e w' => e = .returned (.int .i64 (if okC c = true then 0 else 10)) ∧ Below w.heap.size w w' := by
  obtain ⟨V, hV⟩ : ∃ V, (if okC c = true then (0 : Int) else 10) = V := ⟨_, rfl⟩
  rw [hV]
  have HV := Bx.mk hV
  clear hV
  obtain ⟨B, hB⟩ : ∃ B, w.heap.size = B := ⟨_, rfl⟩
  rw [hB]
  have HB := Bx.mk hB
  have HL := fun (W : World) => limits_any c W
  unfold clV at HL ⊢
  go_enter Try.func32, Try.ntmps32
  go_wp2_with fail
  go_step3
  go_wp2_with fail
  go_step3
  go_wp2_with fail
  refine (HL _).mono ?_
  rintro e w2 ⟨g, rfl, hg, hb⟩
  have H2 : Bx (w2.heap[g]? = some (.cells (limC c) 102 (0, 0)) ∧ Below B w w2 ∧ (((lims c).take 0).all inL = true)) := Bx.mk ⟨hg, by rw [← hB]; exact (below_a _).trans (hb.mono (by simp)), rfl⟩
  clear hg hb HL
  go_wp2
  go_loopw [9, 3] (fun i z wr => ∃ k : Nat, k ≤ 4 ∧ i = .int .i64 (k : Int) ∧ z = .int .i64 0 ∧ Bx (wr.heap[g]? = some (.cells (limC c) 102 (0, 0)) ∧ Below B w wr ∧ (((lims c).take k).all inL = true))) (fun i _ _ => 4 - (intOf i).toNat)
  case atStart => exact ⟨0, Nat.zero_le _, rfl, rfl, H2⟩
  case round =>
    clear H2
    obtain ⟨k, hk, rfl, rfl, HI⟩ := hrel
    by_cases hlt : k < 4
    · have hk1 : (k : Int) < 4 := by omega
      obtain ⟨hc0, hc1, hc2⟩ := lim_cells c wr g HI.out.1 k hlt
      obtain ⟨⟨n, lo, hi⟩, hx⟩ : ∃ x, (lims c).getD k (0, 0, 0) = x := ⟨_, rfl⟩
      rw [hx] at hc0 hc1 hc2
      have HX := Bx.mk hx
      clear hx
      simp only at hc0 hc1 hc2
      have HA : Bx ((wr.alloc (.cells #[.int .i64 n, .int .i64 lo, .int .i64 hi] 102)).heap[g]? = some (.cells (limC c) 102 (0, 0)) ∧ Below B w (wr.alloc (.cells #[.int .i64 n, .int .i64 lo, .int .i64 hi] 102))) := Bx.mk ⟨by
        rw [hold _ _ _ (by have := (Array.getElem?_eq_some_iff.mp HI.out.1).1; exact this)]
        exact HI.out.1, HI.out.2.1.alloc (by have := HI.out.2.1.size; omega) _⟩
      have HT := Bx.mk HI.out.2.2
      by_cases hin : inL (n, lo, hi) = true
      · have hh : lo ≤ n ∧ n ≤ hi := by simpa [inL] using hin
        have h1 : ¬ n < lo := by omega
        have h2 : ¬ hi < n := by omega
        have HT2 : Bx (((lims c).take (k + 1)).all inL = true) := Bx.mk (by rw [all_take_succ _ _ (by exact hlt), HX.out, HT.out, hin]; rfl)
        clear HI hh hin
        go_wp2
        go_roundw
        case rel => exact ⟨k + 1, by omega, by go_num, rfl, ⟨HA.out.1, HA.out.2, HT2.out⟩⟩
        case measure => simp [intOf]; omega
      · have HV2 : Bx (V = 10) := Bx.mk (by
          rw [← HV.out, okC_all, all_false (lims c) k hlt (by rw [HX.out]; simpa using hin)]
          rfl)
        have hh : n < lo ∨ hi < n := by simp [inL] at hin; omega
        clear HI hin HT HV
        by_cases h1 : n < lo
        · go_wp2
          try rw [Exit.noGoto_ret]
          go_ret
          exact ⟨by rw [HV2.out]; rfl, HA.out.2⟩
        · have h2 : hi < n := by omega
          clear hh
          go_wp2
          try rw [Exit.noGoto_ret]
          go_ret
          exact ⟨by rw [HV2.out]; rfl, HA.out.2⟩
    · obtain rfl : k = 4 := by omega
      go_wp2
      rw [Exit.noGoto_ret]
      go_ret
      have HO : okC c = true := by rw [okC_all]; exact HI.out.2.2
      rw [if_pos HO] at HV
      exact ⟨by rw [← HV.out]; rfl, HI.out.2.1⟩
end Go.Proofs.Ytdbdpehagkglfaa
namespace Go.Proofs.Ytdbdpehagkglfaa
open Go Go.RowKit
theorem Bytes.old {w w1 : World} {v : Value} {l : List UInt8} (h : Bytes w v l) {B : Nat} (hB : w.heap.size = B) (hb : Below B w w1) : Bytes w1 v l := h.later (by rw [hB]; exact hb)
/-- A field. -/
structure Fd where
  s : Int
  n : Int
  b : List UInt8
/-- The lowest k bytes of a number, the highest first. -/
def beN : Nat → Nat → List UInt8
  | 0, _ => []
  | k + 1, n => UInt8.ofNat (n / 256 ^ k % 256) :: beN k n
/-- How many bytes a number of a size has. -/
def wid (s : Int) : Nat := if s = 0 then 1 else if s = 1 then 2 else if s = 2 then 4 else 8
/-- A field's bytes. -/
def enc (f : Fd) : List UInt8 := if f.s = 4 then beN 2 f.b.length ++ f.b else beN (wid f.s) f.n.toNat
theorem ret_bool {a b : Bool} (h : a = b) : Ending.returned (.bool a) = .returned (.bool b) := by rw [h]
end Go.Proofs.Ytdbdpehagkglfaa
namespace Go.Proofs.Ytdbdpehagkglfaa
open Go Go.RowKit
/-- A field, as a value. -/
def IsF (w : World) (v : Value) (f : Fd) : Prop := ∃ vb, v = .agg #[.int .i64 f.s, .int .i64 f.n, vb] ∧ Bytes w vb f.b
theorem IsF.later {w w1 : World} {v : Value} {f : Fd} (h : IsF w v f) (hb : Below w.heap.size w w1) : IsF w1 v f := by
  obtain ⟨vb, hv, h⟩ := h
  exact ⟨vb, hv, h.later hb⟩
end Go.Proofs.Ytdbdpehagkglfaa
namespace Go.Proofs.Ytdbdpehagkglfaa
open Go Go.RowKit
end Go.Proofs.Ytdbdpehagkglfaa
namespace Go.Proofs.Ytdbdpehagkglfaa
open Go Go.RowKit
end Go.Proofs.Ytdbdpehagkglfaa
namespace Go.Proofs.Ytdbdpehagkglfaa
open Go Go.RowKit
end Go.Proofs.Ytdbdpehagkglfaa
namespace Go.Proofs.Ytdbdpehagkglfaa
open Go Go.RowKit
end Go.Proofs.Ytdbdpehagkglfaa
namespace Go.Proofs.Ytdbdpehagkglfaa
open Go Go.RowKit
/-- A row of numbers. -/
def Ints (w : World) (v : Value) (ns : List Int) : Prop :=
  ∃ a cap, v = .slice a ns.length cap ∧ ns.length ≤ cap ∧ (a = none → cap = 0) ∧ (0 < ns.length → ∃ c o, a = some ⟨c, o, none⟩ ∧ ∀ i, i < ns.length → w.cell? ⟨c, o + i, none⟩ = some (.int .i64 (ns.getD i 0)))
theorem Ints.later {w w1 : World} {v : Value} {ns : List Int} (h : Ints w v ns) (hb : Below w.heap.size w w1) : Ints w1 v ns := by
  obtain ⟨a, cap, hv, hc, hn, hr⟩ := h
  refine ⟨a, cap, hv, hc, hn, fun hp => ?_⟩
  obtain ⟨c, o, ha, hf⟩ := hr hp
  refine ⟨c, o, ha, fun i hi => ?_⟩
  rw [hb.cell (p := ⟨c, o + i, none⟩) (World.block_lt_of_cell? _ _ (hf i hi))]
  exact hf i hi
/-- The cells of numbers. -/
def i64s (ns : List Int) : List Value := ns.map fun n => Value.int .i64 n
theorem i64s_get (ns : List Int) (i : Nat) (h : i < ns.length) : (i64s ns)[i]? = some (.int .i64 (ns.getD i 0)) := by
  unfold i64s
  rw [List.getElem?_map, List.getElem?_eq_getElem h, List.getD_eq_getElem?_getD, List.getElem?_eq_getElem h]
  rfl
/-- A row of numbers that the call has made. -/
def OwnI (w : World) (base : Nat) (v : Value) (ns : List Int) : Prop := w.ownsRow base 3 1 v ns.length (i64s ns)
theorem OwnI.nil (w : World) (base : Nat) : OwnI w base (.slice none 0 0) [] := ⟨rfl, .inl ⟨rfl, rfl⟩⟩
theorem OwnI.later {w w1 : World} {base B : Nat} {v : Value} {ns : List Int} (h : OwnI w base v ns) (hb : Below B w w1) (hB : ∀ g, v.ownBlock = some g → g < B) : OwnI w1 base v ns := by
  obtain ⟨hl, hr⟩ := h
  refine ⟨hl, ?_⟩
  rcases hr with h | ⟨g, cap, cur, hv, hc, h1, h2, h3, h4⟩
  · exact .inl h
  · refine .inr ⟨g, cap, cur, hv, hc, ?_, h2, h3, h4⟩
    rw [hb.block g (hB g (by rw [hv]; rfl))]
    exact h1
theorem OwnI.lt {w : World} {base : Nat} {v : Value} {ns : List Int} (h : OwnI w base v ns) : ∀ g, v.ownBlock = some g → g < w.heap.size ∧ base ≤ g := by
  intro g hg
  rcases h.2 with ⟨rfl, _⟩ | ⟨g', cap, cur, rfl, hb, hh, _⟩
  · cases hg
  · injection hg with hg
    subst hg
    exact ⟨(Array.getElem?_eq_some_iff.1 hh).1, hb⟩
theorem OwnI.ints {w : World} {base : Nat} {v : Value} {ns : List Int} (h : OwnI w base v ns) : Ints w v ns := by
  rcases h.2 with ⟨rfl, h0⟩ | ⟨g, cap, cur, rfl, hb, hg, hn, hm, hs, hc⟩
  · refine ⟨none, 0, by rw [h0], by omega, fun _ => rfl, fun hp => by omega⟩
  · refine ⟨_, cap, rfl, hn, (fun hx => by cases hx), fun _ => ⟨g, 0, rfl, fun j hj => ?_⟩⟩
    rw [cell_of_row _ _ _ _ _ _ hg, Nat.zero_add, ← Array.getElem?_toList]
    have h1 : (cur.toList.take (ns.length * 1))[j]? = (i64s ns)[j]? := by rw [hc]
    rw [List.getElem?_take, if_pos (by omega), i64s_get ns j hj] at h1
    exact h1
theorem OwnI.form {w : World} {base : Nat} {v : Value} {ns : List Int} (h : OwnI w base v ns) : ∃ a cap, v = .slice a ns.length cap := by
  obtain ⟨a, cap, hv, -⟩ := h.ints
  exact ⟨a, cap, hv⟩
theorem OwnI.weak {w : World} {base base' : Nat} {v : Value} {l : List Int} (h : OwnI w base v l) (hb : base' ≤ base) : OwnI w base' v l := by
  refine ⟨h.1, ?_⟩
  rcases h.2 with h0 | ⟨g, cap, cur, hv, hb', hr⟩
  · exact .inl h0
  · exact .inr ⟨g, cap, cur, hv, by omega, hr⟩
end Go.Proofs.Ytdbdpehagkglfaa
namespace Go.Proofs.Ytdbdpehagkglfaa
open Go Go.RowKit
end Go.Proofs.Ytdbdpehagkglfaa
namespace Go.Proofs.Ytdbdpehagkglfaa
open Go Go.ChangeShapes Go.WideShapes Go.ChangeAt Go.RowKit
theorem own : ownKnob Try.prog.godebug = none := by kernel_rfl
theorem laidOut : laidOutB Try.prog = true := by kernel_rfl
/-- A slice of bytes that came in. -/
def IsRow (w : World) (a : Option Addr) (len cap : Nat) (zs : List Int) : Prop :=
  (a = none ∧ len = 0 ∧ cap = 0 ∧ zs = []) ∨
  ∃ x, a = some x ∧ len ≤ cap ∧ cap ≤ maxLen ∧ zs.length = cap ∧ (∀ i, i < zs.length → w.cell? (x.add i) = some (.int .u8 (zs.getD i 0))) ∧ ∀ n ∈ zs, (Lit.int .u8 n).wf = true
theorem IsRow.bytes {w : World} {a : Option Addr} {len cap : Nat} {zs : List Int} (h : IsRow w a len cap zs) : ∃ bs, Bytes w (.slice a len cap) bs ∧ bs.length = len ∧ len ≤ 9223372036854775807 := by
  rcases h with ⟨rfl, rfl, rfl, rfl⟩ | ⟨x, rfl, hl, hm, hz, hc, hw⟩
  · exact ⟨[], ⟨none, 0, rfl, Nat.le_refl _, fun _ => rfl, fun h => by simp at h⟩, rfl, by omega⟩
  · have hm' : cap ≤ 9223372036854775807 := hm
    refine ⟨(zs.take len).map (fun z => UInt8.ofNat z.toNat), ⟨some x, cap, ?_, ?_, (fun h => by cases h), fun hp => ?_⟩, ?_, by omega⟩
    · rw [List.length_map, List.length_take, Nat.min_eq_left (by omega)]
    · rw [List.length_map, List.length_take]; omega
    · rw [List.length_map, List.length_take] at hp
      obtain ⟨b, off, rfl, hc'⟩ := ints_at hc (by omega)
      refine ⟨b, off, rfl, fun j hj => ?_⟩
      rw [List.length_map, List.length_take] at hj
      rw [hc' j (by omega)]
      congr 2
      have hjz : j < zs.length := by omega
      have hr : 0 ≤ zs[j] ∧ zs[j] ≤ 255 := bounds_u8 (hw _ (List.getElem_mem hjz))
      have e1 : zs.getD j 0 = zs[j] := by simp [hjz]
      have e2 : ((zs.take len).map (fun z => UInt8.ofNat z.toNat)).getD j 0 = UInt8.ofNat (zs[j]).toNat := by
        simp [hjz, show j < len by omega]
      rw [e1, e2]
      unfold ub
      rw [UInt8.toNat_ofNat']
      omega
    · rw [List.length_map, List.length_take]; omega
/-- The bytes of a slice that came in. -/
theorem raw_bytes {H : Type} {enc : TypeId × Value → H} {W : World} {fuel : Nat} {c : Value} {x : DataW H × List MemPlace} (hf : DataW.trod enc Try.prog W 0 (fun _ => true) true fuel 30 [c] = some x) :
    ∃ bs, Bytes W c bs ∧ bs.length ≤ 9223372036854775807 := by
  rcases open_ints Try.underlying30 Try.underlying5 (by kernel_rfl) hf with ⟨hcs, _⟩ | ⟨y, l, k, zs, hcs, _, hl, hm, hz, _, hcell, hwz⟩
  · simp at hcs
    subst hcs
    exact ⟨[], Bytes.nil _, by simp⟩
  · simp at hcs
    subst hcs
    obtain ⟨bs, hb, hbl, hbm⟩ := IsRow.bytes (w := W) (a := some y) (len := l) (cap := k) (zs := zs) (.inr ⟨_, rfl, hl, hm, by simpa using hz, hcell, hwz⟩)
    exact ⟨bs, hb, by omega⟩
end Go.Proofs.Ytdbdpehagkglfaa
namespace Go.Proofs.Ytdbdpehagkglfaa
open Go Go.ChangeShapes Go.WideShapes Go.ChangeAt Go.RowKit
/-- A number that an int holds. -/
def in64 (n : Int) : Prop := -9223372036854775808 ≤ n ∧ n ≤ 9223372036854775807
set_option maxRecDepth 100000 in
/-- Claims by value. -/
theorem open_claims {H : Type} {enc : TypeId × Value → H} {W : World} {base : Nat} {v : Value} {d : DataW H} {p : List MemPlace} (hv : Value.okWide Try.prog W .any base 24 v) (h : DataW.Trod enc Try.prog W 0 (fun _ => true) true 24 v d p) :
    ∃ c, v = clV c ∧ in64 c.id ∧ in64 c.ro ∧ in64 c.ex ∧ in64 c.se := by
  obtain ⟨cs, rfl, hsz⟩ := okWide_struct Try.underlying24 hv
  obtain ⟨fuel, hf0⟩ := h
  have hf1 : DataW.trod enc Try.prog W 0 (fun _ => true) true fuel 24 cs.toList = some (d, p) := hf0
  obtain ⟨xs, n, -, -, hlen, hxl, hf⟩ := DataW.trod_struct Try.underlying24 hf1
  obtain ⟨l⟩ := cs
  simp only at hlen hf
  have hl4 : l.length = 4 := hlen.trans (by kernel_rfl)
  have hx4 : xs.length = 4 := hxl
  match l, hl4, xs, hx4 with
  | [a0, a1, a2, a3], _, [y0, y1, y2, y3], _ =>
    have g0 : DataW.trod enc Try.prog W 0 (fun _ => true) true n 3 [a0] = some y0 := hf 0 _ rfl
    have g1 : DataW.trod enc Try.prog W 0 (fun _ => true) true n 3 [a1] = some y1 := hf 1 _ rfl
    have g2 : DataW.trod enc Try.prog W 0 (fun _ => true) true n 3 [a2] = some y2 := hf 2 _ rfl
    have g3 : DataW.trod enc Try.prog W 0 (fun _ => true) true n 3 [a3] = some y3 := hf 3 _ rfl
    obtain ⟨n0, e0, -, w0⟩ := DataW.trod_int Try.underlying3 g0
    obtain ⟨n1, e1, -, w1⟩ := DataW.trod_int Try.underlying3 g1
    obtain ⟨n2, e2, -, w2⟩ := DataW.trod_int Try.underlying3 g2
    obtain ⟨n3, e3, -, w3⟩ := DataW.trod_int Try.underlying3 g3
    simp at e0 e1 e2 e3
    subst e0
    subst e1
    subst e2
    subst e3
    exact ⟨⟨n0, n1, n2, n3⟩, rfl, lit_i64 n0 w0, lit_i64 n1 w1, lit_i64 n2 w2, lit_i64 n3 w3⟩
end Go.Proofs.Ytdbdpehagkglfaa
