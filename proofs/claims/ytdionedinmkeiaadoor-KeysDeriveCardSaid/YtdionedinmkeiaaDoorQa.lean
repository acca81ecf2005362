/-
  Tokens, as cells; the walks of Make, Holds, Bytes and Key.
-/
import Derived.Test.YtdionedinmkeiaaDoorKb
import Derived.Test.YtdionedinmkeiaaDoorCb
import Derived.Test.YtdionedinmkeiaaDoorIm
import Derived.Great.BuildSlice
namespace Go.Proofs.YtdionedinmkeiaaDoor
open Go Go.RowKit
/-- Blocks that stay. -/
structure KS (w : World) (B : Nat) (rs : List (Nat × Obj)) (W : World) : Prop where
  rows : ∀ x ∈ rs, W.heap[x.1]? = some x.2
  below : Below B w W
  le : B ≤ W.heap.size
theorem KS.start (w : World) (B : Nat) (h : w.heap.size = B) : KS w B [] w := ⟨fun _ h => (List.not_mem_nil h).elim, Below.refl _ _, by omega⟩
theorem KS.lt {w : World} {B : Nat} {rs : List (Nat × Obj)} {W : World} (h : KS w B rs W) {x : Nat × Obj} (hx : x ∈ rs) : x.1 < W.heap.size := (Array.getElem?_eq_some_iff.1 (h.rows x hx)).1
theorem KS.later {w : World} {B : Nat} {rs : List (Nat × Obj)} {W W1 : World} (h : KS w B rs W) (hb : Below W.heap.size W W1) : KS w B rs W1 :=
  ⟨fun x hx => by rw [hb.block _ (h.lt hx)]; exact h.rows x hx, h.below.trans (hb.mono h.le), Nat.le_trans h.le hb.size⟩
theorem KS.drew {w : World} {B : Nat} {rs : List (Nat × Obj)} {W : World} (h : KS w B rs W) : KS w B rs W.drew := h.later (Below.refl _ _).drew
theorem KS.new {w : World} {B : Nat} {rs : List (Nat × Obj)} {W : World} (h : KS w B rs W) (o : Obj) : KS w B ((W.heap.size, o) :: rs) (W.alloc o) := by
  have h1 := h.later (below_a o)
  refine ⟨fun x hx => ?_, h1.below, h1.le⟩
  rcases List.mem_cons.1 hx with rfl | hx
  · exact hnew _ _ _ rfl
  · exact h1.rows x hx
theorem KS.alloc {w : World} {B : Nat} {rs : List (Nat × Obj)} {W : World} (h : KS w B rs W) (o : Obj) : KS w B rs (W.alloc o) := h.later (below_a o)
theorem KS.set {w : World} {B Y : Nat} {o o1 : Obj} {rs : List (Nat × Obj)} {W W1 : World} (h : KS w B ((Y, o) :: rs) W) (hg : W.grownBy W1 (some Y)) (hY : W1.heap[Y]? = some o1) (hB : B ≤ Y) (hn : ∀ x ∈ rs, x.1 ≠ Y) : KS w B ((Y, o1) :: rs) W1 := by
  refine ⟨fun x hx => ?_, h.below.trans (grown_below hg hB h.le), Nat.le_trans h.le hg.size⟩
  rcases List.mem_cons.1 hx with rfl | hx
  · exact hY
  · rw [hg.block x.1 (h.lt (.tail _ hx)) (fun e => hn x hx (by injection e))]
    exact h.rows x (.tail _ hx)
theorem KS.swap {w : World} {B : Nat} {x y : Nat × Obj} {rs : List (Nat × Obj)} {W : World} (h : KS w B (x :: y :: rs) W) : KS w B (y :: x :: rs) W :=
  ⟨fun z hz => h.rows z (by rcases List.mem_cons.1 hz with rfl | hz; exact .tail _ (.head _); rcases List.mem_cons.1 hz with rfl | hz; exact .head _; exact .tail _ (.tail _ hz)), h.below, h.le⟩
theorem KS.tail {w : World} {B : Nat} {x : Nat × Obj} {rs : List (Nat × Obj)} {W : World} (h : KS w B (x :: rs) W) : KS w B rs W := ⟨fun z hz => h.rows z (.tail _ hz), h.below, h.le⟩
theorem kb_of {w w1 : World} {b o : Nat} {vs : List Value} (h : w1 = w.setCells b o vs) : w.grownBy w1 (some b) := by rw [h]; exact kb_setCells _ _ _
theorem alloc_size (w : World) (o : Obj) : (w.alloc o).heap.size = w.heap.size + 1 := by simp
theorem cells4 {W : World} {g : Nat} {a b c d : Value} {t : TypeId} (h : W.heap[g]? = some (.cells #[a, b, c, d] t (0, 0))) : W.cell? ⟨g, 0, none⟩ = some a ∧ W.cell? ⟨g, 1, none⟩ = some b ∧ W.cell? ⟨g, 2, none⟩ = some c ∧ W.cell? ⟨g, 3, none⟩ = some d := by
  refine ⟨?_, ?_, ?_, ?_⟩ <;> (rw [cell_of_row _ _ _ _ _ _ h]; rfl)
/-- A token, as cells. -/
def tkC (c : Cl) (s : List UInt8) : Array Value := clC c ++ u8s s
/-- A token, as a value. -/
def tkV (c : Cl) (s : List UInt8) : Value := .agg (tkC c s)
/-- The secret of no token. -/
def z32 : List UInt8 := List.replicate 32 0
/-- No claims. -/
def c0 : Cl := ⟨0, 0, 0, 0⟩
/-- The label of secrets. -/
def tokL : List UInt8 := [116, 111, 107, 101, 110]
/-- The secret of claims. -/
def secK (k : List UInt8) (c : Cl) : List UInt8 := hmac k (frame [tokL, clB c])
theorem secK_length (k : List UInt8) (c : Cl) : (secK k c).length = 32 := hmac_length _ _
theorem tkC_size (c : Cl) (s : List UInt8) (h : s.length = 32) : (tkC c s).size = 36 := by
  unfold tkC
  rw [Array.size_append, u8s_size, h]; rfl
theorem tkC_list (c : Cl) (s : List UInt8) : (tkC c s).toList = (clC c).toList ++ (u8s s).toList := by simp [tkC]
theorem tkC_one (c : Cl) (s : List UInt8) : (tkC c s).all (·.oneCell') = true := by
  unfold tkC
  rw [Array.all_append, one_u8s, Bool.and_true]
  simp [clC, Value.oneCell']
theorem tk_cl {W : World} {g : Nat} {c : Cl} {s : List UInt8} {t : TypeId} (h : W.heap[g]? = some (.cells (tkC c s) t (0, 0))) : W.rangeAt g 0 (clC c).toList := by
  intro j v hj
  show W.cell? ⟨g, 0 + j, none⟩ = some v
  rw [cell_of_row _ _ _ _ _ _ h, Nat.zero_add, ← Array.getElem?_toList, tkC_list]
  have hj' := (List.getElem?_eq_some_iff.1 hj).1
  rw [List.getElem?_append_left hj']
  exact hj
theorem tk_sec {W : World} {g : Nat} {c : Cl} {s : List UInt8} {t : TypeId} (h : W.heap[g]? = some (.cells (tkC c s) t (0, 0))) (hs : s.length = 32) : Bytes W (.slice (some ⟨g, 4, none⟩) 32 32) s := by
  refine ⟨_, 32, by rw [hs], by omega, (fun e => by cases e), fun _ => ⟨g, 4, rfl, fun j hj => ?_⟩⟩
  rw [cell_of_row _ _ _ _ _ _ h, ← Array.getElem?_toList, tkC_list, List.getElem?_append_right (by simp [clC]), show 4 + j - (clC c).toList.length = j by simp [clC], Array.getElem?_toList]
  exact u8s_get _ _ hj
theorem tk_in {W : World} {g : Nat} {c : Cl} {s : List UInt8} {t : TypeId} (h : W.heap[g]? = some (.cells (tkC c s) t (0, 0))) : W.cell? ⟨g, 3, none⟩ = some (.int .i64 c.se) := by
  have := tk_cl h 3 (.int .i64 c.se) rfl
  exact this
theorem tk_info (c : Cl) (s : List UInt8) (h : s.length = 32) : (Tryd.prog.info? 53).map (·.size) = some (tkC c s).size := by rw [tkC_size c s h]; kernel_rfl
theorem tk_built (c : Cl) : Tryd.prog.built 53 [(0, clV c)] = some (tkC c z32) := by
  obtain ⟨i, r, x, s⟩ := c
  kernel_rfl
theorem tk_none : Tryd.prog.built 53 [] = some (tkC c0 z32) := by kernel_rfl
theorem tk_zero (W : World) : (zeroValue 53).run Tryd.prog W = .ok (.agg (tkC c0 z32)) W := by kernel_rfl
theorem run_copyK (w : World) (g : Nat) (c : Cl) (t : TypeId) (h4 : w.heap[g]? = some (.cells (tkC c z32) t (0, 0))) (v : Value) (ps : List UInt8) (hv : Bytes w v ps) (hl : ps.length = 32) (ty : TypeId) :
    ∃ w', (Builtin.copy_ #[22, 22] ty #[.slice (some ⟨g, 4, none⟩) 32 32, v]).run Tryd.prog w = .ok (.int .i64 32) w' ∧ w'.heap[g]? = some (.cells (tkC c ps) t (0, 0)) ∧ w.grownBy w' (some g) := by
  obtain ⟨ad, cap, rfl, hc, hz, hr⟩ := hv
  obtain ⟨q, off, rfl, hcell⟩ := hr (by omega)
  have lc : (u8s ps).toList.length = 32 := by rw [Array.length_toList, u8s_size, hl]
  have hrun := run_copy_row (P := Tryd.prog) w 22 22 ty 5 g 4 32 32 ⟨q, off, none⟩ ps.length cap _ _ (u8s ps).toList Tryd.underlying22 (by kernel_rfl) h4 (by rw [lc, hl]; rfl)
    (fun j x hu => by
      have hj : j < ps.length := by have := (List.getElem?_eq_some_iff.1 hu).1; omega
      rw [Array.getElem?_toList, u8s_get _ _ hj] at hu
      rw [show (⟨q, off, none⟩ : Addr).add j = ⟨q, off + j, none⟩ by simp [Addr.add], hcell j hj, ← hu])
    (by rw [lc, tkC_size _ _ rfl]; omega)
    (fun x hx => (Array.all_eq_true'.1 (one_u8s ps)) x (by simpa using hx))
  have hmid : ((tkC c z32).toList.take 4 ++ (u8s ps).toList ++ (tkC c z32).toList.drop (4 + (u8s ps).toList.length)).toArray = tkC c ps := by
    rw [lc, tkC_list, List.take_append_of_le_length (by simp [clC]), List.take_of_length_le (by simp [clC]), List.drop_of_length_le (by rw [List.length_append, Array.length_toList, Array.length_toList, u8s_size]; simp [clC, z32])]
    simp [tkC]
  rw [hmid, lc] at hrun
  refine ⟨_, hrun, ?_, ?_⟩
  · show (w.heap.modify g _)[g]? = _; rw [Array.getElem?_modify, if_pos rfl, h4]; rfl
  · exact ⟨rfl, rfl, rfl, by simp [World.setRow], fun i _ hne => setRow_other w g i _ (fun e => hne (by rw [e]))⟩
theorem step_copyK {w : World} {ops : Array Oper} {o : Oper} {a : Act} {K : Act → World → Prop} {Q : Exit → Act → World → Prop} {E : Prop} (hgd : o.guard = none) (d s : Operand)
    (ho : o.op = .call { callee := .builtin .copy, args := #[d, s], argTypes := #[22, 22] }) (g : Nat) (c : Cl) (t : TypeId) (h4 : w.heap[g]? = some (.cells (tkC c z32) t (0, 0))) (v : Value) (ps : List UInt8) (hv : Bytes w v ps) (hl : ps.length = 32)
    (hd : a.eval d = .slice (some ⟨g, 4, none⟩) 32 32) (hs : a.eval s = v)
    (h : ∀ w', w'.heap[g]? = some (.cells (tkC c ps) t (0, 0)) → w.grownBy w' (some g) → K (a.put o.dst (.int .i64 32)) w') :
    if Region.wanted o (yielded ops a.tmps) = true then Oper.wp Tryd.prog o a w K Q else E := by
  have hw : Region.wanted o (yielded ops a.tmps) = true := by simp [Region.wanted, hgd]
  rw [if_pos hw]
  obtain ⟨w', hrun, h1, h2⟩ := run_copyK w g c t h4 v ps hv hl o.type
  unfold Oper.wp
  simp [execOp, ho, resolve, invoke, builtin, hs, hd, hrun, Result.andThen]
  exact h w' h1 h2
set_option maxRecDepth 100000 in
theorem mk_nil (c : Cl) (w : World) : Calls Tryd.prog 36 #[.pointer none, clV c] w fun e w' => e = .returned (.tuple #[tkV c0 z32, .int .i64 1]) ∧ Below w.heap.size w w' := by
  obtain ⟨zc, hzc⟩ : ∃ zc, tkC c0 z32 = zc := ⟨_, rfl⟩
  have hzv : ∀ W : World, (zeroValue 53).run Tryd.prog W = .ok (.agg zc) W := fun W => by rw [← hzc]; exact tk_zero W
  have hbz : Tryd.prog.built 53 [] = some zc := by rw [← hzc]; exact tk_none
  have HI : Bx ((Tryd.prog.info? 53).map (·.size) = some zc.size) := Bx.mk (by rw [← hzc]; exact tk_info _ _ rfl)
  have HO : Bx (zc.all (·.oneCell') = true) := Bx.mk (by rw [← hzc]; exact tkC_one _ _)
  have HZ := Bx.mk hzc
  clear hzc
  obtain ⟨i, r, x, s⟩ := c
  unfold clV tkV
  rw [HZ.out]
  obtain ⟨B, hB⟩ : ∃ B, w.heap.size = B := ⟨_, rfl⟩
  have H0 := Bx.mk (((KS.start w B hB).new (.cells #[.int .i64 i, .int .i64 r, .int .i64 x, .int .i64 s] 37)).new (.cells zc 53))
  rw [alloc_size, hB] at H0
  rw [hB]
  go_enter Tryd.func36, Tryd.ntmps36
  go_wp2_with (first | (refine wpList_buildTo rfl 53 _ rfl _ rfl zc hbz ?_) | (refine wpList_store_new rfl 53 _ _ rfl (B + 1) zc zc _ (by rfl) (by rfl) (H0.out.rows _ (.head _)) rfl HI.out HO.out ?_; intro w8 hw8 hr8; have hg8 := Bx.mk (kb_of hw8); have HR8 := Bx.mk hr8; clear hw8 hr8))
  refine bodyPost_ret (results_pair rfl _ _ _ (B + 1) _ rfl (run_loadVar_row _ (B + 1) _ _ _ _ _ HR8.out Tryd.underlying53 rfl (HI.out))) rfl ?_
  exact ⟨rfl, H0.out.below.trans (grown_below hg8.out (by omega) H0.out.le)⟩
set_option maxRecDepth 100000 in
theorem mk_bad (c : Cl) (p : Nat) (w : World) (hc : okC c = false) : Calls Tryd.prog 36 #[.pointer (some ⟨p, 0, none⟩), clV c] w fun e w' => e = .returned (.tuple #[tkV c0 z32, .int .i64 10]) ∧ Below w.heap.size w w' := by
  obtain ⟨zc, hzc⟩ : ∃ zc, tkC c0 z32 = zc := ⟨_, rfl⟩
  have hzv : ∀ W : World, (zeroValue 53).run Tryd.prog W = .ok (.agg zc) W := fun W => by rw [← hzc]; exact tk_zero W
  have hbz : Tryd.prog.built 53 [] = some zc := by rw [← hzc]; exact tk_none
  have HI : Bx ((Tryd.prog.info? 53).map (·.size) = some zc.size) := Bx.mk (by rw [← hzc]; exact tk_info _ _ rfl)
  have HO : Bx (zc.all (·.oneCell') = true) := Bx.mk (by rw [← hzc]; exact tkC_one _ _)
  have HZ := Bx.mk hzc
  clear hzc
  have HK := fun (W : World) => bytes_bad c W hc
  obtain ⟨i, r, x, s⟩ := c
  unfold clV tkV at *
  simp only at HK ⊢
  rw [HZ.out]
  obtain ⟨B, hB⟩ : ∃ B, w.heap.size = B := ⟨_, rfl⟩
  have H0 := Bx.mk (((KS.start w B hB).new (.cells #[.int .i64 i, .int .i64 r, .int .i64 x, .int .i64 s] 37)).new (.cells zc 53))
  rw [alloc_size, hB] at H0
  rw [hB]
  go_enter Tryd.func36, Tryd.ntmps36
  go_wp2_with fail
  generalize (w.alloc (.cells #[.int .i64 i, .int .i64 r, .int .i64 x, .int .i64 s] 37)).alloc (.cells zc 53) = w0 at *
  refine (HK w0).mono ?_
  rintro e w1 ⟨rfl, hb1⟩
  have H1 := Bx.mk (H0.out.later hb1)
  clear hb1 H0
  go_wp2_with (first | (refine wpList_buildTo rfl 53 _ rfl _ rfl zc hbz ?_) | (refine wpList_store_new rfl 53 _ _ rfl (B + 1) zc zc _ (by rfl) (by rfl) (H1.out.rows _ (.head _)) rfl HI.out HO.out ?_; intro w8 hw8 hr8; have hg8 := Bx.mk (kb_of hw8); have HR8 := Bx.mk hr8; clear hw8 hr8))
  refine bodyPost_ret (results_pair rfl _ _ _ (B + 1) _ rfl (run_loadVar_row _ (B + 1) _ _ _ _ _ HR8.out Tryd.underlying53 rfl (HI.out))) rfl ?_
  exact ⟨rfl, H1.out.below.trans (grown_below hg8.out (by omega) H1.out.le)⟩
end Go.Proofs.YtdionedinmkeiaaDoor
namespace Go.Proofs.YtdionedinmkeiaaDoor
open Go Go.RowKit
set_option maxRecDepth 100000 in
set_option maxHeartbeats 2000000 in
theorem mk_ok (bs : List UInt8) (c : Cl) (v : Value) (w : World) (hv : IsKey w v bs) (hl : bs.length ≤ 1000000) (hc : okC c = true) (hTab : Tab w) (hg : 0 < w.heap.size) :
    Calls Tryd.prog 36 #[v, clV c] w fun e w' => e = .returned (.tuple #[tkV c (secK bs c), .int .i64 0]) ∧ Below w.heap.size w w' := by
  obtain ⟨zc, hzc⟩ : ∃ zc, tkC c0 z32 = zc := ⟨_, rfl⟩
  have hzv : ∀ W : World, (zeroValue 53).run Tryd.prog W = .ok (.agg zc) W := fun W => by rw [← hzc]; exact tk_zero W
  have HZ := Bx.mk hzc
  have HK := fun (W : World) => bytes_ok c W hc
  have HIn : Bx (∀ W, Below w.heap.size w W → IsKey W v bs ∧ Tab W ∧ 0 < W.heap.size) := Bx.mk fun W hb => ⟨hv.later hb, hTab.later hb hg, Nat.lt_of_lt_of_le hg hb.size⟩
  have HL := Bx.mk hl
  obtain ⟨p, s0, rfl, -, -⟩ := hv
  clear hzc hTab hg hc hl
  obtain ⟨i, r, x, s⟩ := c
  obtain ⟨V, hV⟩ : ∃ V, tkV ⟨i, r, x, s⟩ (secK bs ⟨i, r, x, s⟩) = V := ⟨_, rfl⟩
  rw [hV]
  have HV := Bx.mk hV
  clear hV
  obtain ⟨t0, ht0⟩ : ∃ t0, tkC ⟨i, r, x, s⟩ z32 = t0 := ⟨_, rfl⟩
  have hb0 : Tryd.prog.built 53 [(0, .agg #[.int .i64 i, .int .i64 r, .int .i64 x, .int .i64 s])] = some t0 := by rw [← ht0]; exact tk_built ⟨i, r, x, s⟩
  have HT : Bx ((Tryd.prog.info? 53).map (·.size) = some t0.size ∧ t0.all (·.oneCell') = true ∧ t0.size = zc.size) := Bx.mk (by rw [← ht0, ← HZ.out]; exact ⟨tk_info _ _ rfl, tkC_one _ _, by rw [tkC_size _ _ rfl, tkC_size _ _ rfl]⟩)
  have HT0 := Bx.mk ht0
  clear ht0
  unfold clV at *
  simp only at HK ⊢
  obtain ⟨B, hB⟩ : ∃ B, w.heap.size = B := ⟨_, rfl⟩
  have H0 := Bx.mk (((KS.start w B hB).new (.cells #[.int .i64 i, .int .i64 r, .int .i64 x, .int .i64 s] 37)).new (.cells zc 53))
  rw [alloc_size, hB] at H0
  rw [hB] at HIn ⊢
  go_enter Tryd.func36, Tryd.ntmps36
  go_wp2_with fail
  generalize (w.alloc (.cells #[.int .i64 i, .int .i64 r, .int .i64 x, .int .i64 s] 37)).alloc (.cells zc 53) = w0 at *
  refine (HK w0).mono ?_
  rintro e w1 ⟨v1, rfl, ho1, hb1⟩
  have H1 := Bx.mk (And.intro (H0.out.later hb1) ho1.bytes)
  obtain ⟨a9, c9, hv9⟩ := own_form ho1
  rw [clB_length] at hv9
  subst hv9
  clear hb1 ho1 H0
  obtain ⟨D, hD⟩ : ∃ D, w1.heap.size = D := ⟨_, rfl⟩
  have HD1 : Bx (B + 1 < D) := Bx.mk (by rw [← hD]; exact H1.out.1.lt (.head _))
  have HD : Bx (B ≤ D) := Bx.mk (by have := HD1.out; omega)
  have H2 := Bx.mk (And.intro (H1.out.1.new (.cells zc 53)) True.intro)
  rw [hD] at H2
  obtain ⟨kc0, kc1, kc2, kc3⟩ := cells4 (H1.out.1.rows _ (.tail _ (.head _)))
  have H1 := Bx.mk H1.out.2
  go_wp2_with (first | (refine wpList_buildTo rfl 53 _ rfl _ rfl t0 (by simp only [List.map_toArray, List.map_cons, List.map_nil]; exact hb0) ?_) | (refine wpList_store_new rfl 53 _ _ rfl D t0 zc _ (by rfl) (by rfl) (H2.out.1.rows _ (.head _)) HT.out.2.2 HT.out.1 HT.out.2.1 ?_; intro w3 hw8 hr8; have hg8 := Bx.mk (kb_of hw8); have HR8 := Bx.mk hr8; clear hw8 hr8))
  rw [← HT0.out] at HR8
  have B1 : Bx (KS w B ((D, .cells (tkC ⟨i, r, x, s⟩ z32) 53) :: [(B + 1, .cells zc 53), (B, .cells #[.int .i64 i, .int .i64 r, .int .i64 x, .int .i64 s] 37)]) w3.drew ∧ Bytes w3.drew (.slice a9 9 c9) (clB ⟨i, r, x, s⟩)) := Bx.mk ⟨(H2.out.1.set hg8.out HR8.out HD.out (by intro y hy; have h1 := HD.out; have h2 := HD1.out; simp at hy; rcases hy with rfl | rfl <;> (simp only; omega))).drew, H1.out.later (((below_a _).trans (grown_below hg8.out (by rw [hD]; exact Nat.le_refl _) (by rw [alloc_size]; omega))).drew)⟩
  clear H1 H2 hg8 HR8 hD
  refine wp_region_noPanic ?_
  refine wp_region_held_drew (S := fun _ => True) (by kernel_rfl) (trivial) (fun hHeld => ?_)
  generalize w3.drew = W0 at *
  refine takeL 0 (v := ?_) rfl (by kernel_rfl) (by kernel_rfl) (by kernel_rfl) (fun _ _ _ h => h) (Or.inl ⟨by rfl, ?_⟩) hHeld ?_
  rotate_left 1
  · (intro w hSw; go_simp; try with_reducible rfl)
  try simp only [Act.put, List.setIfInBounds_toArray, List.set_cons_zero, List.set_cons_succ]
  refine takeL 1 (v := ?_) rfl (by kernel_rfl) (by kernel_rfl) (by kernel_rfl) (fun _ _ _ h => h) (Or.inl ⟨by rfl, ?_⟩) hHeld ?_
  rotate_left 1
  · (intro w hSw; go_simp; try with_reducible rfl)
  try simp only [Act.put, List.setIfInBounds_toArray, List.set_cons_zero, List.set_cons_succ]
  refine takeL 2 (v := ?_) rfl (by kernel_rfl) (by kernel_rfl) (by kernel_rfl) (fun _ _ _ h => h) (Or.inl ⟨by rfl, ?_⟩) hHeld ?_
  rotate_left 1
  · (intro w hSw; go_simp; try with_reducible rfl)
  try simp only [Act.put, List.setIfInBounds_toArray, List.set_cons_zero, List.set_cons_succ]
  refine takeL 3 (v := ?_) rfl (by kernel_rfl) (by kernel_rfl) (by kernel_rfl) (fun _ _ _ h => h) (Or.inl ⟨by rfl, ?_⟩) hHeld ?_
  rotate_left 1
  · (intro w hSw; go_simp; try with_reducible rfl)
  try simp only [Act.put, List.setIfInBounds_toArray, List.set_cons_zero, List.set_cons_succ]
  refine stepL 4 (by kernel_rfl) rfl (fun K hK => ?_)
  go_simp
  show K _ _
  have HP := Bx.mk (one_part B1.out.2)
  have B1 := Bx.mk (B1.out.1.alloc (.cells #[.slice a9 9 c9] 22))
  refine hK.out _ _ trivial (fun hHeld => ?_)
  clear hK K
  try simp only [Act.put, List.setIfInBounds_toArray, List.set_cons_zero, List.set_cons_succ]
  generalize W0.alloc (.cells #[.slice a9 9 c9] 22) = W1 at *
  generalize W0.heap.size = G1 at *
  refine stepL 5 (by kernel_rfl) rfl (fun K hK => ?_)
  go_simp
  refine (kderive_any bs tokL [clB ⟨i, r, x, s⟩] _ _ W1 (HIn.out W1 B1.out.below).1 HP.out HL.out (by decide) (by simp) (by intro p hp; simp at hp; rw [hp, clB_length]; omega) (HIn.out W1 B1.out.below).2.1 (HIn.out W1 B1.out.below).2.2).mono ?_
  rintro e W2 ⟨v2, rfl, ho2, hb2⟩
  show K _ _
  have B2 := Bx.mk (And.intro (B1.out.later hb2) ho2.key)
  clear ho2 hb2 HP B1
  refine hK.out _ _ trivial (fun hHeld => ?_)
  clear hK K
  try simp only [Act.put, List.setIfInBounds_toArray, List.set_cons_zero, List.set_cons_succ]
  refine stepL 6 (by kernel_rfl) rfl (fun K hK => ?_)
  go_simp
  refine (kbytes_any _ _ W2 B2.out.2 (by rw [hmac_length]; omega)).mono ?_
  rintro e W3 ⟨v3, rfl, ho3, hb3⟩
  show K _ _
  have B3 := Bx.mk (And.intro (B2.out.1.later hb3) ho3.bytes)
  clear ho3 hb3 B2
  refine hK.out _ _ trivial (fun hHeld => ?_)
  clear hK K
  try simp only [Act.put, List.setIfInBounds_toArray, List.set_cons_zero, List.set_cons_succ]
  refine stepL 7 (by kernel_rfl) rfl (fun K hK => ?_)
  refine step_copyK rfl _ _ rfl D ⟨i, r, x, s⟩ _ (B3.out.1.rows _ (.head _)) v3 _ B3.out.2 (hmac_length _ _) rfl rfl ?_
  intro W4 hr4 hg4
  have B4 := Bx.mk (B3.out.1.set hg4 hr4 HD.out (by intro y hy; have h1 := HD.out; have h2 := HD1.out; simp at hy; rcases hy with rfl | rfl <;> (simp only; omega)))
  clear hr4 hg4 B3
  refine hK.out _ _ trivial (fun hHeld => ?_)
  clear hK K
  try simp only [Act.put, List.setIfInBounds_toArray, List.set_cons_zero, List.set_cons_succ]
  refine wpAnyH_done (by kernel_rfl) ?_ _
  refine NoPanic.normal ?_
  clear hHeld
  change Bx (KS w B ((D, .cells (tkC ⟨i, r, x, s⟩ (secK bs ⟨i, r, x, s⟩)) 53) :: _) W4) at B4
  have HS : Bx ((secK bs ⟨i, r, x, s⟩).length = 32) := Bx.mk (secK_length _ _)
  unfold tkV at HV
  generalize secK bs ⟨i, r, x, s⟩ = sk at *
  have HI2 : Bx ((Tryd.prog.info? 53).map (·.size) = some (tkC ⟨i, r, x, s⟩ sk).size) := Bx.mk (tk_info _ _ HS.out)
  have HO2 : Bx ((tkC ⟨i, r, x, s⟩ sk).all (·.oneCell') = true) := Bx.mk (tkC_one _ _)
  have HE : Bx ((tkC ⟨i, r, x, s⟩ sk).size = zc.size) := Bx.mk (by rw [← HZ.out, tkC_size _ _ HS.out, tkC_size _ _ rfl])
  generalize tkC ⟨i, r, x, s⟩ sk = tk at *
  go_wp2_with (first | (refine wpList_load_row rfl 53 _ rfl D (by rfl) _ _ _ _ (B4.out.rows _ (.head _)) Tryd.underlying53 rfl HI2.out ?_) | (refine wpList_store_new rfl 53 _ _ rfl (B + 1) tk zc _ (by rfl) (by rfl) (B4.out.rows _ (.tail _ (.head _))) HE.out HI2.out HO2.out ?_; intro w8 hw8 hr8; have hg8 := Bx.mk (kb_of hw8); have HR8 := Bx.mk hr8; clear hw8 hr8))
  refine bodyPost_ret (results_pair rfl _ _ _ (B + 1) _ rfl (run_loadVar_row _ (B + 1) _ _ _ _ _ HR8.out Tryd.underlying53 rfl (HI2.out))) rfl ?_
  exact ⟨by rw [← HV.out]; rfl, B4.out.below.trans (grown_below hg8.out (by omega) B4.out.le)⟩
end Go.Proofs.YtdionedinmkeiaaDoor
namespace Go.Proofs.YtdionedinmkeiaaDoor
open Go Go.RowKit
set_option maxRecDepth 100000 in
set_option maxHeartbeats 1000000 in
theorem tkey_any (c : Cl) (s : List UInt8) (w : World) (hs : s.length = 32) :
    Calls Tryd.prog 37 #[tkV c s] w fun e w' => ∃ v', e = .returned v' ∧ KeyO w' w.heap.size v' s ∧ Below w.heap.size w w' := by
  have HS := Bx.mk hs
  clear hs
  obtain ⟨tk, htk⟩ : ∃ tk, tkC c s = tk := ⟨_, rfl⟩
  unfold tkV
  rw [htk]
  have HTK := Bx.mk htk
  clear htk
  obtain ⟨B, hB⟩ : ∃ B, w.heap.size = B := ⟨_, rfl⟩
  have H0 := Bx.mk ((KS.start w B hB).new (.cells tk 53))
  rw [← HTK.out] at H0
  rw [hB] at H0 ⊢
  go_enter Tryd.func37, Tryd.ntmps37
  go_wp2_with fail
  rw [HTK.out] at H0
  generalize w.alloc (.cells tk 53) = w0 at *
  rw [← HTK.out] at H0
  refine (new_any s _ w0 (tk_sec (H0.out.rows _ (.head _)) HS.out) (by rw [HS.out]; omega)).mono ?_
  rintro e w1 ⟨v1, rfl, ho1, hb1⟩
  have H1 := Bx.mk (And.intro (ho1.weak H0.out.le) (H0.out.later hb1).below)
  clear ho1 hb1 H0
  go_wp2
  go_ret
  exact ⟨v1, rfl, H1.out⟩
end Go.Proofs.YtdionedinmkeiaaDoor
