/-
  The walks of a reader: its parts.
  The walks of bytes that are taken off, and of numbers that are read.
  The walks of a field that is got.
-/
import Derived.Test.YtnefpjdjnjcmbaaGreatDoorIf
import Derived.Test.YtnefpjdjnjcmbaaGreatDoorIa
import Derived.Test.YtnefpjdjnjcmbaaGreatDoorCa
import Derived.Test.YtnefpjdjnjcmbaaGreatDoorCb
import Derived.Great.BuildSlice
import Derived.Test.YtnefpjdjnjcmbaaGreatDoorGa
import Derived.Test.YtnefpjdjnjcmbaaGreatDoorRows
import Derived.ProofKit
import Derived.OpenShut
import Derived.ShutString
import Derived.ChangeOld
import Derived.Below
import Derived.Deep.DeepHandedRow
import Derived.Lib.LaidTab
import Derived.Deep.Matrix
import Derived.Deep.Slices
namespace Go.Proofs.YtnefpjdjnjcmbaaGreatDoor
open Go Go.RowKit
/-- Bytes that lie in a block of bytes. -/
def BytesU (w : World) (v : Value) (l : List UInt8) : Prop := 0 < l.length → ∀ g, v.ownBlock = some g → ∃ cs fr, w.heap[g]? = some (.cells cs 5 fr)
theorem BytesU.nil (w : World) (v : Value) : BytesU w v [] := fun h => absurd h (by simp)
theorem BytesU.grown {w w1 : World} {p : Nat} {v : Value} {l : List UInt8} (h : BytesU w v l) (hg : w.grownBy w1 (some p)) (hn : 0 < l.length → v.ownBlock ≠ some p) : BytesU w1 v l := fun h0 g hv => by
  obtain ⟨cs, fr, hc⟩ := h h0 g hv
  exact ⟨cs, fr, by rw [hg.block g (Array.getElem?_eq_some_iff.1 hc).1 (fun e => hn h0 (by rw [hv, e]))]; exact hc⟩
end Go.Proofs.YtnefpjdjnjcmbaaGreatDoor
namespace Go.Proofs.YtnefpjdjnjcmbaaGreatDoor
open Go Go.RowKit
theorem BytesN.take {w : World} {p : Nat} {a : Option Addr} {n cap : Nat} {l : List UInt8} (h : BytesN w p (.slice a n cap) l) (m : Nat) (hm : m ≤ n) : BytesN w p (.slice a m cap) (l.take m) := by
  refine ⟨h.1.take m hm, fun h0 => ?_⟩
  have h1 := h.2 (by simp at h0; omega)
  rcases a with _ | ad
  · intro e
    cases e
  · exact h1
theorem BytesN.drop {w : World} {p : Nat} {a : Option Addr} {n cap : Nat} {l : List UInt8} (h : BytesN w p (.slice a n cap) l) (m : Nat) (hm : m ≤ n) : BytesN w p (.slice (if cap = m then a else a.map (·.add m)) (n - m) (cap - m)) (l.drop m) := by
  have hl : l.length = n := by obtain ⟨⟨a', cap', hv, -⟩, -⟩ := h; injection hv with _ e2 _; exact e2.symm
  by_cases hlt : m < n
  · have h0 : 0 < l.length := by omega
    obtain ⟨⟨a', cap', hv, hc, hn, hr⟩, h2⟩ := h
    injection hv with e1 e2 e3
    subst e1 e3
    obtain ⟨c, o, rfl, hcell⟩ := hr h0
    have e : (if cap = m then some (⟨c, o, none⟩ : Addr) else (some (⟨c, o, none⟩ : Addr)).map (·.add m)) = some ⟨c, o + m, none⟩ := by
      rw [if_neg (by omega)]
      simp [Addr.add]
    rw [e]
    exact ⟨Bytes.drop ⟨_, _, by rw [e2], hc, hn, hr⟩ m hlt, fun _ => h2 h0⟩
  · obtain rfl : m = n := by omega
    have e : l.drop m = [] := by rw [← hl]; simp
    rw [e, Nat.sub_self]
    refine ⟨⟨_, _, rfl, Nat.zero_le _, fun hnn => ?_, fun h => absurd h (by simp)⟩, fun h => absurd h (by simp)⟩
    obtain ⟨⟨a', cap', hv, hc, hn, hr⟩, h2⟩ := h
    injection hv with e1 e2 e3
    subst e1 e3
    rcases a with _ | ad
    · have := hn rfl
      omega
    · exfalso
      split at hnn
      · cases hnn
      · cases hnn
theorem BytesN.cap {w : World} {p : Nat} {a : Option Addr} {n cap : Nat} {l : List UInt8} (h : BytesN w p (.slice a n cap) l) : n ≤ cap ∧ (a = none → cap = 0) := by
  obtain ⟨⟨a', cap', hv, hc, hn, hr⟩, h2⟩ := h
  injection hv with e1 e2 e3
  subst e1 e3
  exact ⟨by omega, hn⟩
end Go.Proofs.YtnefpjdjnjcmbaaGreatDoor
namespace Go.Proofs.YtnefpjdjnjcmbaaGreatDoor
open Go Go.RowKit
/-- Bytes lie in no field's block. -/
theorem Bytes.off {w : World} {D : Nat} {a b : Int} {c : Value} {t : TypeId} {fr : Nat × Nat} {v : Value} {l : List UInt8} (h : Bytes w v l) (hr : w.heap[D]? = some (.cells #[.int .i64 a, .int .i64 b, c] t fr)) (hc : ∀ x, c ≠ .int .u8 x) (h0 : 0 < l.length) : v.ownBlock ≠ some D := by
  obtain ⟨ad, cap, rfl, -, -, hr2⟩ := h
  obtain ⟨g, o, rfl, hcell⟩ := hr2 h0
  intro e
  injection e with e
  simp only at e
  subst e
  have h1 := hcell 0 h0
  rw [cell_of_row _ _ _ _ _ _ hr, Nat.add_zero] at h1
  match o, h1 with
  | 0, h1 => simp at h1
  | 1, h1 => simp at h1
  | 2, h1 =>
    simp at h1
    exact hc _ h1
  | o + 3, h1 => simp at h1
theorem results_pair {fn : Func} {p u : Tmp} {ty : TypeId} (h : fn.results = #[.cell p ty, .tmp u]) (tmps : Array Value) (P : Program) (w : World) (g : Nat) (cs : Array Value)
    (hp : tmps.getD p undef = .pointer (some ⟨g, 0, none⟩)) (hl : (loadVar ty ⟨g, 0, none⟩).run P w = .ok (.agg cs) w) : (results fn tmps).run P w = .ok (.tuple #[.agg cs, tmps.getD u undef]) w := by
  have hp' : tmps[p]?.getD undef = .pointer (some ⟨g, 0, none⟩) := by simpa using hp
  simp [results, h, hp', asAddr, hl]
end Go.Proofs.YtnefpjdjnjcmbaaGreatDoor
namespace Go.Proofs.YtnefpjdjnjcmbaaGreatDoor
open Go Go.RowKit
/-- Blocks that stay. -/
structure KS (w : World) (B : Nat) (rs : List (Nat × Obj)) (W : World) : Prop where
  rows : ∀ x ∈ rs, W.heap[x.1]? = some x.2
  below : Below B w W
  le : B ≤ W.heap.size
theorem KS.start (w : World) (B : Nat) (h : w.heap.size = B) : KS w B [] w := ⟨fun _ h => (List.not_mem_nil h).elim, Below.refl _ _, by omega⟩
theorem KS.lt {w : World} {B : Nat} {rs : List (Nat × Obj)} {W : World} (h : KS w B rs W) {x : Nat × Obj} (hx : x ∈ rs) : x.1 < W.heap.size := (Array.getElem?_eq_some_iff.1 (h.rows x hx)).1
theorem KS.later {w : World} {B : Nat} {rs : List (Nat × Obj)} {W W1 : World} (h : KS w B rs W) (hb : Below W.heap.size W W1) : KS w B rs W1 :=
  ⟨fun x hx => by rw [hb.block _ (h.lt hx)]; exact h.rows x hx, h.below.trans (hb.mono h.le), Nat.le_trans h.le hb.size⟩
theorem KS.drew {w : World} {B : Nat} {rs : List (Nat × Obj)} {W : World} (h : KS w B rs W) : KS w B rs W.drew := h.later (Below.refl _ _).drew
theorem KS.new {w : World} {B : Nat} {rs : List (Nat × Obj)} {W : World} (h : KS w B rs W) (o : Obj) : KS w B ((W.heap.size, o) :: rs) (W.alloc o) := by
  have h1 := h.later (below_a o)
  refine ⟨fun x hx => ?_, h1.below, h1.le⟩
  rcases List.mem_cons.1 hx with rfl | hx
  · exact hnew _ _ _ rfl
  · exact h1.rows x hx
theorem KS.alloc {w : World} {B : Nat} {rs : List (Nat × Obj)} {W : World} (h : KS w B rs W) (o : Obj) : KS w B rs (W.alloc o) := h.later (below_a o)
theorem KS.set {w : World} {B Y : Nat} {o o1 : Obj} {rs : List (Nat × Obj)} {W W1 : World} (h : KS w B ((Y, o) :: rs) W) (hg : W.grownBy W1 (some Y)) (hY : W1.heap[Y]? = some o1) (hB : B ≤ Y) (hn : ∀ x ∈ rs, x.1 ≠ Y) : KS w B ((Y, o1) :: rs) W1 := by
  refine ⟨fun x hx => ?_, h.below.trans (grown_below hg hB h.le), Nat.le_trans h.le hg.size⟩
  rcases List.mem_cons.1 hx with rfl | hx
  · exact hY
  · rw [hg.block x.1 (h.lt (.tail _ hx)) (fun e => hn x hx (by injection e))]
    exact h.rows x (.tail _ hx)
theorem KS.swap {w : World} {B : Nat} {x y : Nat × Obj} {rs : List (Nat × Obj)} {W : World} (h : KS w B (x :: y :: rs) W) : KS w B (y :: x :: rs) W :=
  ⟨fun z hz => h.rows z (by rcases List.mem_cons.1 hz with rfl | hz; exact .tail _ (.head _); rcases List.mem_cons.1 hz with rfl | hz; exact .head _; exact .tail _ (.tail _ hz)), h.below, h.le⟩
theorem KS.tail {w : World} {B : Nat} {x : Nat × Obj} {rs : List (Nat × Obj)} {W : World} (h : KS w B (x :: rs) W) : KS w B rs W := ⟨fun z hz => h.rows z (.tail _ hz), h.below, h.le⟩
theorem kb_of {w w1 : World} {b o : Nat} {vs : List Value} (h : w1 = w.setCells b o vs) : w.grownBy w1 (some b) := by rw [h]; exact kb_setCells _ _ _
theorem alloc_size (w : World) (o : Obj) : (w.alloc o).heap.size = w.heap.size + 1 := by simp
theorem cells4 {W : World} {g : Nat} {a b c d : Value} {t : TypeId} (h : W.heap[g]? = some (.cells #[a, b, c, d] t (0, 0))) : W.cell? ⟨g, 0, none⟩ = some a ∧ W.cell? ⟨g, 1, none⟩ = some b ∧ W.cell? ⟨g, 2, none⟩ = some c ∧ W.cell? ⟨g, 3, none⟩ = some d := by
  refine ⟨?_, ?_, ?_, ?_⟩ <;> (rw [cell_of_row _ _ _ _ _ _ h]; rfl)
/-- A token, as cells. -/
def tkC (c : Cl) (s : List UInt8) : Array Value := clC c ++ u8s s
/-- A token, as a value. -/
def tkV (c : Cl) (s : List UInt8) : Value := .agg (tkC c s)
/-- The secret of no token. -/
def z32 : List UInt8 := List.replicate 32 0
/-- No claims. -/
def c0 : Cl := ⟨0, 0, 0, 0⟩
/-- The label of secrets. -/
def tokL : List UInt8 := [116, 111, 107, 101, 110]
/-- The secret of claims. -/
def secK (k : List UInt8) (c : Cl) : List UInt8 := hmac k (frame [tokL, clB c])
theorem secK_length (k : List UInt8) (c : Cl) : (secK k c).length = 32 := hmac_length _ _
theorem tkC_size (c : Cl) (s : List UInt8) (h : s.length = 32) : (tkC c s).size = 36 := by
  unfold tkC
  rw [Array.size_append, u8s_size, h]; rfl
theorem tkC_list (c : Cl) (s : List UInt8) : (tkC c s).toList = (clC c).toList ++ (u8s s).toList := by simp [tkC]
theorem tkC_one (c : Cl) (s : List UInt8) : (tkC c s).all (·.oneCell') = true := by
  unfold tkC
  rw [Array.all_append, one_u8s, Bool.and_true]
  simp [clC, Value.oneCell']
theorem tk_cl {W : World} {g : Nat} {c : Cl} {s : List UInt8} {t : TypeId} (h : W.heap[g]? = some (.cells (tkC c s) t (0, 0))) : W.rangeAt g 0 (clC c).toList := by
  intro j v hj
  show W.cell? ⟨g, 0 + j, none⟩ = some v
  rw [cell_of_row _ _ _ _ _ _ h, Nat.zero_add, ← Array.getElem?_toList, tkC_list]
  have hj' := (List.getElem?_eq_some_iff.1 hj).1
  rw [List.getElem?_append_left hj']
  exact hj
theorem tk_sec {W : World} {g : Nat} {c : Cl} {s : List UInt8} {t : TypeId} (h : W.heap[g]? = some (.cells (tkC c s) t (0, 0))) (hs : s.length = 32) : Bytes W (.slice (some ⟨g, 4, none⟩) 32 32) s := by
  refine ⟨_, 32, by rw [hs], by omega, (fun e => by cases e), fun _ => ⟨g, 4, rfl, fun j hj => ?_⟩⟩
  rw [cell_of_row _ _ _ _ _ _ h, ← Array.getElem?_toList, tkC_list, List.getElem?_append_right (by simp [clC]), show 4 + j - (clC c).toList.length = j by simp [clC], Array.getElem?_toList]
  exact u8s_get _ _ hj
theorem tk_info (c : Cl) (s : List UInt8) (h : s.length = 32) : (Tryz.prog.info? 29).map (·.size) = some (tkC c s).size := by rw [tkC_size c s h]; kernel_rfl
theorem tk_built (c : Cl) : Tryz.prog.built 29 [(0, clV c)] = some (tkC c z32) := by
  obtain ⟨i, r, x, s⟩ := c
  kernel_rfl
theorem tk_none : Tryz.prog.built 29 [] = some (tkC c0 z32) := by kernel_rfl
theorem tk_zero (W : World) : (zeroValue 29).run Tryz.prog W = .ok (.agg (tkC c0 z32)) W := by kernel_rfl
theorem run_copyK (w : World) (g : Nat) (c : Cl) (t : TypeId) (h4 : w.heap[g]? = some (.cells (tkC c z32) t (0, 0))) (v : Value) (ps : List UInt8) (hv : Bytes w v ps) (hl : ps.length = 32) (ty : TypeId) :
    ∃ w', (Builtin.copy_ #[22, 22] ty #[.slice (some ⟨g, 4, none⟩) 32 32, v]).run Tryz.prog w = .ok (.int .i64 32) w' ∧ w'.heap[g]? = some (.cells (tkC c ps) t (0, 0)) ∧ w.grownBy w' (some g) := by
  obtain ⟨ad, cap, rfl, hc, hz, hr⟩ := hv
  obtain ⟨q, off, rfl, hcell⟩ := hr (by omega)
  have lc : (u8s ps).toList.length = 32 := by rw [Array.length_toList, u8s_size, hl]
  have hrun := run_copy_row (P := Tryz.prog) w 22 22 ty 5 g 4 32 32 ⟨q, off, none⟩ ps.length cap _ _ (u8s ps).toList Tryz.underlying22 (by kernel_rfl) h4 (by rw [lc, hl]; rfl)
    (fun j x hu => by
      have hj : j < ps.length := by have := (List.getElem?_eq_some_iff.1 hu).1; omega
      rw [Array.getElem?_toList, u8s_get _ _ hj] at hu
      rw [show (⟨q, off, none⟩ : Addr).add j = ⟨q, off + j, none⟩ by simp [Addr.add], hcell j hj, ← hu])
    (by rw [lc, tkC_size _ _ rfl]; omega)
    (fun x hx => (Array.all_eq_true'.1 (one_u8s ps)) x (by simpa using hx))
  have hmid : ((tkC c z32).toList.take 4 ++ (u8s ps).toList ++ (tkC c z32).toList.drop (4 + (u8s ps).toList.length)).toArray = tkC c ps := by
    rw [lc, tkC_list, List.take_append_of_le_length (by simp [clC]), List.take_of_length_le (by simp [clC]), List.drop_of_length_le (by rw [List.length_append, Array.length_toList, Array.length_toList, u8s_size]; simp [clC, z32])]
    simp [tkC]
  rw [hmid, lc] at hrun
  refine ⟨_, hrun, ?_, ?_⟩
  · show (w.heap.modify g _)[g]? = _; rw [Array.getElem?_modify, if_pos rfl, h4]; rfl
  · exact ⟨rfl, rfl, rfl, by simp [World.setRow], fun i _ hne => setRow_other w g i _ (fun e => hne (by rw [e]))⟩
theorem step_copyK {w : World} {ops : Array Oper} {o : Oper} {a : Act} {K : Act → World → Prop} {Q : Exit → Act → World → Prop} {E : Prop} (hgd : o.guard = none) (d s : Operand)
    (ho : o.op = .call { callee := .builtin .copy, args := #[d, s], argTypes := #[22, 22] }) (g : Nat) (c : Cl) (t : TypeId) (h4 : w.heap[g]? = some (.cells (tkC c z32) t (0, 0))) (v : Value) (ps : List UInt8) (hv : Bytes w v ps) (hl : ps.length = 32)
    (hd : a.eval d = .slice (some ⟨g, 4, none⟩) 32 32) (hs : a.eval s = v)
    (h : ∀ w', w'.heap[g]? = some (.cells (tkC c ps) t (0, 0)) → w.grownBy w' (some g) → K (a.put o.dst (.int .i64 32)) w') :
    if Region.wanted o (yielded ops a.tmps) = true then Oper.wp Tryz.prog o a w K Q else E := by
  have hw : Region.wanted o (yielded ops a.tmps) = true := by simp [Region.wanted, hgd]
  rw [if_pos hw]
  obtain ⟨w', hrun, h1, h2⟩ := run_copyK w g c t h4 v ps hv hl o.type
  unfold Oper.wp
  simp [execOp, ho, resolve, invoke, builtin, hs, hd, hrun, Result.andThen]
  exact h w' h1 h2
set_option maxRecDepth 100000 in
theorem mk_bad (c : Cl) (p : Nat) (w : World) (hc : okC c = false) : Calls Tryz.prog 29 #[.pointer (some ⟨p, 0, none⟩), clV c] w fun e w' => e = .returned (.tuple #[tkV c0 z32, .int .i64 10]) ∧ Below w.heap.size w w' := by
  obtain ⟨zc, hzc⟩ : ∃ zc, tkC c0 z32 = zc := ⟨_, rfl⟩
  have hzv : ∀ W : World, (zeroValue 29).run Tryz.prog W = .ok (.agg zc) W := fun W => by rw [← hzc]; exact tk_zero W
  have hbz : Tryz.prog.built 29 [] = some zc := by rw [← hzc]; exact tk_none
  have HI : Bx ((Tryz.prog.info? 29).map (·.size) = some zc.size) := Bx.mk (by rw [← hzc]; exact tk_info _ _ rfl)
  have HO : Bx (zc.all (·.oneCell') = true) := Bx.mk (by rw [← hzc]; exact tkC_one _ _)
  have HZ := Bx.mk hzc
  clear hzc
  have HK := fun (W : World) => bytes_bad c W hc
  obtain ⟨i, r, x, s⟩ := c
  unfold clV tkV at *
  simp only at HK ⊢
  rw [HZ.out]
  obtain ⟨B, hB⟩ : ∃ B, w.heap.size = B := ⟨_, rfl⟩
  have H0 := Bx.mk (((KS.start w B hB).new (.cells #[.int .i64 i, .int .i64 r, .int .i64 x, .int .i64 s] 26)).new (.cells zc 29))
  rw [alloc_size, hB] at H0
  rw [hB]
  go_enter Tryz.func29, Tryz.ntmps29
  go_wp2_with fail
  generalize (w.alloc (.cells #[.int .i64 i, .int .i64 r, .int .i64 x, .int .i64 s] 26)).alloc (.cells zc 29) = w0 at *
  refine (HK w0).mono ?_
  rintro e w1 ⟨rfl, hb1⟩
  have H1 := Bx.mk (H0.out.later hb1)
  clear hb1 H0
  go_wp2_with (first | (refine wpList_buildTo rfl 29 _ rfl _ rfl zc hbz ?_) | (refine wpList_store_new rfl 29 _ _ rfl (B + 1) zc zc _ (by rfl) (by rfl) (H1.out.rows _ (.head _)) rfl HI.out HO.out ?_; intro w8 hw8 hr8; have hg8 := Bx.mk (kb_of hw8); have HR8 := Bx.mk hr8; clear hw8 hr8))
  refine bodyPost_ret (results_pair rfl _ _ _ (B + 1) _ rfl (run_loadVar_row _ (B + 1) _ _ _ _ _ HR8.out Tryz.underlying29 rfl (HI.out))) rfl ?_
  exact ⟨rfl, H1.out.below.trans (grown_below hg8.out (by omega) H1.out.le)⟩
end Go.Proofs.YtnefpjdjnjcmbaaGreatDoor
namespace Go.Proofs.YtnefpjdjnjcmbaaGreatDoor
open Go Go.RowKit
set_option maxRecDepth 100000 in
set_option maxHeartbeats 2000000 in
theorem mk_ok (bs : List UInt8) (c : Cl) (v : Value) (w : World) (hv : IsKey w v bs) (hl : bs.length ≤ 1000000) (hc : okC c = true) (hTab : Tab w) (hg : 0 < w.heap.size) :
    Calls Tryz.prog 29 #[v, clV c] w fun e w' => e = .returned (.tuple #[tkV c (secK bs c), .int .i64 0]) ∧ Below w.heap.size w w' := by
  obtain ⟨zc, hzc⟩ : ∃ zc, tkC c0 z32 = zc := ⟨_, rfl⟩
  have hzv : ∀ W : World, (zeroValue 29).run Tryz.prog W = .ok (.agg zc) W := fun W => by rw [← hzc]; exact tk_zero W
  have HZ := Bx.mk hzc
  have HK := fun (W : World) => bytes_ok c W hc
  have HIn : Bx (∀ W, Below w.heap.size w W → IsKey W v bs ∧ Tab W ∧ 0 < W.heap.size) := Bx.mk fun W hb => ⟨hv.later hb, hTab.later hb hg, Nat.lt_of_lt_of_le hg hb.size⟩
  have HL := Bx.mk hl
  obtain ⟨p, s0, rfl, -, -⟩ := hv
  clear hzc hTab hg hc hl
  obtain ⟨i, r, x, s⟩ := c
  obtain ⟨V, hV⟩ : ∃ V, tkV ⟨i, r, x, s⟩ (secK bs ⟨i, r, x, s⟩) = V := ⟨_, rfl⟩
  rw [hV]
  have HV := Bx.mk hV
  clear hV
  obtain ⟨t0, ht0⟩ : ∃ t0, tkC ⟨i, r, x, s⟩ z32 = t0 := ⟨_, rfl⟩
  have hb0 : Tryz.prog.built 29 [(0, .agg #[.int .i64 i, .int .i64 r, .int .i64 x, .int .i64 s])] = some t0 := by rw [← ht0]; exact tk_built ⟨i, r, x, s⟩
  have HT : Bx ((Tryz.prog.info? 29).map (·.size) = some t0.size ∧ t0.all (·.oneCell') = true ∧ t0.size = zc.size) := Bx.mk (by rw [← ht0, ← HZ.out]; exact ⟨tk_info _ _ rfl, tkC_one _ _, by rw [tkC_size _ _ rfl, tkC_size _ _ rfl]⟩)
  have HT0 := Bx.mk ht0
  clear ht0
  unfold clV at *
  simp only at HK ⊢
  obtain ⟨B, hB⟩ : ∃ B, w.heap.size = B := ⟨_, rfl⟩
  have H0 := Bx.mk (((KS.start w B hB).new (.cells #[.int .i64 i, .int .i64 r, .int .i64 x, .int .i64 s] 26)).new (.cells zc 29))
  rw [alloc_size, hB] at H0
  rw [hB] at HIn ⊢
  go_enter Tryz.func29, Tryz.ntmps29
  go_wp2_with fail
  generalize (w.alloc (.cells #[.int .i64 i, .int .i64 r, .int .i64 x, .int .i64 s] 26)).alloc (.cells zc 29) = w0 at *
  refine (HK w0).mono ?_
  rintro e w1 ⟨v1, rfl, ho1, hb1⟩
  have H1 := Bx.mk (And.intro (H0.out.later hb1) ho1.bytes)
  obtain ⟨a9, c9, hv9⟩ := own_form ho1
  rw [clB_length] at hv9
  subst hv9
  clear hb1 ho1 H0
  obtain ⟨D, hD⟩ : ∃ D, w1.heap.size = D := ⟨_, rfl⟩
  have HD1 : Bx (B + 1 < D) := Bx.mk (by rw [← hD]; exact H1.out.1.lt (.head _))
  have HD : Bx (B ≤ D) := Bx.mk (by have := HD1.out; omega)
  have H2 := Bx.mk (And.intro (H1.out.1.new (.cells zc 29)) True.intro)
  rw [hD] at H2
  obtain ⟨kc0, kc1, kc2, kc3⟩ := cells4 (H1.out.1.rows _ (.tail _ (.head _)))
  have H1 := Bx.mk H1.out.2
  go_wp2_with (first | (refine wpList_buildTo rfl 29 _ rfl _ rfl t0 (by simp only [List.map_toArray, List.map_cons, List.map_nil]; exact hb0) ?_) | (refine wpList_store_new rfl 29 _ _ rfl D t0 zc _ (by rfl) (by rfl) (H2.out.1.rows _ (.head _)) HT.out.2.2 HT.out.1 HT.out.2.1 ?_; intro w3 hw8 hr8; have hg8 := Bx.mk (kb_of hw8); have HR8 := Bx.mk hr8; clear hw8 hr8))
  rw [← HT0.out] at HR8
  have B1 : Bx (KS w B ((D, .cells (tkC ⟨i, r, x, s⟩ z32) 29) :: [(B + 1, .cells zc 29), (B, .cells #[.int .i64 i, .int .i64 r, .int .i64 x, .int .i64 s] 26)]) w3.drew ∧ Bytes w3.drew (.slice a9 9 c9) (clB ⟨i, r, x, s⟩)) := Bx.mk ⟨(H2.out.1.set hg8.out HR8.out HD.out (by intro y hy; have h1 := HD.out; have h2 := HD1.out; simp at hy; rcases hy with rfl | rfl <;> (simp only; omega))).drew, H1.out.later (((below_a _).trans (grown_below hg8.out (by rw [hD]; exact Nat.le_refl _) (by rw [alloc_size]; omega))).drew)⟩
  clear H1 H2 hg8 HR8 hD
  refine wp_region_noPanic ?_
  refine wp_region_held_drew (S := fun _ => True) (by kernel_rfl) (trivial) (fun hHeld => ?_)
  generalize w3.drew = W0 at *
  refine takeL 0 (v := ?_) rfl (by kernel_rfl) (by kernel_rfl) (by kernel_rfl) (fun _ _ _ h => h) (Or.inl ⟨by rfl, ?_⟩) hHeld ?_
  rotate_left 1
  · (intro w hSw; go_simp; try with_reducible rfl)
  try simp only [Act.put, List.setIfInBounds_toArray, List.set_cons_zero, List.set_cons_succ]
  refine takeL 1 (v := ?_) rfl (by kernel_rfl) (by kernel_rfl) (by kernel_rfl) (fun _ _ _ h => h) (Or.inl ⟨by rfl, ?_⟩) hHeld ?_
  rotate_left 1
  · (intro w hSw; go_simp; try with_reducible rfl)
  try simp only [Act.put, List.setIfInBounds_toArray, List.set_cons_zero, List.set_cons_succ]
  refine takeL 2 (v := ?_) rfl (by kernel_rfl) (by kernel_rfl) (by kernel_rfl) (fun _ _ _ h => h) (Or.inl ⟨by rfl, ?_⟩) hHeld ?_
  rotate_left 1
  · (intro w hSw; go_simp; try with_reducible rfl)
  try simp only [Act.put, List.setIfInBounds_toArray, List.set_cons_zero, List.set_cons_succ]
  refine takeL 3 (v := ?_) rfl (by kernel_rfl) (by kernel_rfl) (by kernel_rfl) (fun _ _ _ h => h) (Or.inl ⟨by rfl, ?_⟩) hHeld ?_
  rotate_left 1
  · (intro w hSw; go_simp; try with_reducible rfl)
  try simp only [Act.put, List.setIfInBounds_toArray, List.set_cons_zero, List.set_cons_succ]
  refine stepL 4 (by kernel_rfl) rfl (fun K hK => ?_)
  go_simp
  show K _ _
  have HP := Bx.mk (one_part B1.out.2)
  have B1 := Bx.mk (B1.out.1.alloc (.cells #[.slice a9 9 c9] 22))
  refine hK.out _ _ trivial (fun hHeld => ?_)
  clear hK K
  try simp only [Act.put, List.setIfInBounds_toArray, List.set_cons_zero, List.set_cons_succ]
  generalize W0.alloc (.cells #[.slice a9 9 c9] 22) = W1 at *
  generalize W0.heap.size = G1 at *
  refine stepL 5 (by kernel_rfl) rfl (fun K hK => ?_)
  go_simp
  refine (kderive_any bs tokL [clB ⟨i, r, x, s⟩] _ _ W1 (HIn.out W1 B1.out.below).1 HP.out HL.out (by decide) (by simp) (by intro p hp; simp at hp; rw [hp, clB_length]; omega) (HIn.out W1 B1.out.below).2.1 (HIn.out W1 B1.out.below).2.2).mono ?_
  rintro e W2 ⟨v2, rfl, ho2, hb2⟩
  show K _ _
  have B2 := Bx.mk (And.intro (B1.out.later hb2) ho2.key)
  clear ho2 hb2 HP B1
  refine hK.out _ _ trivial (fun hHeld => ?_)
  clear hK K
  try simp only [Act.put, List.setIfInBounds_toArray, List.set_cons_zero, List.set_cons_succ]
  refine stepL 6 (by kernel_rfl) rfl (fun K hK => ?_)
  go_simp
  refine (kbytes_any _ _ W2 B2.out.2 (by rw [hmac_length]; omega)).mono ?_
  rintro e W3 ⟨v3, rfl, ho3, hb3⟩
  show K _ _
  have B3 := Bx.mk (And.intro (B2.out.1.later hb3) ho3.bytes)
  clear ho3 hb3 B2
  refine hK.out _ _ trivial (fun hHeld => ?_)
  clear hK K
  try simp only [Act.put, List.setIfInBounds_toArray, List.set_cons_zero, List.set_cons_succ]
  refine stepL 7 (by kernel_rfl) rfl (fun K hK => ?_)
  refine step_copyK rfl _ _ rfl D ⟨i, r, x, s⟩ _ (B3.out.1.rows _ (.head _)) v3 _ B3.out.2 (hmac_length _ _) rfl rfl ?_
  intro W4 hr4 hg4
  have B4 := Bx.mk (B3.out.1.set hg4 hr4 HD.out (by intro y hy; have h1 := HD.out; have h2 := HD1.out; simp at hy; rcases hy with rfl | rfl <;> (simp only; omega)))
  clear hr4 hg4 B3
  refine hK.out _ _ trivial (fun hHeld => ?_)
  clear hK K
  try simp only [Act.put, List.setIfInBounds_toArray, List.set_cons_zero, List.set_cons_succ]
  refine wpAnyH_done (by kernel_rfl) ?_ _
  refine NoPanic.normal ?_
  clear hHeld
  change Bx (KS w B ((D, .cells (tkC ⟨i, r, x, s⟩ (secK bs ⟨i, r, x, s⟩)) 29) :: _) W4) at B4
  have HS : Bx ((secK bs ⟨i, r, x, s⟩).length = 32) := Bx.mk (secK_length _ _)
  unfold tkV at HV
  generalize secK bs ⟨i, r, x, s⟩ = sk at *
  have HI2 : Bx ((Tryz.prog.info? 29).map (·.size) = some (tkC ⟨i, r, x, s⟩ sk).size) := Bx.mk (tk_info _ _ HS.out)
  have HO2 : Bx ((tkC ⟨i, r, x, s⟩ sk).all (·.oneCell') = true) := Bx.mk (tkC_one _ _)
  have HE : Bx ((tkC ⟨i, r, x, s⟩ sk).size = zc.size) := Bx.mk (by rw [← HZ.out, tkC_size _ _ HS.out, tkC_size _ _ rfl])
  generalize tkC ⟨i, r, x, s⟩ sk = tk at *
  go_wp2_with (first | (refine wpList_load_row rfl 29 _ rfl D (by rfl) _ _ _ _ (B4.out.rows _ (.head _)) Tryz.underlying29 rfl HI2.out ?_) | (refine wpList_store_new rfl 29 _ _ rfl (B + 1) tk zc _ (by rfl) (by rfl) (B4.out.rows _ (.tail _ (.head _))) HE.out HI2.out HO2.out ?_; intro w8 hw8 hr8; have hg8 := Bx.mk (kb_of hw8); have HR8 := Bx.mk hr8; clear hw8 hr8))
  refine bodyPost_ret (results_pair rfl _ _ _ (B + 1) _ rfl (run_loadVar_row _ (B + 1) _ _ _ _ _ HR8.out Tryz.underlying29 rfl (HI2.out))) rfl ?_
  exact ⟨by rw [← HV.out]; rfl, B4.out.below.trans (grown_below hg8.out (by omega) B4.out.le)⟩
end Go.Proofs.YtnefpjdjnjcmbaaGreatDoor
namespace Go.Proofs.YtnefpjdjnjcmbaaGreatDoor
open Go Go.RowKit
set_option maxRecDepth 100000 in
set_option maxHeartbeats 1000000 in
theorem tkey_any (c : Cl) (s : List UInt8) (w : World) (hs : s.length = 32) :
    Calls Tryz.prog 25 #[tkV c s] w fun e w' => ∃ v', e = .returned v' ∧ KeyO w' w.heap.size v' s ∧ Below w.heap.size w w' := by
  have HS := Bx.mk hs
  clear hs
  obtain ⟨tk, htk⟩ : ∃ tk, tkC c s = tk := ⟨_, rfl⟩
  unfold tkV
  rw [htk]
  have HTK := Bx.mk htk
  clear htk
  obtain ⟨B, hB⟩ : ∃ B, w.heap.size = B := ⟨_, rfl⟩
  have H0 := Bx.mk ((KS.start w B hB).new (.cells tk 29))
  rw [← HTK.out] at H0
  rw [hB] at H0 ⊢
  go_enter Tryz.func25, Tryz.ntmps25
  go_wp2_with fail
  rw [HTK.out] at H0
  generalize w.alloc (.cells tk 29) = w0 at *
  rw [← HTK.out] at H0
  refine (new_any s _ w0 (tk_sec (H0.out.rows _ (.head _)) HS.out) (by rw [HS.out]; omega)).mono ?_
  rintro e w1 ⟨v1, rfl, ho1, hb1⟩
  have H1 := Bx.mk (And.intro (ho1.weak H0.out.le) (H0.out.later hb1).below)
  clear ho1 hb1 H0
  go_wp2
  go_ret
  exact ⟨v1, rfl, H1.out⟩
end Go.Proofs.YtnefpjdjnjcmbaaGreatDoor
namespace Go.Proofs.YtnefpjdjnjcmbaaGreatDoor
open Go Go.RowKit
theorem and64 (m n : Nat) (hm : m ≤ 9223372036854775807) (hn : n ≤ 9223372036854775807) : bits .and .i64 (m : Int) (n : Int) = ((m &&& n : Nat) : Int) := by
  show IntKind.i64.wrap ((BitVec.ofInt 64 (m : Int) &&& BitVec.ofInt 64 (n : Int)).toNat : Int) = _
  rw [BitVec.toNat_and, BitVec.ofInt_natCast, BitVec.ofInt_natCast, BitVec.toNat_ofNat, BitVec.toNat_ofNat, Nat.mod_eq_of_lt (by omega), Nat.mod_eq_of_lt (by omega)]
  have := Nat.and_le_left (n := m) (m := n)
  rw [IntKind.wrap_i64]
  omega
theorem or64 (m n : Nat) (hm : m < 256) (hn : n < 256) : bits .or .i64 (m : Int) (n : Int) = ((m ||| n : Nat) : Int) := by
  show IntKind.i64.wrap ((BitVec.ofInt 64 (m : Int) ||| BitVec.ofInt 64 (n : Int)).toNat : Int) = _
  rw [BitVec.toNat_or, BitVec.ofInt_natCast, BitVec.ofInt_natCast, BitVec.toNat_ofNat, BitVec.toNat_ofNat, Nat.mod_eq_of_lt (by omega), Nat.mod_eq_of_lt (by omega)]
  have := Nat.or_lt_two_pow (n := 8) (x := m) (y := n) (by omega) (by omega)
  rw [IntKind.wrap_i64]
  omega
/-- Does a mask cover another one? -/
def covN (a b : Nat) : Bool := decide (a &&& b = b)
set_option maxRecDepth 100000 in
theorem covers_any (a b : Nat) (w : World) (ha : a ≤ 9223372036854775807) (hb : b ≤ 9223372036854775807) : Calls Tryz.prog 47 #[.int .i64 (a : Int), .int .i64 (b : Int)] w fun e w' => e = .returned (.bool (covN a b)) ∧ w' = w := by
  have he := and64 a b ha hb
  go_enter Tryz.func47, Tryz.ntmps47
  go_wp2
  go_ret
  refine ⟨ret_bool ?_, rfl⟩
  unfold covN
  generalize a &&& b = x
  rw [Bool.eq_iff_iff]
  simp
  omega
/-- A row of numbers. -/
def Ints (w : World) (v : Value) (ns : List Int) : Prop :=
  ∃ a cap, v = .slice a ns.length cap ∧ ns.length ≤ cap ∧ (a = none → cap = 0) ∧ (0 < ns.length → ∃ c o, a = some ⟨c, o, none⟩ ∧ ∀ i, i < ns.length → w.cell? ⟨c, o + i, none⟩ = some (.int .i64 (ns.getD i 0)))
/-- The mask of roles. -/
def mkN (ns : List Int) : Nat := ns.foldl (fun m r => m ||| 2 ^ r.toNat) 0
/-- Is it a role? -/
def isR (r : Int) : Bool := decide (0 ≤ r) && decide (r < 8)
theorem mkN_take (ns : List Int) (k : Nat) (hk : k < ns.length) : mkN (ns.take (k + 1)) = mkN (ns.take k) ||| 2 ^ (ns.getD k 0).toNat := by
  unfold mkN
  rw [List.take_add_one, List.foldl_append, List.getElem?_eq_getElem hk, List.getD_eq_getElem?_getD, List.getElem?_eq_getElem hk]
  rfl
theorem pow_lt8 (r : Int) (h : isR r = true) : 2 ^ r.toNat < 256 := by
  simp [isR] at h
  have hr : r = 0 ∨ r = 1 ∨ r = 2 ∨ r = 3 ∨ r = 4 ∨ r = 5 ∨ r = 6 ∨ r = 7 := by omega
  rcases hr with rfl | rfl | rfl | rfl | rfl | rfl | rfl | rfl <;> decide
theorem fold_lt8 (ns : List Int) : ∀ m : Nat, m < 256 → ns.all isR = true → ns.foldl (fun m r => m ||| 2 ^ r.toNat) m < 256 := by
  induction ns with
  | nil => intro m h _; exact h
  | cons r ns ih =>
    intro m h ha
    simp only [List.all_cons, Bool.and_eq_true] at ha
    exact ih _ (Nat.or_lt_two_pow (n := 8) h (pow_lt8 r ha.1)) ha.2
theorem mkN_lt (ns : List Int) (h : ns.all isR = true) : mkN ns < 256 := fold_lt8 ns 0 (by omega) h
set_option maxRecDepth 100000 in
set_option maxHeartbeats 1000000 in
theorem mask_any (ns : List Int) (v : Value) (w : World) (hv : Ints w v ns) (hl : ns.length ≤ 1000000) :
    Calls Tryz.prog 46 #[v] w fun e w' => e = .returned (if ns.all isR = true then .tuple #[.int .i64 (mkN ns : Int), .int .i64 0] else .tuple #[.int .i64 0, .int .i64 10]) ∧ w' = w := by
  obtain ⟨V, hV⟩ : ∃ V, (if ns.all isR = true then Value.tuple #[.int .i64 (mkN ns : Int), .int .i64 0] else .tuple #[.int .i64 0, .int .i64 10]) = V := ⟨_, rfl⟩
  rw [hV]
  have HV := Bx.mk hV
  clear hV
  obtain ⟨a, cap, rfl, hcap, hnone, hrow⟩ := hv
  have HR := Bx.mk hrow
  obtain ⟨n, hn⟩ : ∃ n, ns.length = n := ⟨_, rfl⟩
  have HN := Bx.mk hn
  rw [hn] at HR hl ⊢
  have hl1 : (n : Int) ≤ 1000000 := by omega
  clear hn hrow hcap
  go_enter Tryz.func46, Tryz.ntmps46
  go_wp2
  go_loopw [9, 4] (fun i m wr => ∃ k : Nat, k ≤ n ∧ i = .int .i64 (k : Int) ∧ m = .int .i64 (mkN (ns.take k) : Int) ∧ Bx ((ns.take k).all isR = true) ∧ wr = w) (fun i _ _ => n - (intOf i).toNat)
  case atStart => exact ⟨0, Nat.zero_le _, rfl, rfl, ⟨rfl⟩, rfl⟩
  case round =>
    obtain ⟨k, hk, rfl, rfl, HA, rfl⟩ := hrel
    by_cases hlt : k < n
    · have hk1 : (k : Int) < (n : Int) := by omega
      obtain ⟨c, o, rfl, hf⟩ := HR.out (by omega)
      have hc := hf k hlt
      obtain ⟨m, hm⟩ : ∃ m, mkN (ns.take k) = m := ⟨_, rfl⟩
      rw [hm]
      obtain ⟨r, hr⟩ : ∃ r, ns.getD k 0 = r := ⟨_, rfl⟩
      rw [hr] at hc
      have hm8 : (m : Int) < 256 := by have := mkN_lt _ HA.out; omega
      have HB : Bx (isR r = false → V = .tuple #[.int .i64 0, .int .i64 10]) := Bx.mk (fun h => by
        rw [← HV.out, if_neg]
        rw [Bool.not_eq_true, List.all_eq_false]
        refine ⟨r, ?_, by rw [h]; simp⟩
        rw [← hr, List.getD_eq_getElem?_getD, List.getElem?_eq_getElem (by rw [HN.out]; exact hlt)]
        exact List.getElem_mem _)
      have HG : Bx (isR r = true → bits .or .i64 (m : Int) (wrap64 (2 ^ r.toNat)) = ((mkN (ns.take (k + 1)) : Nat) : Int) ∧ (ns.take (k + 1)).all isR = true) := Bx.mk (fun h => ⟨by
        rw [mkN_take ns k (by rw [HN.out]; exact hlt), hr, hm]
        have h2 := pow_lt8 r h
        rw [show (2 : Int) ^ r.toNat = ((2 ^ r.toNat : Nat) : Int) by simp]
        generalize 2 ^ r.toNat = q at h2 ⊢
        rw [IntWalk.wrap64_in _ (by omega)]
        exact or64 m _ (by omega) h2, by
        rw [List.take_add_one, List.all_append, HA.out, List.getElem?_eq_getElem (by rw [HN.out]; exact hlt)]
        rw [List.getD_eq_getElem?_getD, List.getElem?_eq_getElem (by rw [HN.out]; exact hlt)] at hr
        simp at hr
        simp [hr, h]⟩)
      clear hf hm hr HR hnone HV
      by_cases h0 : r < 0
      · have HE := Bx.mk (HB.out (by simp [isR]; omega))
        clear HB HG
        go_wp2
        go_ret2
        exact ⟨by rw [HE.out]; rfl, rfl⟩
      by_cases h8 : 8 ≤ r
      · have HE := Bx.mk (HB.out (by simp [isR]; omega))
        clear HB HG
        go_wp2
        go_ret2
        exact ⟨by rw [HE.out]; rfl, rfl⟩
      have HE := Bx.mk (HG.out (by simp [isR]; omega))
      clear HB HG
      go_wp2
      go_roundw
      case rel => exact ⟨k + 1, by omega, by go_num, by rw [HE.out.1], ⟨HE.out.2⟩, trivial⟩
      case measure => simp [intOf]; omega
    · obtain rfl : k = n := by omega
      have HE : Bx (V = .tuple #[.int .i64 (mkN (ns.take k) : Int), .int .i64 0]) := Bx.mk (by
        have h := HA.out
        rw [← HV.out]
        rw [List.take_of_length_le (by rw [HN.out]; exact Nat.le_refl _)] at h ⊢
        rw [if_pos h])
      clear HV HR
      go_wp2
      go_ret2
      exact ⟨by rw [HE.out]; rfl, rfl⟩
theorem Ints.later {w w1 : World} {v : Value} {ns : List Int} (h : Ints w v ns) (hb : Below w.heap.size w w1) : Ints w1 v ns := by
  obtain ⟨a, cap, hv, hc, hn, hr⟩ := h
  refine ⟨a, cap, hv, hc, hn, fun hp => ?_⟩
  obtain ⟨c, o, ha, hf⟩ := hr hp
  refine ⟨c, o, ha, fun i hi => ?_⟩
  rw [hb.cell (p := ⟨c, o + i, none⟩) (World.block_lt_of_cell? _ _ (hf i hi))]
  exact hf i hi
/-- The cells of numbers. -/
def i64s (ns : List Int) : List Value := ns.map fun n => Value.int .i64 n
theorem i64s_get (ns : List Int) (i : Nat) (h : i < ns.length) : (i64s ns)[i]? = some (.int .i64 (ns.getD i 0)) := by
  unfold i64s
  rw [List.getElem?_map, List.getElem?_eq_getElem h, List.getD_eq_getElem?_getD, List.getElem?_eq_getElem h]
  rfl
/-- A row of numbers that the call has made. -/
def OwnI (w : World) (base : Nat) (v : Value) (ns : List Int) : Prop := w.ownsRow base 3 1 v ns.length (i64s ns)
theorem OwnI.nil (w : World) (base : Nat) : OwnI w base (.slice none 0 0) [] := ⟨rfl, .inl ⟨rfl, rfl⟩⟩
theorem OwnI.later {w w1 : World} {base B : Nat} {v : Value} {ns : List Int} (h : OwnI w base v ns) (hb : Below B w w1) (hB : ∀ g, v.ownBlock = some g → g < B) : OwnI w1 base v ns := by
  obtain ⟨hl, hr⟩ := h
  refine ⟨hl, ?_⟩
  rcases hr with h | ⟨g, cap, cur, hv, hc, h1, h2, h3, h4⟩
  · exact .inl h
  · refine .inr ⟨g, cap, cur, hv, hc, ?_, h2, h3, h4⟩
    rw [hb.block g (hB g (by rw [hv]; rfl))]
    exact h1
theorem OwnI.lt {w : World} {base : Nat} {v : Value} {ns : List Int} (h : OwnI w base v ns) : ∀ g, v.ownBlock = some g → g < w.heap.size ∧ base ≤ g := by
  intro g hg
  rcases h.2 with ⟨rfl, _⟩ | ⟨g', cap, cur, rfl, hb, hh, _⟩
  · cases hg
  · injection hg with hg
    subst hg
    exact ⟨(Array.getElem?_eq_some_iff.1 hh).1, hb⟩
theorem OwnI.ints {w : World} {base : Nat} {v : Value} {ns : List Int} (h : OwnI w base v ns) : Ints w v ns := by
  rcases h.2 with ⟨rfl, h0⟩ | ⟨g, cap, cur, rfl, hb, hg, hn, hm, hs, hc⟩
  · refine ⟨none, 0, by rw [h0], by omega, fun _ => rfl, fun hp => by omega⟩
  · refine ⟨_, cap, rfl, hn, (fun hx => by cases hx), fun _ => ⟨g, 0, rfl, fun j hj => ?_⟩⟩
    rw [cell_of_row _ _ _ _ _ _ hg, Nat.zero_add, ← Array.getElem?_toList]
    have h1 : (cur.toList.take (ns.length * 1))[j]? = (i64s ns)[j]? := by rw [hc]
    rw [List.getElem?_take, if_pos (by omega), i64s_get ns j hj] at h1
    exact h1
theorem OwnI.form {w : World} {base : Nat} {v : Value} {ns : List Int} (h : OwnI w base v ns) : ∃ a cap, v = .slice a ns.length cap := by
  obtain ⟨a, cap, hv, -⟩ := h.ints
  exact ⟨a, cap, hv⟩
theorem OwnI.weak {w : World} {base base' : Nat} {v : Value} {l : List Int} (h : OwnI w base v l) (hb : base' ≤ base) : OwnI w base' v l := by
  refine ⟨h.1, ?_⟩
  rcases h.2 with h0 | ⟨g, cap, cur, hv, hb', hr⟩
  · exact .inl h0
  · exact .inr ⟨g, cap, cur, hv, by omega, hr⟩
end Go.Proofs.YtnefpjdjnjcmbaaGreatDoor
namespace Go.Proofs.YtnefpjdjnjcmbaaGreatDoor
open Go Go.RowKit
theorem fold_or (ns : List Int) : ∀ m : Nat, ns.foldl (fun m r => m ||| 2 ^ r.toNat) m = m ||| mkN ns := by
  induction ns with
  | nil => intro m; simp [mkN]
  | cons r ns ih =>
    intro m
    unfold mkN
    rw [List.foldl_cons, List.foldl_cons, ih, ih (0 ||| 2 ^ r.toNat), Nat.zero_or, Nat.or_assoc]
theorem cov_trans {x y z : Nat} (h : covN x y = true) (k : covN y z = true) : covN x z = true := by
  simp [covN] at h k ⊢
  rw [← k, ← Nat.and_assoc, h]
theorem cov_left (x y : Nat) : covN (x ||| y) x = true := by
  simp only [covN, decide_eq_true_eq]
  apply Nat.eq_of_testBit_eq
  intro i
  simp only [Nat.testBit_and, Nat.testBit_or]
  cases x.testBit i <;> simp
theorem cov_right (x y : Nat) : covN (x ||| y) y = true := by rw [Nat.or_comm]; exact cov_left y x
theorem cov_or {x y z : Nat} (h : covN z x = true) (k : covN z y = true) : covN z (x ||| y) = true := by
  simp only [covN, decide_eq_true_eq] at h k ⊢
  rw [Nat.and_or_distrib_left, h, k]
theorem mask_ok (ns : List Int) (v : Value) (w : World) (hv : Ints w v ns) (hl : ns.length ≤ 1000000) (ha : ns.all isR = true) :
    Calls Tryz.prog 46 #[v] w fun e w' => e = .returned (.tuple #[.int .i64 (mkN ns : Int), .int .i64 0]) ∧ w' = w := by
  have h := mask_any ns v w hv hl
  rw [if_pos ha] at h
  exact h
theorem mask_bad (ns : List Int) (v : Value) (w : World) (hv : Ints w v ns) (hl : ns.length ≤ 1000000) (ha : ns.all isR = false) :
    Calls Tryz.prog 46 #[v] w fun e w' => e = .returned (.tuple #[.int .i64 0, .int .i64 10]) ∧ w' = w := by
  have h := mask_any ns v w hv hl
  rw [if_neg (by rw [ha]; simp)] at h
  exact h
end Go.Proofs.YtnefpjdjnjcmbaaGreatDoor
namespace Go.Proofs.YtnefpjdjnjcmbaaGreatDoor
open Go Go.ChangeShapes Go.WideShapes Go.ChangeAt Go.RowKit
theorem own : ownKnob Tryz.prog.godebug = none := by kernel_rfl
theorem laidOut : laidOutB Tryz.prog = true := by kernel_rfl
/-- A slice of bytes that came in. -/
def IsRow (w : World) (a : Option Addr) (len cap : Nat) (zs : List Int) : Prop :=
  (a = none ∧ len = 0 ∧ cap = 0 ∧ zs = []) ∨
  ∃ x, a = some x ∧ len ≤ cap ∧ cap ≤ maxLen ∧ zs.length = cap ∧ (∀ i, i < zs.length → w.cell? (x.add i) = some (.int .u8 (zs.getD i 0))) ∧ ∀ n ∈ zs, (Lit.int .u8 n).wf = true
theorem IsRow.bytes {w : World} {a : Option Addr} {len cap : Nat} {zs : List Int} (h : IsRow w a len cap zs) : ∃ bs, Bytes w (.slice a len cap) bs ∧ bs.length = len ∧ len ≤ 9223372036854775807 := by
  rcases h with ⟨rfl, rfl, rfl, rfl⟩ | ⟨x, rfl, hl, hm, hz, hc, hw⟩
  · exact ⟨[], ⟨none, 0, rfl, Nat.le_refl _, fun _ => rfl, fun h => by simp at h⟩, rfl, by omega⟩
  · have hm' : cap ≤ 9223372036854775807 := hm
    refine ⟨(zs.take len).map (fun z => UInt8.ofNat z.toNat), ⟨some x, cap, ?_, ?_, (fun h => by cases h), fun hp => ?_⟩, ?_, by omega⟩
    · rw [List.length_map, List.length_take, Nat.min_eq_left (by omega)]
    · rw [List.length_map, List.length_take]; omega
    · rw [List.length_map, List.length_take] at hp
      obtain ⟨b, off, rfl, hc'⟩ := ints_at hc (by omega)
      refine ⟨b, off, rfl, fun j hj => ?_⟩
      rw [List.length_map, List.length_take] at hj
      rw [hc' j (by omega)]
      congr 2
      have hjz : j < zs.length := by omega
      have hr : 0 ≤ zs[j] ∧ zs[j] ≤ 255 := bounds_u8 (hw _ (List.getElem_mem hjz))
      have e1 : zs.getD j 0 = zs[j] := by simp [hjz]
      have e2 : ((zs.take len).map (fun z => UInt8.ofNat z.toNat)).getD j 0 = UInt8.ofNat (zs[j]).toNat := by
        simp [hjz, show j < len by omega]
      rw [e1, e2]
      unfold ub
      rw [UInt8.toNat_ofNat']
      omega
    · rw [List.length_map, List.length_take]; omega
theorem open_bytes {H : Type} {enc : TypeId × Value → H} {W : World} {a : Option Addr} {len cap : Nat} {d : DataW H} {p : List MemPlace} (h : DataW.Trod enc Tryz.prog W 0 (fun _ => true) true 22 (.slice a len cap) d p) :
    ∃ bs, Bytes W (.slice a len cap) bs ∧ bs.length ≤ 9223372036854775807 := by
  obtain ⟨z0, w0⟩ : ∃ zs, IsRow W a len cap zs := by
    obtain ⟨fuel, hf⟩ := h
    rcases open_ints Tryz.underlying22 Tryz.underlying5 (by kernel_rfl) hf with ⟨hcs, _⟩ | ⟨x, l, c, zs, hcs, _, hl, hm, hz, _, hcell, hwz⟩
    · simp [Value.cells] at hcs
      obtain ⟨rfl, rfl, rfl⟩ := hcs
      exact ⟨[], .inl ⟨rfl, rfl, rfl, rfl⟩⟩
    · simp [Value.cells] at hcs
      obtain ⟨rfl, rfl, rfl⟩ := hcs
      exact ⟨zs, .inr ⟨_, rfl, hl, hm, by simpa using hz, hcell, hwz⟩⟩
  obtain ⟨bs, hb, hbl, hbm⟩ := w0.bytes
  exact ⟨bs, hb, by omega⟩
/-- The bytes of a slice that came in. -/
theorem raw_bytes {H : Type} {enc : TypeId × Value → H} {W : World} {fuel : Nat} {c : Value} {x : DataW H × List MemPlace} (hf : DataW.trod enc Tryz.prog W 0 (fun _ => true) true fuel 22 [c] = some x) :
    ∃ bs, Bytes W c bs ∧ bs.length ≤ 9223372036854775807 := by
  rcases open_ints Tryz.underlying22 Tryz.underlying5 (by kernel_rfl) hf with ⟨hcs, _⟩ | ⟨y, l, k, zs, hcs, _, hl, hm, hz, _, hcell, hwz⟩
  · simp at hcs
    subst hcs
    exact ⟨[], Bytes.nil _, by simp⟩
  · simp at hcs
    subst hcs
    obtain ⟨bs, hb, hbl, hbm⟩ := IsRow.bytes (w := W) (a := some y) (len := l) (cap := k) (zs := zs) (.inr ⟨_, rfl, hl, hm, by simpa using hz, hcell, hwz⟩)
    exact ⟨bs, hb, by omega⟩
end Go.Proofs.YtnefpjdjnjcmbaaGreatDoor
namespace Go.Proofs.YtnefpjdjnjcmbaaGreatDoor
open Go Go.ChangeShapes Go.WideShapes Go.ChangeAt Go.RowKit
/-- A number that an int holds. -/
def in64 (n : Int) : Prop := -9223372036854775808 ≤ n ∧ n ≤ 9223372036854775807
set_option maxRecDepth 100000 in
/-- Claims by value. -/
theorem open_claims {H : Type} {enc : TypeId × Value → H} {W : World} {base : Nat} {v : Value} {d : DataW H} {p : List MemPlace} (hv : Value.okWide Tryz.prog W .any base 24 v) (h : DataW.Trod enc Tryz.prog W 0 (fun _ => true) true 24 v d p) :
    ∃ c, v = clV c ∧ in64 c.id ∧ in64 c.ro ∧ in64 c.ex ∧ in64 c.se := by
  obtain ⟨cs, rfl, hsz⟩ := okWide_struct Tryz.underlying24 hv
  obtain ⟨fuel, hf0⟩ := h
  have hf1 : DataW.trod enc Tryz.prog W 0 (fun _ => true) true fuel 24 cs.toList = some (d, p) := hf0
  obtain ⟨xs, n, -, -, hlen, hxl, hf⟩ := DataW.trod_struct Tryz.underlying24 hf1
  obtain ⟨l⟩ := cs
  simp only at hlen hf
  have hl4 : l.length = 4 := hlen.trans (by kernel_rfl)
  have hx4 : xs.length = 4 := hxl
  match l, hl4, xs, hx4 with
  | [a0, a1, a2, a3], _, [y0, y1, y2, y3], _ =>
    have g0 : DataW.trod enc Tryz.prog W 0 (fun _ => true) true n 3 [a0] = some y0 := hf 0 _ rfl
    have g1 : DataW.trod enc Tryz.prog W 0 (fun _ => true) true n 3 [a1] = some y1 := hf 1 _ rfl
    have g2 : DataW.trod enc Tryz.prog W 0 (fun _ => true) true n 3 [a2] = some y2 := hf 2 _ rfl
    have g3 : DataW.trod enc Tryz.prog W 0 (fun _ => true) true n 3 [a3] = some y3 := hf 3 _ rfl
    obtain ⟨n0, e0, -, w0⟩ := DataW.trod_int Tryz.underlying3 g0
    obtain ⟨n1, e1, -, w1⟩ := DataW.trod_int Tryz.underlying3 g1
    obtain ⟨n2, e2, -, w2⟩ := DataW.trod_int Tryz.underlying3 g2
    obtain ⟨n3, e3, -, w3⟩ := DataW.trod_int Tryz.underlying3 g3
    simp at e0 e1 e2 e3
    subst e0
    subst e1
    subst e2
    subst e3
    exact ⟨⟨n0, n1, n2, n3⟩, rfl, lit_i64 n0 w0, lit_i64 n1 w1, lit_i64 n2 w2, lit_i64 n3 w3⟩
end Go.Proofs.YtnefpjdjnjcmbaaGreatDoor
