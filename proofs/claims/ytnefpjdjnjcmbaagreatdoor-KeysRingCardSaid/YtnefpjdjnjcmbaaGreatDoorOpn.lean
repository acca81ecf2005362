/-
  KeysRing: the whole walk.
-/
import Derived.Test.YtnefpjdjnjcmbaaGreatDoorR15
import Derived.Test.YtnefpjdjnjcmbaaGreatDoorAc
import Derived.Test.YtnefpjdjnjcmbaaGreatDoorCu
import Derived.Test.YtnefpjdjnjcmbaaGreatDoorRows
import Derived.ProofKit
import Derived.OpenShut
import Derived.ShutString
import Derived.ChangeOld
import Derived.Below
import Derived.Deep.DeepHandedRow
import Derived.Lib.LaidTab
import Derived.Deep.Matrix
namespace Go.Proofs.YtnefpjdjnjcmbaaGreatDoor
open Go Go.RowKit
/-- The frame ahead of the loop. -/
structure RL (v2 v3 v4 v11 v12 v14 v15 : Value) (a : Act) : Prop where
  fr : Fr 351 a
  s2 : a.eval (.tmp 2) = v2
  s3 : a.eval (.tmp 3) = v3
  s4 : a.eval (.tmp 4) = v4
  s11 : a.eval (.tmp 11) = v11
  s12 : a.eval (.tmp 12) = v12
  s14 : a.eval (.tmp 14) = v14
  s15 : a.eval (.tmp 15) = v15
theorem splitR6 : restAt9 Tryz.f3.body 6 = .seq (partAt9 Tryz.f3.body 7) (restAt9 Tryz.f3.body 7) := by kernel_rfl
set_option maxRecDepth 100000 in
set_option maxHeartbeats 4000000 in
theorem regLR (w0 ws : World) (R L B : Nat) (tk : List Value) (acs : List Ac) (aa : Option Addr) (nl cl : Nat) (v3 v4 : Value) (G0 xt : Nat) (i0 ex0 s0 : Int) (sec : List Value) (htk : tk = .int .i64 i0 :: .int .i64 (xt : Int) :: .int .i64 ex0 :: .int .i64 s0 :: sec) (hG0 : ws.cell? ⟨G0, 1, none⟩ = some (.int .i64 (xt : Int))) (hGR : G0 ≠ R) (hGL : G0 ≠ L) (hx8 : xt < 256) (hA : Acts w0 (.slice aa nl cl) acs) (hnl : acs.length = nl) (hb0 : Below w0.heap.size w0 ws) (hR0 : w0.heap.size ≤ R) (hL0 : w0.heap.size ≤ L) (hn9 : nl ≤ 9223372036854775807)
    (a : Act) (w : World) (va : Option Addr) (n c : Nat) (mv : Value) (lb : List Value) (l : List (Cl × Nat)) (m : List (Cl × Value)) (ls : List Value) (hF : RL (.slice aa nl cl) v3 v4 (.pointer (some ⟨G0, 0, none⟩)) (.pointer (some ⟨R, 0, none⟩)) (.slice va n c) (.pointer (some ⟨L, 0, none⟩)) a) (hS : RSt R L B tk mv lb l (.slice va n c) m ls w) (hkp : KP R L B ws w) :
    Code.wp Tryz.prog (partAt9 Tryz.f3.body 7) (fun x a' w' => x = .normal ∧ ∃ k, IO R L B tk ws (.slice aa nl cl) v3 v4 (.pointer (some ⟨G0, 0, none⟩)) k a' w') a w := by
  have HL := Bx.mk fun Q a w => ring_loop w0 ws R L B tk acs aa nl cl v3 v4 G0 xt i0 ex0 s0 sec htk hG0 hGR hGL hx8 hA hnl hb0 hR0 hL0 hn9 Q a w
  have HS := Bx.mk (And.intro hS hkp)
  clear hS hkp htk hG0 hA hb0
  obtain ⟨x, rfl, hx⟩ := open351 hF.fr
  have e2 := (hx 2).symm.trans hF.s2
  have e3 := (hx 3).symm.trans hF.s3
  have e4 := (hx 4).symm.trans hF.s4
  have e11 := (hx 11).symm.trans hF.s11
  have e12 := (hx 12).symm.trans hF.s12
  have e14 := (hx 14).symm.trans hF.s14
  have e15 := (hx 15).symm.trans hF.s15
  clear hF hx
  rw [e2, e3, e4, e11, e12, e14, e15]
  clear e2 e3 e4 e11 e12 e14 e15
  conv => arg 2; whnf
  go_wp2_with fail
  refine HL.out _ _ w ?_ ?_
  · refine ⟨va, n, c, mv, lb, l, m, ls, ?_, HS.out⟩
    exact ⟨⟨rfl, rfl⟩, rfl, rfl, rfl, rfl, rfl, rfl, rfl, rfl⟩
  intro k a' w' h'
  exact ⟨rfl, k, h'⟩
/-- Labels without any. -/
def nil8 : List Value := [.slice none 0 0, .slice none 0 0, .slice none 0 0, .slice none 0 0, .slice none 0 0, .slice none 0 0, .slice none 0 0, .slice none 0 0]
def no8 : List Value := [.pointer none, .pointer none, .pointer none, .pointer none, .pointer none, .pointer none, .pointer none, .pointer none]
theorem labs_none (r : Nat) (hr : r < 8) : no8.getD r undef = .pointer none ∧ nil8.getD r undef = .slice none 0 0 :=
  match r, hr with
  | 0, _ => ⟨rfl, rfl⟩
  | 1, _ => ⟨rfl, rfl⟩
  | 2, _ => ⟨rfl, rfl⟩
  | 3, _ => ⟨rfl, rfl⟩
  | 4, _ => ⟨rfl, rfl⟩
  | 5, _ => ⟨rfl, rfl⟩
  | 6, _ => ⟨rfl, rfl⟩
  | 7, _ => ⟨rfl, rfl⟩
theorem kp_below {R L B : Nat} {w W W1 : World} (hb : Below w.heap.size w W) (k : KP R L B W W1) (hR : w.heap.size ≤ R) (hL : w.heap.size ≤ L) (hB : w.heap.size ≤ B) : Below w.heap.size w W1 := by
  have h0 : Below 0 W W1 := ⟨k.os, k.tape, k.output, k.size, fun i hi => absurd hi (Nat.not_lt_zero _)⟩
  have h1 := (hb.mono (Nat.zero_le _)).trans h0
  refine ⟨h1.os, h1.tape, h1.output, h1.size, fun i hi => ?_⟩
  obtain ⟨o, ho⟩ : ∃ o, w.heap[i]? = some o := ⟨_, Array.getElem?_eq_getElem hi⟩
  have h2 : W.heap[i]? = some o := by rw [hb.block i hi]; exact ho
  rw [ho, k.block i o h2 (by omega) (by omega) (.inl (by omega))]
theorem role8 {c : Cl} (h : okC c = true) : ∃ x : Nat, c.ro = (x : Int) ∧ x < 256 := by
  unfold okC at h
  simp at h
  exact ⟨c.ro.toNat, by omega, by omega⟩
set_option maxRecDepth 100000 in
set_option maxHeartbeats 4000000 in
theorem ring_walk (m0 : List UInt8) (vm : Value) (c : Cl) (acs : List Ac) (va : Value) (nv nq : Int) (w : World) (hm : Bytes w vm m0) (hml : m0.length ≤ 9223372036854775807) (hA : Acts w va acs) (hn9 : acs.length ≤ 9223372036854775807) (hTab : Tab w) (hg : 0 < w.heap.size) :
    Calls Tryz.prog 3 #[vm, clV c, va, .int .i64 nv, .int .i64 nq] w fun e w' => e = .returned (.bool true) ∧ Below w.heap.size w w' := by
  obtain ⟨aa, cl, rfl, -⟩ := id hA
  obtain ⟨nl, hnl⟩ : ∃ n, acs.length = n := ⟨_, rfl⟩
  rw [hnl] at hA hn9 ⊢
  obtain ⟨E, hE⟩ : ∃ E, w.heap.size = E := ⟨_, rfl⟩
  have hok := cOr_ok c
  have hs := secK_length (m0.take 70) (cOr c)
  have HR1 := Bx.mk fun (a : Act) (W : World) h hW => reg1R w E m0 c vm (.slice aa nl cl) (.int .i64 nv) (.int .i64 nq) hm hml hTab hg hE a W h hW
  have HTb : Bx (∀ W, Below w.heap.size w W → Tab W ∧ 0 < W.heap.size) := ⟨fun W h => ⟨hTab.later h hg, Nat.lt_of_lt_of_le hg h.size⟩⟩
  have HTb0 := Bx.mk (And.intro hTab hg)
  have HA := Bx.mk (And.intro hA (And.intro hnl hn9))
  generalize secK (m0.take 70) (cOr c) = s at *
  generalize cOr c = cc at *
  obtain ⟨i0, r0, x0, q0⟩ := c
  have K0 : Bx (KS w E [(E, .cells (clC ⟨i0, r0, x0, q0⟩) 24)] (w.alloc (.cells #[.int .i64 i0, .int .i64 r0, .int .i64 x0, .int .i64 q0] 24))) := ⟨by
    have h := (KS.start w E hE).new (.cells #[.int .i64 i0, .int .i64 r0, .int .i64 x0, .int .i64 q0] 24)
    rw [hE] at h
    exact h⟩
  have HTI : Bx ((Tryz.prog.info? 29).map (·.size) = some (tkC cc s).size) := Bx.mk (tk_info cc s hs)
  have HOk := Bx.mk (And.intro hok hs)
  have HE := Bx.mk hE
  unfold clV
  simp only
  clear hm hml hA hn9 hTab hg hok hs hnl
  go_enter Tryz.func3, Tryz.ntmps3
  go_upto_region 1 with fail
  rename_i K1 hK1
  refine wp_mono (HR1.out _ _ ⟨⟨rfl, rfl⟩, rfl, rfl, rfl, rfl, rfl⟩ K0.out) ?_
  rintro x1 a1 w1 ⟨rfl, D, hB1, hED, hk1⟩
  refine hK1 _ _ ?_
  have K2 := Bx.mk hk1
  have HED := Bx.mk hED
  clear hK1 K1 hk1 hED HR1 K0
  obtain ⟨x, rfl, hx⟩ := open351 hB1.fr
  have e2 := (hx 2).symm.trans hB1.s2
  have e3 := (hx 3).symm.trans hB1.s3
  have e4 := (hx 4).symm.trans hB1.s4
  have e11 := (hx 11).symm.trans hB1.s11
  clear hB1 hx
  rw [e2, e3, e4, e11]
  clear e2 e3 e4 e11
  go_wp2_with (refine wpList_load_row rfl 29 _ rfl D (by rfl) _ (tkC cc s) (0, 0) _ (K2.out.rows _ (.head _)) Tryz.underlying29 rfl HTI.out ?_)
  refine (ring_new cc s w1 HOk.out.2).mono ?_
  rintro e w2 ⟨-, h2, hb⟩
  obtain ⟨R, rfl, hR0, hrow⟩ := h2 HOk.out.1
  have K3 := Bx.mk (K2.out.later hb)
  have HR := Bx.mk (And.intro hR0 hrow)
  have HDl := Bx.mk (K2.out.lt (.head _))
  clear h2 hb hrow hR0 K2
  go_upto_region 3 with fail
  rename_i K4 hK4
  refine wp_mono (reg3R cc s rg0 R D (.slice aa nl cl) (.int .i64 nv) (.int .i64 nq) HOk.out.2 _ w2 ⟨⟨rfl, rfl⟩, rfl, rfl, rfl, rfl, rfl, rfl⟩ (K3.out.rows _ (.head _)) HR.out.2) ?_
  rintro x3 a3 w3 ⟨rfl, hC3, h56, hb⟩
  refine hK4 _ _ ?_
  have K5 := Bx.mk (K3.out.later hb)
  have HR3 : Bx (w3.heap[R]? = some (.cells (rgC (tkC cc s).toList rg0) 73 (0, 0)) ∧ R < w3.heap.size) := ⟨by
    have h1 : w3.heap[R]? = some (.cells (rgC (tkC cc s).toList rg0) 73 (0, 0)) := by rw [hb.block R (Array.getElem?_eq_some_iff.1 HR.out.2).1]; exact HR.out.2
    exact ⟨h1, (Array.getElem?_eq_some_iff.1 h1).1⟩⟩
  have HDR : Bx (D < R ∧ E ≤ R) := ⟨by have h1 := HDl.out; have h2 := HR.out.1; have h3 := HED.out; omega⟩
  clear hK4 K4 hb K3 HR HDl
  obtain ⟨y, rfl, hy⟩ := open351 hC3.fr
  have e2 := (hy 2).symm.trans hC3.s2
  have e3 := (hy 3).symm.trans hC3.s3
  have e4 := (hy 4).symm.trans hC3.s4
  have e11 := (hy 11).symm.trans hC3.s11
  have e12 := (hy 12).symm.trans hC3.s12
  have e13 := (hy 13).symm.trans hC3.s13
  have e56 := (hy 56).symm.trans h56
  clear hC3 hy h56
  rw [e2, e3, e4, e11, e12, e13, e56]
  clear e2 e3 e4 e11 e12 e13 e56
  go_upto_region 6 with fail
  rename_i K6 hK6
  have hRL : R < w3.heap.size := HR3.out.2
  have hed3 : w.heap.size ≤ w3.heap.size := by have := K5.out.le; have := HE.out; omega
  have hbs : Below w.heap.size w w3 := by rw [HE.out]; exact K5.out.below
  obtain ⟨xt, hxt, hx8⟩ := role8 HOk.out.1
  obtain ⟨L, hL⟩ : ∃ L, w3.heap.size = L := ⟨_, rfl⟩
  have hba := below_a (W := w3) (.cells nil8.toArray 38)
  have hrD : w3.heap[D]? = some (.cells (tkC cc s) 29 (0, 0)) := K5.out.rows _ (.head _)
  have hrDs : (w3.alloc (.cells nil8.toArray 38)).heap[D]? = some (.cells (tkC cc s) 29 (0, 0)) := by rw [hba.block D (Array.getElem?_eq_some_iff.1 hrD).1]; exact hrD
  have hrRs : (w3.alloc (.cells nil8.toArray 38)).heap[R]? = some (.cells (rgC (tkC cc s).toList rg0) 73 (0, 0)) := by rw [hba.block R hRL]; exact HR3.out.1
  have hrLs : (w3.alloc (.cells nil8.toArray 38)).heap[L]? = some (.cells nil8.toArray 38 (0, 0)) := by rw [← hL]; exact hnew _ _ _ rfl
  have hsz : (w3.alloc (.cells nil8.toArray 38)).heap.size = L + 1 := by rw [World.size_alloc, hL]
  have hbw : Below w.heap.size w (w3.alloc (.cells nil8.toArray 38)) := hbs.trans (hba.mono hed3)
  have htk : (tkC cc s).toList = .int .i64 cc.id :: .int .i64 (xt : Int) :: .int .i64 cc.ex :: .int .i64 cc.se :: (u8s s).toList := by
    rw [tkC_list, ← hxt]
    rfl
  have hG0 : (w3.alloc (.cells nil8.toArray 38)).cell? ⟨D, 1, none⟩ = some (.int .i64 (xt : Int)) := by
    rw [cell_of_row _ _ _ _ _ _ hrDs, ← Array.getElem?_toList, htk]
    rfl
  rw [hL] at hRL hed3
  have hDR := HDR.out.1
  have HSt : Bx (RSt R L (L + 1) (tkC cc s).toList (.map none) no8 [] (.slice none 0 0) [] nil8 (w3.alloc (.cells nil8.toArray 38))) := ⟨{ ring := ⟨hrRs, by rw [Array.length_toList, tkC_size cc s HOk.out.2], rfl⟩, map := .inl ⟨rfl, rfl⟩, low := ⟨by omega, by omega, by omega, by omega⟩, own := OwnE.nil _ _, srt := (List.perm_nil.1 (sortC_perm [])).symm, few := Nat.zero_le _, keys := fun y hy => (List.not_mem_nil hy).elim, row := ⟨hrLs, rfl⟩, labs := fun r hr => .inl (labs_none r hr) }⟩
  have HL := Bx.mk fun a => regLR w (w3.alloc (.cells nil8.toArray 38)) R L (L + 1) (tkC cc s).toList acs aa nl cl (.int .i64 nv) (.int .i64 nq) D xt cc.id cc.ex cc.se _ htk hG0 (by omega) (by omega) hx8 HA.out.1 HA.out.2.1 hbw (by rw [HE.out]; exact HDR.out.2) hed3 HA.out.2.2 a (w3.alloc (.cells nil8.toArray 38))
  have HBw := Bx.mk hbw
  have HDs := Bx.mk hrDs
  have HLe := Bx.mk (And.intro hRL hed3)
  have HK6 := Bx.mk hK6
  unfold nil8 at HSt HL HBw HDs
  clear hbw hrD hrDs hrRs hrLs hsz hbs hba htk hG0 hx8 hxt hRL hed3 hDR hE HED HR3 K5 hK6
  go_wp2_with fail
  refine HK6.out _ _ ?_
  show Code.wp Tryz.prog (restAt9 Tryz.f3.body 6) _ _ _
  rw [splitR6]
  refine wp_seq (wp_mono (HL.out _ none 0 0 (.map none) no8 [] [] _ ?_ HSt.out (KP.refl _ _ _ _)) ?_)
  · exact ⟨⟨rfl, rfl⟩, rfl, rfl, rfl, rfl, rfl, rfl, rfl⟩
  rintro x5 a5 w5 ⟨rfl, k, va5, n5, c5, mv5, lb5, l5, m5, ls5, hF5, hS5, hkp5⟩
  have hle := HLe.out
  have hdr := HDR.out
  have heq := HE.out
  have hbl := kp_below HBw.out hkp5 (by omega) (by omega) (by omega)
  have hEN : EN w R D cc s (mv5 :: lb5) w5 := ⟨hS5.ring.row, hkp5.block D _ HDs.out (by omega) (by omega) (.inr rfl), (HTb.out w5 hbl).1, (HTb.out w5 hbl).2, hbl, hbl.size⟩
  by_cases hv : 1 ≤ nv ∧ nv ≤ 65535
  · obtain ⟨n, rfl⟩ : ∃ n : Nat, nv = n := ⟨nv.toNat, by omega⟩
    by_cases hq : 0 ≤ nq ∧ nq < 4
    · obtain ⟨q, rfl⟩ : ∃ q : Nat, nq = q := ⟨nq.toNat, by omega⟩
      exact ring_end_oo w R D cc s _ HOk.out.2 n (by omega) (by omega) q (by omega) _ _ _ _ a5 w5 hF5 hEN
    · exact ring_end_ob w R D cc s _ HOk.out.2 n (by omega) (by omega) nq (by omega) _ _ _ _ a5 w5 hF5 hEN
  · by_cases hq : 0 ≤ nq ∧ nq < 4
    · obtain ⟨q, rfl⟩ : ∃ q : Nat, nq = q := ⟨nq.toNat, by omega⟩
      exact ring_end_bo w R D cc s _ HOk.out.2 nv (by omega) q (by omega) _ _ _ _ a5 w5 hF5 hEN
    · exact ring_end_bb w R D cc s _ HOk.out.2 nv (by omega) nq (by omega) _ _ _ _ a5 w5 hF5 hEN
end Go.Proofs.YtnefpjdjnjcmbaaGreatDoor
namespace Go.Proofs.YtnefpjdjnjcmbaaGreatDoor
open Go Go.ChangeShapes Go.WideShapes Go.ChangeAt Go.RowKit
theorem gTab : Tryz.prog.globalNamed "vigil/digest.table" = some 0 := by kernel_rfl
theorem gTabType : (Tryz.prog.globals[0]?).map (·.type) = some 171 := by kernel_rfl
theorem cellsTab : Tryz.prog.cellsOf 171 = 64 := by kernel_rfl
theorem cellsWord : Tryz.prog.cellsOf 134 = 1 := by kernel_rfl
theorem laid_is : (Rows.laid_vigil_digest_table : DataW Unit) = Lib.tabData .u32 (kTab.map uv) := by kernel_rfl
/-- The listed variable's cells hold the table. -/
theorem tab_of {W : World} (h : laidMet Tryz.prog [("vigil/digest.table", Rows.laid_vigil_digest_table)] W) : Tab W := by
  rw [laid_is] at h
  have t := Lib.tabIs_of_head (rest := []) gTab gTabType Tryz.underlying171 Tryz.underlying134 cellsWord cellsTab h
  intro i hi
  rw [t.cell gTab i (by simpa [kTab] using hi)]
  congr 2
  have hk : i < kTab.length := hi
  simp [hk]
/-- A world for the witness: the settled one, the table holding what its initialiser lays. -/
noncomputable def laidWorld (os : Os) : World :=
  { World.holding Tryz.prog os ⟨#[], #[], []⟩ with heap := (World.holding Tryz.prog os ⟨#[], #[], []⟩).heap.modify 0 fun
      | .cells _ t frozen => .cells (u32s kTab) t frozen
      | o => o }
end Go.Proofs.YtnefpjdjnjcmbaaGreatDoor
namespace Go.Proofs.YtnefpjdjnjcmbaaGreatDoor
open Go Go.ChangeShapes Go.WideShapes Go.ChangeAt Go.RowKit
end Go.Proofs.YtnefpjdjnjcmbaaGreatDoor
