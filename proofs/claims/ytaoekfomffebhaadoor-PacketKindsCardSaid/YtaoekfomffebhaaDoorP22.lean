/-
  Kinds of packets: the law.
-/
import Derived.Test.YtaoekfomffebhaaDoorP26
import Derived.Test.YtaoekfomffebhaaDoorP20
import Derived.Test.YtaoekfomffebhaaDoorP6
import Derived.Test.YtaoekfomffebhaaDoorAd
import Derived.Great.BuildSlice
namespace Go.Proofs.YtaoekfomffebhaaDoor
open Go Go.ChangeShapes Go.WideShapes Go.ChangeAt Go.RowKit
theorem pk_size61 : Tryd.prog.info? 33 = some ((Tryd.prog.info? 33).getD default) := by kernel_rfl
theorem wpList_slice1K {ops : Array Oper} {rest : List Oper} {o : Oper} {a : Act} {w : World} {Q : Exit → Act → World → Prop} (hg : o.guard = none) (x : Operand) (ho : o.op = .buildSlice 61 1 #[(0, x)]) (tc : List Value) (hx : a.eval x = .agg tc.toArray) (hl : tc.length = 41)
    (h : wpList Tryd.prog ops Q rest (a.put o.dst (.slice (some ⟨w.heap.size, 0, none⟩) 1 1)) (w.alloc (.cells tc.toArray 33))) : wpList Tryd.prog ops Q (o :: rest) a w := by
  have hs : ((Tryd.prog.info? 33).getD default).size = 41 := by kernel_rfl
  refine wpList_buildSlice hg 61 33 1 _ ho tc.toArray _ (.agg (pkC Pk.zero (.slice none 0 0))) Tryd.underlying61 pk_size61 (by kernel_rfl) (by rw [hs]; decide) (by rw [hs]; decide) ?_ h
  rw [hs]
  have h2 := Great.fill_whole (s := 41) (by decide) [.agg tc.toArray] ((Array.range (1 * 41)).map ((Value.agg (pkC Pk.zero (.slice none 0 0))).cells[· % (Value.agg (pkC Pk.zero (.slice none 0 0))).cells.size]!)) (fun v hv => by
    rw [List.mem_singleton.1 hv]
    show tc.toArray.size = 41
    rw [List.size_toArray]
    exact hl) (by simp)
  have e : ([Value.agg tc.toArray].flatMap fun v => v.cells.toList).toArray = tc.toArray := by
    simp [Value.cells]
  rw [e] at h2
  have e2 : ((#[(0, x)] : Array (Nat × Operand)).map fun (i, x) => (i, a.eval x)).toList = (([Value.agg tc.toArray].zipIdx 0).map fun x => (x.2, x.1)) := by
    simp [hx]
  rw [e2]
  exact h2
set_option maxRecDepth 100000 in
theorem open115 {a : Act} (h : Fr 115 a) : ∃ x : Nat → Value, a = ⟨List.toArray (x 0 :: x 1 :: x 2 :: x 3 :: x 4 :: x 5 :: x 6 :: x 7 :: x 8 :: x 9 :: x 10 :: x 11 :: x 12 :: x 13 :: x 14 :: x 15 :: x 16 :: x 17 :: x 18 :: x 19 :: x 20 :: x 21 :: x 22 :: x 23 :: x 24 :: x 25 :: x 26 :: x 27 :: x 28 :: x 29 :: x 30 :: x 31 :: x 32 :: x 33 :: x 34 :: x 35 :: x 36 :: x 37 :: x 38 :: x 39 :: x 40 :: x 41 :: x 42 :: x 43 :: x 44 :: x 45 :: x 46 :: x 47 :: x 48 :: x 49 :: x 50 :: x 51 :: x 52 :: x 53 :: x 54 :: x 55 :: x 56 :: x 57 :: x 58 :: x 59 :: x 60 :: x 61 :: x 62 :: x 63 :: x 64 :: x 65 :: x 66 :: x 67 :: x 68 :: x 69 :: x 70 :: x 71 :: x 72 :: x 73 :: x 74 :: x 75 :: x 76 :: x 77 :: x 78 :: x 79 :: x 80 :: x 81 :: x 82 :: x 83 :: x 84 :: x 85 :: x 86 :: x 87 :: x 88 :: x 89 :: x 90 :: x 91 :: x 92 :: x 93 :: x 94 :: x 95 :: x 96 :: x 97 :: x 98 :: x 99 :: x 100 :: x 101 :: x 102 :: x 103 :: x 104 :: x 105 :: x 106 :: x 107 :: x 108 :: x 109 :: x 110 :: x 111 :: x 112 :: x 113 :: x 114 :: []), []⟩ ∧ ∀ i, a.eval (.tmp i) = x i := ⟨fun i => a.tmps.getD i undef, h.form, fun _ => rfl⟩
def klK (l : List Pk) : List Int := l.map fun x => x.k
/-- What lies in memory between two rounds. -/
structure LK (w : World) (V : Nat) (l : List Pk) (k : Nat) (xv : Value) (le : List (Pk × Value)) (W : World) : Prop where
  want : W.heap[V]? = some (.cells (i64s (cntK ((klK l).take k))).toArray 62 (0, 0))
  own : OwnK W (V + 1) xv le
  ks : ksK le = (klK l).take k
  below : Below w.heap.size w W
  vlt : w.heap.size ≤ V
theorem LK.lt {w : World} {V : Nat} {l : List Pk} {k : Nat} {xv : Value} {le : List (Pk × Value)} {W : World} (h : LK w V l k xv le W) : V < W.heap.size := (Array.getElem?_eq_some_iff.1 h.want).1
theorem LK.later {w : World} {V : Nat} {l : List Pk} {k : Nat} {xv : Value} {le : List (Pk × Value)} {W W1 : World} (h : LK w V l k xv le W) (hb : Below W.heap.size W W1) : LK w V l k xv le W1 :=
  ⟨(hb.block V h.lt).trans h.want, h.own.later hb, h.ks, h.below.trans (hb.mono h.below.size), h.vlt⟩
theorem LK.cell {w : World} {V : Nat} {l : List Pk} {k : Nat} {xv : Value} {le : List (Pk × Value)} {W : World} (h : LK w V l k xv le W) (j : Nat) (hj : j < 15) : W.cell? ⟨V, j, none⟩ = some (.int .i64 ((cntK ((klK l).take k)).getD j 0)) := by
  rw [cell_of_row _ _ _ _ _ _ h.want, List.getElem?_toArray]
  exact i64s_get _ _ (by rw [cntK_len]; exact hj)
/-- Behind the append and the count. -/
theorem LK.next {w : World} {V : Nat} {l : List Pk} {k : Nat} {le : List (Pk × Value)} {xv' : Value} {W : World} {e : Pk × Value} (hw : W.heap[V]? = some (.cells (i64s (cntK ((klK l).take k))).toArray 62 (0, 0))) (hb : Below w.heap.size w W) (hv : w.heap.size ≤ V) (ho : OwnK W (V + 1) xv' (le ++ [e])) (hks : ksK le = (klK l).take k) (hk : k < l.length) (he : e.1.k = (l.getD k Pk.zero).k) (j : Nat) (hj : bumpK (cntK ((klK l).take k)) (l.getD k Pk.zero).k = (cntK ((klK l).take k)).set j ((cntK ((klK l).take k)).getD j 0 + 1)) : LK w V l (k + 1) xv' (le ++ [e]) (W.setCell ⟨V, j, none⟩ (.int .i64 ((cntK ((klK l).take k)).getD j 0 + 1))) := by
  have hg := kb_setCell (b := V) W j (.int .i64 ((cntK ((klK l).take k)).getD j 0 + 1))
  have e1 : (klK l).getD k 0 = (l.getD k Pk.zero).k := by
    unfold klK
    rw [List.getD_eq_getElem?_getD, List.getElem?_map, List.getD_eq_getElem?_getD, List.getElem?_eq_getElem hk]
    rfl
  have hkl : k < (klK l).length := by unfold klK; rw [List.length_map]; exact hk
  refine ⟨?_, ho.aside hw (by decide) hg, ?_, hb.trans (grown_below hg hv hb.size), hv⟩
  · rw [heap_setCell_same W V j _ 62 _ hw, i64s_setK, cntK_take _ _ hkl, e1, hj]
  · unfold ksK at hks ⊢
    rw [List.map_append, hks, List.take_add_one, List.getElem?_eq_getElem hkl]
    have e2 : (klK l)[k] = e.1.k := by
      rw [he, ← e1, List.getD_eq_getElem?_getD, List.getElem?_eq_getElem hkl]
      rfl
    rw [e2]
    rfl
/-- What stays in the frame. -/
structure FPK (z : Int) (va : Value) (inb : Bool) (s : Value) (V : Nat) (a : Act) : Prop where
  fr : Fr 115 a
  s0 : a.eval (.tmp 0) = .int .i64 z
  s1 : a.eval (.tmp 1) = va
  s6 : a.eval (.tmp 6) = .bool inb
  s7 : a.eval (.tmp 7) = s
  s9 : a.eval (.tmp 9) = .pointer (some ⟨V, 0, none⟩)
/-- Between two rounds. -/
structure IPK (w : World) (z : Int) (va : Value) (inb : Bool) (s : Value) (V : Nat) (l : List Pk) (k : Nat) (a : Act) (W : World) : Prop where
  fp : FPK z va inb s V a
  s10 : a.eval (.tmp 10) = .int .i64 (k : Int)
  st : ∃ xv le, a.eval (.tmp 8) = xv ∧ LK w V l k xv le W
set_option maxRecDepth 100000 in
set_option maxHeartbeats 4000000 in
theorem roundPK (w : World) (z : Int) (inb : Bool) (s : Value) (V : Nat) (l : List Pk) (a0 : Option Addr) (n0 c0 : Nat) (hp : PksR w (.slice a0 n0 c0) l) (m : Nat) (hm : m ≤ n0 ∧ m ≤ 20)
    (Q : Exit → Act → World → Prop) (k : Nat) (a : Act) (wr : World) (hk : k < m) (h : IPK w z (.slice a0 n0 c0) inb s V l k a wr) :
    Code.wp Tryd.prog (loopAt (Tryd.f5.body) 0) (Exit.then (fun a' w' => IPK w z (.slice a0 n0 c0) inb s V l (k + 1) a' w') Q) a wr := by
  obtain ⟨hf, s10, xv, le, h8, hL⟩ := h
  have hnl : n0 = l.length := by
    obtain ⟨a', c', hv, -⟩ := hp.form
    injection hv with e1 e2 e3
  have hkl : k < l.length := by omega
  obtain ⟨gg, oo, cc, hv2⟩ := hp.start (by omega)
  injection hv2 with e1 e2 e3
  subst e1
  clear e2 e3
  have hpw := hp.later (show Below w.heap.size w wr from hL.below)
  have HGg : Bx (gg < V) := Bx.mk (by
    obtain ⟨u9, hr9, -⟩ := hp.at k hkl
    have h9 := World.block_lt_of_cell? _ _ (hr9 0 _ rfl)
    have := hL.vlt
    exact Nat.lt_of_lt_of_le h9 this)
  obtain ⟨u, hrng, hub⟩ := hpw.at k hkl
  have hxa := hp.all (l.getD k Pk.zero) (by rw [List.getD_eq_getElem?_getD, List.getElem?_eq_getElem hkl]; exact List.getElem_mem _)
  have HNx := Bx.mk fun (W : World) (xv' : Value) (e : Pk × Value) (h1 : W.heap[V]? = some (.cells (i64s (cntK ((klK l).take k))).toArray 62 (0, 0))) (h2 : Below w.heap.size w W) (h3 : OwnK W (V + 1) xv' (le ++ [e])) (h4 : e.1.k = (l.getD k Pk.zero).k) (j : Nat) (h5) => LK.next h1 h2 hL.vlt h3 hL.ks hkl h4 j h5
  have HBd := Bx.mk (cntK_bound ((klK l).take k))
  have HTk : Bx (((klK l).take k).length ≤ 20) := Bx.mk (by rw [List.length_take]; omega)
  have HLe : Bx (le.length ≤ 20) := Bx.mk (by
    have := congrArg List.length hL.ks
    unfold ksK at this
    rw [List.length_map, List.length_take] at this
    omega)
  generalize l.getD k Pk.zero = x at *
  obtain ⟨hxl, hxt⟩ := hxa
  obtain ⟨ua, uc, rfl, -, -⟩ := bytes_form hub
  have HTo := Bx.mk (to14 x _ wr hxt hub hxl)
  have hct : (cutP x).t.length = 32 := hxt
  have hck : (cutP x).k = x.k := rfl
  have HCK := Bx.mk hck
  have HL := Bx.mk hL
  have HRg := Bx.mk hrng
  have hkc : wr.cell? ⟨gg, oo + k * 41, none⟩ = some (.int .i64 x.k) := by
    have := hrng 0 _ rfl
    rw [Nat.add_zero] at this
    exact this
  have HKC := Bx.mk hkc
  have HIr : Bx ((Tryd.prog.info? 29).map (·.size) = some (pkL x (.slice ua x.b.length uc)).length) := Bx.mk (pk_infoR x _ hxt)
  have HIw : Bx (∀ a n c, (Tryd.prog.info? 33).map (·.size) = some (pkL (cutP x) (.slice a n c)).toArray.size ∧ (pkL (cutP x) (.slice a n c)).length = 41) := Bx.mk fun a n c => ⟨pk_infoW (cutP x) _ hct, pkL_len _ _ hct⟩
  unfold pkV pkC at HTo
  generalize cutP x = cx at *
  obtain ⟨tl, htl⟩ : ∃ tl, pkL x (.slice ua x.b.length uc) = tl := ⟨_, rfl⟩
  rw [htl] at HTo HRg HIr
  have k1 : (k : Int) < (n0 : Int) := by omega
  have k2 : (k : Int) < 20 := by omega
  have k0 : (0 : Int) ≤ (k : Int) := by omega
  have hwk : IntKind.i64.wrap ((k : Int) + 1) = (k : Int) + 1 := by simp [IntKind.wrap_i64]; omega
  have HK := Bx.mk hk
  have hown := hL.own
  obtain ⟨xa, xc, hxv⟩ := hown.form
  subst hxv
  clear hown
  obtain ⟨y, rfl, hy⟩ := open115 hf.fr
  have e0 := (hy 0).symm.trans hf.s0
  have e1 := (hy 1).symm.trans hf.s1
  have e6 := (hy 6).symm.trans hf.s6
  have e7 := (hy 7).symm.trans hf.s7
  have e8 := (hy 8).symm.trans h8
  have e9 := (hy 9).symm.trans hf.s9
  have e10 := (hy 10).symm.trans s10
  clear hf hy s10 h8 hL hp hpw hrng hub hxl hxt htl hnl hkl hk hm
  rw [e0, e1, e6, e7, e8, e9, e10]
  clear e0 e1 e6 e7 e8 e9 e10
  conv => arg 2; whnf
  cases hkb : kindB x.k with
  | true =>
    obtain ⟨q1, q2⟩ := (kindB_iff _).1 hkb
    obtain ⟨j, hj⟩ : ∃ j : Nat, x.k = (j : Int) := ⟨x.k.toNat, by omega⟩
    have hbm : bumpK (cntK ((klK l).take k)) x.k = (cntK ((klK l).take k)).set j ((cntK ((klK l).take k)).getD j 0 + 1) := by unfold bumpK; rw [if_pos hkb, hj, Int.toNat_natCast]
    rw [hj] at HKC hkc
    have hj1 : (j : Int) < 15 := by omega
    have hj2 : (0 : Int) < (j : Int) := by omega
    have hj0 : (0 : Int) ≤ (j : Int) := by omega
    have hjn : j < 15 := by omega
    have HNj := Bx.mk fun (W : World) (xv' : Value) (e : Pk × Value) h1 h2 h3 h4 => HNx.out W xv' e h1 h2 h3 h4 j hbm
    have HCl := Bx.mk fun (W : World) (h : W.heap[V]? = some (.cells (i64s (cntK ((klK l).take k))).toArray 62 (0, 0))) => And.intro (show W.cell? ⟨V, j, none⟩ = some (.int .i64 ((cntK ((klK l).take k)).getD j 0)) from by
      rw [cell_of_row _ _ _ _ _ _ h, List.getElem?_toArray]
      exact i64s_get _ _ (by rw [cntK_len]; omega)) (show W.frozen? ⟨V, j, none⟩ = false from frozen_of_row _ _ _ _ _ h)
    have hb1 := HBd.out j
    have hb2 := HTk.out
    generalize (cntK ((klK l).take k)).getD j 0 = c at *
    have hw : IntKind.i64.wrap (c + 1) = c + 1 := by simp [IntKind.wrap_i64]; omega
    clear hbm HNx HBd HTk hb1 hb2
    go_wp2_with (refine wpList_load_midP (by rfl) 29 _ rfl gg (oo + k * 41) (by rfl) tl _ HRg.out Tryd.underlying29 rfl HIr.out ?_)
    refine HTo.out.mono ?_
    rintro e w3 ⟨u3, rfl, hu3, hb3⟩
    obtain ⟨va3, vc3, rfl, -, -⟩ := bytes_form hu3
    have HL3 := Bx.mk (HL.out.later hb3)
    have hkc3 : w3.cell? ⟨gg, oo + k * 41, none⟩ = some (.int .i64 (j : Int)) := by rw [hb3.cell (World.block_lt_of_cell? _ _ HKC.out)]; exact HKC.out
    have HKC3 := Bx.mk hkc3
    have HIc := Bx.mk (HIw.out va3 cx.b.length vc3)
    have hfe : FitK (cx, .slice va3 cx.b.length vc3) := ⟨hct, va3, _, vc3, rfl⟩
    have HFE := Bx.mk hfe
    clear hu3 hb3 HL HKC hkc HTo hkc3 HIw
    obtain ⟨tc, htc⟩ : ∃ tc, pkL cx (.slice va3 cx.b.length vc3) = tc := ⟨_, rfl⟩
    have HTC := Bx.mk htc
    rw [htc] at HIc ⊢
    clear htc hfe hct
    obtain ⟨G, hG⟩ : ∃ G, w3.heap.size = G := ⟨_, rfl⟩
    have H4 : Bx (LK w V l k (.slice xa le.length xc) le (w3.alloc (.cells tc.toArray 33)) ∧ (w3.alloc (.cells tc.toArray 33)).rangeAt G 0 tc ∧ (w3.alloc (.cells tc.toArray 33)).cell? ⟨gg, oo + k * 41, none⟩ = some (.int .i64 (j : Int))) := Bx.mk ⟨HL3.out.later (below_a _), row_rngP (hnew _ _ _ hG.symm), by rw [(below_a _).cell (World.block_lt_of_cell? _ _ HKC3.out)]; exact HKC3.out⟩
    go_wp2_with (first | (refine wpList_slice1K rfl _ rfl tc (by rfl) HIc.out.2 ?_) | (refine wpList_apK rfl _ _ rfl (V + 1) _ le (by rfl) H4.out.1.own G 0 (cx, .slice va3 cx.b.length vc3) HFE.out 1 (by first | rfl | (rw [← hG]; rfl)) (by show World.rangeAt _ _ _ (pkL cx (.slice va3 cx.b.length vc3)); rw [HTC.out]; exact H4.out.2.1) (by have := HLe.out; omega) (by have := H4.out.1.lt; omega) ?_; intro xv' w5 ho5 hg5; have HB5 := Bx.mk (ownK_below H4.out.1.own hg5 (by have := H4.out.1.lt; omega)); have H5 := Bx.mk (And.intro ho5 (And.intro (show w5.heap[V]? = some (.cells (i64s (cntK ((klK l).take k))).toArray 62 (0, 0)) from (HB5.out.block V (by omega)).trans H4.out.1.want) (H4.out.1.below.trans (HB5.out.mono (by have := H4.out.1.vlt; omega))))); have hkc5 := (HB5.out.cell (p := ⟨gg, oo + k * 41, none⟩) (by have := HGg.out; show gg < V + 1; omega)).trans H4.out.2.2; have HS := Bx.mk (HNj.out w5 xv' (cx, .slice va3 cx.b.length vc3) H5.out.2.1 H5.out.2.2 H5.out.1 HCK.out); have hcell := (HCl.out _ H5.out.2.1).1; have hfz := (HCl.out _ H5.out.2.1).2; clear ho5 hg5))
    skip -- M3
    try go_wp2
    exact ⟨⟨⟨rfl, rfl⟩, rfl, rfl, rfl, rfl, rfl⟩, by first | rfl | go_num, _, _, rfl, HS.out⟩
  | false =>
    have hbm : bumpK (cntK ((klK l).take k)) x.k = (cntK ((klK l).take k)).set 0 ((cntK ((klK l).take k)).getD 0 0 + 1) := by unfold bumpK; rw [if_neg (by simp [hkb])]
    by_cases hq : 0 < x.k
    · have hq2 : ¬ x.k < 15 := fun h => by
        have := (kindB_iff x.k).2 (by omega)
        rw [hkb] at this
        exact Bool.noConfusion this
      have HNj := Bx.mk fun (W : World) (xv' : Value) (e : Pk × Value) h1 h2 h3 h4 => HNx.out W xv' e h1 h2 h3 h4 0 hbm
      have HCl := Bx.mk fun (W : World) (h : W.heap[V]? = some (.cells (i64s (cntK ((klK l).take k))).toArray 62 (0, 0))) => And.intro (show W.cell? ⟨V, 0, none⟩ = some (.int .i64 ((cntK ((klK l).take k)).getD 0 0)) from by
        rw [cell_of_row _ _ _ _ _ _ h, List.getElem?_toArray]
        exact i64s_get _ _ (by rw [cntK_len]; omega)) (show W.frozen? ⟨V, 0, none⟩ = false from frozen_of_row _ _ _ _ _ h)
      have hb1 := HBd.out 0
      have hb2 := HTk.out
      generalize (cntK ((klK l).take k)).getD 0 0 = c at *
      have hw : IntKind.i64.wrap (c + 1) = c + 1 := by simp [IntKind.wrap_i64]; omega
      clear hbm HNx HBd HTk hb1 hb2
      go_wp2_with (refine wpList_load_midP (by rfl) 29 _ rfl gg (oo + k * 41) (by rfl) tl _ HRg.out Tryd.underlying29 rfl HIr.out ?_)
      refine HTo.out.mono ?_
      rintro e w3 ⟨u3, rfl, hu3, hb3⟩
      obtain ⟨va3, vc3, rfl, -, -⟩ := bytes_form hu3
      have HL3 := Bx.mk (HL.out.later hb3)
      have hkc3 : w3.cell? ⟨gg, oo + k * 41, none⟩ = some (.int .i64 x.k) := by rw [hb3.cell (World.block_lt_of_cell? _ _ HKC.out)]; exact HKC.out
      have HKC3 := Bx.mk hkc3
      have HIc := Bx.mk (HIw.out va3 cx.b.length vc3)
      have hfe : FitK (cx, .slice va3 cx.b.length vc3) := ⟨hct, va3, _, vc3, rfl⟩
      have HFE := Bx.mk hfe
      clear hu3 hb3 HL HKC hkc HTo hkc3 HIw
      obtain ⟨tc, htc⟩ : ∃ tc, pkL cx (.slice va3 cx.b.length vc3) = tc := ⟨_, rfl⟩
      have HTC := Bx.mk htc
      rw [htc] at HIc ⊢
      clear htc hfe hct
      obtain ⟨G, hG⟩ : ∃ G, w3.heap.size = G := ⟨_, rfl⟩
      have H4 : Bx (LK w V l k (.slice xa le.length xc) le (w3.alloc (.cells tc.toArray 33)) ∧ (w3.alloc (.cells tc.toArray 33)).rangeAt G 0 tc ∧ (w3.alloc (.cells tc.toArray 33)).cell? ⟨gg, oo + k * 41, none⟩ = some (.int .i64 x.k)) := Bx.mk ⟨HL3.out.later (below_a _), row_rngP (hnew _ _ _ hG.symm), by rw [(below_a _).cell (World.block_lt_of_cell? _ _ HKC3.out)]; exact HKC3.out⟩
      go_wp2_with (first | (refine wpList_slice1K rfl _ rfl tc (by rfl) HIc.out.2 ?_) | (refine wpList_apK rfl _ _ rfl (V + 1) _ le (by rfl) H4.out.1.own G 0 (cx, .slice va3 cx.b.length vc3) HFE.out 1 (by first | rfl | (rw [← hG]; rfl)) (by show World.rangeAt _ _ _ (pkL cx (.slice va3 cx.b.length vc3)); rw [HTC.out]; exact H4.out.2.1) (by have := HLe.out; omega) (by have := H4.out.1.lt; omega) ?_; intro xv' w5 ho5 hg5; have HB5 := Bx.mk (ownK_below H4.out.1.own hg5 (by have := H4.out.1.lt; omega)); have H5 := Bx.mk (And.intro ho5 (And.intro (show w5.heap[V]? = some (.cells (i64s (cntK ((klK l).take k))).toArray 62 (0, 0)) from (HB5.out.block V (by omega)).trans H4.out.1.want) (H4.out.1.below.trans (HB5.out.mono (by have := H4.out.1.vlt; omega))))); have hkc5 := (HB5.out.cell (p := ⟨gg, oo + k * 41, none⟩) (by have := HGg.out; show gg < V + 1; omega)).trans H4.out.2.2; have HS := Bx.mk (HNj.out w5 xv' (cx, .slice va3 cx.b.length vc3) H5.out.2.1 H5.out.2.2 H5.out.1 HCK.out); have hcell := (HCl.out _ H5.out.2.1).1; have hfz := (HCl.out _ H5.out.2.1).2; clear ho5 hg5))
      skip -- M4
      try go_wp2
      exact ⟨⟨⟨rfl, rfl⟩, rfl, rfl, rfl, rfl, rfl⟩, by first | rfl | go_num, _, _, rfl, HS.out⟩
    · skip
      have HNj := Bx.mk fun (W : World) (xv' : Value) (e : Pk × Value) h1 h2 h3 h4 => HNx.out W xv' e h1 h2 h3 h4 0 hbm
      have HCl := Bx.mk fun (W : World) (h : W.heap[V]? = some (.cells (i64s (cntK ((klK l).take k))).toArray 62 (0, 0))) => And.intro (show W.cell? ⟨V, 0, none⟩ = some (.int .i64 ((cntK ((klK l).take k)).getD 0 0)) from by
        rw [cell_of_row _ _ _ _ _ _ h, List.getElem?_toArray]
        exact i64s_get _ _ (by rw [cntK_len]; omega)) (show W.frozen? ⟨V, 0, none⟩ = false from frozen_of_row _ _ _ _ _ h)
      have hb1 := HBd.out 0
      have hb2 := HTk.out
      generalize (cntK ((klK l).take k)).getD 0 0 = c at *
      have hw : IntKind.i64.wrap (c + 1) = c + 1 := by simp [IntKind.wrap_i64]; omega
      clear hbm HNx HBd HTk hb1 hb2
      go_wp2_with (refine wpList_load_midP (by rfl) 29 _ rfl gg (oo + k * 41) (by rfl) tl _ HRg.out Tryd.underlying29 rfl HIr.out ?_)
      refine HTo.out.mono ?_
      rintro e w3 ⟨u3, rfl, hu3, hb3⟩
      obtain ⟨va3, vc3, rfl, -, -⟩ := bytes_form hu3
      have HL3 := Bx.mk (HL.out.later hb3)
      have hkc3 : w3.cell? ⟨gg, oo + k * 41, none⟩ = some (.int .i64 x.k) := by rw [hb3.cell (World.block_lt_of_cell? _ _ HKC.out)]; exact HKC.out
      have HKC3 := Bx.mk hkc3
      have HIc := Bx.mk (HIw.out va3 cx.b.length vc3)
      have hfe : FitK (cx, .slice va3 cx.b.length vc3) := ⟨hct, va3, _, vc3, rfl⟩
      have HFE := Bx.mk hfe
      clear hu3 hb3 HL HKC hkc HTo hkc3 HIw
      obtain ⟨tc, htc⟩ : ∃ tc, pkL cx (.slice va3 cx.b.length vc3) = tc := ⟨_, rfl⟩
      have HTC := Bx.mk htc
      rw [htc] at HIc ⊢
      clear htc hfe hct
      obtain ⟨G, hG⟩ : ∃ G, w3.heap.size = G := ⟨_, rfl⟩
      have H4 : Bx (LK w V l k (.slice xa le.length xc) le (w3.alloc (.cells tc.toArray 33)) ∧ (w3.alloc (.cells tc.toArray 33)).rangeAt G 0 tc ∧ (w3.alloc (.cells tc.toArray 33)).cell? ⟨gg, oo + k * 41, none⟩ = some (.int .i64 x.k)) := Bx.mk ⟨HL3.out.later (below_a _), row_rngP (hnew _ _ _ hG.symm), by rw [(below_a _).cell (World.block_lt_of_cell? _ _ HKC3.out)]; exact HKC3.out⟩
      go_wp2_with (first | (refine wpList_slice1K rfl _ rfl tc (by rfl) HIc.out.2 ?_) | (refine wpList_apK rfl _ _ rfl (V + 1) _ le (by rfl) H4.out.1.own G 0 (cx, .slice va3 cx.b.length vc3) HFE.out 1 (by first | rfl | (rw [← hG]; rfl)) (by show World.rangeAt _ _ _ (pkL cx (.slice va3 cx.b.length vc3)); rw [HTC.out]; exact H4.out.2.1) (by have := HLe.out; omega) (by have := H4.out.1.lt; omega) ?_; intro xv' w5 ho5 hg5; have HB5 := Bx.mk (ownK_below H4.out.1.own hg5 (by have := H4.out.1.lt; omega)); have H5 := Bx.mk (And.intro ho5 (And.intro (show w5.heap[V]? = some (.cells (i64s (cntK ((klK l).take k))).toArray 62 (0, 0)) from (HB5.out.block V (by omega)).trans H4.out.1.want) (H4.out.1.below.trans (HB5.out.mono (by have := H4.out.1.vlt; omega))))); have hkc5 := (HB5.out.cell (p := ⟨gg, oo + k * 41, none⟩) (by have := HGg.out; show gg < V + 1; omega)).trans H4.out.2.2; have HS := Bx.mk (HNj.out w5 xv' (cx, .slice va3 cx.b.length vc3) H5.out.2.1 H5.out.2.2 H5.out.1 HCK.out); have hcell := (HCl.out _ H5.out.2.1).1; have hfz := (HCl.out _ H5.out.2.1).2; clear ho5 hg5))
      skip -- M4
      try go_wp2
      exact ⟨⟨⟨rfl, rfl⟩, rfl, rfl, rfl, rfl, rfl⟩, by first | rfl | go_num, _, _, rfl, HS.out⟩
set_option maxRecDepth 100000 in
set_option maxHeartbeats 4000000 in
theorem lastPK (w : World) (z : Int) (inb : Bool) (s : Value) (V : Nat) (l : List Pk) (a0 : Option Addr) (n0 c0 : Nat) (hp : PksR w (.slice a0 n0 c0) l) (m : Nat) (hm : m = min n0 20)
    (Q : Exit → Act → World → Prop) (N : Act → World → Prop) (hq : ∀ a' w' xv le, FPK z (.slice a0 n0 c0) inb s V a' → a'.eval (.tmp 8) = xv → LK w V l m xv le w' → Q (.exit 0) a' w') (a : Act) (wr : World) (h : IPK w z (.slice a0 n0 c0) inb s V l m a wr) :
    Code.wp Tryd.prog (loopAt (Tryd.f5.body) 0) (Exit.then N Q) a wr := by
  obtain ⟨hf, s10, xv, le, h8, hL⟩ := h
  have HL := Bx.mk hL
  have HQ := Bx.mk hq
  obtain ⟨y, rfl, hy⟩ := open115 hf.fr
  have e0 := (hy 0).symm.trans hf.s0
  have e1 := (hy 1).symm.trans hf.s1
  have e6 := (hy 6).symm.trans hf.s6
  have e7 := (hy 7).symm.trans hf.s7
  have e8 := (hy 8).symm.trans h8
  have e9 := (hy 9).symm.trans hf.s9
  have e10 := (hy 10).symm.trans s10
  clear hf hy s10 h8 hL hp hq
  rw [e0, e1, e6, e7, e8, e9, e10]
  clear e0 e1 e6 e7 e8 e9 e10
  by_cases hlt : m < n0
  · have k1 : (m : Int) < (n0 : Int) := by omega
    have k2 : ¬ (m : Int) < 20 := by omega
    clear hm hlt
    conv => arg 2; whnf
    go_wp2
    exact HQ.out _ _ _ _ ⟨⟨rfl, rfl⟩, rfl, rfl, rfl, rfl, rfl⟩ rfl HL.out
  · have k1 : ¬ (m : Int) < (n0 : Int) := by omega
    clear hm hlt
    conv => arg 2; whnf
    go_wp2
    exact HQ.out _ _ _ _ ⟨⟨rfl, rfl⟩, rfl, rfl, rfl, rfl, rfl⟩ rfl HL.out
theorem loopPK (w : World) (z : Int) (inb : Bool) (s : Value) (V : Nat) (l : List Pk) (a0 : Option Addr) (n0 c0 : Nat) (hp : PksR w (.slice a0 n0 c0) l) (m : Nat) (hm : m = min n0 20)
    (Q : Exit → Act → World → Prop) (a : Act) (wr : World) (h : IPK w z (.slice a0 n0 c0) inb s V l 0 a wr) (hq : ∀ a' w' xv le, FPK z (.slice a0 n0 c0) inb s V a' → a'.eval (.tmp 8) = xv → LK w V l m xv le w' → Q (.exit 0) a' w') :
    Code.wp Tryd.prog (.loop (loopAt (Tryd.f5.body) 0)) Q a wr :=
  wp_count m (fun k a w' => IPK w z (.slice a0 n0 c0) inb s V l k a w') 0 (Nat.zero_le _) h (fun k a w' hk hI => roundPK w z inb s V l a0 n0 c0 hp m ⟨by omega, by omega⟩ Q k a w' hk hI) (fun a w' hI => lastPK w z inb s V l a0 n0 c0 hp m hm Q _ hq a w' hI)
end Go.Proofs.YtaoekfomffebhaaDoor
namespace Go.Proofs.YtaoekfomffebhaaDoor
open Go Go.ChangeShapes Go.WideShapes Go.ChangeAt Go.RowKit
theorem PB.own {w : World} {B : Nat} {T : TypeId} {x : Pk} {v u : Value} {l : List UInt8} {W W1 : World} (h : PB w B T x v W) (ho : OwnB W (B + 1) u l) (hg : W.grownBy W1 u.ownBlock) : PB w B T x v W1 := by
  have hb := own_below ho hg (by have := h.lt; omega)
  exact ⟨(hb.block B (by omega)).trans h.row, h.below.trans (hb.mono (by omega))⟩
end Go.Proofs.YtaoekfomffebhaaDoor
namespace Go.Proofs.YtaoekfomffebhaaDoor
open Go Go.ChangeShapes Go.WideShapes Go.ChangeAt Go.RowKit
/-- A reader's bytes and error behind k bytes that are read one by one; what they are. -/
def stT (p : List UInt8 × Int) : Nat → List UInt8 × Int
  | 0 => p
  | k + 1 => stepR (stT p k) 0
def tgB (p : List UInt8 × Int) (k : Nat) : UInt8 := UInt8.ofNat ((numR (stT p k) 0).toNat % 256)
def tgT (p : List UInt8 × Int) (k : Nat) : List UInt8 := (List.range 32).map fun j => if j < k then tgB p j else 0
theorem tgT_succ (p : List UInt8 × Int) (k : Nat) (h : k < 32) : (tgT p k).set k (tgB p k) = tgT p (k + 1) := by
  apply List.ext_getElem
  · simp [tgT]
  · intro i h1 h2
    rw [List.getElem_set]
    simp only [tgT, List.getElem_map, List.getElem_range]
    by_cases hi : k = i
    · subst hi
      rw [if_pos rfl, if_pos (by omega)]
    · rw [if_neg hi]
      by_cases h3 : i < k
      · rw [if_pos h3, if_pos (by omega)]
      · rw [if_neg h3, if_neg (by omega)]
/-- What holds while a tag is read: the reader's box, the result's cell, the tag so far, the reader itself. -/
structure TG (w : World) (B q : Nat) (z1 : Array Value) (p : List UInt8 × Int) (k : Nat) (W : World) : Prop where
  box : W.heap[B]? = some (.cells #[.pointer (some ⟨q, 0, none⟩)] 86 (0, 0))
  res : W.heap[B + 1]? = some (.cells z1 27 (0, 0))
  tag : W.heap[B + 1 + 1]? = some (.cells (u8s (tgT p k)) 27 (0, 0))
  rd : IsR W q (stT p k).1 (stT p k).2
  gr : w.grownBy W (some q)
  sz : B + 2 < W.heap.size
theorem TG.put {w : World} {B q : Nat} {z1 : Array Value} {p : List UInt8 × Int} {k : Nat} {W : World} (h : W.heap[B]? = some (.cells #[.pointer (some ⟨q, 0, none⟩)] 86 (0, 0)) ∧ W.heap[B + 1]? = some (.cells z1 27 (0, 0)) ∧ W.heap[B + 1 + 1]? = some (.cells (u8s (tgT p k)) 27 (0, 0)) ∧ w.grownBy W (some q) ∧ B + 2 < W.heap.size) (hr : IsR W q (stT p (k + 1)).1 (stT p (k + 1)).2) (hk : k < 32) (hq : q < B) (hB : w.heap.size = B) :
    TG w B q z1 p (k + 1) (W.setCell ⟨B + 1 + 1, k, none⟩ (.int .u8 (ub (tgB p k)))) := by
  obtain ⟨h1, h2, h3, h4, h5⟩ := h
  have hg := kb_setCell (b := B + 1 + 1) W k (.int .u8 (ub (tgB p k)))
  refine ⟨(hg.block B (by omega) (fun e => by injection e with e; omega)).trans h1, (hg.block (B + 1) (by omega) (fun e => by injection e with e; omega)).trans h2, ?_, hr.asideT h3 (by decide) hg (by omega), kb_new h4 hg (by omega), Nat.lt_of_lt_of_le h5 hg.size⟩
  rw [heap_setCell_same W (B + 1 + 1) k _ 27 _ h3, u8s_set, tgT_succ p k hk]
end Go.Proofs.YtaoekfomffebhaaDoor
namespace Go.Proofs.YtaoekfomffebhaaDoor
open Go Go.ChangeShapes Go.WideShapes Go.ChangeAt Go.RowKit
/-- What holds while a packet is read. -/
structure PR (w : World) (B q D : Nat) (zc : Array Value) (x : Pk) (v : Value) (p : List UInt8 × Int) (W : World) : Prop where
  box : W.heap[B]? = some (.cells #[.pointer (some ⟨q, 0, none⟩)] 86 (0, 0))
  res : W.heap[B + 1]? = some (.cells zc 33 (0, 0))
  pk : W.heap[D]? = some (.cells (pkC x v) 33 (0, 0))
  rd : IsR W q p.1 p.2
  gr : w.grownBy W (some q)
  lt : B + 1 < D
  qlt : q < B
  at_ : w.heap.size = B
theorem PR.dlt {w : World} {B q D : Nat} {zc : Array Value} {x : Pk} {v : Value} {p : List UInt8 × Int} {W : World} (h : PR w B q D zc x v p W) : D < W.heap.size := (Array.getElem?_eq_some_iff.1 h.pk).1
theorem PR.put {w : World} {B q D : Nat} {zc : Array Value} {x y : Pk} {v u : Value} {p : List UInt8 × Int} {W W1 : World} (h : PR w B q D zc x v p W) (hg : W.grownBy W1 (some D)) (hp : W1.heap[D]? = some (.cells (pkC y u) 33 (0, 0))) : PR w B q D zc y u p W1 := by
  have h2 := h.dlt
  have h3 := h.lt
  have h4 := h.qlt
  exact ⟨(hg.block B (by omega) (fun e => by injection e with e; omega)).trans h.box, (hg.block (B + 1) (by omega) (fun e => by injection e with e; omega)).trans h.res, hp, h.rd.asideT h.pk (by decide) hg (by omega), kb_new h.gr hg (by have := h.at_; omega), h.lt, h.qlt, h.at_⟩
end Go.Proofs.YtaoekfomffebhaaDoor
namespace Go.Proofs.YtaoekfomffebhaaDoor
open Go Go.ChangeShapes Go.WideShapes Go.ChangeAt Go.RowKit
/-- What holds behind the reading. -/
structure PP (w : World) (B R q D : Nat) (zc : Array Value) (x : Pk) (u : Value) (p : List UInt8 × Int) (W : World) : Prop where
  res : W.heap[B]? = some (.cells zc 33 (0, 0))
  box : W.heap[R]? = some (.cells #[.pointer (some ⟨q, 0, none⟩)] 86 (0, 0))
  pk : W.heap[D]? = some (.cells (pkC x u) 33 (0, 0))
  rd : IsR W q p.1 p.2
  body : OwnB W (B + 1) u x.b
  below : Below B w W
  lt : B < W.heap.size
theorem PP.later {w : World} {B R q D : Nat} {zc : Array Value} {x : Pk} {u : Value} {p : List UInt8 × Int} {W W1 : World} (h : PP w B R q D zc x u p W) (hb : Below W.heap.size W W1) : PP w B R q D zc x u p W1 :=
  ⟨(hb.block B (Array.getElem?_eq_some_iff.1 h.res).1).trans h.res, (hb.block R (Array.getElem?_eq_some_iff.1 h.box).1).trans h.box, (hb.block D (Array.getElem?_eq_some_iff.1 h.pk).1).trans h.pk, h.rd.later hb, h.body.later hb (fun g hg => (h.body.lt g hg).1), h.below.trans (hb.mono (Nat.le_of_lt h.lt)), Nat.lt_of_lt_of_le h.lt hb.size⟩
end Go.Proofs.YtaoekfomffebhaaDoor
namespace Go.Proofs.YtaoekfomffebhaaDoor
open Go Go.ChangeShapes Go.WideShapes Go.ChangeAt Go.RowKit
theorem KP.fresh {w : World} {B A : Nat} {rs : List (Nat × Obj)} {W W1 : World} {o o1 : Obj} (h : KP w B rs W) (hA : W.heap.size = A) (hg : (W.alloc o).grownBy W1 (some A)) (hr : W1.heap[A]? = some o1) : KP w B ((A, o1) :: rs) W1 ∧ Below W.heap.size W W1 := by
  have k := h.new o
  rw [hA] at k
  have hle := h.le
  exact ⟨k.set hg hr (by omega) (fun x hx => by have := h.lt hx; omega), (below_a o).trans (grown_below hg (by omega) (by have := (below_a (W := W) o).size; omega))⟩
end Go.Proofs.YtaoekfomffebhaaDoor
