/-
  RevokeBytes' own loops: what the document reads of bytes.
  RevokeBytes' own loops, whole.
-/
import Derived.Test.YtnfgamekjbkbkaaDoorMh
namespace Go.Proofs.YtnfgamekjbkbkaaDoor
open Go Go.RowKit
set_option maxRecDepth 100000 in
theorem open152 {a : Act} (h : Fr 152 a) : ∃ x : Nat → Value, a = ⟨List.toArray (x 0 :: x 1 :: x 2 :: x 3 :: x 4 :: x 5 :: x 6 :: x 7 :: x 8 :: x 9 :: x 10 :: x 11 :: x 12 :: x 13 :: x 14 :: x 15 :: x 16 :: x 17 :: x 18 :: x 19 :: x 20 :: x 21 :: x 22 :: x 23 :: x 24 :: x 25 :: x 26 :: x 27 :: x 28 :: x 29 :: x 30 :: x 31 :: x 32 :: x 33 :: x 34 :: x 35 :: x 36 :: x 37 :: x 38 :: x 39 :: x 40 :: x 41 :: x 42 :: x 43 :: x 44 :: x 45 :: x 46 :: x 47 :: x 48 :: x 49 :: x 50 :: x 51 :: x 52 :: x 53 :: x 54 :: x 55 :: x 56 :: x 57 :: x 58 :: x 59 :: x 60 :: x 61 :: x 62 :: x 63 :: x 64 :: x 65 :: x 66 :: x 67 :: x 68 :: x 69 :: x 70 :: x 71 :: x 72 :: x 73 :: x 74 :: x 75 :: x 76 :: x 77 :: x 78 :: x 79 :: x 80 :: x 81 :: x 82 :: x 83 :: x 84 :: x 85 :: x 86 :: x 87 :: x 88 :: x 89 :: x 90 :: x 91 :: x 92 :: x 93 :: x 94 :: x 95 :: x 96 :: x 97 :: x 98 :: x 99 :: x 100 :: x 101 :: x 102 :: x 103 :: x 104 :: x 105 :: x 106 :: x 107 :: x 108 :: x 109 :: x 110 :: x 111 :: x 112 :: x 113 :: x 114 :: x 115 :: x 116 :: x 117 :: x 118 :: x 119 :: x 120 :: x 121 :: x 122 :: x 123 :: x 124 :: x 125 :: x 126 :: x 127 :: x 128 :: x 129 :: x 130 :: x 131 :: x 132 :: x 133 :: x 134 :: x 135 :: x 136 :: x 137 :: x 138 :: x 139 :: x 140 :: x 141 :: x 142 :: x 143 :: x 144 :: x 145 :: x 146 :: x 147 :: x 148 :: x 149 :: x 150 :: x 151 :: []), []⟩ ∧ ∀ i, a.eval (.tmp i) = x i := ⟨fun i => a.tmps.getD i undef, h.form, fun _ => rfl⟩
/-- All older blocks but two stay. -/
structure KB2 (D q : Nat) (w W : World) : Prop where
  os : W.os = w.os
  tape : W.tape = w.tape
  output : W.output = w.output
  size : w.heap.size ≤ W.heap.size
  block : ∀ g, g < w.heap.size → g ≠ D → g ≠ q → W.heap[g]? = w.heap[g]?
theorem KB2.refl (D q : Nat) (w : World) : KB2 D q w w := ⟨rfl, rfl, rfl, Nat.le_refl _, fun _ _ _ _ => rfl⟩
theorem KB2.later {D q : Nat} {w W W1 : World} (h : KB2 D q w W) (hb : Below W.heap.size W W1) : KB2 D q w W1 :=
  ⟨hb.os.trans h.os, hb.tape.trans h.tape, hb.output.trans h.output, Nat.le_trans h.size hb.size, fun g hg h1 h2 => (hb.block g (Nat.lt_of_lt_of_le hg h.size)).trans (h.block g hg h1 h2)⟩
theorem KB2.step {D q : Nat} {w W W1 : World} {o : Option Nat} (h : KB2 D q w W) (hg : W.grownBy W1 o) (ho : ∀ g, o = some g → g = D ∨ g = q ∨ w.heap.size ≤ g) : KB2 D q w W1 :=
  ⟨hg.os.trans h.os, hg.tape.trans h.tape, hg.output.trans h.output, Nat.le_trans h.size hg.size, fun g hgl h1 h2 => (hg.block g (Nat.lt_of_lt_of_le hgl h.size) (fun e => by rcases ho g e.symm with h3 | h3 | h3 <;> omega)).trans (h.block g hgl h1 h2)⟩
/-- What stays while the document reads a delta. -/
structure PR (w : World) (B q D : Nat) (cs : Array Value) (rs : List (Value × List Int)) (p : List UInt8 × Int) (W : World) : Prop where
  kr : KR w B [(D, (.cells cs 26))] W
  rd : IsR W q p.1 p.2
  own : ∀ r ∈ rs, OwnZ W (D + 1) r.1 r.2
  lt : q < D
  le : B ≤ q
theorem PR.later {w : World} {B q D : Nat} {cs : Array Value} {rs : List (Value × List Int)} {p : List UInt8 × Int} {W W1 : World} (h : PR w B q D cs rs p W) (hb : Below W.heap.size W W1) : PR w B q D cs rs p W1 :=
  ⟨h.kr.later hb, h.rd.later hb, fun r hr => (h.own r hr).later fun g hg => hb.block g ((h.own r hr).lt g hg).1, h.lt, h.le⟩
theorem PR.read {w : World} {B q D : Nat} {cs : Array Value} {rs : List (Value × List Int)} {p p1 : List UInt8 × Int} {W W1 : World} (h : PR w B q D cs rs p W) (hg : W.grownBy W1 (some q)) (hr : IsR W1 q p1.1 p1.2) : PR w B q D cs rs p1 W1 :=
  ⟨h.kr.grown hg h.le (by intro x hx; have := h.lt; simp at hx; subst hx; simp; omega), hr, fun r hr => (h.own r hr).later fun g hgg => hg.block g ((h.own r hr).lt g hgg).1 (fun e => by injection e with e; have := ((h.own r hr).lt g hgg).2; have := h.lt; omega), h.lt, h.le⟩
theorem PR.put {w : World} {B q D : Nat} {cs ds : Array Value} {rs : List (Value × List Int)} {p : List UInt8 × Int} {W W1 : World} (h : PR w B q D cs rs p W) (hg : W.grownBy W1 (some D)) (hr : W1.heap[D]? = some (.cells ds 26 (0, 0))) (h8 : No8 cs) : PR w B q D ds rs p W1 :=
  ⟨h.kr.set hg hr (by have := h.lt; have := h.le; omega) (by simp), h.rd.asideA (h.kr.rows _ (.head _)) h8 hg (by have := h.lt; omega), fun r hr => (h.own r hr).later fun g hgg => hg.block g ((h.own r hr).lt g hgg).1 (fun e => by injection e with e; have := ((h.own r hr).lt g hgg).2; omega), h.lt, h.le⟩
/-- What stays while a log is read, against the world at its start. -/
structure IL (q D : Nat) (W2 : World) (cs : Array Value) (u : Value) (l : List Int) (p : List UInt8 × Int) (W : World) : Prop where
  kb : KB2 D q W2 W
  row : W.heap[D]? = some (.cells cs 26 (0, 0))
  rd : IsR W q p.1 p.2
  own : OwnZ W W2.heap.size u l
theorem PR.inner {w : World} {B q D : Nat} {cs : Array Value} {rs : List (Value × List Int)} {p : List UInt8 × Int} {W : World} (h : PR w B q D cs rs p W) : IL q D W cs (.slice none 0 0) [] p W := ⟨KB2.refl _ _ _, h.kr.rows _ (.head _), h.rd, OwnZ.nil _ _⟩
theorem PR.outer {w : World} {B q D : Nat} {cs ds : Array Value} {rs : List (Value × List Int)} {p p1 : List UInt8 × Int} {u : Value} {l : List Int} {W W1 : World} (h : PR w B q D cs rs p W) (hi : IL q D W ds u l p1 W1) : PR w B q D ds ((u, l) :: rs) p1 W1 := by
  have hD : D < W.heap.size := h.kr.lt (.head _)
  refine ⟨⟨fun x hx => ?_, ?_, Nat.le_trans h.kr.le hi.kb.size⟩, hi.rd, fun r hr => ?_, h.lt, h.le⟩
  · simp at hx
    subst hx
    exact hi.row
  · exact h.kr.below.trans ⟨hi.kb.os, hi.kb.tape, hi.kb.output, hi.kb.size, fun g hg => hi.kb.block g (by have := h.kr.le; omega) (by have := h.lt; have := h.le; omega) (by have := h.le; omega)⟩
  · rcases List.mem_cons.1 hr with rfl | hr
    · exact hi.own.weak hD
    · exact (h.own r hr).later fun g hg => hi.kb.block g ((h.own r hr).lt g hg).1 (by have := ((h.own r hr).lt g hg).2; omega) (by have := ((h.own r hr).lt g hg).2; have := h.lt; omega)
theorem IL.read {q D : Nat} {W2 : World} {cs : Array Value} {u : Value} {l : List Int} {p p1 : List UInt8 × Int} {W W1 : World} (h : IL q D W2 cs u l p W) (hD : q < D) (hD2 : D < W2.heap.size) (hg : W.grownBy W1 (some q)) (hr : IsR W1 q p1.1 p1.2) : IL q D W2 cs u l p1 W1 :=
  ⟨h.kb.step hg (fun g e => by injection e with e; omega), by rw [hg.block D (by have := h.kb.size; omega) (fun e => by injection e with e; omega)]; exact h.row, hr, h.own.later fun g hgg => hg.block g (h.own.lt g hgg).1 (fun e => by injection e with e; have := (h.own.lt g hgg).2; omega)⟩
theorem IL.later {q D : Nat} {W2 : World} {cs : Array Value} {u : Value} {l : List Int} {p : List UInt8 × Int} {W W1 : World} (h : IL q D W2 cs u l p W) (hb : Below W.heap.size W W1) : IL q D W2 cs u l p W1 :=
  ⟨h.kb.later hb, by rw [hb.block D (Array.getElem?_eq_some_iff.1 h.row).1]; exact h.row, h.rd.later hb, h.own.later fun g hg => hb.block g (h.own.lt g hg).1⟩
theorem IL.ap {q D : Nat} {W2 : World} {cs : Array Value} {u u1 : Value} {l l1 : List Int} {p : List UInt8 × Int} {W W1 : World} (h : IL q D W2 cs u l p W) (hD : q < D) (hD2 : D < W2.heap.size) (ho : OwnZ W1 W2.heap.size u1 l1) (hg : W.grownBy W1 u.ownBlock) : IL q D W2 cs u1 l1 p W1 :=
  ⟨h.kb.step hg (fun g e => .inr (.inr (h.own.lt g e).2)), by rw [hg.block D (by have := h.kb.size; omega) (fun e => by have := (h.own.lt D e.symm).2; omega)]; exact h.row, h.rd.asideZ h.own (by omega) hg, ho⟩
theorem IL.put {q D : Nat} {W2 : World} {cs ds : Array Value} {u : Value} {l : List Int} {p : List UInt8 × Int} {W W1 : World} (h : IL q D W2 cs u l p W) (hD : q < D) (hD2 : D < W2.heap.size) (hg : W.grownBy W1 (some D)) (hr : W1.heap[D]? = some (.cells ds 26 (0, 0))) (h8 : No8 cs) : IL q D W2 ds u l p W1 :=
  ⟨h.kb.step hg (fun g e => by injection e with e; omega), hr, h.rd.asideA h.row h8 hg (by omega), h.own.later fun g hgg => hg.block g (h.own.lt g hgg).1 (fun e => by injection e with e; have := (h.own.lt g hgg).2; omega)⟩
theorem lawR_len : ∀ (m : Nat) (p : List UInt8 × Int) (l : List Int), (lawR m p l).2.1.length ≤ p.1.length := by
  intro m
  induction m with
  | zero => intro p l; exact Nat.le_refl _
  | succ m ih =>
    intro p l
    unfold lawR
    by_cases h : p.2 = 0
    · rw [if_pos h]
      exact Nat.le_trans (ih _ _) (stepR_len p 1)
    · rw [if_neg h]
      exact Nat.le_refl _
theorem logW_len (p : List UInt8 × Int) : (logW p).2.1.length ≤ p.1.length := Nat.le_trans (lawR_len _ _ _) (stepR_len p 1)
/-- What the inner loop leaves alone. -/
structure PL (v11 v12 v13 v14 v15 v16 : Value) (a : Act) : Prop where
  fr : Fr 152 a
  s11 : a.eval (.tmp 11) = v11
  s12 : a.eval (.tmp 12) = v12
  s13 : a.eval (.tmp 13) = v13
  s14 : a.eval (.tmp 14) = v14
  s15 : a.eval (.tmp 15) = v15
  s16 : a.eval (.tmp 16) = v16
theorem No8.set {cs : Array Value} (h : No8 cs) (i : Nat) {u : Value} (hu : ∀ x, u ≠ .int .u8 x) : No8 (cs.setIfInBounds i u) := by
  intro j x e
  rw [Array.getElem?_setIfInBounds] at e
  split at e
  · split at e
    · injection e with e
      exact hu x e
    · cases e
  · exact h j x e
/-- Between two rounds of the inner loop. -/
structure PT8 (q D i m0 : Nat) (cs : Array Value) (W2 : World) (v11 v12 : Value) (fin : List Int × (List UInt8 × Int)) (m : Nat) (a : Act) (W : World) : Prop where
  fr : PL v11 v12 (.pointer (some ⟨q, 0, none⟩)) (.pointer (some ⟨D, 0, none⟩)) (.int .i64 (i : Int)) (.int .i64 (m0 : Int)) a
  s17 : a.eval (.tmp 17) = .int .i64 (m : Int)
  st : ∃ l z oa on oc, on = l.length ∧ IL q D W2 (cs.setIfInBounds (4 + i) (.slice oa on oc)) (.slice oa on oc) l z W ∧ lawR (m0 - m) z l = fin ∧ 2 * l.length + z.1.length ≤ 400
set_option maxRecDepth 100000 in
set_option maxHeartbeats 8000000 in
theorem roundL (q D i m0 : Nat) (cs : Array Value) (W2 : World) (v11 v12 : Value) (fin : List Int × (List UInt8 × Int)) (hi : i < 4) (hm0 : m0 ≤ 65535) (hcs : cs.size = 8) (h8 : No8 cs) (hD : q < D) (hD2 : D < W2.heap.size)
    (Q : Exit → Act → World → Prop) (m : Nat) (a : Act) (wr : World) (h : PT8 q D i m0 cs W2 v11 v12 fin m a wr)
    (hq : ∀ a' w' oa on oc, PL v11 v12 (.pointer (some ⟨q, 0, none⟩)) (.pointer (some ⟨D, 0, none⟩)) (.int .i64 (i : Int)) (.int .i64 (m0 : Int)) a' → on = fin.1.length → IL q D W2 (cs.setIfInBounds (4 + i) (.slice oa on oc)) (.slice oa on oc) fin.1 fin.2 w' → Q (.exit 2) a' w') :
    Code.wp Tryd.prog (loopAt (Tryd.f3.body) 1) (Exit.then (fun a' w' => m < m0 ∧ PT8 q D i m0 cs W2 v11 v12 fin (m + 1) a' w') Q) a wr := by
  have HQ := Bx.mk hq
  have HDq := Bx.mk hD
  have HDs := Bx.mk hD2
  have H8 := Bx.mk h8
  have HC := Bx.mk hcs
  have HI4 := Bx.mk hi
  have hi0 : (0 : Int) ≤ (i : Int) := by omega
  have hi1 : (i : Int) < 4 := by omega
  obtain ⟨l, z, oa, on, oc, hon, hil, hlw, hlm⟩ := h.st
  have HON := Bx.mk hon
  have HI := Bx.mk hil
  have HLe := Bx.mk hlm
  have HLw := Bx.mk hlw
  obtain ⟨y, rfl, hy2⟩ := open152 h.fr.fr
  have e11 := (hy2 11).symm.trans h.fr.s11
  have e12 := (hy2 12).symm.trans h.fr.s12
  have e13 := (hy2 13).symm.trans h.fr.s13
  have e14 := (hy2 14).symm.trans h.fr.s14
  have e15 := (hy2 15).symm.trans h.fr.s15
  have e16 := (hy2 16).symm.trans h.fr.s16
  have e17 := (hy2 17).symm.trans h.s17
  have hmm : m ≤ 70000 ∨ 70000 < m := by omega
  have HE := Bx.mk (rerr_any q z.1 z.2 wr hil.rd)
  have hm00 : (m0 : Int) ≤ 65535 := by omega
  have hmz : (0 : Int) ≤ (m : Int) := by omega
  have hmz0 : (0 : Int) ≤ (m0 : Int) := by omega
  clear h hq hD hD2 h8 hcs hi hon hil hlm hy2 hlw hmm
  rw [e11, e12, e13, e14, e15, e16, e17]
  clear e11 e12 e13 e14 e15 e16 e17
  conv => arg 2; whnf
  by_cases hlt : m < m0
  · have hlt1 : (m : Int) < (m0 : Int) := by omega
    have HLT := Bx.mk hlt
    by_cases hz : z.2 = 0
    · rw [hz] at HE
      have HRN := Bx.mk (rnum_any q 1 z.1 z.2 wr HI.out.rd (by have := HLe.out; omega) (by omega))
      rw [show (getR z.1 z.2 1).1.n = numR z 1 from rfl, show (getR z.1 z.2 1).2 = stepR z 1 from rfl] at HRN
      have HLW : Bx (lawR (m0 - (m + 1)) (stepR z 1) (if (stepR z 1).2 = 0 then l ++ [numR z 1] else l) = fin) := ⟨by
        have h := HLw.out
        rw [show m0 - m = (m0 - (m + 1)) + 1 by omega] at h
        unfold lawR at h
        rwa [if_pos hz] at h⟩
      have HLn := Bx.mk (stepR_two z)
      have HZ0 := Bx.mk hz
      clear hlt HLw hz hm0
      generalize numR z 1 = n at *
      generalize stepR z 1 = z1 at *
      go_wp2_with fail
      refine HE.out.mono ?_
      rintro e x1 ⟨rfl, hx⟩
      rw [hx]
      clear hx x1 HE
      go_wp2_with fail
      refine HRN.out.mono ?_
      rintro e x1 ⟨rfl, hr, hg⟩
      have J1 := Bx.mk (HI.out.read HDq.out HDs.out hg hr)
      clear hr hg HRN HI
      obtain ⟨er, her⟩ : ∃ er, z1.2 = er := ⟨_, rfl⟩
      have HE1 := Bx.mk (rerr_any q z1.1 z1.2 x1 J1.out.rd)
      rw [her] at HE1
      have HER := Bx.mk her
      clear her
      go_wp2_with fail
      refine HE1.out.mono ?_
      rintro e x2 ⟨rfl, hx⟩
      rw [hx]
      clear hx x2 HE1
      by_cases h0 : er = 0
      · subst h0
        rw [if_pos HER.out] at HLW
        have kc : x1.cell? ⟨D, 4 + i, none⟩ = some (.slice oa on oc) := by
          rw [cell_of_row _ _ _ _ _ _ J1.out.row, Array.getElem?_setIfInBounds, if_pos rfl, if_pos (by have := HC.out; have := HI4.out; omega)]
        have J2 := Bx.mk (J1.out.later (below_a (.cells #[.int .i64 n] 3)))
        have J3 : Bx ((x1.alloc (.cells #[.int .i64 n] 3)).cell? ⟨x1.heap.size, 0, none⟩ = some (.int .i64 n) ∧ W2.heap.size ≤ (x1.alloc (.cells #[.int .i64 n] 3)).heap.size) := ⟨by simp, J2.out.kb.size⟩
        clear J1
        go_wp2_with (first | (refine wpList_apZ rfl _ _ rfl W2.heap.size (.slice oa on oc) l (by rfl) J2.out.own x1.heap.size n (by rfl) J3.out.1 (by have := HLe.out; omega) J3.out.2 ?_; intro u1 x3 ho hg; obtain ⟨oa2, oc2, hu⟩ := ho.own.form; obtain ⟨on2, hon2⟩ : ∃ o, (l ++ [n]).length = o := ⟨_, rfl⟩; rw [hon2] at hu; subst hu; have J4 := Bx.mk (J2.out.ap HDq.out HDs.out ho hg); have HO2 := Bx.mk hon2; clear ho hg J2 J3 kc hon2) | (refine wpList_cellS rfl _ _ rfl D (4 + i) oa2 on2 oc2 (cs.setIfInBounds (4 + i) (.slice oa on oc)) (cs.setIfInBounds (4 + i) (.slice oa2 on2 oc2)) 26 (by rfl) (by rfl) J4.out.row (by have := HC.out; have := HI4.out; simp; omega) (by simp) ?_; intro x4 hg hr; have J5 := Bx.mk (J4.out.put HDq.out HDs.out hg hr (H8.out.set _ (by intro x e; cases e))); clear hg hr J4))
        refine ⟨HLT.out, ⟨⟨⟨rfl, rfl⟩, rfl, rfl, rfl, rfl, rfl, rfl⟩, by first | rfl | go_num, ?_⟩⟩
        exact ⟨l ++ [n], z1, oa2, on2, oc2, HO2.out.symm, J5.out, HLW.out, by have := HLe.out; have := HLn.out.1 HZ0.out HER.out; simp; omega⟩
      · rw [if_neg (by rw [HER.out]; exact h0)] at HLW
        go_wp2
        refine ⟨HLT.out, ⟨⟨⟨rfl, rfl⟩, rfl, rfl, rfl, rfl, rfl, rfl⟩, by first | rfl | go_num, ?_⟩⟩
        exact ⟨l, z1, oa, on, oc, HON.out, J1.out, HLW.out, by have := HLe.out; have := HLn.out.2; omega⟩
    · have hfin : (l, z) = fin := by
        have h := HLw.out
        rw [show m0 - m = (m0 - (m + 1)) + 1 by omega] at h
        unfold lawR at h
        rwa [if_neg hz] at h
      obtain ⟨er, her⟩ : ∃ er, z.2 = er := ⟨_, rfl⟩
      rw [her] at HE hz
      have HF := Bx.mk hfin
      clear hfin her hlt HLw hm0
      go_wp2_with fail
      refine HE.out.mono ?_
      rintro e x1 ⟨rfl, hx⟩
      rw [hx]
      clear hx x1 HE
      go_wp2
      refine HQ.out _ _ oa on oc ⟨⟨rfl, rfl⟩, rfl, rfl, rfl, rfl, rfl, rfl⟩ (by rw [← HF.out]; exact HON.out) ?_
      rw [← HF.out]
      exact HI.out
  · have hfin : (l, z) = fin := by
      have h := HLw.out
      rw [show m0 - m = 0 by omega] at h
      exact h
    have HF := Bx.mk hfin
    have hge : ¬ (m : Int) < (m0 : Int) := by omega
    clear hfin hlt HLw hm0 HE
    go_wp2
    refine HQ.out _ _ oa on oc ⟨⟨rfl, rfl⟩, rfl, rfl, rfl, rfl, rfl, rfl⟩ (by rw [← HF.out]; exact HON.out) ?_
    rw [← HF.out]
    exact HI.out
end Go.Proofs.YtnfgamekjbkbkaaDoor
namespace Go.Proofs.YtnfgamekjbkbkaaDoor
open Go Go.RowKit
theorem loopL (q D i m0 : Nat) (cs : Array Value) (W2 : World) (v11 v12 : Value) (fin : List Int × (List UInt8 × Int)) (hi : i < 4) (hm0 : m0 ≤ 65535) (hcs : cs.size = 8) (h8 : No8 cs) (hD : q < D) (hD2 : D < W2.heap.size)
    (Q : Exit → Act → World → Prop) (a : Act) (wr : World) (h : PT8 q D i m0 cs W2 v11 v12 fin 0 a wr)
    (hq : ∀ a' w' oa on oc, PL v11 v12 (.pointer (some ⟨q, 0, none⟩)) (.pointer (some ⟨D, 0, none⟩)) (.int .i64 (i : Int)) (.int .i64 (m0 : Int)) a' → on = fin.1.length → IL q D W2 (cs.setIfInBounds (4 + i) (.slice oa on oc)) (.slice oa on oc) fin.1 fin.2 w' → Q (.exit 2) a' w') :
    Code.wp Tryd.prog (.loop (loopAt (Tryd.f3.body) 1)) Q a wr := by
  refine wp_loop_ghost (fun r a w => ∃ m, m ≤ m0 ∧ r = m0 - m ∧ PT8 q D i m0 cs W2 v11 v12 fin m a w) (m0 - 0) ⟨0, Nat.zero_le _, rfl, h⟩ ?_
  rintro r a w ⟨m, hm, rfl, hI⟩
  refine wp_mono (roundL q D i m0 cs W2 v11 v12 fin hi hm0 hcs h8 hD hD2 Q m a w hI hq) ?_
  rintro (_ | _ | _ | _ | _ | _) a' w' hq'
  case normal => exact ⟨m0 - (m + 1), by have := hq'.1; omega, m + 1, by have := hq'.1; omega, rfl, hq'.2⟩
  all_goals exact hq'
/-- What the loops leave alone. -/
structure PB (v11 v12 v13 v14 : Value) (a : Act) : Prop where
  fr : Fr 152 a
  s11 : a.eval (.tmp 11) = v11
  s12 : a.eval (.tmp 12) = v12
  s13 : a.eval (.tmp 13) = v13
  s14 : a.eval (.tmp 14) = v14
set_option maxRecDepth 100000 in
set_option maxHeartbeats 16000000 in
theorem loopB (w : World) (B q D : Nat) (p : List UInt8 × Int) (v11 v12 : Value) (hl : p.1.length ≤ 400) (Q : Exit → Act → World → Prop) (a : Act) (wr : World) (h : PB v11 v12 (.pointer (some ⟨q, 0, none⟩)) (.pointer (some ⟨D, 0, none⟩)) a) (h15 : a.eval (.tmp 15) = .int .i64 0) (hr : PR w B q D #[.int .i64 0, .int .i64 0, .int .i64 0, .int .i64 0, .slice none 0 0, .slice none 0 0, .slice none 0 0, .slice none 0 0] [] p wr)
    (hq : ∀ a' w' (u : VV), PB v11 v12 (.pointer (some ⟨q, 0, none⟩)) (.pointer (some ⟨D, 0, none⟩)) a' → Rows4 w' u ⟨(logW (stepR p 1)).1, (logW (stepR (logW (stepR p 1)).2 1)).1, (logW (stepR (logW (stepR (logW (stepR p 1)).2 1)).2 1)).1, (logW (stepR (logW (stepR (logW (stepR (logW (stepR p 1)).2 1)).2 1)).2 1)).1⟩ → KR w B [(D, (.cells (dC ⟨numR p 1, numR (logW (stepR p 1)).2 1, numR (logW (stepR (logW (stepR p 1)).2 1)).2 1, numR (logW (stepR (logW (stepR (logW (stepR p 1)).2 1)).2 1)).2 1⟩ u) 26))] w' → IsR w' q (logW (stepR (logW (stepR (logW (stepR (logW (stepR p 1)).2 1)).2 1)).2 1)).2.1 (logW (stepR (logW (stepR (logW (stepR (logW (stepR p 1)).2 1)).2 1)).2 1)).2.2 → Q (.exit 0) a' w') :
    Code.wp Tryd.prog (.loop (loopAt (Tryd.f3.body) 0)) Q a wr := by
  have R0 := Bx.mk hr
  have HQ := Bx.mk hq
  have HL0 := Bx.mk hl
  have HDq : Bx (q < D) := ⟨hr.lt⟩
  have HS0 := Bx.mk (stepR_len p 1)
  have HG0 := Bx.mk (logW_len (stepR p 1))
  have HN0 := Bx.mk (numR_two (stepR p 1))
  have HW0 : Bx (logW (stepR p 1) = lawR (numR (stepR p 1) 1).toNat (stepR (stepR p 1) 1) []) := ⟨rfl⟩
  have HT0 := Bx.mk (stepR_len (stepR p 1) 1)
  have HS1 := Bx.mk (stepR_len (logW (stepR p 1)).2 1)
  have HG1 := Bx.mk (logW_len (stepR (logW (stepR p 1)).2 1))
  have HN1 := Bx.mk (numR_two (stepR (logW (stepR p 1)).2 1))
  have HW1 : Bx (logW (stepR (logW (stepR p 1)).2 1) = lawR (numR (stepR (logW (stepR p 1)).2 1) 1).toNat (stepR (stepR (logW (stepR p 1)).2 1) 1) []) := ⟨rfl⟩
  have HT1 := Bx.mk (stepR_len (stepR (logW (stepR p 1)).2 1) 1)
  have HS2 := Bx.mk (stepR_len (logW (stepR (logW (stepR p 1)).2 1)).2 1)
  have HG2 := Bx.mk (logW_len (stepR (logW (stepR (logW (stepR p 1)).2 1)).2 1))
  have HN2 := Bx.mk (numR_two (stepR (logW (stepR (logW (stepR p 1)).2 1)).2 1))
  have HW2 : Bx (logW (stepR (logW (stepR (logW (stepR p 1)).2 1)).2 1) = lawR (numR (stepR (logW (stepR (logW (stepR p 1)).2 1)).2 1) 1).toNat (stepR (stepR (logW (stepR (logW (stepR p 1)).2 1)).2 1) 1) []) := ⟨rfl⟩
  have HT2 := Bx.mk (stepR_len (stepR (logW (stepR (logW (stepR p 1)).2 1)).2 1) 1)
  have HS3 := Bx.mk (stepR_len (logW (stepR (logW (stepR (logW (stepR p 1)).2 1)).2 1)).2 1)
  have HG3 := Bx.mk (logW_len (stepR (logW (stepR (logW (stepR (logW (stepR p 1)).2 1)).2 1)).2 1))
  have HN3 := Bx.mk (numR_two (stepR (logW (stepR (logW (stepR (logW (stepR p 1)).2 1)).2 1)).2 1))
  have HW3 : Bx (logW (stepR (logW (stepR (logW (stepR (logW (stepR p 1)).2 1)).2 1)).2 1) = lawR (numR (stepR (logW (stepR (logW (stepR (logW (stepR p 1)).2 1)).2 1)).2 1) 1).toNat (stepR (stepR (logW (stepR (logW (stepR (logW (stepR p 1)).2 1)).2 1)).2 1) 1) []) := ⟨rfl⟩
  have HT3 := Bx.mk (stepR_len (stepR (logW (stepR (logW (stepR (logW (stepR p 1)).2 1)).2 1)).2 1) 1)
  obtain ⟨y, rfl, hy2⟩ := open152 h.fr
  have e11 := (hy2 11).symm.trans h.s11
  have e12 := (hy2 12).symm.trans h.s12
  have e13 := (hy2 13).symm.trans h.s13
  have e14 := (hy2 14).symm.trans h.s14
  have e15 := (hy2 15).symm.trans h15
  clear h hr hq hl hy2 h15
  rw [e11, e12, e13, e14, e15]
  clear e11 e12 e13 e14 e15
  refine wp_loop_rounds 5 ?_
  rw [rounds_succ]
  conv => arg 2; whnf
  go_wp2_with fail
  refine (rnum_any q 1 p.1 p.2 wr R0.out.rd (by have := HL0.out; omega) (by omega)).mono ?_
  rw [show (getR p.1 p.2 1).1.n = numR p 1 from rfl, show (getR p.1 p.2 1).2 = stepR p 1 from rfl]
  generalize numR p 1 = n0 at *
  generalize stepR p 1 = q0 at *
  rintro e v0a ⟨rfl, hr, hg⟩
  have A0 := Bx.mk (R0.out.read hg hr)
  clear hr hg R0
  go_upto_region 18 with (refine wpList_cellI rfl _ _ rfl D 0 n0 #[.int .i64 0, .int .i64 0, .int .i64 0, .int .i64 0, .slice none 0 0, .slice none 0 0, .slice none 0 0, .slice none 0 0] #[.int .i64 n0, .int .i64 0, .int .i64 0, .int .i64 0, .slice none 0 0, .slice none 0 0, .slice none 0 0, .slice none 0 0] 26 (by rfl) (by rfl) (A0.out.kr.rows _ (.head _)) (by simp) rfl ?_; intro v0b hg hr; have B0 := Bx.mk (A0.out.put hg hr (no8_delta 0 0 0 0 none none none none 0 0 0 0 0 0 0 0)); clear hg hr A0)
  go_wp2_with fail
  refine (rnum_any q 1 q0.1 q0.2 v0b B0.out.rd (by have := HL0.out; have := HS0.out; omega) (by omega)).mono ?_
  rw [show (getR q0.1 q0.2 1).1.n = numR q0 1 from rfl, show (getR q0.1 q0.2 1).2 = stepR q0 1 from rfl]
  obtain ⟨m0, hm0⟩ : ∃ m : Nat, numR q0 1 = (m : Int) := ⟨(numR q0 1).toNat, by have := HN0.out.1; omega⟩
  rw [hm0] at HN0 HW0 ⊢
  rw [Int.toNat_natCast] at HW0
  have HM0 := HN0
  clear hm0 HN0
  generalize stepR q0 1 = t0 at *
  generalize logW q0 = g0 at *
  rintro e v0c ⟨rfl, hr, hg⟩
  have C0 := Bx.mk (B0.out.read hg hr)
  clear hr hg B0
  go_wp2_with fail
  refine loopL q D 0 m0 #[.int .i64 n0, .int .i64 0, .int .i64 0, .int .i64 0, .slice none 0 0, .slice none 0 0, .slice none 0 0, .slice none 0 0] v0c v11 v12 g0 (by omega) (by have := HM0.out.2; omega) rfl (no8_delta n0 0 0 0 none none none none 0 0 0 0 0 0 0 0) HDq.out (C0.out.kr.lt (.head _)) _ _ v0c ⟨⟨⟨rfl, rfl⟩, rfl, rfl, rfl, rfl, rfl, rfl⟩, rfl, [], t0, none, 0, 0, rfl, C0.out.inner, HW0.out.symm, by have := HL0.out; have := HT0.out; have := HS0.out; simp; omega⟩ ?_
  intro a0' w0' o1 on c1 hPL hon hIL
  subst hon
  have R1 : Bx (PR w B q D #[.int .i64 n0, .int .i64 0, .int .i64 0, .int .i64 0, .slice o1 g0.1.length c1, .slice none 0 0, .slice none 0 0, .slice none 0 0] [(.slice o1 g0.1.length c1, g0.1)] g0.2 w0') := ⟨C0.out.outer hIL⟩
  clear hIL C0 HW0 HT0 HM0
  obtain ⟨y0, rfl, hy2⟩ := open152 hPL.fr
  have e11 := (hy2 11).symm.trans hPL.s11
  have e12 := (hy2 12).symm.trans hPL.s12
  have e13 := (hy2 13).symm.trans hPL.s13
  have e14 := (hy2 14).symm.trans hPL.s14
  have e15 := (hy2 15).symm.trans hPL.s15
  clear hPL hy2
  rw [e11, e12, e13, e14, e15]
  clear e11 e12 e13 e14 e15
  go_wp2_with fail
  rw [rounds_succ]
  conv => arg 2; whnf
  go_wp2_with fail
  refine (rnum_any q 1 g0.2.1 g0.2.2 w0' R1.out.rd (by have := HL0.out; have := HS0.out; have := HG0.out; omega) (by omega)).mono ?_
  rw [show (getR g0.2.1 g0.2.2 1).1.n = numR g0.2 1 from rfl, show (getR g0.2.1 g0.2.2 1).2 = stepR g0.2 1 from rfl]
  generalize numR g0.2 1 = n1 at *
  generalize stepR g0.2 1 = q1 at *
  rintro e v1a ⟨rfl, hr, hg⟩
  have A1 := Bx.mk (R1.out.read hg hr)
  clear hr hg R1
  go_upto_region 18 with (refine wpList_cellI rfl _ _ rfl D 1 n1 #[.int .i64 n0, .int .i64 0, .int .i64 0, .int .i64 0, .slice o1 g0.1.length c1, .slice none 0 0, .slice none 0 0, .slice none 0 0] #[.int .i64 n0, .int .i64 n1, .int .i64 0, .int .i64 0, .slice o1 g0.1.length c1, .slice none 0 0, .slice none 0 0, .slice none 0 0] 26 (by rfl) (by rfl) (A1.out.kr.rows _ (.head _)) (by simp) rfl ?_; intro v1b hg hr; have B1 := Bx.mk (A1.out.put hg hr (no8_delta n0 0 0 0 o1 none none none g0.1.length 0 0 0 c1 0 0 0)); clear hg hr A1)
  go_wp2_with fail
  refine (rnum_any q 1 q1.1 q1.2 v1b B1.out.rd (by have := HL0.out; have := HS0.out; have := HG0.out; have := HS1.out; omega) (by omega)).mono ?_
  rw [show (getR q1.1 q1.2 1).1.n = numR q1 1 from rfl, show (getR q1.1 q1.2 1).2 = stepR q1 1 from rfl]
  obtain ⟨m1, hm1⟩ : ∃ m : Nat, numR q1 1 = (m : Int) := ⟨(numR q1 1).toNat, by have := HN1.out.1; omega⟩
  rw [hm1] at HN1 HW1 ⊢
  rw [Int.toNat_natCast] at HW1
  have HM1 := HN1
  clear hm1 HN1
  generalize stepR q1 1 = t1 at *
  generalize logW q1 = g1 at *
  rintro e v1c ⟨rfl, hr, hg⟩
  have C1 := Bx.mk (B1.out.read hg hr)
  clear hr hg B1
  go_wp2_with fail
  refine loopL q D 1 m1 #[.int .i64 n0, .int .i64 n1, .int .i64 0, .int .i64 0, .slice o1 g0.1.length c1, .slice none 0 0, .slice none 0 0, .slice none 0 0] v1c v11 v12 g1 (by omega) (by have := HM1.out.2; omega) rfl (no8_delta n0 n1 0 0 o1 none none none g0.1.length 0 0 0 c1 0 0 0) HDq.out (C1.out.kr.lt (.head _)) _ _ v1c ⟨⟨⟨rfl, rfl⟩, rfl, rfl, rfl, rfl, rfl, rfl⟩, rfl, [], t1, none, 0, 0, rfl, C1.out.inner, HW1.out.symm, by have := HL0.out; have := HT1.out; have := HS0.out; have := HG0.out; have := HS1.out; simp; omega⟩ ?_
  intro a1' w1' o2 on c2 hPL hon hIL
  subst hon
  have R2 : Bx (PR w B q D #[.int .i64 n0, .int .i64 n1, .int .i64 0, .int .i64 0, .slice o1 g0.1.length c1, .slice o2 g1.1.length c2, .slice none 0 0, .slice none 0 0] [(.slice o2 g1.1.length c2, g1.1), (.slice o1 g0.1.length c1, g0.1)] g1.2 w1') := ⟨C1.out.outer hIL⟩
  clear hIL C1 HW1 HT1 HM1
  obtain ⟨y1, rfl, hy2⟩ := open152 hPL.fr
  have e11 := (hy2 11).symm.trans hPL.s11
  have e12 := (hy2 12).symm.trans hPL.s12
  have e13 := (hy2 13).symm.trans hPL.s13
  have e14 := (hy2 14).symm.trans hPL.s14
  have e15 := (hy2 15).symm.trans hPL.s15
  clear hPL hy2
  rw [e11, e12, e13, e14, e15]
  clear e11 e12 e13 e14 e15
  go_wp2_with fail
  rw [rounds_succ]
  conv => arg 2; whnf
  go_wp2_with fail
  refine (rnum_any q 1 g1.2.1 g1.2.2 w1' R2.out.rd (by have := HL0.out; have := HS0.out; have := HG0.out; have := HS1.out; have := HG1.out; omega) (by omega)).mono ?_
  rw [show (getR g1.2.1 g1.2.2 1).1.n = numR g1.2 1 from rfl, show (getR g1.2.1 g1.2.2 1).2 = stepR g1.2 1 from rfl]
  generalize numR g1.2 1 = n2 at *
  generalize stepR g1.2 1 = q2 at *
  rintro e v2a ⟨rfl, hr, hg⟩
  have A2 := Bx.mk (R2.out.read hg hr)
  clear hr hg R2
  go_upto_region 18 with (refine wpList_cellI rfl _ _ rfl D 2 n2 #[.int .i64 n0, .int .i64 n1, .int .i64 0, .int .i64 0, .slice o1 g0.1.length c1, .slice o2 g1.1.length c2, .slice none 0 0, .slice none 0 0] #[.int .i64 n0, .int .i64 n1, .int .i64 n2, .int .i64 0, .slice o1 g0.1.length c1, .slice o2 g1.1.length c2, .slice none 0 0, .slice none 0 0] 26 (by rfl) (by rfl) (A2.out.kr.rows _ (.head _)) (by simp) rfl ?_; intro v2b hg hr; have B2 := Bx.mk (A2.out.put hg hr (no8_delta n0 n1 0 0 o1 o2 none none g0.1.length g1.1.length 0 0 c1 c2 0 0)); clear hg hr A2)
  go_wp2_with fail
  refine (rnum_any q 1 q2.1 q2.2 v2b B2.out.rd (by have := HL0.out; have := HS0.out; have := HG0.out; have := HS1.out; have := HG1.out; have := HS2.out; omega) (by omega)).mono ?_
  rw [show (getR q2.1 q2.2 1).1.n = numR q2 1 from rfl, show (getR q2.1 q2.2 1).2 = stepR q2 1 from rfl]
  obtain ⟨m2, hm2⟩ : ∃ m : Nat, numR q2 1 = (m : Int) := ⟨(numR q2 1).toNat, by have := HN2.out.1; omega⟩
  rw [hm2] at HN2 HW2 ⊢
  rw [Int.toNat_natCast] at HW2
  have HM2 := HN2
  clear hm2 HN2
  generalize stepR q2 1 = t2 at *
  generalize logW q2 = g2 at *
  rintro e v2c ⟨rfl, hr, hg⟩
  have C2 := Bx.mk (B2.out.read hg hr)
  clear hr hg B2
  go_wp2_with fail
  refine loopL q D 2 m2 #[.int .i64 n0, .int .i64 n1, .int .i64 n2, .int .i64 0, .slice o1 g0.1.length c1, .slice o2 g1.1.length c2, .slice none 0 0, .slice none 0 0] v2c v11 v12 g2 (by omega) (by have := HM2.out.2; omega) rfl (no8_delta n0 n1 n2 0 o1 o2 none none g0.1.length g1.1.length 0 0 c1 c2 0 0) HDq.out (C2.out.kr.lt (.head _)) _ _ v2c ⟨⟨⟨rfl, rfl⟩, rfl, rfl, rfl, rfl, rfl, rfl⟩, rfl, [], t2, none, 0, 0, rfl, C2.out.inner, HW2.out.symm, by have := HL0.out; have := HT2.out; have := HS0.out; have := HG0.out; have := HS1.out; have := HG1.out; have := HS2.out; simp; omega⟩ ?_
  intro a2' w2' o3 on c3 hPL hon hIL
  subst hon
  have R3 : Bx (PR w B q D #[.int .i64 n0, .int .i64 n1, .int .i64 n2, .int .i64 0, .slice o1 g0.1.length c1, .slice o2 g1.1.length c2, .slice o3 g2.1.length c3, .slice none 0 0] [(.slice o3 g2.1.length c3, g2.1), (.slice o2 g1.1.length c2, g1.1), (.slice o1 g0.1.length c1, g0.1)] g2.2 w2') := ⟨C2.out.outer hIL⟩
  clear hIL C2 HW2 HT2 HM2
  obtain ⟨y2, rfl, hy2⟩ := open152 hPL.fr
  have e11 := (hy2 11).symm.trans hPL.s11
  have e12 := (hy2 12).symm.trans hPL.s12
  have e13 := (hy2 13).symm.trans hPL.s13
  have e14 := (hy2 14).symm.trans hPL.s14
  have e15 := (hy2 15).symm.trans hPL.s15
  clear hPL hy2
  rw [e11, e12, e13, e14, e15]
  clear e11 e12 e13 e14 e15
  go_wp2_with fail
  rw [rounds_succ]
  conv => arg 2; whnf
  go_wp2_with fail
  refine (rnum_any q 1 g2.2.1 g2.2.2 w2' R3.out.rd (by have := HL0.out; have := HS0.out; have := HG0.out; have := HS1.out; have := HG1.out; have := HS2.out; have := HG2.out; omega) (by omega)).mono ?_
  rw [show (getR g2.2.1 g2.2.2 1).1.n = numR g2.2 1 from rfl, show (getR g2.2.1 g2.2.2 1).2 = stepR g2.2 1 from rfl]
  generalize numR g2.2 1 = n3 at *
  generalize stepR g2.2 1 = q3 at *
  rintro e v3a ⟨rfl, hr, hg⟩
  have A3 := Bx.mk (R3.out.read hg hr)
  clear hr hg R3
  go_upto_region 18 with (refine wpList_cellI rfl _ _ rfl D 3 n3 #[.int .i64 n0, .int .i64 n1, .int .i64 n2, .int .i64 0, .slice o1 g0.1.length c1, .slice o2 g1.1.length c2, .slice o3 g2.1.length c3, .slice none 0 0] #[.int .i64 n0, .int .i64 n1, .int .i64 n2, .int .i64 n3, .slice o1 g0.1.length c1, .slice o2 g1.1.length c2, .slice o3 g2.1.length c3, .slice none 0 0] 26 (by rfl) (by rfl) (A3.out.kr.rows _ (.head _)) (by simp) rfl ?_; intro v3b hg hr; have B3 := Bx.mk (A3.out.put hg hr (no8_delta n0 n1 n2 0 o1 o2 o3 none g0.1.length g1.1.length g2.1.length 0 c1 c2 c3 0)); clear hg hr A3)
  go_wp2_with fail
  refine (rnum_any q 1 q3.1 q3.2 v3b B3.out.rd (by have := HL0.out; have := HS0.out; have := HG0.out; have := HS1.out; have := HG1.out; have := HS2.out; have := HG2.out; have := HS3.out; omega) (by omega)).mono ?_
  rw [show (getR q3.1 q3.2 1).1.n = numR q3 1 from rfl, show (getR q3.1 q3.2 1).2 = stepR q3 1 from rfl]
  obtain ⟨m3, hm3⟩ : ∃ m : Nat, numR q3 1 = (m : Int) := ⟨(numR q3 1).toNat, by have := HN3.out.1; omega⟩
  rw [hm3] at HN3 HW3 ⊢
  rw [Int.toNat_natCast] at HW3
  have HM3 := HN3
  clear hm3 HN3
  generalize stepR q3 1 = t3 at *
  generalize logW q3 = g3 at *
  rintro e v3c ⟨rfl, hr, hg⟩
  have C3 := Bx.mk (B3.out.read hg hr)
  clear hr hg B3
  go_wp2_with fail
  refine loopL q D 3 m3 #[.int .i64 n0, .int .i64 n1, .int .i64 n2, .int .i64 n3, .slice o1 g0.1.length c1, .slice o2 g1.1.length c2, .slice o3 g2.1.length c3, .slice none 0 0] v3c v11 v12 g3 (by omega) (by have := HM3.out.2; omega) rfl (no8_delta n0 n1 n2 n3 o1 o2 o3 none g0.1.length g1.1.length g2.1.length 0 c1 c2 c3 0) HDq.out (C3.out.kr.lt (.head _)) _ _ v3c ⟨⟨⟨rfl, rfl⟩, rfl, rfl, rfl, rfl, rfl, rfl⟩, rfl, [], t3, none, 0, 0, rfl, C3.out.inner, HW3.out.symm, by have := HL0.out; have := HT3.out; have := HS0.out; have := HG0.out; have := HS1.out; have := HG1.out; have := HS2.out; have := HG2.out; have := HS3.out; simp; omega⟩ ?_
  intro a3' w3' o4 on c4 hPL hon hIL
  subst hon
  have R4 : Bx (PR w B q D #[.int .i64 n0, .int .i64 n1, .int .i64 n2, .int .i64 n3, .slice o1 g0.1.length c1, .slice o2 g1.1.length c2, .slice o3 g2.1.length c3, .slice o4 g3.1.length c4] [(.slice o4 g3.1.length c4, g3.1), (.slice o3 g2.1.length c3, g2.1), (.slice o2 g1.1.length c2, g1.1), (.slice o1 g0.1.length c1, g0.1)] g3.2 w3') := ⟨C3.out.outer hIL⟩
  clear hIL C3 HW3 HT3 HM3
  obtain ⟨y3, rfl, hy2⟩ := open152 hPL.fr
  have e11 := (hy2 11).symm.trans hPL.s11
  have e12 := (hy2 12).symm.trans hPL.s12
  have e13 := (hy2 13).symm.trans hPL.s13
  have e14 := (hy2 14).symm.trans hPL.s14
  have e15 := (hy2 15).symm.trans hPL.s15
  clear hPL hy2
  rw [e11, e12, e13, e14, e15]
  clear e11 e12 e13 e14 e15
  go_wp2_with fail
  rw [rounds_succ]
  conv => arg 2; whnf
  go_wp2_with fail
  refine HQ.out _ _ ⟨.slice o1 g0.1.length c1, .slice o2 g1.1.length c2, .slice o3 g2.1.length c3, .slice o4 g3.1.length c4⟩ ⟨⟨rfl, rfl⟩, rfl, rfl, rfl, rfl⟩ ⟨(R4.out.own (_, g0.1) (by simp)).own.isL, (R4.out.own (_, g1.1) (by simp)).own.isL, (R4.out.own (_, g2.1) (by simp)).own.isL, (R4.out.own (_, g3.1) (by simp)).own.isL⟩ R4.out.kr R4.out.rd
end Go.Proofs.YtnfgamekjbkbkaaDoor
