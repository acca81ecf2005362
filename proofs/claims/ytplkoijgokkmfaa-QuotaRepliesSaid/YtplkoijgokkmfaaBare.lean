/-
  Quotas: Drop, and the chapter's example.
-/
import Derived.Test.YtplkoijgokkmfaaB3
import Derived.Test.YtplkoijgokkmfaaProg
import Derived.Shelf.AbstractIn
import Derived.Shelf.SlIterI.Nil
import Derived.Shelf.SortM.Plain
import Derived.Shelf.SortM.SortNone
import Derived.Deep.RegionHeld3
import Derived.Test.YtplkoijgokkmfaaB1
namespace Go.Proofs.Ytplkoijgokkmfaa
open Go Go.RowKit
theorem grown_belowQ {w w1 : World} {p : Nat} (h : w.grownBy w1 (some p)) {B : Nat} (hB : B ≤ p) (hs : B ≤ w.heap.size) : Below B w w1 := ⟨h.os, h.tape, h.output, h.size, fun i hi => h.block i (by omega) (fun e => by injection e with e; omega)⟩
theorem tk1 : takeE [] 1 9 5 = 0 ∧ takeN [] 1 9 5 = [⟨9, 0, 1⟩] ∧ takeE [⟨9, 0, 1⟩] 1 9 31 = 15 ∧ takeN [⟨9, 0, 1⟩] 1 9 31 = [⟨9, 0, 1⟩] ∧ takeE [⟨9, 0, 1⟩] 1 9 32 = 0 := by
  have e1 : takeE [] 1 9 5 = 0 := by decide +kernel
  have e2 : takeE [⟨9, 0, 1⟩] 1 9 31 = 15 := by decide +kernel
  refine ⟨e1, ?_, e2, ?_, by decide +kernel⟩
  · unfold takeN; rw [if_pos e1]; rfl
  · unfold takeN; rw [if_neg (by rw [e2]; decide)]
set_option maxRecDepth 100000 in
set_option maxHeartbeats 4000000 in
theorem known11_any (w : World) : Calls Try.prog 9 #[] w fun e w' => e = .returned (.bool true) ∧ Below w.heap.size w w' := by
  have HN := Bx.mk (qnew_ok 1 w (by omega) (by omega))
  have HT := Bx.mk fun (q M : Nat) (l : List En) (s t : Int) (W : World) (h : QB W q M 1 l) (hs : in64 s) (ht : in64 t) (hok : OkQ 1 l) => qtake_any q M 1 l s t W h hs ht hok (by omega) (by omega)
  obtain ⟨e1, e2, e3, e4, e5⟩ := tk1
  have HE := Bx.mk (And.intro e1 (And.intro e2 (And.intro e3 (And.intro e4 e5))))
  clear e1 e2 e3 e4 e5
  go_enter Try.func9, Try.ntmps9
  go_wp2_with fail
  refine HN.out.mono ?_
  rintro e w1 ⟨q, M, rfl, hq, hM, hb, h⟩
  have R1 := Bx.mk (And.intro (And.intro hq hM) (And.intro hb h))
  clear hq hM hb h HN
  go_wp2_with fail
  have T1 := HT.out q M [] 9 5 w1 R1.out.2.2 (by unfold in64; omega) (by unfold in64; omega) (ok_nil 1)
  rw [HE.out.1, HE.out.2.1] at T1
  refine T1.mono ?_
  rintro e w2 ⟨rfl, h, hg⟩
  have R2 := Bx.mk (And.intro R1.out.1 (And.intro (R1.out.2.1.trans (grown_belowQ hg R1.out.1.2 R1.out.2.1.size)) h))
  clear h hg T1 R1
  have hok : OkQ 1 [⟨9, 0, 1⟩] := fun x hx => by obtain rfl : x = ⟨9, 0, 1⟩ := by simpa using hx
                                                 exact ⟨Int.le_refl _, Int.le_refl _, Int.le_refl _⟩
  have HO := Bx.mk hok
  clear hok
  go_wp2_with fail
  have T2 := HT.out q M [⟨9, 0, 1⟩] 9 31 w2 R2.out.2.2 (by unfold in64; omega) (by unfold in64; omega) HO.out
  rw [HE.out.2.2.1, HE.out.2.2.2.1] at T2
  refine T2.mono ?_
  rintro e w3 ⟨rfl, h, hg⟩
  have R3 := Bx.mk (And.intro R2.out.1 (And.intro (R2.out.2.1.trans (grown_belowQ hg R2.out.1.2 R2.out.2.1.size)) h))
  clear h hg T2 R2
  go_wp2_with fail
  have T3 := HT.out q M [⟨9, 0, 1⟩] 9 32 w3 R3.out.2.2 (by unfold in64; omega) (by unfold in64; omega) HO.out
  rw [HE.out.2.2.2.2] at T3
  refine T3.mono ?_
  rintro e w4 ⟨rfl, h, hg⟩
  have R4 := Bx.mk (R3.out.2.1.trans (grown_belowQ hg R3.out.1.2 R3.out.2.1.size))
  clear h hg T3 R3
  go_wp2
  go_ret
  exact ⟨rfl, R4.out⟩
end Go.Proofs.Ytplkoijgokkmfaa
namespace Go.Proofs.Ytplkoijgokkmfaa
open Go Go.RowKit
/-- Is it a length? -/
def lenQ (n : Int) : Bool := decide (0 ≤ n ∧ n ≤ 2147483647)
/-- May so many bytes be replied with to so many? -/
def allQ (i o : Int) : Bool := lenQ i && lenQ o && decide (o ≤ 3 * i)
set_option maxRecDepth 100000 in
theorem islen_any (n : Int) (w : World) : Calls Try.prog 29 #[.int .i64 n] w fun e w' => e = .returned (.bool (lenQ n)) ∧ w = w' := by
  by_cases h1 : 0 ≤ n
  · by_cases h2 : n ≤ 2147483647
    · rw [show lenQ n = true from decide_eq_true ⟨h1, h2⟩]
      go_enter Try.func29, Try.ntmps29
      go_wp2
      go_ret
      exact ⟨rfl, rfl⟩
    · rw [show lenQ n = false from decide_eq_false (fun h => h2 h.2)]
      go_enter Try.func29, Try.ntmps29
      go_wp2
      go_ret
      exact ⟨rfl, rfl⟩
  · rw [show lenQ n = false from decide_eq_false (fun h => h1 h.1)]
    go_enter Try.func29, Try.ntmps29
    go_wp2
    go_ret
    exact ⟨rfl, rfl⟩
set_option maxRecDepth 100000 in
theorem allows_any (i o : Int) (w : World) : Calls Try.prog 22 #[.int .i64 i, .int .i64 o] w fun e w' => e = .returned (.bool (allQ i o)) ∧ w = w' := by
  have H1 := Bx.mk fun (W : World) => islen_any i W
  have H2 := Bx.mk fun (W : World) => islen_any o W
  cases hi : lenQ i with
  | false =>
    rw [hi] at H1
    rw [show allQ i o = false by unfold allQ; rw [hi]; rfl]
    clear hi H2
    go_enter Try.func22, Try.ntmps22
    go_wp2_with fail
    refine (H1.out _).mono ?_
    rintro e w1 ⟨rfl, rfl⟩
    go_wp2
    go_ret
    exact ⟨rfl, rfl⟩
  | true =>
    rw [hi] at H1
    have hi2 : 0 ≤ i ∧ i ≤ 2147483647 := of_decide_eq_true hi
    cases ho : lenQ o with
    | false =>
      rw [ho] at H2
      rw [show allQ i o = false by unfold allQ; rw [hi, ho]; rfl]
      clear hi ho hi2
      go_enter Try.func22, Try.ntmps22
      go_wp2_with fail
      refine (H1.out _).mono ?_
      rintro e w1 ⟨rfl, rfl⟩
      go_wp2_with fail
      refine (H2.out _).mono ?_
      rintro e w1 ⟨rfl, rfl⟩
      go_wp2
      go_ret
      exact ⟨rfl, rfl⟩
    | true =>
      rw [ho] at H2
      rw [show allQ i o = decide (o ≤ 3 * i) by unfold allQ; rw [hi, ho]; rfl]
      obtain ⟨i1, i2⟩ := hi2
      have hm : IntKind.i64.wrap (3 * i) = 3 * i := by simp [IntKind.wrap_i64]; omega
      clear hi ho i1 i2
      go_enter Try.func22, Try.ntmps22
      go_wp2_with fail
      refine (H1.out _).mono ?_
      rintro e w1 ⟨rfl, rfl⟩
      go_wp2_with fail
      refine (H2.out _).mono ?_
      rintro e w1 ⟨rfl, rfl⟩
      go_wp2
      go_ret
      exact ⟨rfl, rfl⟩
/-- The first reply that is allowed. -/
def fitQ (i : Int) (ps : List (List UInt8)) : Option (List UInt8) := ps.find? fun p => allQ i (p.length : Int)
theorem fitQ_none {i : Int} {ps : List (List UInt8)} (h : ∀ j, j < ps.length → allQ i ((ps.getD j []).length : Int) = false) : fitQ i ps = none := by
  unfold fitQ
  rw [List.find?_eq_none]
  intro p hp
  obtain ⟨j, hj, rfl⟩ := List.mem_iff_getElem.1 hp
  have := h j hj
  rw [List.getD_eq_getElem?_getD, List.getElem?_eq_getElem hj] at this
  simpa using this
theorem fitQ_some {i : Int} {ps : List (List UInt8)} (k : Nat) (hk : k < ps.length) (h : ∀ j, j < k → allQ i ((ps.getD j []).length : Int) = false) (hh : allQ i ((ps.getD k []).length : Int) = true) : fitQ i ps = some (ps.getD k []) := by
  unfold fitQ
  rw [List.find?_eq_some_iff_getElem]
  refine ⟨hh, k, hk, ?_, fun j hj => ?_⟩
  · rw [List.getD_eq_getElem?_getD, List.getElem?_eq_getElem hk]; rfl
  · have := h j hj
    rw [List.getD_eq_getElem?_getD, List.getElem?_eq_getElem (by omega)] at this
    simpa using this
theorem allQ_len {i o : Int} (h : lenQ i = false) : allQ i o = false := by unfold allQ; rw [h]; rfl
/-- What Fit hands back. -/
def FitQ (i : Int) (ps : List (List UInt8)) (w : World) (e : Ending) (w' : World) : Prop :=
  ((∃ v p, fitQ i ps = some p ∧ e = .returned (.tuple #[v, .int .i64 0]) ∧ Bytes w' v p) ∨ (fitQ i ps = none ∧ e = .returned (.tuple #[.slice none 0 0, .int .i64 15]))) ∧ Below w.heap.size w w'
theorem rowP_form {w : World} {x : Value} {ys : List Value} (h : RowP w x ys) : ∃ a cap, x = .slice a ys.length cap := by
  rcases h with ⟨rfl, rfl⟩ | ⟨g, o, cap, rfl, -⟩
  · exact ⟨none, 0, rfl⟩
  · exact ⟨_, cap, rfl⟩
set_option maxRecDepth 100000 in
set_option maxHeartbeats 1000000 in
theorem fit_any (i : Int) (ps : List (List UInt8)) (x : Value) (w : World) (hx : PartsR w x ps) (hn : ps.length ≤ 1000) (hl : ∀ p ∈ ps, p.length ≤ 1000000) :
    Calls Try.prog 23 #[.int .i64 i, x] w (FitQ i ps w) := by
  obtain ⟨ys, hr, hv⟩ := hx
  have HR := Bx.mk hr
  have HV := Bx.mk hv
  have HL := Bx.mk hl
  obtain ⟨a, cap, rfl⟩ := rowP_form hr
  obtain ⟨n, hnn⟩ : ∃ n, ys.length = n := ⟨_, rfl⟩
  have HN : Bx (ps.length = n ∧ n ≤ 1000 ∧ ys.length = n) := Bx.mk ⟨by rw [← hv.1, hnn], by rw [← hnn, hv.1]; exact hn, hnn⟩
  rw [hnn] at HR ⊢
  have hn1 : (n : Int) ≤ 1000 := by have := HN.out.2.1; omega
  have HI := Bx.mk fun (W : World) => islen_any i W
  have HAl := Bx.mk fun (o : Int) (W : World) => allows_any i o W
  clear hr hv hn hl hnn
  cases hi : lenQ i with
  | false =>
    rw [hi] at HI
    have HZ : Bx (fitQ i ps = none) := Bx.mk (fitQ_none fun j _ => allQ_len hi)
    clear hi
    by_cases h0 : n = 0
    · subst h0
      go_enter Try.func23, Try.ntmps23
      go_wp2_with fail
      go_step3
      go_wp2
      go_step3
      go_wp2
      refine wp_loop_rounds 1 ?_
      rw [rounds_succ]
      go_wp2
      try rw [Exit.noGoto_ret]
      go_ret2
      exact ⟨.inr ⟨HZ.out, rfl⟩, Below.refl _ _⟩
    · rcases HR.out with ⟨h1, h2⟩ | ⟨g, o, cp, h1, h2⟩
      · have := HN.out.2.2
        rw [h2] at this
        exact absurd this.symm h0
      · injection h1 with e1 e2 e3
        have hpos : (0 : Int) < (n : Int) := by omega
        have hc := h2 0 (by rw [HN.out.2.2]; omega)
        obtain ⟨ya, yn, hy, -, -⟩ := bytes_form (HV.out.2 0 (by rw [HN.out.2.2]; omega))
        rw [hy] at hc
        subst e1
        generalize (ps.getD 0 []).length = pl at *
        clear h2 e2 e3 hy h0
        have hc0 : w.cell? ⟨g, o, none⟩ = some (.slice ya pl yn) := hc
        go_enter Try.func23, Try.ntmps23
        go_wp2_with fail
        go_step3
        go_wp2
        go_step3
        go_wp2
        refine wp_loop_rounds 1 ?_
        rw [rounds_succ]
        go_wp2_with fail
        refine (HI.out _).mono ?_
        rintro e w1 ⟨rfl, rfl⟩
        go_wp2
        try rw [Exit.noGoto_ret]
        go_ret2
        exact ⟨.inr ⟨HZ.out, rfl⟩, Below.refl _ _⟩
  | true =>
    rw [hi] at HI
    clear hi
    go_enter Try.func23, Try.ntmps23
    go_wp2_with fail
    go_step3
    go_wp2
    go_step3
    go_wp2
    go_loopw [10] (fun iv wr => ∃ k : Nat, k ≤ n ∧ iv = .int .i64 ((k : Nat) : Int) ∧ w = wr ∧ Bx (∀ j, j < k → allQ i ((ps.getD j []).length : Int) = false)) (fun iv _ => n - (intOf iv).toNat)
    case atStart => exact ⟨0, by omega, rfl, rfl, Bx.mk fun j hj => absurd hj (Nat.not_lt_zero j)⟩
    case round =>
      obtain ⟨k, hk, rfl, rfl, HB⟩ := hrel
      by_cases hlt : k < n
      · have t1 : (k : Int) < (n : Int) := by omega
        have t0 : (0 : Int) ≤ (k : Int) := by omega
        rcases HR.out with ⟨h1, h2⟩ | ⟨g, o, cp, h1, h2⟩
        · have := HN.out.2.2
          rw [h2] at this
          simp only [List.length_nil] at this
          omega
        · injection h1 with e1 e2 e3
          have hc := h2 k (by rw [HN.out.2.2]; exact hlt)
          have hyb := HV.out.2 k (by rw [HN.out.2.2]; exact hlt)
          obtain ⟨ya, yn, hy, -, -⟩ := bytes_form hyb
          rw [hy] at hc hyb
          subst e1
          have HYB := Bx.mk hyb
          have HPL : Bx ((ps.getD k []).length ≤ 1000000) := Bx.mk (by
            have hkp : k < ps.length := by rw [HN.out.1]; exact hlt
            rw [List.getD_eq_getElem?_getD, List.getElem?_eq_getElem hkp]
            exact HL.out _ (List.getElem_mem hkp))
          obtain ⟨pl, hpl⟩ : ∃ pl, (ps.getD k []).length = pl := ⟨_, rfl⟩
          have HPE := Bx.mk hpl
          rw [hpl] at hc
          clear h2 e2 e3 hy hyb hpl
          have HCl := Bx.mk (clone_any _ _ _ HYB.out (by have := HPL.out; omega))
          rw [HPE.out] at HCl
          cases hal : allQ i (pl : Int) with
          | true =>
            have HA2 := Bx.mk fun (W : World) => HAl.out (pl : Int) W
            rw [hal] at HA2
            have HF : Bx (fitQ i ps = some (ps.getD k [])) := Bx.mk (fitQ_some k (by rw [HN.out.1]; exact hlt) HB.out (by rw [HPE.out]; exact hal))
            clear hal HAl hlt
            go_wp2_with fail
            refine (HI.out _).mono ?_
            rintro e w1 ⟨rfl, rfl⟩
            go_wp2_with fail
            refine (HA2.out _).mono ?_
            rintro e w1 ⟨rfl, rfl⟩
            go_wp2_with fail
            refine HCl.out.mono ?_
            rintro e w1 ⟨v, rfl, ho, hb⟩
            have HO := Bx.mk (And.intro ho.bytes hb)
            clear ho hb HCl
            go_wp2
            try rw [Exit.noGoto_ret]
            go_ret2
            exact ⟨.inl ⟨_, _, HF.out, rfl, HO.out.1⟩, HO.out.2⟩
          | false =>
            have HA2 := Bx.mk fun (W : World) => HAl.out (pl : Int) W
            rw [hal] at HA2
            have HB2 : Bx (∀ j, j < k + 1 → allQ i ((ps.getD j []).length : Int) = false) := Bx.mk fun j hj => by
              rcases Nat.lt_or_ge j k with h | h
              · exact HB.out j h
              · obtain rfl : j = k := by omega
                rw [HPE.out]; exact hal
            clear hal HAl
            go_wp2_with fail
            refine (HI.out _).mono ?_
            rintro e w1 ⟨rfl, rfl⟩
            go_wp2_with fail
            refine (HA2.out _).mono ?_
            rintro e w1 ⟨rfl, rfl⟩
            go_wp2
            go_roundw
            case rel => exact ⟨k + 1, by omega, by go_num, by first | rfl | trivial, HB2⟩
            case measure => simp [intOf]; omega
      · have t1 : ¬ (k : Int) < (n : Int) := by omega
        have HF : Bx (fitQ i ps = none) := Bx.mk (fitQ_none fun j hj => HB.out j (by have := HN.out.1; omega))
        go_wp2
        try rw [Exit.noGoto_ret]
        go_ret2
        exact ⟨.inr ⟨HF.out, rfl⟩, Below.refl _ _⟩
end Go.Proofs.Ytplkoijgokkmfaa
namespace Go.Proofs.Ytplkoijgokkmfaa
open Go Go.RowKit
set_option maxRecDepth 100000 in
theorem open114 {a : Act} (h : Fr 114 a) : ∃ x : Nat → Value, a = ⟨List.toArray (x 0 :: x 1 :: x 2 :: x 3 :: x 4 :: x 5 :: x 6 :: x 7 :: x 8 :: x 9 :: x 10 :: x 11 :: x 12 :: x 13 :: x 14 :: x 15 :: x 16 :: x 17 :: x 18 :: x 19 :: x 20 :: x 21 :: x 22 :: x 23 :: x 24 :: x 25 :: x 26 :: x 27 :: x 28 :: x 29 :: x 30 :: x 31 :: x 32 :: x 33 :: x 34 :: x 35 :: x 36 :: x 37 :: x 38 :: x 39 :: x 40 :: x 41 :: x 42 :: x 43 :: x 44 :: x 45 :: x 46 :: x 47 :: x 48 :: x 49 :: x 50 :: x 51 :: x 52 :: x 53 :: x 54 :: x 55 :: x 56 :: x 57 :: x 58 :: x 59 :: x 60 :: x 61 :: x 62 :: x 63 :: x 64 :: x 65 :: x 66 :: x 67 :: x 68 :: x 69 :: x 70 :: x 71 :: x 72 :: x 73 :: x 74 :: x 75 :: x 76 :: x 77 :: x 78 :: x 79 :: x 80 :: x 81 :: x 82 :: x 83 :: x 84 :: x 85 :: x 86 :: x 87 :: x 88 :: x 89 :: x 90 :: x 91 :: x 92 :: x 93 :: x 94 :: x 95 :: x 96 :: x 97 :: x 98 :: x 99 :: x 100 :: x 101 :: x 102 :: x 103 :: x 104 :: x 105 :: x 106 :: x 107 :: x 108 :: x 109 :: x 110 :: x 111 :: x 112 :: x 113 :: []), []⟩ ∧ ∀ i, a.eval (.tmp i) = x i := ⟨fun i => a.tmps.getD i undef, h.form, fun _ => rfl⟩
/-- At most six replies, of at most 200 bytes. -/
def cut6R (pss : List (List UInt8)) : List (List UInt8) := (pss.take 6).map (·.take 200)
theorem cut6R_len (pss : List (List UInt8)) : (cut6R pss).length ≤ 6 := by
  unfold cut6R
  rw [List.length_map, List.length_take]
  omega
theorem cut6R_each (pss : List (List UInt8)) : ∀ p ∈ cut6R pss, p.length ≤ 200 := by
  intro p hp
  unfold cut6R at hp
  obtain ⟨q, _, rfl⟩ := List.mem_map.1 hp
  simp only [List.length_take]
  omega
theorem cut6R_succ (pss : List (List UInt8)) (k : Nat) (h : k < pss.length) : (pss.take (k + 1)).map (·.take 200) = (pss.take k).map (·.take 200) ++ [(pss.getD k []).take 200] := by
  rw [List.take_succ_eq_append_getElem h, List.map_append]
  simp [h]
theorem rowR_one (W : World) (x : Value) : RowP (W.alloc (.cells #[x] 50)) (.slice (some ⟨W.heap.size, 0, none⟩) 1 1) [x] := by
  refine .inr ⟨W.heap.size, 0, 1, rfl, fun j hj => ?_⟩
  rw [cell_of_row _ _ _ _ _ _ (hnew W _ _ rfl)]
  obtain rfl : j = 0 := by simpa using hj
  rfl
theorem ownR_shape {w : World} {base : Nat} {v : Value} {l : List Value} (h : OwnP w base v l) : ∃ a n cap, v = .slice a n cap := by
  rcases h.2 with ⟨rfl, _⟩ | ⟨g, cap, cur, rfl, _⟩
  · exact ⟨_, _, _, rfl⟩
  · exact ⟨_, _, _, rfl⟩
/-- What stays in the frame. -/
structure FP (v0 v1 v2 : Value) (a : Act) : Prop where
  fr : Fr 114 a
  s0 : a.eval (.tmp 0) = v0
  s1 : a.eval (.tmp 1) = v1
  s2 : a.eval (.tmp 2) = v2
/-- Between two rounds of the first loop. -/
structure IP (w : World) (pss : List (List UInt8)) (v0 v1 v2 : Value) (k : Nat) (a : Act) (W : World) : Prop where
  fp : FP v0 v1 v2 a
  s8 : a.eval (.tmp 8) = .int .i64 (k : Int)
  st : ∃ o xs, a.eval (.tmp 7) = o ∧ Vals w xs ((pss.take k).map (·.take 200)) ∧ OwnP W w.heap.size o xs ∧ Below w.heap.size w W
set_option maxRecDepth 100000 in
set_option maxHeartbeats 4000000 in
theorem roundR (w : World) (pss : List (List UInt8)) (v0 v1 v2 : Value) (hv : Parts w v2 pss) (hn : pss.length ≤ 9223372036854775807) (hp : ∀ p ∈ pss, p.length ≤ 9223372036854775807)
    (Q : Exit → Act → World → Prop) (k : Nat) (a : Act) (wr : World) (hkn' : k < pss.length) (hk8' : k < 6) (h : IP w pss v0 v1 v2 k a wr) :
    Code.wp Try.prog (loopAt (Try.f5.body) 0) (Exit.then (fun a' w' => IP w pss v0 v1 v2 (k + 1) a' w') Q) a wr := by
  obtain ⟨hf, s8, o', xs, s7, hvals, hop, hbel⟩ := h
  have HV := Bx.mk hv
  have HP := Bx.mk hp
  obtain ⟨a, cap, rfl, -⟩ := hv
  obtain ⟨n, hnn⟩ : ∃ n, pss.length = n := ⟨_, rfl⟩
  have HN := Bx.mk hnn
  rw [hnn] at HV hn hkn' hf ⊢
  have hn1 : (n : Int) ≤ 9223372036854775807 := by omega
  have HA := Bx.mk (And.intro hvals (And.intro hop hbel))
  obtain ⟨oa, on, oc, rfl⟩ := ownR_shape hop
  clear hvals hop hbel
  have t1 : (k : Int) < (n : Int) := by omega
  have t2 : (k : Int) < 6 := by omega
  obtain ⟨a', cap', hv', hr'⟩ := HV.out
  injection hv' with e1 e2 e3
  obtain ⟨p, o, ha, hcell⟩ := hr' (by omega)
  subst e1
  subst ha
  obtain ⟨x, hx, hxb⟩ := hcell k (by rw [HN.out]; exact hkn')
  have HXB := Bx.mk hxb
  have hcw : wr.cell? ⟨p, o + k, none⟩ = some x := by
    have hlt := World.block_lt_of_cell? _ _ hx
    rw [HA.out.2.2.cell (p := ⟨p, o + k, none⟩) hlt]
    exact hx
  obtain ⟨ax, cx, hxf, hxc, hxn⟩ := bytes_form hxb
  have HQl : Bx ((pss.getD k []).length ≤ 9223372036854775807) := Bx.mk (by
    have hm : pss.getD k [] ∈ pss := by
      have h : k < pss.length := by rw [HN.out]; exact hkn'
      rw [List.getD_eq_getElem?_getD, List.getElem?_eq_getElem h]
      exact List.getElem_mem h
    exact HP.out _ hm)
  have HSc : Bx ((pss.take (k + 1)).map (·.take 200) = (pss.take k).map (·.take 200) ++ [(pss.getD k []).take 200]) := Bx.mk (cut6R_succ pss k (by rw [HN.out]; exact hkn'))
  generalize pss.getD k [] = pk at *
  subst hxf
  obtain ⟨pl, hpl⟩ : ∃ pl, pk.length = pl := ⟨_, rfl⟩
  rw [hpl] at hcw hxc HQl
  have HXB2 : Bx (Bytes w (.slice ax pl cx) pk) := Bx.mk (by rw [← hpl]; exact HXB.out)
  obtain ⟨mm, hmm⟩ : ∃ mm, mm = min pl 200 := ⟨_, rfl⟩
  have m1 : min (pl : Int) 200 = (mm : Int) := by omega
  have s1 := fun W => cut_bytes ax pl cx mm (by omega) (by omega) hxn W
  have hmc : (mm : Int) ≤ (cx : Int) := by omega
  have HB2 : Bx (Bytes w (.slice ax mm cx) (pk.take 200)) := Bx.mk (by
    have h := HXB2.out.take mm (by omega)
    have e : pk.take mm = pk.take 200 := by rw [hmm, ← hpl, Nat.min_comm, ← List.take_take, List.take_length]
    rw [e] at h
    exact h)
  have hpl1 : (pl : Int) ≤ 9223372036854775807 := by have := HQl.out; omega
  have HXl : Bx (xs.length ≤ 1000) := Bx.mk (by have := HA.out.1.1; rw [List.length_map, List.length_take] at this; omega)
  have hk0 : (0 : Int) ≤ (k : Int) := by omega
  have hpw : p < w.heap.size := World.block_lt_of_cell? _ _ hx
  have HCW : Bx (w.cell? ⟨p, o + k, none⟩ = some (.slice ax pl cx)) := Bx.mk (by rw [← hpl]; exact hx)
  clear hx hxb hcell hr' e2 e3 HXB hxc hxn hpl hmm HQl HXB2
  obtain ⟨x, rfl, hx⟩ := open114 hf.fr
  have e0 := (hx 0).symm.trans hf.s0
  have e1 := (hx 1).symm.trans hf.s1
  have e2 := (hx 2).symm.trans hf.s2
  have e7 := (hx 7).symm.trans s7
  have e8 := (hx 8).symm.trans s8
  clear hf hx s7 s8 hn hnn
  rw [e0, e1, e2, e7, e8]
  clear e0 e1 e2 e7 e8
  conv => arg 2; whnf
  go_upto_region 5 with fail
  have B0 : Bx (OwnP wr.drew w.heap.size (.slice oa on oc) xs ∧ Below w.heap.size w wr.drew) := Bx.mk ⟨HA.out.2.1, HA.out.2.2.drew⟩
  refine wp_region_noPanic ?_
  refine wp_region_held_drew (S := fun W => W.cell? ⟨p, o + k, none⟩ = some (.slice ax pl cx)) (by kernel_rfl) (hcw) (fun hHeld => ?_)
  generalize wr.drew = W0 at *
  clear hcw
  refine takeL 0 (v := ?_) rfl (by kernel_rfl) (by kernel_rfl) (by kernel_rfl) (fun _ _ _ h => h) (Or.inl ⟨by rfl, ?_⟩) hHeld ?_
  rotate_left 1
  · (intro w hSw; go_simp; try with_reducible rfl)
  try simp only [Act.put, List.setIfInBounds_toArray, List.set_cons_zero, List.set_cons_succ]
  refine takeL 1 (v := ?_) rfl (by kernel_rfl) (by kernel_rfl) (by kernel_rfl) (fun _ _ _ h => h) (Or.inl ⟨by rfl, ?_⟩) hHeld ?_
  rotate_left 1
  · (intro w hSw; go_simp; try with_reducible rfl)
  try simp only [Act.put, List.setIfInBounds_toArray, List.set_cons_zero, List.set_cons_succ]
  refine takeL 2 (v := ?_) rfl (by kernel_rfl) (by kernel_rfl) (by kernel_rfl) (fun _ _ _ h => h) (Or.inl ⟨by rfl, ?_⟩) hHeld ?_
  rotate_left 1
  · (intro w hSw; go_simp; try with_reducible rfl)
  try simp only [Act.put, List.setIfInBounds_toArray, List.set_cons_zero, List.set_cons_succ]
  refine takeL 3 (v := ?_) rfl (by kernel_rfl) (by kernel_rfl) (by kernel_rfl) (fun _ _ _ h => h) (Or.inl ⟨by rfl, ?_⟩) hHeld ?_
  rotate_left 1
  · (intro w hSw; go_simp; try with_reducible rfl)
  try simp only [Act.put, List.setIfInBounds_toArray, List.set_cons_zero, List.set_cons_succ]
  refine takeL 4 (v := ?_) rfl (by kernel_rfl) (by kernel_rfl) (by kernel_rfl) (fun _ _ _ h => h) (Or.inl ⟨by rfl, ?_⟩) hHeld ?_
  rotate_left 1
  · (intro w hSw; go_simp; try with_reducible rfl)
  try simp only [Act.put, List.setIfInBounds_toArray, List.set_cons_zero, List.set_cons_succ]
  refine takeL 5 (v := ?_) rfl (by kernel_rfl) (by kernel_rfl) (by kernel_rfl) (fun _ _ _ h => h) (Or.inl ⟨by rfl, ?_⟩) hHeld ?_
  rotate_left 1
  · (intro w hSw; go_simp; try with_reducible rfl)
  try simp only [Act.put, List.setIfInBounds_toArray, List.set_cons_zero, List.set_cons_succ]
  refine takeL 6 (v := ?_) rfl (by kernel_rfl) (by kernel_rfl) (by kernel_rfl) (fun _ _ _ h => h) (Or.inl ⟨by rfl, ?_⟩) hHeld ?_
  rotate_left 1
  · (intro w hSw; go_simp; try with_reducible rfl)
  try simp only [Act.put, List.setIfInBounds_toArray, List.set_cons_zero, List.set_cons_succ]
  refine takeL 7 (v := ?_) rfl (by kernel_rfl) (by kernel_rfl) (by kernel_rfl) (fun _ _ _ h => h) (Or.inl ⟨by rfl, ?_⟩) hHeld ?_
  rotate_left 1
  · (intro w hSw; go_simp; try with_reducible rfl)
  try simp only [Act.put, List.setIfInBounds_toArray, List.set_cons_zero, List.set_cons_succ]
  refine takeL 8 (v := ?_) rfl (by kernel_rfl) (by kernel_rfl) (by kernel_rfl) (fun _ _ _ h => h) (Or.inl ⟨by rfl, ?_⟩) hHeld ?_
  rotate_left 1
  · (intro w hSw; go_simp; try with_reducible rfl)
  try simp only [Act.put, List.setIfInBounds_toArray, List.set_cons_zero, List.set_cons_succ]
  refine takeL 9 (v := ?_) rfl (by kernel_rfl) (by kernel_rfl) (by kernel_rfl) (fun _ _ _ h => h) (Or.inl ⟨by rfl, ?_⟩) hHeld ?_
  rotate_left 1
  · (intro w hSw; go_simp; try with_reducible rfl)
  try simp only [Act.put, List.setIfInBounds_toArray, List.set_cons_zero, List.set_cons_succ]
  refine takeL 10 (v := ?_) rfl (by kernel_rfl) (by kernel_rfl) (by kernel_rfl) (fun _ _ _ h => h) (Or.inl ⟨by rfl, ?_⟩) hHeld ?_
  rotate_left 1
  · (intro w hSw; go_simp; try with_reducible rfl)
  try simp only [Act.put, List.setIfInBounds_toArray, List.set_cons_zero, List.set_cons_succ]
  refine takeL 11 (v := ?_) rfl (by kernel_rfl) (by kernel_rfl) (by kernel_rfl) (fun _ _ _ h => h) (Or.inl ⟨by rfl, ?_⟩) hHeld ?_
  rotate_left 1
  · (intro w hSw; go_simp; try with_reducible rfl)
  try simp only [Act.put, List.setIfInBounds_toArray, List.set_cons_zero, List.set_cons_succ]
  refine stepL 12 (by kernel_rfl) rfl (fun K hK => ?_)
  go_simp
  show K _ _
  have B1 : Bx (OwnP (W0.alloc (.cells #[.slice ax mm cx] 50)) w.heap.size (.slice oa on oc) xs ∧ Below w.heap.size w (W0.alloc (.cells #[.slice ax mm cx] 50)) ∧ RowP (W0.alloc (.cells #[.slice ax mm cx] 50)) (.slice (some ⟨W0.heap.size, 0, none⟩) 1 1) [.slice ax mm cx]) := Bx.mk ⟨B0.out.1.a _, B0.out.2.alloc B0.out.2.size _, rowR_one _ _⟩
  clear B0
  refine hK.out _ _ (by rw [B1.out.2.1.cell (p := ⟨p, o + k, none⟩) hpw]; exact HCW.out) (fun hHeld => ?_)
  clear hK K
  try simp only [Act.put, List.setIfInBounds_toArray, List.set_cons_zero, List.set_cons_succ]
  generalize W0.alloc (.cells #[.slice ax mm cx] 50) = W1 at *
  refine stepL 13 (by kernel_rfl) rfl (fun K hK => ?_)
  refine step_apP (by rfl) _ _ rfl w.heap.size (.slice oa on oc) xs (by rfl) B1.out.1 _ [.slice ax mm cx] (by rfl) B1.out.2.2 (by intro u hu; simp at hu; subst hu; rfl) (by have := HXl.out; simp only [List.length_cons, List.length_nil]; omega) B1.out.2.1.size ?_
  intro v1 W2 ho1 hg1
  have B2 : Bx (OwnP W2 w.heap.size v1 (xs ++ [.slice ax mm cx]) ∧ Below w.heap.size w W2) := Bx.mk ⟨ho1, B1.out.2.1.trans (ownP_below B1.out.1 hg1 B1.out.2.1.size)⟩
  obtain ⟨a1, n1, c1, rfl⟩ := ownR_shape ho1
  clear ho1 hg1 B1
  refine hK.out _ _ (by rw [B2.out.2.cell (p := ⟨p, o + k, none⟩) hpw]; exact HCW.out) (fun hHeld => ?_)
  clear hK K
  try simp only [Act.put, List.setIfInBounds_toArray, List.set_cons_zero, List.set_cons_succ]
  refine takeL 14 (v := ?_) rfl (by kernel_rfl) (by kernel_rfl) (by kernel_rfl) (fun _ _ _ h => h) (Or.inl ⟨by rfl, ?_⟩) hHeld ?_
  rotate_left 1
  · (intro w hSw; go_simp; try with_reducible rfl)
  try simp only [Act.put, List.setIfInBounds_toArray, List.set_cons_zero, List.set_cons_succ]
  refine wpAnyH_done (by kernel_rfl) ?_ _
  refine NoPanic.normal ?_
  clear hHeld
  go_wp2
  exact ⟨⟨⟨rfl, rfl⟩, rfl, rfl, rfl⟩, by first | rfl | go_num, .slice a1 n1 c1, xs ++ [.slice ax mm cx], rfl, by rw [HSc.out]; exact HA.out.1.snoc HB2.out, B2.out⟩
set_option maxRecDepth 100000 in
set_option maxHeartbeats 4000000 in
theorem lastR (w : World) (pss : List (List UInt8)) (v0 v1 v2 : Value) (hv : Parts w v2 pss) (hn : pss.length ≤ 9223372036854775807) (k : Nat) (hk : k ≤ pss.length) (hk6 : k ≤ 6) (hend : pss.length ≤ k ∨ k = 6)
    (Q : Exit → Act → World → Prop) (N : Act → World → Prop) (hq : ∀ a' w' o xs, FP v0 v1 v2 a' → a'.eval (.tmp 7) = o → Vals w xs (cut6R pss) → OwnP w' w.heap.size o xs → Below w.heap.size w w' → Q (.exit 0) a' w') (a : Act) (wr : World) (h : IP w pss v0 v1 v2 k a wr) :
    Code.wp Try.prog (loopAt (Try.f5.body) 0) (Exit.then N Q) a wr := by
  obtain ⟨hf, s8, o', xs, s7, hvals, hop, hbel⟩ := h
  have HE : (pss.take k).map (·.take 200) = cut6R pss := by
    unfold cut6R
    rcases hend with h1 | h1
    · rw [List.take_of_length_le h1, List.take_of_length_le (by omega)]
    · rw [h1]
  rw [HE] at hvals
  have HA := Bx.mk (And.intro hvals (And.intro hop hbel))
  have HQ := Bx.mk hq
  obtain ⟨a, cap, rfl, -⟩ := hv
  obtain ⟨n, hnn⟩ : ∃ n, pss.length = n := ⟨_, rfl⟩
  rw [hnn] at hn hk hend hf HQ
  have hn1 : (n : Int) ≤ 9223372036854775807 := by omega
  have hk0 : (0 : Int) ≤ (k : Int) := by omega
  obtain ⟨x, rfl, hx⟩ := open114 hf.fr
  have e0 := (hx 0).symm.trans hf.s0
  have e1 := (hx 1).symm.trans hf.s1
  have e2 := (hx 2).symm.trans hf.s2
  have e7 := (hx 7).symm.trans s7
  have e8 := (hx 8).symm.trans s8
  clear hf hx s7 s8 hnn hq HE hvals hop hbel
  rw [e0, e1, e2, e7, e8]
  clear e0 e1 e2 e7 e8
  by_cases hlt : k < n
  · have h1 : (k : Int) < (n : Int) := by omega
    have h2 : ¬ (k : Int) < 6 := by omega
    clear hend hlt hk hk6
    conv => arg 2; whnf
    go_wp2
    exact HQ.out _ _ o' xs ⟨⟨rfl, rfl⟩, rfl, rfl, rfl⟩ rfl HA.out.1 HA.out.2.1 HA.out.2.2
  · have h1 : ¬ (k : Int) < (n : Int) := by omega
    clear hend hlt hk hk6
    conv => arg 2; whnf
    go_wp2
    exact HQ.out _ _ o' xs ⟨⟨rfl, rfl⟩, rfl, rfl, rfl⟩ rfl HA.out.1 HA.out.2.1 HA.out.2.2
theorem loopR (w : World) (pss : List (List UInt8)) (v0 v1 v2 : Value) (hv : Parts w v2 pss) (hn : pss.length ≤ 9223372036854775807) (hp : ∀ p ∈ pss, p.length ≤ 9223372036854775807)
    (Q : Exit → Act → World → Prop) (a : Act) (wr : World) (h : IP w pss v0 v1 v2 0 a wr) (hq : ∀ a' w' o xs, FP v0 v1 v2 a' → a'.eval (.tmp 7) = o → Vals w xs (cut6R pss) → OwnP w' w.heap.size o xs → Below w.heap.size w w' → Q (.exit 0) a' w') :
    Code.wp Try.prog (.loop (loopAt (Try.f5.body) 0)) Q a wr :=
  wp_count (min pss.length 6) (fun k a w' => IP w pss v0 v1 v2 k a w') 0 (Nat.zero_le _) h (fun k a w' hk hI => roundR w pss v0 v1 v2 hv hn hp Q k a w' (by omega) (by omega) hI) (fun a w' hI => lastR w pss v0 v1 v2 hv hn _ (by omega) (by omega) (by omega) Q _ hq a w' hI)
end Go.Proofs.Ytplkoijgokkmfaa
namespace Go.Proofs.Ytplkoijgokkmfaa
open Go Go.RowKit
theorem allQ_eq {i o : Int} (h1 : 0 ≤ i) (h2 : i ≤ 2147483647) (h3 : 0 ≤ o) (h4 : o ≤ 2147483647) : allQ i o = decide (o ≤ 3 * i) := by
  unfold allQ
  rw [show lenQ i = true from decide_eq_true ⟨h1, h2⟩, show lenQ o = true from decide_eq_true ⟨h3, h4⟩]
  rfl
theorem allQ_no {i o : Int} (h : ¬ (0 ≤ i ∧ i ≤ 2147483647 ∧ 0 ≤ o ∧ o ≤ 2147483647)) : allQ i o = false := by
  unfold allQ lenQ
  by_cases h1 : 0 ≤ i ∧ i ≤ 2147483647
  · rw [decide_eq_false (fun h2 : 0 ≤ o ∧ o ≤ 2147483647 => h ⟨h1.1, h1.2, h2.1, h2.2⟩)]; simp
  · rw [decide_eq_false h1]; rfl
theorem sameR (p : List UInt8) (va vb : Value) (w : World) (ha : Bytes w va p) (hb : Bytes w vb p) (hl : p.length ≤ 140737488355328) : Calls Try.prog 24 #[va, vb] w fun e w' => e = .returned (.bool true) ∧ Below w.heap.size w w' :=
  (same_any p p va vb w ha hb hl hl).mono fun _ _ ⟨he, n, hw⟩ => ⟨by rw [he, decide_eq_true rfl], by rw [hw]; exact below_drewN (Below.refl _ _) _⟩
set_option maxRecDepth 100000 in
set_option maxHeartbeats 4000000 in
theorem reg6R (i o : Int) (v2 v7 : Value) (Q : Exit → Act → World → Prop) (a : Act) (w : World) (hf : FP (.int .i64 i) (.int .i64 o) v2 a) (s7 : a.eval (.tmp 7) = v7)
    (hQ : ∀ a', FP (.int .i64 i) (.int .i64 o) v2 a' → a'.eval (.tmp 7) = v7 → a'.eval (.tmp 9) = .bool (allQ i o) → Q .normal a' w) :
    Code.wp Try.prog (regionAt (Try.f5.body) 6) Q a w := by
  have HQ := Bx.mk hQ
  clear hQ
  obtain ⟨x, rfl, hx⟩ := open114 hf.fr
  have e0 := (hx 0).symm.trans hf.s0
  have e1 := (hx 1).symm.trans hf.s1
  have e2 := (hx 2).symm.trans hf.s2
  have e7 := (hx 7).symm.trans s7
  clear hf hx s7
  rw [e0, e1, e2, e7]
  clear e0 e1 e2 e7
  conv => arg 2; whnf
  by_cases h1 : 0 ≤ i
  · by_cases h2 : i ≤ 2147483647
    · by_cases h3 : 0 ≤ o
      · by_cases h4 : o ≤ 2147483647
        · have he := allQ_eq h1 h2 h3 h4
          have hw : IntKind.i64.wrap (o + 2) = o + 2 := by simp [IntKind.wrap_i64]; omega
          have hd : wrap64 ((o + 2).tdiv 3) = (o + 2) / 3 := by
            rw [Int.tdiv_eq_ediv_of_nonneg (by omega)]
            unfold wrap64
            omega
          have hz : decide ((o + 2) / 3 ≤ i) = allQ i o := by rw [he]; exact decide_eq_decide.2 (by omega)
          go_wp2
          exact HQ.out _ ⟨⟨rfl, rfl⟩, rfl, rfl, rfl⟩ rfl (by first | rfl | (rw [he]; rfl) | (rw [← hz]; rfl))
        · rw [allQ_no (fun h => h4 h.2.2.2)] at HQ
          go_wp2
          exact HQ.out _ ⟨⟨rfl, rfl⟩, rfl, rfl, rfl⟩ rfl rfl
      · rw [allQ_no (fun h => h3 h.2.2.1)] at HQ
        go_wp2
        exact HQ.out _ ⟨⟨rfl, rfl⟩, rfl, rfl, rfl⟩ rfl rfl
    · rw [allQ_no (fun h => h2 h.2.1)] at HQ
      go_wp2
      exact HQ.out _ ⟨⟨rfl, rfl⟩, rfl, rfl, rfl⟩ rfl rfl
  · rw [allQ_no (fun h => h1 h.1)] at HQ
    go_wp2
    exact HQ.out _ ⟨⟨rfl, rfl⟩, rfl, rfl, rfl⟩ rfl rfl
/-- What Fit has told. -/
def ToldR (i : Int) (ps : List (List UInt8)) (W : World) (vb : Value) (ve : Int) : Prop := (∃ p, fitQ i ps = some p ∧ ve = 0 ∧ Bytes W vb p) ∨ (fitQ i ps = none ∧ vb = .slice none 0 0 ∧ ve = 15)
/-- Between two rounds of the second loop. -/
structure IR (wf : World) (ps : List (List UInt8)) (i : Int) (v1 v2 v7 vb : Value) (ve : Int) (k : Nat) (a : Act) (W : World) : Prop where
  fp : FP (.int .i64 i) v1 v2 a
  s7 : a.eval (.tmp 7) = v7
  s10 : a.eval (.tmp 10) = vb
  s11 : a.eval (.tmp 11) = .int .i64 ve
  s12 : a.eval (.tmp 12) = .int .i64 (k : Int)
  w : W = wf
  no : ∀ j, j < k → allQ i ((ps.getD j []).length : Int) = false
set_option maxRecDepth 100000 in
set_option maxHeartbeats 4000000 in
theorem round2R (w wf : World) (ps : List (List UInt8)) (i : Int) (v1 v2 v7 vb : Value) (ve : Int) (ys : List Value) (hrow : RowP wf v7 ys) (hvals : Vals wf ys ps) (hn : ps.length ≤ 6) (hl : ∀ p ∈ ps, p.length ≤ 200) (ht : ToldR i ps wf vb ve) (hbel : Below w.heap.size w wf)
    (Q : Exit → Act → World → Prop) (hret : ∀ a' w', Fr 114 a' → a'.eval (.tmp 6) = .bool true → Below w.heap.size w w' → Q .ret a' w') (k : Nat) (a : Act) (wr : World) (hk : k < ps.length) (h : IR wf ps i v1 v2 v7 vb ve k a wr) :
    Code.wp Try.prog (loopAt (Try.f5.body) 1) (Exit.then (fun a' w' => IR wf ps i v1 v2 v7 vb ve (k + 1) a' w') Q) a wr := by
  obtain ⟨hf, s7, s10, s11, s12, rfl, hno⟩ := h
  have HR := Bx.mk hrow
  have HV := Bx.mk hvals
  have HNo := Bx.mk hno
  have HRet := Bx.mk hret
  have HBl := Bx.mk hbel
  obtain ⟨a7, c7, rfl⟩ := rowP_form hrow
  obtain ⟨n, hnn⟩ : ∃ n, ys.length = n := ⟨_, rfl⟩
  have HN : Bx (ps.length = n ∧ ys.length = n) := Bx.mk ⟨by rw [← hvals.1, hnn], hnn⟩
  have hkn : k < n := by rw [← HN.out.1]; exact hk
  have hn6 : n ≤ 6 := by rw [← HN.out.1]; exact hn
  rw [hnn] at HR s7 ⊢
  have HPL : Bx ((ps.getD k []).length ≤ 200) := Bx.mk (by
    rw [List.getD_eq_getElem?_getD, List.getElem?_eq_getElem hk]
    exact hl _ (List.getElem_mem hk))
  rcases HR.out with ⟨h1, h2⟩ | ⟨g, o, cp, h1, h2⟩
  · have := HN.out.2
    rw [h2] at this
    simp only [List.length_nil] at this
    omega
  injection h1 with q1 q2 q3
  subst q1
  have hc := h2 k (by rw [HN.out.2]; exact hkn)
  have hyb := HV.out.2 k (by rw [HN.out.2]; exact hkn)
  obtain ⟨ya, yn, hy, -, -⟩ := bytes_form hyb
  rw [hy] at hc hyb
  have HYB := Bx.mk hyb
  obtain ⟨pl, hpl⟩ : ∃ pl, (ps.getD k []).length = pl := ⟨_, rfl⟩
  have HPE := Bx.mk hpl
  have hpl2 : pl ≤ 200 := by rw [← hpl]; exact HPL.out
  rw [hpl] at hc hyb HYB
  clear h2 q2 q3 hy hpl hrow hvals hno hret hbel hl HPL hn hnn
  have HSm := Bx.mk fun (W : World) (va : Value) (p : List UInt8) (h1 : Bytes W va p) (h2 : Bytes W (.slice ya pl yn) p) (hp : p.length ≤ 200) => sameR p va (.slice ya pl yn) W h1 h2 (by omega)
  have HT := Bx.mk ht
  have HK := Bx.mk (known11_any wr)
  clear hyb ht
  have hE : Bx (fitQ i ps = some (ps.getD k []) → ve = 0 ∧ Bytes wr vb (ps.getD k [])) := Bx.mk (fun hs => by
    rcases HT.out with ⟨p, h1, h2, h3⟩ | ⟨h1, -⟩
    · rw [hs] at h1
      injection h1 with h1
      exact ⟨h2, h1 ▸ h3⟩
    · rw [hs] at h1
      cases h1)
  have HFs : Bx (allQ i ((ps.getD k []).length : Int) = true → fitQ i ps = some (ps.getD k [])) := Bx.mk fun h => fitQ_some k hk HNo.out h
  have HNx : Bx (allQ i ((ps.getD k []).length : Int) = false → ∀ j, j < k + 1 → allQ i ((ps.getD j []).length : Int) = false) := Bx.mk fun h j hj => by
    rcases Nat.lt_or_ge j k with h1 | h1
    · exact HNo.out j h1
    · obtain rfl : j = k := by omega
      exact h
  rw [HPE.out] at HFs HNx
  generalize ps.getD k [] = pk at *
  have t1 : (k : Int) < (n : Int) := by omega
  have t0 : (0 : Int) ≤ (k : Int) := by omega
  have t2 : (n : Int) ≤ 6 := by omega
  have p0 : (0 : Int) ≤ (pl : Int) := by omega
  have p1 : (pl : Int) ≤ 200 := by omega
  clear hk hkn hn6 hpl2
  obtain ⟨x, rfl, hx⟩ := open114 hf.fr
  have e0 := (hx 0).symm.trans hf.s0
  have e1 := (hx 1).symm.trans hf.s1
  have e2 := (hx 2).symm.trans hf.s2
  have e7 := (hx 7).symm.trans s7
  have e10 := (hx 10).symm.trans s10
  have e11 := (hx 11).symm.trans s11
  have e12 := (hx 12).symm.trans s12
  clear hf hx s7 s10 s11 s12 HT
  rw [e0, e1, e2, e7, e10, e11, e12]
  clear e0 e1 e2 e7 e10 e11 e12
  conv => arg 2; whnf
  have hex : ∀ b, allQ i (pl : Int) = b → b = allQ i (pl : Int) := fun _ h => h.symm
  by_cases h1 : 0 ≤ i
  · by_cases h2 : i ≤ 2147483647
    · have he := allQ_eq h1 h2 p0 (by omega : (pl : Int) ≤ 2147483647)
      have hm : IntKind.i64.wrap (3 * i) = 3 * i := by simp [IntKind.wrap_i64]; omega
      by_cases h3 : (pl : Int) ≤ 3 * i
      · rw [decide_eq_true h3] at he
        obtain ⟨rfl, hvb⟩ := hE.out (HFs.out he)
        have HVB := Bx.mk hvb
        clear hvb he hex hE HFs HNx
        go_wp2_with fail
        refine HK.out.mono ?_
        rintro e w1 ⟨rfl, hb⟩
        have HB1 := Bx.mk hb
        have hc1 : w1.cell? ⟨g, o + k, none⟩ = some (.slice ya pl yn) := by rw [hb.cell (p := ⟨g, o + k, none⟩) (World.block_lt_of_cell? _ _ hc)]; exact hc
        clear hb hc
        go_wp2_with fail
        refine (HSm.out w1 vb pk (HVB.out.later HB1.out) (HYB.out.later HB1.out) (by rw [HPE.out]; omega)).mono ?_
        rintro e w2 ⟨rfl, hw2⟩
        have HB2 : Bx (Below w.heap.size w w2) := Bx.mk ((HBl.out.trans (HB1.out.mono HBl.out.size)).trans (hw2.mono (HBl.out.trans (HB1.out.mono HBl.out.size)).size))
        clear hw2
        go_wp2
        exact HRet.out _ _ ⟨rfl, rfl⟩ rfl HB2.out
      · rw [decide_eq_false h3] at he
        have HN2 := Bx.mk (HNx.out he)
        clear he hex hE HFs HNx
        go_wp2
        exact ⟨⟨⟨rfl, rfl⟩, rfl, rfl, rfl⟩, rfl, rfl, rfl, by first | rfl | go_num, rfl, HN2.out⟩
    · have HN2 := Bx.mk (HNx.out (allQ_no (fun h => h2 h.2.1)))
      clear hex hE HFs HNx
      go_wp2
      exact ⟨⟨⟨rfl, rfl⟩, rfl, rfl, rfl⟩, rfl, rfl, rfl, by first | rfl | go_num, rfl, HN2.out⟩
  · have HN2 := Bx.mk (HNx.out (allQ_no (fun h => h1 h.1)))
    clear hex hE HFs HNx
    go_wp2
    exact ⟨⟨⟨rfl, rfl⟩, rfl, rfl, rfl⟩, rfl, rfl, rfl, by first | rfl | go_num, rfl, HN2.out⟩
set_option maxRecDepth 100000 in
set_option maxHeartbeats 4000000 in
theorem last2R (wf : World) (ps : List (List UInt8)) (i : Int) (v1 v2 v7 vb : Value) (ve : Int) (ys : List Value) (hrow : RowP wf v7 ys) (hvals : Vals wf ys ps) (hn : ps.length ≤ 6)
    (Q : Exit → Act → World → Prop) (N : Act → World → Prop) (hq : ∀ a', Fr 114 a' → a'.eval (.tmp 10) = vb → a'.eval (.tmp 11) = .int .i64 ve → fitQ i ps = none → Q (.exit 2) a' wf) (a : Act) (wr : World) (h : IR wf ps i v1 v2 v7 vb ve ps.length a wr) :
    Code.wp Try.prog (loopAt (Try.f5.body) 1) (Exit.then N Q) a wr := by
  obtain ⟨hf, s7, s10, s11, s12, rfl, hno⟩ := h
  have HQ := Bx.mk hq
  have HNo := Bx.mk (fitQ_none hno)
  obtain ⟨a7, c7, rfl⟩ := rowP_form hrow
  obtain ⟨n, hnn⟩ : ∃ n, ys.length = n := ⟨_, rfl⟩
  have hpn : ps.length = n := by rw [← hvals.1, hnn]
  rw [hpn] at s12 hn
  rw [hnn] at s7
  obtain ⟨x, rfl, hx⟩ := open114 hf.fr
  have e0 := (hx 0).symm.trans hf.s0
  have e1 := (hx 1).symm.trans hf.s1
  have e2 := (hx 2).symm.trans hf.s2
  have e7 := (hx 7).symm.trans s7
  have e10 := (hx 10).symm.trans s10
  have e11 := (hx 11).symm.trans s11
  have e12 := (hx 12).symm.trans s12
  clear hf hx s7 s10 s11 s12 hrow hvals hno hq hnn hpn
  rw [e0, e1, e2, e7, e10, e11, e12]
  clear e0 e1 e2 e7 e10 e11 e12
  conv => arg 2; whnf
  go_wp2
  exact HQ.out _ ⟨rfl, rfl⟩ rfl rfl HNo.out
theorem loop2R (w wf : World) (ps : List (List UInt8)) (i : Int) (v1 v2 v7 vb : Value) (ve : Int) (ys : List Value) (hrow : RowP wf v7 ys) (hvals : Vals wf ys ps) (hn : ps.length ≤ 6) (hl : ∀ p ∈ ps, p.length ≤ 200) (ht : ToldR i ps wf vb ve) (hbel : Below w.heap.size w wf)
    (Q : Exit → Act → World → Prop) (hret : ∀ a' w', Fr 114 a' → a'.eval (.tmp 6) = .bool true → Below w.heap.size w w' → Q .ret a' w') (a : Act) (h : IR wf ps i v1 v2 v7 vb ve 0 a wf)
    (hq : ∀ a', Fr 114 a' → a'.eval (.tmp 10) = vb → a'.eval (.tmp 11) = .int .i64 ve → fitQ i ps = none → Q (.exit 2) a' wf) :
    Code.wp Try.prog (.loop (loopAt (Try.f5.body) 1)) Q a wf :=
  wp_count ps.length (fun k a w' => IR wf ps i v1 v2 v7 vb ve k a w') 0 (Nat.zero_le _) h (fun k a w' hk hI => round2R w wf ps i v1 v2 v7 vb ve ys hrow hvals hn hl ht hbel Q hret k a w' hk hI) (fun a w' hI => last2R wf ps i v1 v2 v7 vb ve ys hrow hvals hn Q _ hq a w' hI)
end Go.Proofs.Ytplkoijgokkmfaa
namespace Go.Proofs.Ytplkoijgokkmfaa
open Go Go.RowKit
set_option maxRecDepth 100000 in
set_option maxHeartbeats 4000000 in
theorem replies_all (i o : Int) (pss : List (List UInt8)) (v : Value) (w : World) (hv : Parts w v pss) (hn : pss.length ≤ 9223372036854775807) (hp : ∀ p ∈ pss, p.length ≤ 9223372036854775807) :
    Calls Try.prog 5 #[.int .i64 i, .int .i64 o, v] w fun e w' => e = .returned (.bool true) ∧ Below w.heap.size w w' := by
  have HL1 := Bx.mk fun (Q : Exit → Act → World → Prop) (a : Act) (wr : World) => loopR w pss (.int .i64 i) (.int .i64 o) v hv hn hp Q a wr
  have HAl := Bx.mk fun (W : World) => allows_any i o W
  have HFi := Bx.mk fun (W : World) (x : Value) (h : PartsR W x (cut6R pss)) => fit_any i (cut6R pss) x W h (by have := cut6R_len pss; omega) (fun p hp => by have := cut6R_each pss p hp; omega)
  have HL2 := Bx.mk fun (wf : World) (v7 vb : Value) (ve : Int) (ys : List Value) (h1 : RowP wf v7 ys) (h2 : Vals wf ys (cut6R pss)) (h3 : ToldR i (cut6R pss) wf vb ve) (h4 : Below w.heap.size w wf) (Q : Exit → Act → World → Prop) => loop2R w wf (cut6R pss) i (.int .i64 o) v v7 vb ve ys h1 h2 (cut6R_len pss) (cut6R_each pss) h3 h4 Q
  have HV0 := Bx.mk (Parts.nil w)
  obtain ⟨pa, pc, rfl, -⟩ := hv
  clear hn hp
  generalize pss.length = pn at *
  go_enter Try.func5, Try.ntmps5
  go_wp2
  refine HL1.out _ _ _ ⟨⟨⟨rfl, rfl⟩, rfl, rfl, rfl⟩, rfl, _, [], rfl, ⟨rfl, fun j hj => by simp at hj⟩, ⟨rfl, .inl ⟨rfl, rfl⟩⟩, Below.refl _ _⟩ ?_
  intro a1 w1 v7 xs hf s7 hvals hop hbel
  have H1 := Bx.mk (And.intro (own_rowP hop) (And.intro (hvals.later hbel) hbel))
  clear hvals hop hbel HL1
  obtain ⟨x, rfl, hx⟩ := open114 hf.fr
  have e0 := (hx 0).symm.trans hf.s0
  have e1 := (hx 1).symm.trans hf.s1
  have e2 := (hx 2).symm.trans hf.s2
  have e7 := (hx 7).symm.trans s7
  clear hf hx s7
  rw [e0, e1, e2, e7]
  clear e0 e1 e2 e7
  go_upto_region 6 with fail
  refine reg6R i o _ v7 _ _ _ ⟨⟨rfl, rfl⟩, rfl, rfl, rfl⟩ rfl ?_
  intro a2 hf s7 s9
  obtain ⟨x, rfl, hx⟩ := open114 hf.fr
  have e0 := (hx 0).symm.trans hf.s0
  have e1 := (hx 1).symm.trans hf.s1
  have e2 := (hx 2).symm.trans hf.s2
  have e7 := (hx 7).symm.trans s7
  have e9 := (hx 9).symm.trans s9
  clear hf hx s7 s9
  rw [e0, e1, e2, e7, e9]
  clear e0 e1 e2 e7 e9
  go_wp2_with fail
  refine (HAl.out _).mono ?_
  rintro e w2 ⟨rfl, rfl⟩
  go_wp2_with fail
  skip -- M1
  refine (HFi.out _ _ ⟨xs, H1.out.1, H1.out.2.1⟩).mono ?_
  rintro e w2 ⟨hres, hb⟩
  have H2 : Bx (RowP w2 v7 xs ∧ Vals w2 xs (cut6R pss) ∧ Below w.heap.size w w2) := Bx.mk ⟨H1.out.1.later hb, H1.out.2.1.later hb, H1.out.2.2.trans (hb.mono H1.out.2.2.size)⟩
  obtain ⟨vb, ve, rfl, htold⟩ : ∃ vb ve, e = .returned (.tuple #[vb, .int .i64 ve]) ∧ ToldR i (cut6R pss) w2 vb ve := by
    rcases hres with ⟨vb, p, h1, h2, h3⟩ | ⟨h1, h2⟩
    · exact ⟨vb, 0, h2, .inl ⟨p, h1, rfl, h3⟩⟩
    · exact ⟨_, 15, h2, .inr ⟨h1, rfl, rfl⟩⟩
  have H3 := Bx.mk htold
  clear hres hb htold H1 HFi HAl
  go_wp2
  skip -- M2
  refine HL2.out w2 v7 vb ve xs H2.out.1 H2.out.2.1 H3.out H2.out.2.2 _ ?_ _ ⟨⟨⟨rfl, rfl⟩, rfl, rfl, rfl⟩, rfl, rfl, rfl, rfl, rfl, fun j hj => absurd hj (Nat.not_lt_zero j)⟩ ?_
  · intro a3 w3 hf s6 hb
    have HB := Bx.mk hb
    clear hb HL2 H2 H3
    obtain ⟨x, rfl, hx⟩ := open114 hf
    have e6 := (hx 6).symm.trans s6
    clear hf hx s6
    rw [e6]
    clear e6
    go_wp2
    go_ret
    exact ⟨rfl, HB.out⟩
  · intro a3 hf s10 s11 hnone
    obtain ⟨rfl, rfl⟩ : vb = .slice none 0 0 ∧ ve = 15 := by
      rcases H3.out with ⟨p, h1, -⟩ | ⟨-, h1, h2⟩
      · rw [hnone] at h1
        cases h1
      · exact ⟨h1, h2⟩
    have HB := Bx.mk H2.out.2.2
    have HK := Bx.mk (known11_any w2)
    clear hnone HL2 H2 H3
    obtain ⟨x, rfl, hx⟩ := open114 hf
    have e10 := (hx 10).symm.trans s10
    have e11 := (hx 11).symm.trans s11
    clear hf hx s10 s11
    rw [e10, e11]
    clear e10 e11
    go_wp2_with fail
    refine HK.out.mono ?_
    rintro e w3 ⟨rfl, hb⟩
    have HB3 := Bx.mk (HB.out.trans (hb.mono HB.out.size))
    clear hb HB HK
    go_wp2
    go_ret
    exact ⟨rfl, HB3.out⟩
end Go.Proofs.Ytplkoijgokkmfaa
namespace Go.Proofs.Ytplkoijgokkmfaa
open Go
/-- A world to begin with. -/
noncomputable def laidWorld (os : Os) : World := World.holding Try.prog os ⟨#[], #[], []⟩
end Go.Proofs.Ytplkoijgokkmfaa
