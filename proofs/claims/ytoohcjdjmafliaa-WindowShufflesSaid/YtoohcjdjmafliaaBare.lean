/-
  A window in a world that goes on; the chapter's example.
-/
import Derived.Test.YtoohcjdjmafliaaW5
import Derived.BigRegion
import Derived.Test.YtoohcjdjmafliaaW3
namespace Go.Proofs.Ytoohcjdjmafliaa
open Go Go.RowKit
/-- A window that was made behind a world. -/
structure WP (w : World) (q : Nat) (s : Ws) (W : World) : Prop where
  below : Below w.heap.size w W
  win : WinB W q s
  ge : w.heap.size ≤ q
  ok : s.ok
theorem WP.later {w : World} {q : Nat} {s : Ws} {W W1 : World} (h : WP w q s W) (hb : Below W.heap.size W W1) : WP w q s W1 := ⟨h.below.trans (hb.mono h.below.size), h.win.later hb, h.ge, h.ok⟩
theorem WP.aside {w : World} {q p : Nat} {s : Ws} {W W1 : World} (h : WP w q s W) (hg : W.grownBy W1 (some p)) (hp : w.heap.size ≤ p) (hne : q ≠ p) : WP w q s W1 := ⟨h.below.trans (grown_belowW hg hp h.below.size), h.win.aside hg hne, h.ge, h.ok⟩
theorem WP.start (w : World) : WP w w.heap.size Ws.zero (w.alloc (.cells #[.int .i64 0, .int .i64 0, .int .u64 0] 27)) := ⟨below_a _, winB_new w, Nat.le_refl _, zero_ok⟩
theorem WP.take {w : World} {q : Nat} {s : Ws} {W : World} (h : WP w q s W) (n : Nn) : Calls Try.prog 12 #[.pointer (some ⟨q, 0, none⟩), nv n] W fun e W' => e = .returned (.int .i64 (lookW s n)) ∧ WP w q (takeW s n) W' ∧ W.grownBy W' (some q) := by
  refine (take_any12 q s n W h.win h.ok).mono ?_
  rintro e W' ⟨h1, h2, h3⟩
  exact ⟨h1, ⟨h.below.trans (grown_belowW h3 h.ge h.below.size), h2, h.ge, takeW_ok h.ok⟩, h3⟩
theorem WP.look {w : World} {q : Nat} {s : Ws} {W : World} (h : WP w q s W) (n : Nn) : Calls Try.prog 10 #[.pointer (some ⟨q, 0, none⟩), nv n] W fun e W' => e = .returned (.int .i64 (lookW s n)) ∧ WP w q s W' ∧ Below W.heap.size W W' := by
  refine (look_any q s n W h.win h.ok).mono ?_
  rintro e W' ⟨h1, h2⟩
  exact ⟨h1, h.later h2, h2⟩
theorem known12_facts : lookW Ws.zero ⟨1, 5⟩ = 0 ∧ lookW (takeW Ws.zero ⟨1, 5⟩) ⟨1, 3⟩ = 0 ∧ lookW (takeW (takeW Ws.zero ⟨1, 5⟩) ⟨1, 3⟩) ⟨1, 5⟩ = 8 ∧ lookW (takeW (takeW (takeW Ws.zero ⟨1, 5⟩) ⟨1, 3⟩) ⟨1, 5⟩) ⟨1, 70⟩ = 0 ∧ lookW (takeW (takeW (takeW (takeW Ws.zero ⟨1, 5⟩) ⟨1, 3⟩) ⟨1, 5⟩) ⟨1, 70⟩) ⟨1, 6⟩ = 9 := by decide +kernel
set_option maxRecDepth 100000 in
set_option maxHeartbeats 4000000 in
theorem known12_any (w : World) : Calls Try.prog 16 #[] w fun e w' => e = .returned (.bool true) ∧ Below w.heap.size w w' := by
  have HK := Bx.mk known12_facts
  have R0 := Bx.mk (WP.start w)
  go_enter Try.func16, Try.ntmps16
  go_wp2_with fail
  have T0 := R0.out.take ⟨1, 5⟩
  rw [HK.out.1] at T0
  refine T0.mono ?_
  rintro e w1 ⟨rfl, hw, -⟩
  have R1 := Bx.mk hw
  clear hw T0 R0
  go_wp2_with fail
  have T1 := R1.out.take ⟨1, 3⟩
  rw [HK.out.2.1] at T1
  refine T1.mono ?_
  rintro e w2 ⟨rfl, hw, -⟩
  have R2 := Bx.mk hw
  clear hw T1 R1
  go_wp2_with fail
  have T2 := R2.out.take ⟨1, 5⟩
  rw [HK.out.2.2.1] at T2
  refine T2.mono ?_
  rintro e w3 ⟨rfl, hw, -⟩
  have R3 := Bx.mk hw
  clear hw T2 R2
  go_wp2_with fail
  have T3 := R3.out.take ⟨1, 70⟩
  rw [HK.out.2.2.2.1] at T3
  refine T3.mono ?_
  rintro e w4 ⟨rfl, hw, -⟩
  have R4 := Bx.mk hw
  clear hw T3 R3
  go_wp2_with fail
  have T4 := R4.out.take ⟨1, 6⟩
  rw [HK.out.2.2.2.2] at T4
  refine T4.mono ?_
  rintro e w5 ⟨rfl, hw, -⟩
  have R5 := Bx.mk hw
  clear hw T4 R4
  go_wp2
  go_ret
  exact ⟨rfl, R5.out.below⟩
end Go.Proofs.Ytoohcjdjmafliaa
namespace Go.Proofs.Ytoohcjdjmafliaa
open Go Go.RowKit
set_option maxRecDepth 100000 in
theorem open109 {a : Act} (h : Fr 109 a) : ∃ x : Nat → Value, a = ⟨List.toArray (x 0 :: x 1 :: x 2 :: x 3 :: x 4 :: x 5 :: x 6 :: x 7 :: x 8 :: x 9 :: x 10 :: x 11 :: x 12 :: x 13 :: x 14 :: x 15 :: x 16 :: x 17 :: x 18 :: x 19 :: x 20 :: x 21 :: x 22 :: x 23 :: x 24 :: x 25 :: x 26 :: x 27 :: x 28 :: x 29 :: x 30 :: x 31 :: x 32 :: x 33 :: x 34 :: x 35 :: x 36 :: x 37 :: x 38 :: x 39 :: x 40 :: x 41 :: x 42 :: x 43 :: x 44 :: x 45 :: x 46 :: x 47 :: x 48 :: x 49 :: x 50 :: x 51 :: x 52 :: x 53 :: x 54 :: x 55 :: x 56 :: x 57 :: x 58 :: x 59 :: x 60 :: x 61 :: x 62 :: x 63 :: x 64 :: x 65 :: x 66 :: x 67 :: x 68 :: x 69 :: x 70 :: x 71 :: x 72 :: x 73 :: x 74 :: x 75 :: x 76 :: x 77 :: x 78 :: x 79 :: x 80 :: x 81 :: x 82 :: x 83 :: x 84 :: x 85 :: x 86 :: x 87 :: x 88 :: x 89 :: x 90 :: x 91 :: x 92 :: x 93 :: x 94 :: x 95 :: x 96 :: x 97 :: x 98 :: x 99 :: x 100 :: x 101 :: x 102 :: x 103 :: x 104 :: x 105 :: x 106 :: x 107 :: x 108 :: []), []⟩ ∧ ∀ i, a.eval (.tmp i) = x i := ⟨fun i => a.tmps.getD i undef, h.form, fun _ => rfl⟩
theorem lowS (a : Int) (m : Nat) (hm : 0 < m) (hm2 : m ≤ 1000000) : ∃ x : Nat, x < m ∧ wrap64 ((IntKind.u64.wrap a).tmod (m : Int)) = (x : Int) := by
  have h0 : 0 ≤ IntKind.u64.wrap a := by rw [IntKind.wrap_u64]; omega
  rw [Int.tmod_eq_emod_of_nonneg h0]
  generalize IntKind.u64.wrap a = z at h0
  have h1 := Int.emod_lt_of_pos z (show (0 : Int) < (m : Int) by omega)
  have h2 := Int.emod_nonneg z (show (m : Int) ≠ 0 by omega)
  refine ⟨(z % (m : Int)).toNat, by omega, ?_⟩
  rw [IntWalk.wrap64_in _ (by omega)]
  omega
theorem cellsN_at (l : List Nn) (j : Nat) (hj : j < l.length * 2) : (cellsN l)[j]? = (nnc (l.getD (j / 2) Nn.zero))[j % 2]? := by
  have h2 : j % 2 < (nnc (l.getD (j / 2) Nn.zero)).length := by show j % 2 < 2; omega
  have h1 : (nnc (l.getD (j / 2) Nn.zero))[j % 2]? = some (nnc (l.getD (j / 2) Nn.zero))[j % 2] := List.getElem?_eq_getElem h2
  rw [h1]
  have := cellsN_get l (j / 2) (by omega) (j % 2) _ h1
  rwa [show j / 2 * 2 + j % 2 = j by omega] at this
theorem OwnN.set {T : TypeId} {w : World} {base g n cap : Nat} {l : List Nn} (h : OwnN T w base (.slice (some ⟨g, 0, none⟩) n cap) l) (i : Nat) (hi : i < l.length) (b c : Int) :
    OwnN T ((w.setCell ⟨g, i * 2, none⟩ (.int .i64 b)).setCell ⟨g, i * 2 + 1, none⟩ (.int .i64 c)) base (.slice (some ⟨g, 0, none⟩) n cap) (l.set i ⟨b, c⟩) ∧ w.grownBy ((w.setCell ⟨g, i * 2, none⟩ (.int .i64 b)).setCell ⟨g, i * 2 + 1, none⟩ (.int .i64 c)) (some g) := by
  refine ⟨⟨by rw [cellsN_len], ?_⟩, kb_setCells [.int .i64 b, .int .i64 c] (i * 2) w⟩
  rcases h.2 with ⟨hv, _⟩ | ⟨g', cap', cur, hv, hb, hh, h1, h2, h3, h4⟩
  · cases hv
  · injection hv with e1 e2 e3
    injection e1 with e1
    injection e1 with e4
    subst e4 e3
    have hs := heap_setCells_same g T [.int .i64 b, .int .i64 c] (i * 2) w cur hh
    refine .inr ⟨g, cap, spl cur (i * 2) [.int .i64 b, .int .i64 c], by rw [List.length_set, e2], hb, hs, by rw [List.length_set]; exact h1, h2, by rw [spl_size]; exact h3, ?_⟩
    rw [List.length_set]
    apply List.ext_getElem?
    intro j
    by_cases hj : j < l.length * 2
    · rw [List.getElem?_take_of_lt hj, Array.getElem?_toList, spl_get, cellsN_at _ _ (by rw [List.length_set]; exact hj)]
      have hold : cur[j]? = (cellsN l)[j]? := by rw [← h4, List.getElem?_take_of_lt hj, Array.getElem?_toList]
      by_cases hji : j / 2 = i
      · rw [if_pos ⟨by omega, by show j < i * 2 + 2; omega, by omega⟩]
        have e5 : (l.set i ⟨b, c⟩).getD (j / 2) Nn.zero = ⟨b, c⟩ := by
          rw [hji, List.getD_eq_getElem?_getD, List.getElem?_set_self hi]; rfl
        rw [e5, show j - i * 2 = j % 2 by omega]
        rfl
      · rw [if_neg (fun h => hji (by have h := h.2.1; have : j < i * 2 + 2 := h; omega)), hold, cellsN_at _ _ hj]
        congr 2
        rw [List.getD_eq_getElem?_getD, List.getD_eq_getElem?_getD, List.getElem?_set_ne (fun e => hji e.symm)]
    · rw [List.getElem?_eq_none (by rw [List.length_take]; omega), List.getElem?_eq_none (by rw [cellsN_len, List.length_set]; omega)]
theorem OwnN.frozen {T : TypeId} {w : World} {base g n cap : Nat} {l : List Nn} (h : OwnN T w base (.slice (some ⟨g, 0, none⟩) n cap) l) (i : Nat) : w.frozen? ⟨g, i, none⟩ = false := by
  rcases h.2 with ⟨hv, _⟩ | ⟨g', cap', cur, hv, hb, hh, h1, h2, h3, h4⟩
  · cases hv
  · injection hv with e1 e2 e3
    injection e1 with e1
    injection e1 with e4
    subst e4
    exact frozen_of_row _ _ _ _ _ hh
theorem OwnN.start {T : TypeId} {w : World} {base : Nat} {v : Value} {l : List Nn} (h : OwnN T w base v l) (hp : 0 < l.length) : ∃ g cap, v = .slice (some ⟨g, 0, none⟩) l.length cap := by
  rcases h.2 with ⟨hv, h0⟩ | ⟨g', cap', cur, hv, hb, hh, h1, h2, h3, h4⟩
  · omega
  · exact ⟨g', cap', hv⟩
theorem cut_nns (a : Option Addr) (n cap m : Nat) (hm : m ≤ n) (hc : n ≤ cap) (ha : a = none → cap = 0) (W : World) : (Instr.slice 36 (.slice a n cap) none (some (.int .i64 (m : Int))) none).run Try.prog W = .ok (.slice a m cap) W := by
  have he : Try.prog.elem 36 = 24 := by kernel_rfl
  have hs : ((sizeOf 24).run Try.prog W) = .ok 2 W := by kernel_rfl
  rw [run_slice_h W 36 a n cap (by rw [he]; exact Try.underlying36) .i64 (m : Int) (by omega) (by omega), he, hs]
  simp only [Result.andThen, sliced, Int.toNat_natCast, Nat.zero_mul, Nat.sub_zero]
  congr 2
  rcases a with _ | ad
  · simp
  · simp [Addr.add]
/-- A boot's nonces from 1 on. -/
def baseN (boot : Int) (k : Nat) : List Nn := (List.range k).map fun (i : Nat) => (⟨boot, 1 + (i : Int)⟩ : Nn)
theorem baseN_succ (boot : Int) (k : Nat) : baseN boot (k + 1) = baseN boot k ++ [⟨boot, 1 + (k : Int)⟩] := by unfold baseN; rw [List.range_succ, List.map_append]; rfl
theorem baseN_len (boot : Int) (k : Nat) : (baseN boot k).length = k := by simp [baseN]
/-- Each of a boot's first nonces once. -/
structure GoodL (boot : Int) (n : Nat) (ls : List Nn) : Prop where
  len : ls.length = n
  good : ∀ i, i < n → (ls.getD i Nn.zero).b = boot ∧ 1 ≤ (ls.getD i Nn.zero).c ∧ (ls.getD i Nn.zero).c ≤ (n : Int)
  inj : ∀ i j, i < n → j < n → ls.getD i Nn.zero = ls.getD j Nn.zero → i = j
theorem GoodL.start (boot : Int) (n : Nat) : GoodL boot n (baseN boot n) := by
  have hg : ∀ i, i < n → (baseN boot n).getD i Nn.zero = ⟨boot, 1 + (i : Int)⟩ := fun i hi => by simp [baseN, hi]
  refine ⟨baseN_len boot n, fun i hi => ?_, fun i j hi hj e => ?_⟩
  · rw [hg i hi]; exact ⟨rfl, by show 1 ≤ 1 + (i : Int); omega, by show 1 + (i : Int) ≤ (n : Int); omega⟩
  · rw [hg i hi, hg j hj] at e
    have := ((Nn.eq_iff _ _).1 e).2
    simp only at this
    omega
theorem swap_get (ls : List Nn) (a b i : Nat) (hb : b < ls.length) (hi : i < ls.length) :
    ((ls.set a (ls.getD b Nn.zero)).set b (ls.getD a Nn.zero)).getD i Nn.zero = ls.getD (if i = b then a else if i = a then b else i) Nn.zero := by
  by_cases h1 : i = b
  · subst h1
    rw [if_pos rfl, List.getD_eq_getElem?_getD, List.getElem?_set_self (by rw [List.length_set]; exact hb)]; rfl
  · rw [if_neg h1, List.getD_eq_getElem?_getD, List.getElem?_set_ne (fun e => h1 e.symm)]
    by_cases h2 : i = a
    · subst h2
      rw [if_pos rfl, List.getElem?_set_self hi]; rfl
    · rw [if_neg h2, List.getElem?_set_ne (fun e => h2 e.symm), ← List.getD_eq_getElem?_getD]
theorem GoodL.swap {boot : Int} {n : Nat} {ls : List Nn} (h : GoodL boot n ls) (a b : Nat) (ha : a < n) (hb : b < n) : GoodL boot n ((ls.set a (ls.getD b Nn.zero)).set b (ls.getD a Nn.zero)) := by
  have hl := h.len
  have hs : ∀ i, i < n → (if i = b then a else if i = a then b else i) < n := fun i hi => by split; exact ha; split; exact hb; exact hi
  refine ⟨by rw [List.length_set, List.length_set]; exact hl, fun i hi => ?_, fun i j hi hj e => ?_⟩
  · rw [swap_get ls a b i (by omega) (by omega)]
    exact h.good _ (hs i hi)
  · rw [swap_get ls a b i (by omega) (by omega), swap_get ls a b j (by omega) (by omega)] at e
    have := h.inj _ _ (hs i hi) (hs j hj) e
    split at this <;> split at this <;> (try split at this) <;> (try split at this) <;> omega
theorem GoodL.mem {boot : Int} {n : Nat} {ls : List Nn} (h : GoodL boot n ls) {x : Nn} (hx : x ∈ ls) : x.b = boot ∧ 1 ≤ x.c ∧ x.c ≤ (n : Int) := by
  obtain ⟨i, hi, rfl⟩ := List.mem_iff_getElem.1 hx
  have := h.good i (by rw [← h.len]; exact hi)
  rw [List.getD_eq_getElem?_getD, List.getElem?_eq_getElem hi] at this
  exact this
/-- Of some of them: none is old. -/
theorem GoodL.look {boot : Int} {n : Nat} {ls m : List Nn} (h : GoodL boot n ls) (hn : n ≤ 64) (hb : 1 ≤ boot ∧ boot ≤ 65535) (hm : ∀ x ∈ m, x ∈ ls) {x : Nn} (hx : x ∈ ls) : dlookN m x = if x ∈ m then 8 else 0 := by
  obtain ⟨h1, h2, h3⟩ := h.mem hx
  unfold dlookN
  rw [if_neg (by rw [(okN_iff x).2 ⟨by omega, by omega, by omega, by omega⟩]; simp)]
  rw [if_neg]
  rcases latN_mem m with e | e
  · rw [e]; show ¬ (x.b < 0 ∨ x.b = 0 ∧ x.c ≤ 0 - 64); omega
  · obtain ⟨g1, g2, g3⟩ := h.mem (hm _ e)
    omega
theorem GoodL.new {boot : Int} {n : Nat} {ls : List Nn} (h : GoodL boot n ls) (k : Nat) (hk : k < n) : ls.getD k Nn.zero ∉ ls.take k := fun hx => by
  obtain ⟨i, hi, e⟩ := List.mem_iff_getElem.1 hx
  rw [List.length_take] at hi
  rw [List.getElem_take] at e
  have hl := h.len
  have e2 : ls.getD i Nn.zero = ls.getD k Nn.zero := by
    rw [← e, List.getD_eq_getElem?_getD, List.getElem?_eq_getElem (by omega)]; rfl
  have := h.inj i k (by omega) hk e2
  omega
end Go.Proofs.Ytoohcjdjmafliaa
namespace Go.Proofs.Ytoohcjdjmafliaa
open Go Go.RowKit
/-- What stays in the frame. -/
structure FS (boot : Int) (n : Nat) (v2 : Value) (a : Act) : Prop where
  fr : Fr 109 a
  s0 : a.eval (.tmp 0) = .int .i64 boot
  s1 : a.eval (.tmp 1) = .int .i64 (n : Int)
  s2 : a.eval (.tmp 2) = v2
/-- Between two rounds of the first loop. -/
structure IS1 (w : World) (boot : Int) (n : Nat) (v2 : Value) (k : Nat) (a : Act) (W : World) : Prop where
  fs : FS boot n v2 a
  s8 : a.eval (.tmp 8) = .int .i64 (k : Int)
  st : ∃ vl, a.eval (.tmp 7) = vl ∧ OwnN 24 W w.heap.size vl (baseN boot k) ∧ Below w.heap.size w W
/-- Between two rounds of the second loop. -/
structure IS2 (w : World) (boot : Int) (n : Nat) (v2 vl : Value) (k : Nat) (a : Act) (W : World) : Prop where
  fs : FS boot n v2 a
  s7 : a.eval (.tmp 7) = vl
  s9 : a.eval (.tmp 9) = .int .i64 (k : Int)
  st : ∃ ls, OwnN 24 W w.heap.size vl ls ∧ GoodL boot n ls ∧ Below w.heap.size w W
set_option maxRecDepth 100000 in
set_option maxHeartbeats 4000000 in
theorem roundS1 (w : World) (boot : Int) (n : Nat) (v2 : Value) (hn : n ≤ 64)
    (Q : Exit → Act → World → Prop) (k : Nat) (a : Act) (wr : World) (hk : k < n) (h : IS1 w boot n v2 k a wr) :
    Code.wp Try.prog (loopAt (Try.f8.body) 0) (Exit.then (fun a' w' => IS1 w boot n v2 (k + 1) a' w') Q) a wr := by
  obtain ⟨hf, s8, vl, s7, ho, hb⟩ := h
  have k2 : (k : Int) < (n : Int) := by omega
  have k0 : (0 : Int) ≤ (k : Int) := by omega
  have hwk : IntKind.i64.wrap ((k : Int) + 1) = (k : Int) + 1 := by simp [IntKind.wrap_i64]; omega
  have hwk2 : IntKind.i64.wrap (1 + (k : Int)) = 1 + (k : Int) := by simp [IntKind.wrap_i64]; omega
  have R0 : Bx (OwnN 24 (wr.alloc (.cells #[.int .i64 boot, .int .i64 (1 + (k : Int))] 24)) w.heap.size vl (baseN boot k) ∧ Below w.heap.size w (wr.alloc (.cells #[.int .i64 boot, .int .i64 (1 + (k : Int))] 24)) ∧ (wr.alloc (.cells #[.int .i64 boot, .int .i64 (1 + (k : Int))] 24)).rangeAt wr.heap.size 0 (nnc ⟨boot, 1 + (k : Int)⟩)) := Bx.mk ⟨ho.later (below_a _), hb.trans ((below_a _).mono hb.size), nnc_new wr ⟨boot, 1 + (k : Int)⟩ _⟩
  have HL10 : Bx ((baseN boot k).length ≤ 1000) := Bx.mk (by rw [baseN_len]; omega)
  have HS := Bx.mk (baseN_succ boot k)
  obtain ⟨ma, mc, hvm, -, -⟩ := ho.form
  rw [baseN_len] at hvm
  subst hvm
  obtain ⟨y, rfl, hy⟩ := open109 hf.fr
  have e0 := (hy 0).symm.trans hf.s0
  have e1 := (hy 1).symm.trans hf.s1
  have e2 := (hy 2).symm.trans hf.s2
  have e7 := (hy 7).symm.trans s7
  have e8 := (hy 8).symm.trans s8
  clear hf hy s7 s8 hk ho hb hn
  rw [e0, e1, e2, e7, e8]
  clear e0 e1 e2 e7 e8
  conv => arg 2; whnf
  go_wp2_with (refine wpList_ap12W rfl _ _ rfl w.heap.size _ (baseN boot k) (by rfl) R0.out.1 wr.heap.size 0 ⟨boot, 1 + (k : Int)⟩ 1 (by rfl) R0.out.2.2 HL10.out R0.out.2.1.size ?_; intro v7 w7 ho hg)
  skip -- M1
  have R1 := Bx.mk (R0.out.2.1.trans (ownN_below R0.out.1 hg R0.out.2.1.size |>.mono (Nat.le_refl _)))
  have HO := Bx.mk ho
  clear ho hg R0
  go_wp2
  skip -- MA
  exact ⟨⟨⟨rfl, rfl⟩, rfl, rfl, rfl⟩, by first | rfl | go_num, v7, rfl, by rw [HS.out]; exact HO.out, R1.out⟩
theorem loopS1 (w : World) (boot : Int) (n : Nat) (v2 : Value) (hn : n ≤ 64)
    (Q : Exit → Act → World → Prop) (a : Act) (wr : World) (h : IS1 w boot n v2 0 a wr) (hq : ∀ a' w' vl, FS boot n v2 a' → a'.eval (.tmp 7) = vl → OwnN 24 w' w.heap.size vl (baseN boot n) → Below w.heap.size w w' → Q (.exit 0) a' w') :
    Code.wp Try.prog (.loop (loopAt (Try.f8.body) 0)) Q a wr := by
  refine wp_count n (fun k a w' => IS1 w boot n v2 k a w') 0 (Nat.zero_le _) h (fun k a w' hk hI => roundS1 w boot n v2 hn Q k a w' hk hI) (fun a w' hI => ?_)
  obtain ⟨hf, s8, vl, s7, ho, hb⟩ := hI
  have HB := Bx.mk (And.intro ho hb)
  have HQ := Bx.mk hq
  obtain ⟨y, rfl, hy⟩ := open109 hf.fr
  have e0 := (hy 0).symm.trans hf.s0
  have e1 := (hy 1).symm.trans hf.s1
  have e2 := (hy 2).symm.trans hf.s2
  have e7 := (hy 7).symm.trans s7
  have e8 := (hy 8).symm.trans s8
  clear hf hy s7 s8 ho hb hq
  rw [e0, e1, e2, e7, e8]
  clear e0 e1 e2 e7 e8
  conv => arg 2; whnf
  go_wp2
  skip -- MB
  exact HQ.out _ _ vl ⟨⟨rfl, rfl⟩, rfl, rfl, rfl⟩ rfl HB.out.1 HB.out.2
set_option maxRecDepth 100000 in
set_option maxHeartbeats 4000000 in
theorem roundS2 (w : World) (boot : Int) (n : Nat) (v2 vl : Value) (os : List Int) (hv : Ints w v2 os) (hos : os.length ≤ 9223372036854775807) (hn0 : 0 < n) (hn : n ≤ 64)
    (Q : Exit → Act → World → Prop) (k : Nat) (a : Act) (wr : World) (hk : k < os.length) (hk6 : k < 64) (h : IS2 w boot n v2 vl k a wr) :
    Code.wp Try.prog (loopAt (Try.f8.body) 1) (Exit.then (fun a' w' => IS2 w boot n v2 vl (k + 1) a' w') Q) a wr := by
  obtain ⟨hf, s7, s9, ls, ho, hg, hb⟩ := h
  obtain ⟨g, cap, hvl⟩ := ho.start (by rw [hg.len]; exact hn0)
  rw [hg.len] at hvl
  subst hvl
  obtain ⟨av, cv, rfl, -, -, hr⟩ := hv
  obtain ⟨bv, ov, rfl, hc⟩ := hr (by omega)
  have cu0 := hc k hk
  have cu := (hb.cell (p := ⟨bv, ov + k, none⟩) (World.block_lt_of_cell? _ _ cu0)).trans cu0
  obtain ⟨bi, hbi, ebi0⟩ := lowS (os.getD k 0) n hn0 (by omega)
  have EB := Bx.mk ebi0
  clear ebi0
  generalize os.getD k 0 = xo at *
  obtain ⟨na, hna⟩ : ∃ na, os.length = na := ⟨_, rfl⟩
  rw [hna] at hk hos hf ⊢
  obtain ⟨ai, hai⟩ : ∃ ai, k % n = ai := ⟨_, rfl⟩
  have hai2 : ai < n := by rw [← hai]; exact Nat.mod_lt _ hn0
  have EA : Bx ((k : Int).tmod (n : Int) = (ai : Int)) := Bx.mk (by rw [Int.tmod_eq_emod_of_nonneg (by omega), ← hai]; rfl)
  clear hai
  have ew : IntKind.u64.wrap (n : Int) = (n : Int) := by rw [IntKind.wrap_u64]; omega
  have ea2 : IntKind.i64.wrap (ai : Int) = (ai : Int) := by simp [IntKind.wrap_i64]; omega
  have ea3 : wrap64 (ai : Int) = (ai : Int) := by unfold wrap64; omega
  skip -- MC
  have hl := hg.len
  have HG := Bx.mk (hg.swap ai bi hai2 hbi)
  have HO := Bx.mk ho
  have HL : Bx (ai < ls.length ∧ bi < ls.length) := Bx.mk ⟨by omega, by omega⟩
  have hrd := ho.reads
  obtain ⟨p0, p1⟩ := hrd.cells ai (by omega)
  obtain ⟨q0, q1⟩ := hrd.cells bi (by omega)
  rw [Nat.zero_add] at p0 p1 q0 q1
  have HB := Bx.mk hb
  have k1 : (k : Int) < 64 := by omega
  have k2 : (k : Int) < (na : Int) := by omega
  have k0 : (0 : Int) ≤ (k : Int) := by omega
  have m1 : (na : Int) ≤ 9223372036854775807 := by omega
  have n0 : (0 : Int) < (n : Int) := by omega
  have n1 : ¬ (n : Int) = 0 := by omega
  have a1 : (ai : Int) < (n : Int) := by omega
  have a0 : (0 : Int) ≤ (ai : Int) := by omega
  have b1 : (bi : Int) < (n : Int) := by omega
  have b0 : (0 : Int) ≤ (bi : Int) := by omega
  have hwk : IntKind.i64.wrap ((k : Int) + 1) = (k : Int) + 1 := by simp [IntKind.wrap_i64]; omega
  obtain ⟨y, rfl, hy⟩ := open109 hf.fr
  have e0 := (hy 0).symm.trans hf.s0
  have e1 := (hy 1).symm.trans hf.s1
  have e2 := (hy 2).symm.trans hf.s2
  have e7 := (hy 7).symm.trans s7
  have e9 := (hy 9).symm.trans s9
  clear hf hy s7 s9 hk hk6 ho hb hn hg hr hc hos hna hn0 hl hrd hai2 hbi cu0
  rw [e0, e1, e2, e7, e9]
  clear e0 e1 e2 e7 e9
  have ea := EA.out
  have ebi := EB.out
  clear EA EB
  skip -- M0
  conv => arg 2; whnf
  go_wp2
  skip -- M2
  go_quiet (fail)
  skip -- M3
  rw [ebi]
  have HO1 : Bx (OwnN 24 (wr.drewN nq) w.heap.size (.slice (some ⟨g, 0, none⟩) n cap) ls ∧ Below w.heap.size w (wr.drewN nq)) := Bx.mk ⟨HO.out.later (below_drewN (Below.refl _ _) nq), below_drewN HB.out nq⟩
  have P : Bx ((wr.drewN nq).cell? ⟨g, ai * 2, none⟩ = some (.int .i64 (ls.getD ai Nn.zero).b) ∧ (wr.drewN nq).cell? ⟨g, ai * 2 + 1, none⟩ = some (.int .i64 (ls.getD ai Nn.zero).c) ∧ (wr.drewN nq).cell? ⟨g, bi * 2, none⟩ = some (.int .i64 (ls.getD bi Nn.zero).b) ∧ (wr.drewN nq).cell? ⟨g, bi * 2 + 1, none⟩ = some (.int .i64 (ls.getD bi Nn.zero).c)) := Bx.mk ⟨p0, p1, q0, q1⟩
  clear p0 p1 q0 q1 cu ea ebi ew HO HB
  generalize wr.drewN nq = w1 at *
  obtain ⟨p0, p1, q0, q1⟩ := P.out
  clear P
  have f1 := HO1.out.1.frozen (ai * 2)
  have f2 := HO1.out.1.frozen (ai * 2 + 1)
  have f3 := HO1.out.1.frozen (bi * 2)
  have f4 := HO1.out.1.frozen (bi * 2 + 1)
  clear f1 f2 f3 f4
  generalize hxa : ls.getD ai Nn.zero = xa at *
  generalize hxb : ls.getD bi Nn.zero = xb at *
  clear hxa hxb
  obtain ⟨pa, pc⟩ := xa
  obtain ⟨qa, qc⟩ := xb
  simp only at p0 p1 q0 q1
  go_upto_region 11 with fail
  have R0 : Bx (OwnN 24 w1.drew w.heap.size (.slice (some ⟨g, 0, none⟩) n cap) ls ∧ Below w.heap.size w w1.drew) := Bx.mk ⟨HO1.out.1.later (Below.refl _ _).drew, HO1.out.2.drew⟩
  have P : Bx (w1.drew.cell? ⟨g, ai * 2, none⟩ = some (.int .i64 pa) ∧ w1.drew.cell? ⟨g, ai * 2 + 1, none⟩ = some (.int .i64 pc) ∧ w1.drew.cell? ⟨g, bi * 2, none⟩ = some (.int .i64 qa) ∧ w1.drew.cell? ⟨g, bi * 2 + 1, none⟩ = some (.int .i64 qc)) := Bx.mk ⟨p0, p1, q0, q1⟩
  clear p0 p1 q0 q1
  refine wp_region_noPanic ?_
  refine wp_region_held_drew (S := fun _ => True) (by kernel_rfl) trivial (fun hHeld => ?_)
  generalize w1.drew = W0 at *
  clear HO1
  refine takeL 0 (v := ?_) rfl (by kernel_rfl) (by kernel_rfl) (by kernel_rfl) (fun _ _ _ h => h) (Or.inl ⟨by rfl, ?_⟩) hHeld ?_
  rotate_left 1
  · (intro w hSw; go_simp; try with_reducible rfl)
  try simp only [Act.put, List.setIfInBounds_toArray, List.set_cons_zero, List.set_cons_succ]
  refine takeL 1 (v := ?_) rfl (by kernel_rfl) (by kernel_rfl) (by kernel_rfl) (fun _ _ _ h => h) (Or.inl ⟨by rfl, ?_⟩) hHeld ?_
  rotate_left 1
  · (intro w hSw; go_simp; try with_reducible rfl)
  try simp only [Act.put, List.setIfInBounds_toArray, List.set_cons_zero, List.set_cons_succ]
  refine takeL 2 (v := ?_) rfl (by kernel_rfl) (by kernel_rfl) (by kernel_rfl) (fun _ _ _ h => h) (Or.inl ⟨by rfl, ?_⟩) hHeld ?_
  rotate_left 1
  · (intro w hSw; go_simp; try with_reducible rfl)
  try simp only [Act.put, List.setIfInBounds_toArray, List.set_cons_zero, List.set_cons_succ]
  refine takeL 3 (v := ?_) rfl (by kernel_rfl) (by kernel_rfl) (by kernel_rfl) (fun _ _ _ h => h) (Or.inl ⟨by rfl, ?_⟩) hHeld ?_
  rotate_left 1
  · (intro w hSw; go_simp; try with_reducible rfl)
  try simp only [Act.put, List.setIfInBounds_toArray, List.set_cons_zero, List.set_cons_succ]
  refine takeL 4 (v := ?_) rfl (by kernel_rfl) (by kernel_rfl) (by kernel_rfl) (fun _ _ _ h => h) (Or.inl ⟨by rfl, ?_⟩) hHeld ?_
  rotate_left 1
  · (intro w hSw; go_simp; try with_reducible rfl)
  try simp only [Act.put, List.setIfInBounds_toArray, List.set_cons_zero, List.set_cons_succ]
  refine takeL 5 (v := ?_) rfl (by kernel_rfl) (by kernel_rfl) (by kernel_rfl) (fun _ _ _ h => h) (Or.inl ⟨by rfl, ?_⟩) hHeld ?_
  rotate_left 1
  · (intro w hSw; go_simp; try with_reducible rfl)
  try simp only [Act.put, List.setIfInBounds_toArray, List.set_cons_zero, List.set_cons_succ]
  refine takeL 6 (v := ?_) rfl (by kernel_rfl) (by kernel_rfl) (by kernel_rfl) (fun _ _ _ h => h) (Or.inl ⟨by rfl, ?_⟩) hHeld ?_
  rotate_left 1
  · (intro w hSw; go_simp; try with_reducible rfl)
  try simp only [Act.put, List.setIfInBounds_toArray, List.set_cons_zero, List.set_cons_succ]
  refine takeL 8 (v := ?_) rfl (by kernel_rfl) (by kernel_rfl) (by kernel_rfl) (fun _ _ _ h => h) (Or.inl ⟨by rfl, ?_⟩) hHeld ?_
  rotate_left 1
  · (intro w hSw; go_simp; try with_reducible rfl)
  try simp only [Act.put, List.setIfInBounds_toArray, List.set_cons_zero, List.set_cons_succ]
  refine takeL 9 (v := ?_) rfl (by kernel_rfl) (by kernel_rfl) (by kernel_rfl) (fun _ _ _ h => h) (Or.inl ⟨by rfl, ?_⟩) hHeld ?_
  rotate_left 1
  · (intro w hSw; go_simp; try with_reducible rfl)
  try simp only [Act.put, List.setIfInBounds_toArray, List.set_cons_zero, List.set_cons_succ]
  refine takeL 10 (v := ?_) rfl (by kernel_rfl) (by kernel_rfl) (by kernel_rfl) (fun _ _ _ h => h) (Or.inl ⟨by rfl, ?_⟩) hHeld ?_
  rotate_left 1
  · (intro w hSw; go_simp; try with_reducible rfl)
  try simp only [Act.put, List.setIfInBounds_toArray, List.set_cons_zero, List.set_cons_succ]
  refine wpAnyH_ready (rs := [7, 11]) (by kernel_rfl) (by simp) ?_
  refine consM 7 rfl (fun K hK => ?_) (consM 11 rfl (fun K hK => ?_) AllReadyH.nil)
  · obtain ⟨p0, p1, q0, q1⟩ := P.out
    clear p0 p1
    go_simp
    refine hK.out _ _ trivial (fun hHeld => ?_)
    clear hK K q0 q1
    try simp only [Act.put, List.setIfInBounds_toArray, List.set_cons_zero, List.set_cons_succ]
    refine stepL 11 (by kernel_rfl) rfl (fun K hK => ?_)
    obtain ⟨p0, p1, q0, q1⟩ := P.out
    clear q0 q1
    go_simp
    refine hK.out _ _ trivial (fun hHeld => ?_)
    clear hK K p0 p1
    try simp only [Act.put, List.setIfInBounds_toArray, List.set_cons_zero, List.set_cons_succ]
    refine takeL 12 (v := ?_) rfl (by kernel_rfl) (by kernel_rfl) (by kernel_rfl) (fun _ _ _ h => h) (Or.inl ⟨by rfl, ?_⟩) hHeld ?_
    rotate_left 1
    · (intro w hSw; go_simp; try with_reducible rfl)
    try simp only [Act.put, List.setIfInBounds_toArray, List.set_cons_zero, List.set_cons_succ]
    refine stepL 13 (by kernel_rfl) rfl (fun K hK => ?_)
    obtain ⟨p0, p1, q0, q1⟩ := P.out
    clear q0 q1 P
    have f1 := R0.out.1.frozen (ai * 2)
    have f2 := R0.out.1.frozen (ai * 2 + 1)
    have R1 : Bx (OwnN 24 ((W0.setCell ⟨g, ai * 2, none⟩ (.int .i64 qa)).setCell ⟨g, ai * 2 + 1, none⟩ (.int .i64 qc)) w.heap.size (.slice (some ⟨g, 0, none⟩) n cap) (ls.set ai ⟨qa, qc⟩) ∧ Below w.heap.size w ((W0.setCell ⟨g, ai * 2, none⟩ (.int .i64 qa)).setCell ⟨g, ai * 2 + 1, none⟩ (.int .i64 qc))) := Bx.mk ⟨(R0.out.1.set ai HL.out.1 qa qc).1, R0.out.2.trans (ownN_below R0.out.1 (R0.out.1.set ai HL.out.1 qa qc).2 R0.out.2.size)⟩
    go_simp
    refine hK.out _ _ trivial (fun hHeld => ?_)
    clear hK K p0 p1 f1 f2 R0
    try simp only [Act.put, List.setIfInBounds_toArray, List.set_cons_zero, List.set_cons_succ]
    generalize ((W0.setCell ⟨g, ai * 2, none⟩ (.int .i64 qa)).setCell ⟨g, ai * 2 + 1, none⟩ (.int .i64 qc)) = W1 at *
    refine takeL 14 (v := ?_) rfl (by kernel_rfl) (by kernel_rfl) (by kernel_rfl) (fun _ _ _ h => h) (Or.inl ⟨by rfl, ?_⟩) hHeld ?_
    rotate_left 1
    · (intro w hSw; go_simp; try with_reducible rfl)
    try simp only [Act.put, List.setIfInBounds_toArray, List.set_cons_zero, List.set_cons_succ]
    refine stepL 15 (by kernel_rfl) rfl (fun K hK => ?_)
    have hl1 : bi < (ls.set ai ⟨qa, qc⟩).length := by rw [List.length_set]; exact HL.out.2
    obtain ⟨q0, q1⟩ := R1.out.1.reads.cells bi hl1
    rw [Nat.zero_add] at q0 q1
    have f1 := R1.out.1.frozen (bi * 2)
    have f2 := R1.out.1.frozen (bi * 2 + 1)
    have R2 : Bx (OwnN 24 ((W1.setCell ⟨g, bi * 2, none⟩ (.int .i64 pa)).setCell ⟨g, bi * 2 + 1, none⟩ (.int .i64 pc)) w.heap.size (.slice (some ⟨g, 0, none⟩) n cap) ((ls.set ai ⟨qa, qc⟩).set bi ⟨pa, pc⟩) ∧ Below w.heap.size w ((W1.setCell ⟨g, bi * 2, none⟩ (.int .i64 pa)).setCell ⟨g, bi * 2 + 1, none⟩ (.int .i64 pc))) := Bx.mk ⟨(R1.out.1.set bi hl1 pa pc).1, R1.out.2.trans (ownN_below R1.out.1 (R1.out.1.set bi hl1 pa pc).2 R1.out.2.size)⟩
    clear hl1
    generalize (ls.set ai ⟨qa, qc⟩).getD bi Nn.zero = u at *
    go_simp
    refine hK.out _ _ trivial (fun hHeld => ?_)
    clear hK K q0 q1 f1 f2 R1
    try simp only [Act.put, List.setIfInBounds_toArray, List.set_cons_zero, List.set_cons_succ]
    generalize ((W1.setCell ⟨g, bi * 2, none⟩ (.int .i64 pa)).setCell ⟨g, bi * 2 + 1, none⟩ (.int .i64 pc)) = W2 at *
    refine wpAnyH_done (by kernel_rfl) ?_ _
    refine NoPanic.normal ?_
    clear hHeld
    go_wp2
    exact ⟨⟨⟨rfl, rfl⟩, rfl, rfl, rfl⟩, rfl, by first | rfl | go_num, _, R2.out.1, HG.out, R2.out.2⟩
  · obtain ⟨p0, p1, q0, q1⟩ := P.out
    clear q0 q1
    go_simp
    refine hK.out _ _ trivial (fun hHeld => ?_)
    clear hK K p0 p1
    try simp only [Act.put, List.setIfInBounds_toArray, List.set_cons_zero, List.set_cons_succ]
    refine stepL 7 (by kernel_rfl) rfl (fun K hK => ?_)
    obtain ⟨p0, p1, q0, q1⟩ := P.out
    clear p0 p1
    go_simp
    refine hK.out _ _ trivial (fun hHeld => ?_)
    clear hK K q0 q1
    try simp only [Act.put, List.setIfInBounds_toArray, List.set_cons_zero, List.set_cons_succ]
    refine takeL 12 (v := ?_) rfl (by kernel_rfl) (by kernel_rfl) (by kernel_rfl) (fun _ _ _ h => h) (Or.inl ⟨by rfl, ?_⟩) hHeld ?_
    rotate_left 1
    · (intro w hSw; go_simp; try with_reducible rfl)
    try simp only [Act.put, List.setIfInBounds_toArray, List.set_cons_zero, List.set_cons_succ]
    refine stepL 13 (by kernel_rfl) rfl (fun K hK => ?_)
    obtain ⟨p0, p1, q0, q1⟩ := P.out
    clear q0 q1 P
    have f1 := R0.out.1.frozen (ai * 2)
    have f2 := R0.out.1.frozen (ai * 2 + 1)
    have R1 : Bx (OwnN 24 ((W0.setCell ⟨g, ai * 2, none⟩ (.int .i64 qa)).setCell ⟨g, ai * 2 + 1, none⟩ (.int .i64 qc)) w.heap.size (.slice (some ⟨g, 0, none⟩) n cap) (ls.set ai ⟨qa, qc⟩) ∧ Below w.heap.size w ((W0.setCell ⟨g, ai * 2, none⟩ (.int .i64 qa)).setCell ⟨g, ai * 2 + 1, none⟩ (.int .i64 qc))) := Bx.mk ⟨(R0.out.1.set ai HL.out.1 qa qc).1, R0.out.2.trans (ownN_below R0.out.1 (R0.out.1.set ai HL.out.1 qa qc).2 R0.out.2.size)⟩
    go_simp
    refine hK.out _ _ trivial (fun hHeld => ?_)
    clear hK K p0 p1 f1 f2 R0
    try simp only [Act.put, List.setIfInBounds_toArray, List.set_cons_zero, List.set_cons_succ]
    generalize ((W0.setCell ⟨g, ai * 2, none⟩ (.int .i64 qa)).setCell ⟨g, ai * 2 + 1, none⟩ (.int .i64 qc)) = W1 at *
    refine takeL 14 (v := ?_) rfl (by kernel_rfl) (by kernel_rfl) (by kernel_rfl) (fun _ _ _ h => h) (Or.inl ⟨by rfl, ?_⟩) hHeld ?_
    rotate_left 1
    · (intro w hSw; go_simp; try with_reducible rfl)
    try simp only [Act.put, List.setIfInBounds_toArray, List.set_cons_zero, List.set_cons_succ]
    refine stepL 15 (by kernel_rfl) rfl (fun K hK => ?_)
    have hl1 : bi < (ls.set ai ⟨qa, qc⟩).length := by rw [List.length_set]; exact HL.out.2
    obtain ⟨q0, q1⟩ := R1.out.1.reads.cells bi hl1
    rw [Nat.zero_add] at q0 q1
    have f1 := R1.out.1.frozen (bi * 2)
    have f2 := R1.out.1.frozen (bi * 2 + 1)
    have R2 : Bx (OwnN 24 ((W1.setCell ⟨g, bi * 2, none⟩ (.int .i64 pa)).setCell ⟨g, bi * 2 + 1, none⟩ (.int .i64 pc)) w.heap.size (.slice (some ⟨g, 0, none⟩) n cap) ((ls.set ai ⟨qa, qc⟩).set bi ⟨pa, pc⟩) ∧ Below w.heap.size w ((W1.setCell ⟨g, bi * 2, none⟩ (.int .i64 pa)).setCell ⟨g, bi * 2 + 1, none⟩ (.int .i64 pc))) := Bx.mk ⟨(R1.out.1.set bi hl1 pa pc).1, R1.out.2.trans (ownN_below R1.out.1 (R1.out.1.set bi hl1 pa pc).2 R1.out.2.size)⟩
    clear hl1
    generalize (ls.set ai ⟨qa, qc⟩).getD bi Nn.zero = u at *
    go_simp
    refine hK.out _ _ trivial (fun hHeld => ?_)
    clear hK K q0 q1 f1 f2 R1
    try simp only [Act.put, List.setIfInBounds_toArray, List.set_cons_zero, List.set_cons_succ]
    generalize ((W1.setCell ⟨g, bi * 2, none⟩ (.int .i64 pa)).setCell ⟨g, bi * 2 + 1, none⟩ (.int .i64 pc)) = W2 at *
    refine wpAnyH_done (by kernel_rfl) ?_ _
    refine NoPanic.normal ?_
    clear hHeld
    go_wp2
    exact ⟨⟨⟨rfl, rfl⟩, rfl, rfl, rfl⟩, rfl, by first | rfl | go_num, _, R2.out.1, HG.out, R2.out.2⟩
set_option maxRecDepth 100000 in
set_option maxHeartbeats 4000000 in
theorem lastS2 (w : World) (boot : Int) (n : Nat) (v2 vl : Value) (os : List Int) (hv : Ints w v2 os) (hos : os.length ≤ 9223372036854775807) (hn : n ≤ 64) (k : Nat) (hk : k ≤ os.length) (hk6 : k ≤ 64) (hend : os.length ≤ k ∨ k = 64 ∨ n = 0)
    (Q : Exit → Act → World → Prop) (N : Act → World → Prop) (hq : ∀ a' w' ls, FS boot n v2 a' → a'.eval (.tmp 7) = vl → OwnN 24 w' w.heap.size vl ls → GoodL boot n ls → Below w.heap.size w w' → Q (.exit 2) a' w') (a : Act) (wr : World) (h : IS2 w boot n v2 vl k a wr) :
    Code.wp Try.prog (loopAt (Try.f8.body) 1) (Exit.then N Q) a wr := by
  obtain ⟨hf, s7, s9, ls, ho, hg, hb⟩ := h
  have HB := Bx.mk (And.intro ho (And.intro hg hb))
  have HQ := Bx.mk hq
  obtain ⟨a0, cap, rfl, -, -, -⟩ := hv
  obtain ⟨na, hna⟩ : ∃ m, os.length = m := ⟨_, rfl⟩
  rw [hna] at hk hos hf hend HQ
  have k0 : (0 : Int) ≤ (k : Int) := by omega
  have m1 : (na : Int) ≤ 9223372036854775807 := by omega
  obtain ⟨y, rfl, hy⟩ := open109 hf.fr
  have e0 := (hy 0).symm.trans hf.s0
  have e1 := (hy 1).symm.trans hf.s1
  have e2 := (hy 2).symm.trans hf.s2
  have e7 := (hy 7).symm.trans s7
  have e9 := (hy 9).symm.trans s9
  clear hf hy s7 s9 ho hg hb hq hna
  rw [e0, e1, e2, e7, e9]
  clear e0 e1 e2 e7 e9
  conv => arg 2; whnf
  by_cases hlt : k < na
  · have h1 : (k : Int) < (na : Int) := by omega
    by_cases h6 : k < 64
    · have h2 : (k : Int) < 64 := by omega
      have h3 : ¬ (0 : Int) < (n : Int) := by omega
      have h4 : ¬ 0 < n := by omega
      clear hend hlt hk hk6 hn hos h6
      go_wp2
      exact HQ.out _ _ ls ⟨⟨rfl, rfl⟩, rfl, rfl, rfl⟩ rfl HB.out.1 HB.out.2.1 HB.out.2.2
    · have h2 : ¬ (k : Int) < 64 := by omega
      clear hend hlt hk hk6 hn hos h6
      go_wp2
      exact HQ.out _ _ ls ⟨⟨rfl, rfl⟩, rfl, rfl, rfl⟩ rfl HB.out.1 HB.out.2.1 HB.out.2.2
  · have h1 : ¬ (k : Int) < (na : Int) := by omega
    clear hend hlt hk hk6 hn hos
    go_wp2
    exact HQ.out _ _ ls ⟨⟨rfl, rfl⟩, rfl, rfl, rfl⟩ rfl HB.out.1 HB.out.2.1 HB.out.2.2
theorem loopS2 (w : World) (boot : Int) (n : Nat) (v2 vl : Value) (os : List Int) (hv : Ints w v2 os) (hos : os.length ≤ 9223372036854775807) (hn : n ≤ 64)
    (Q : Exit → Act → World → Prop) (a : Act) (wr : World) (h : IS2 w boot n v2 vl 0 a wr) (hq : ∀ a' w' ls, FS boot n v2 a' → a'.eval (.tmp 7) = vl → OwnN 24 w' w.heap.size vl ls → GoodL boot n ls → Below w.heap.size w w' → Q (.exit 2) a' w') :
    Code.wp Try.prog (.loop (loopAt (Try.f8.body) 1)) Q a wr := by
  by_cases hn0 : n = 0
  · exact wp_count 0 (fun k a w' => IS2 w boot n v2 vl k a w') 0 (Nat.zero_le _) h (fun k a w' hk hI => absurd hk (Nat.not_lt_zero _)) (fun a w' hI => lastS2 w boot n v2 vl os hv hos hn _ (by omega) (by omega) (.inr (.inr hn0)) Q _ hq a w' hI)
  · exact wp_count (min os.length 64) (fun k a w' => IS2 w boot n v2 vl k a w') 0 (Nat.zero_le _) h (fun k a w' hk hI => roundS2 w boot n v2 vl os hv hos (by omega) hn Q k a w' (by omega) (by omega) hI) (fun a w' hI => lastS2 w boot n v2 vl os hv hos hn _ (by omega) (by omega) (by omega) Q _ hq a w' hI)
end Go.Proofs.Ytoohcjdjmafliaa
namespace Go.Proofs.Ytoohcjdjmafliaa
open Go Go.RowKit
theorem kindWS : 24 ≠ 27 := by decide
/-- A window, a row of nonces, and what was taken. -/
structure BSh (w : World) (q : Nat) (s : Ws) (vl : Value) (ls m : List Nn) (W : World) : Prop where
  wp : WP w q s W
  own : OwnN 24 W w.heap.size vl ls
  rel : RelW m s
theorem BSh.later {w : World} {q : Nat} {s : Ws} {vl : Value} {ls m : List Nn} {W W1 : World} (h : BSh w q s vl ls m W) (hb : Below W.heap.size W W1) : BSh w q s vl ls m W1 := ⟨h.wp.later hb, h.own.later hb, h.rel⟩
/-- What stays in the frame. -/
structure FT (n : Nat) (vl : Value) (q : Nat) (a : Act) : Prop where
  fr : Fr 109 a
  s1 : a.eval (.tmp 1) = .int .i64 (n : Int)
  s7 : a.eval (.tmp 7) = vl
  s12 : a.eval (.tmp 12) = .pointer (some ⟨q, 0, none⟩)
/-- Between two rounds of the third loop. -/
structure IS3 (w : World) (n : Nat) (vl : Value) (q : Nat) (ls : List Nn) (k : Nat) (a : Act) (W : World) : Prop where
  ft : FT n vl q a
  s13 : a.eval (.tmp 13) = .int .i64 (k : Int)
  st : ∃ s, BSh w q s vl ls (ls.take k) W
/-- Between two rounds of the fourth loop. -/
structure IS4 (w : World) (n : Nat) (vl : Value) (q : Nat) (ls : List Nn) (k : Nat) (a : Act) (W : World) : Prop where
  ft : FT n vl q a
  s14 : a.eval (.tmp 14) = .int .i64 (k : Int)
  st : ∃ s, BSh w q s vl ls ls W
theorem cnt_all {boot : Int} {n : Nat} {ls m : List Nn} {s : Ws} (h : GoodL boot n ls) (hn : n ≤ 64) (hb : 1 ≤ boot ∧ boot ≤ 65535) (hm : ∀ x ∈ m, x ∈ ls) (hr : RelW m s) : (m.countP fun x => decide (lookW s x = 8)) = m.length := by
  rw [List.countP_eq_length]
  intro x hx
  rw [hr.look, h.look hn hb hm (hm x hx), if_pos hx]
  rfl
theorem getD_mem {ls : List Nn} {k : Nat} (h : k < ls.length) : ls.getD k Nn.zero ∈ ls := by
  rw [List.getD_eq_getElem?_getD, List.getElem?_eq_getElem h]
  exact List.getElem_mem h
set_option maxRecDepth 100000 in
set_option maxHeartbeats 4000000 in
theorem roundS3 (w : World) (boot : Int) (n : Nat) (vl : Value) (q : Nat) (ls : List Nn) (hG : GoodL boot n ls) (hn : n ≤ 64) (hbo : 1 ≤ boot ∧ boot ≤ 65535)
    (Q : Exit → Act → World → Prop) (k : Nat) (a : Act) (wr : World) (hk : k < n) (h : IS3 w n vl q ls k a wr) :
    Code.wp Try.prog (loopAt (Try.f8.body) 2) (Exit.then (fun a' w' => IS3 w n vl q ls (k + 1) a' w') Q) a wr := by
  obtain ⟨hf, s13, s, hB⟩ := h
  have hl := hG.len
  obtain ⟨g, cap, hvl⟩ := hB.own.start (by omega)
  rw [hl] at hvl
  subst hvl
  have hrd := hB.own.reads
  obtain ⟨c0, c1⟩ := hrd.cells k (by omega)
  rw [Nat.zero_add] at c0 c1
  have hcap : n ≤ cap := by
    obtain ⟨a', cap', e1, e2, -⟩ := hB.own.form
    injection e1 with _ _ e1
    omega
  have hin : ∀ x ∈ ls.take k ++ [ls.getD k Nn.zero], x ∈ ls := fun x hx => by
    rcases List.mem_append.1 hx with hx | hx
    · exact List.mem_of_mem_take hx
    · rw [List.mem_singleton.1 hx]; exact getD_mem (by omega)
  have hz : lookW s (ls.getD k Nn.zero) = 0 := by
    rw [hB.rel.look, hG.look hn hbo (fun x hx => List.mem_of_mem_take hx) (getD_mem (by omega)), if_neg (hG.new k hk)]
  have HRn := Bx.mk (hB.rel.take hz)
  have HTs := Bx.mk (takeN_succ ls k (by omega))
  have HCn : Bx (((ls.take (k + 1)).countP fun x => decide (lookW (takeW s (ls.getD k Nn.zero)) x = 8)) = k + 1) := Bx.mk (by
    rw [HTs.out, cnt_all hG hn hbo hin HRn.out, List.length_append, List.length_take, List.length_singleton]
    omega)
  have HLn : Bx ((ls.take (k + 1)).length ≤ 1000) := Bx.mk (by rw [List.length_take]; omega)
  have hct : ∀ W : World, (Instr.slice 36 (.slice (some ⟨g, 0, none⟩) n cap) none (some (.int .i64 ((k : Int) + 1))) none).run Try.prog W = .ok (.slice (some ⟨g, 0, none⟩) (k + 1) cap) W := fun W => cut_nns (some ⟨g, 0, none⟩) n cap (k + 1) (by omega) hcap (fun h => by cases h) W
  have HTk := Bx.mk fun (W : World) (h : BSh w q s (.slice (some ⟨g, 0, none⟩) n cap) ls (ls.take k) W) => h.wp.take (ls.getD k Nn.zero)
  rw [hz] at HTk
  have HTa := Bx.mk fun (s1 : Ws) (W : World) (h : WP w q s1 W) (ho : OwnN 24 W w.heap.size (.slice (some ⟨g, 0, none⟩) n cap) ls) => taken_any12 (.pointer (some ⟨q, 0, none⟩)) (lookW s1) (.slice (some ⟨g, 0, none⟩) (k + 1) cap) (ls.take (k + 1)) W (ho.reads.take (k + 1) (by omega)) HLn.out (fun W2 n hb => (h.later hb).look n |>.mono fun e W3 ⟨h1, _, h3⟩ => ⟨h1, h3⟩)
  have HTa2 := HTa.out (takeW s (ls.getD k Nn.zero))
  rw [HCn.out] at HTa2
  have HTa := Bx.mk HTa2
  clear HTa2
  have R0 := Bx.mk hB
  rw [← HTs.out] at HRn
  generalize ls.getD k Nn.zero = x at *
  obtain ⟨xb, xc⟩ := x
  simp only at c0 c1
  unfold nv at HTk
  have HK := Bx.mk hk
  have k2 : (k : Int) < (n : Int) := by omega
  have k0 : (0 : Int) ≤ (k : Int) := by omega
  have m1 : (n : Int) ≤ 64 := by omega
  have hwk : IntKind.i64.wrap ((k : Int) + 1) = (k : Int) + 1 := by simp [IntKind.wrap_i64]; omega
  obtain ⟨y, rfl, hy⟩ := open109 hf.fr
  have e1 := (hy 1).symm.trans hf.s1
  have e7 := (hy 7).symm.trans hf.s7
  have e12 := (hy 12).symm.trans hf.s12
  have e13 := (hy 13).symm.trans s13
  clear hf hy s13 hB hG hn hbo hk hl hrd hin hz hcap HCn HLn HTs
  rw [e1, e7, e12, e13]
  clear e1 e7 e12 e13
  conv => arg 2; whnf
  go_wp2_with fail
  refine (HTk.out _ R0.out).mono ?_
  rintro e w1 ⟨rfl, hw, hg⟩
  have R1 : Bx (WP w q (takeW s ⟨xb, xc⟩) w1 ∧ OwnN 24 w1 w.heap.size (.slice (some ⟨g, 0, none⟩) n cap) ls) := Bx.mk ⟨hw, R0.out.own.aside (R0.out.wp.win.kind kindWS) hg⟩
  clear hw hg R0 c0 c1 HTk
  skip -- M1
  go_wp2_with fail
  skip -- M2
  refine (HTa.out _ R1.out.1 R1.out.2).mono ?_
  rintro e w2 ⟨rfl, hb⟩
  have R2 := Bx.mk (And.intro (R1.out.1.later hb) (R1.out.2.later hb))
  clear hb R1 HTa
  go_wp2
  exact ⟨⟨⟨rfl, rfl⟩, rfl, rfl, rfl⟩, by first | rfl | go_num, _, R2.out.1, R2.out.2, HRn.out⟩
theorem loopS3 (w : World) (boot : Int) (n : Nat) (vl : Value) (q : Nat) (ls : List Nn) (hG : GoodL boot n ls) (hn : n ≤ 64) (hbo : 1 ≤ boot ∧ boot ≤ 65535)
    (Q : Exit → Act → World → Prop) (a : Act) (wr : World) (h : IS3 w n vl q ls 0 a wr) (hq : ∀ a' w' s, FT n vl q a' → BSh w q s vl ls ls w' → Q (.exit 4) a' w') :
    Code.wp Try.prog (.loop (loopAt (Try.f8.body) 2)) Q a wr := by
  refine wp_count n (fun k a w' => IS3 w n vl q ls k a w') 0 (Nat.zero_le _) h (fun k a w' hk hI => roundS3 w boot n vl q ls hG hn hbo Q k a w' hk hI) (fun a w' hI => ?_)
  obtain ⟨hf, s13, s, hB⟩ := hI
  rw [show ls.take n = ls by rw [← hG.len, List.take_length]] at hB
  have HB := Bx.mk hB
  have HQ := Bx.mk hq
  obtain ⟨y, rfl, hy⟩ := open109 hf.fr
  have e1 := (hy 1).symm.trans hf.s1
  have e7 := (hy 7).symm.trans hf.s7
  have e12 := (hy 12).symm.trans hf.s12
  have e13 := (hy 13).symm.trans s13
  clear hf hy s13 hB hq
  rw [e1, e7, e12, e13]
  clear e1 e7 e12 e13
  conv => arg 2; whnf
  go_wp2
  exact HQ.out _ _ s ⟨⟨rfl, rfl⟩, rfl, rfl, rfl⟩ HB.out
set_option maxRecDepth 100000 in
set_option maxHeartbeats 4000000 in
theorem roundS4 (w : World) (boot : Int) (n : Nat) (vl : Value) (q : Nat) (ls : List Nn) (hG : GoodL boot n ls) (hn : n ≤ 64) (hbo : 1 ≤ boot ∧ boot ≤ 65535)
    (Q : Exit → Act → World → Prop) (k : Nat) (a : Act) (wr : World) (hk : k < n) (h : IS4 w n vl q ls k a wr) :
    Code.wp Try.prog (loopAt (Try.f8.body) 3) (Exit.then (fun a' w' => IS4 w n vl q ls (k + 1) a' w') Q) a wr := by
  obtain ⟨hf, s14, s, hB⟩ := h
  have hl := hG.len
  obtain ⟨g, cap, hvl⟩ := hB.own.start (by omega)
  rw [hl] at hvl
  subst hvl
  have hrd := hB.own.reads
  obtain ⟨c0, c1⟩ := hrd.cells k (by omega)
  rw [Nat.zero_add] at c0 c1
  have hz : lookW s (ls.getD k Nn.zero) = 8 := by
    rw [hB.rel.look, hG.look hn hbo (fun x hx => hx) (getD_mem (by omega)), if_pos (getD_mem (by omega))]
  have HKp : Bx (takeW s (ls.getD k Nn.zero) = s) := Bx.mk (hB.rel.keep (by rw [hz]; decide))
  have HTk := Bx.mk fun (W : World) (h : BSh w q s (.slice (some ⟨g, 0, none⟩) n cap) ls ls W) => h.wp.take (ls.getD k Nn.zero)
  rw [hz, HKp.out] at HTk
  have R0 := Bx.mk hB
  generalize ls.getD k Nn.zero = x at *
  obtain ⟨xb, xc⟩ := x
  simp only at c0 c1
  unfold nv at HTk
  have k2 : (k : Int) < (n : Int) := by omega
  have k0 : (0 : Int) ≤ (k : Int) := by omega
  have m1 : (n : Int) ≤ 64 := by omega
  have hwk : IntKind.i64.wrap ((k : Int) + 1) = (k : Int) + 1 := by simp [IntKind.wrap_i64]; omega
  obtain ⟨y, rfl, hy⟩ := open109 hf.fr
  have e1 := (hy 1).symm.trans hf.s1
  have e7 := (hy 7).symm.trans hf.s7
  have e12 := (hy 12).symm.trans hf.s12
  have e14 := (hy 14).symm.trans s14
  clear hf hy s14 hB hG hn hbo hk hl hrd hz HKp
  rw [e1, e7, e12, e14]
  clear e1 e7 e12 e14
  conv => arg 2; whnf
  go_wp2_with fail
  refine (HTk.out _ R0.out).mono ?_
  rintro e w1 ⟨rfl, hw, hg⟩
  have R1 : Bx (BSh w q s (.slice (some ⟨g, 0, none⟩) n cap) ls ls w1) := Bx.mk ⟨hw, R0.out.own.aside (R0.out.wp.win.kind kindWS) hg, R0.out.rel⟩
  clear hw hg R0 c0 c1 HTk
  go_wp2
  exact ⟨⟨⟨rfl, rfl⟩, rfl, rfl, rfl⟩, by first | rfl | go_num, _, R1.out⟩
theorem loopS4 (w : World) (boot : Int) (n : Nat) (vl : Value) (q : Nat) (ls : List Nn) (hG : GoodL boot n ls) (hn : n ≤ 64) (hbo : 1 ≤ boot ∧ boot ≤ 65535)
    (Q : Exit → Act → World → Prop) (a : Act) (wr : World) (h : IS4 w n vl q ls 0 a wr) (hq : ∀ a' w', Fr 109 a' → Below w.heap.size w w' → Q (.exit 6) a' w') :
    Code.wp Try.prog (.loop (loopAt (Try.f8.body) 3)) Q a wr := by
  refine wp_count n (fun k a w' => IS4 w n vl q ls k a w') 0 (Nat.zero_le _) h (fun k a w' hk hI => roundS4 w boot n vl q ls hG hn hbo Q k a w' hk hI) (fun a w' hI => ?_)
  obtain ⟨hf, s14, s, hB⟩ := hI
  have HB := Bx.mk hB.wp.below
  have HQ := Bx.mk hq
  obtain ⟨y, rfl, hy⟩ := open109 hf.fr
  have e1 := (hy 1).symm.trans hf.s1
  have e7 := (hy 7).symm.trans hf.s7
  have e12 := (hy 12).symm.trans hf.s12
  have e14 := (hy 14).symm.trans s14
  clear hf hy s14 hB hq
  rw [e1, e7, e12, e14]
  clear e1 e7 e12 e14
  conv => arg 2; whnf
  go_wp2
  exact HQ.out _ _ ⟨rfl, rfl⟩ HB.out
end Go.Proofs.Ytoohcjdjmafliaa
namespace Go.Proofs.Ytoohcjdjmafliaa
open Go Go.RowKit
set_option maxRecDepth 100000 in
set_option maxHeartbeats 4000000 in
theorem wshuffles_all (os : List Int) (b0 n0 : Int) (v2 : Value) (w : World) (hv : Ints w v2 os) (hos : os.length ≤ 9223372036854775807) :
    Calls Try.prog 8 #[.int .i64 b0, .int .i64 n0, v2] w fun e w' => e = .returned (.bool true) ∧ Below w.heap.size w w' := by
  obtain ⟨x, hx, ex⟩ := lowS b0 65535 (by omega) (by omega)
  have ex' : wrap64 ((IntKind.u64.wrap b0).tmod 65535) = (x : Int) := ex
  obtain ⟨n, hn, en⟩ := lowS n0 65 (by omega) (by omega)
  have en' : wrap64 ((IntKind.u64.wrap n0).tmod 65) = (n : Int) := en
  obtain ⟨boot, hboot⟩ : ∃ b : Int, 1 + (x : Int) = b := ⟨_, rfl⟩
  have hwb : IntKind.i64.wrap (1 + (x : Int)) = boot := by rw [← hboot]; simp [IntKind.wrap_i64]; omega
  have hwb2 : wrap64 (1 + (x : Int)) = boot := by rw [← hboot]; unfold wrap64; omega
  have hbo : 1 ≤ boot ∧ boot ≤ 65535 := by omega
  have hn64 : n ≤ 64 := by omega
  have H1 := Bx.mk fun (Q : Exit → Act → World → Prop) (a : Act) (wr : World) => loopS1 w boot n v2 hn64 Q a wr
  have H2 := Bx.mk fun (vl : Value) (Q : Exit → Act → World → Prop) (a : Act) (wr : World) => loopS2 w boot n v2 vl os hv hos hn64 Q a wr
  have H3 := Bx.mk fun (vl : Value) (q : Nat) (ls : List Nn) (hG : GoodL boot n ls) (Q : Exit → Act → World → Prop) (a : Act) (wr : World) => loopS3 w boot n vl q ls hG hn64 hbo Q a wr
  have H4 := Bx.mk fun (vl : Value) (q : Nat) (ls : List Nn) (hG : GoodL boot n ls) (Q : Exit → Act → World → Prop) (a : Act) (wr : World) => loopS4 w boot n vl q ls hG hn64 hbo Q a wr
  have HKn := Bx.mk fun (W : World) => known12_any W
  have HN : Bx (OwnN 24 w w.heap.size (.slice none 0 0) (baseN boot 0)) := Bx.mk (OwnN.nil _ _ _)
  have HGs := Bx.mk (GoodL.start boot n)
  clear hv hos ex en hx hn hboot hbo hn64
  go_enter Try.func8, Try.ntmps8
  go_wp2
  try rw [ex']
  try rw [en']
  try rw [hwb]
  skip -- M1
  refine H1.out _ _ _ ⟨⟨⟨rfl, rfl⟩, rfl, rfl, rfl⟩, rfl, _, rfl, HN.out, Below.refl _ _⟩ ?_
  intro a1 w1 vl hf h7 ho hb
  have R1 := Bx.mk (And.intro ho hb)
  obtain ⟨y, rfl, hy⟩ := open109 hf.fr
  have e0 := (hy 0).symm.trans hf.s0
  have e1 := (hy 1).symm.trans hf.s1
  have e2 := (hy 2).symm.trans hf.s2
  have e7 := (hy 7).symm.trans h7
  clear hf hy h7 ho hb H1 HN
  rw [e0, e1, e2, e7]
  clear e0 e1 e2 e7
  go_wp2
  refine H2.out vl _ _ _ ⟨⟨⟨rfl, rfl⟩, rfl, rfl, rfl⟩, rfl, rfl, _, R1.out.1, HGs.out, R1.out.2⟩ ?_
  intro a2 w2 ls hf h7 ho hg hb
  have HG := Bx.mk hg
  have R2 : Bx (BSh w w2.heap.size Ws.zero vl ls (ls.take 0) (w2.alloc (.cells #[.int .i64 0, .int .i64 0, .int .u64 0] 27))) := Bx.mk ⟨⟨hb.trans ((below_a _).mono hb.size), winB_new w2, hb.size, zero_ok⟩, ho.later (below_a _), RelW.start⟩
  obtain ⟨y, rfl, hy⟩ := open109 hf.fr
  have e0 := (hy 0).symm.trans hf.s0
  have e1 := (hy 1).symm.trans hf.s1
  have e2 := (hy 2).symm.trans hf.s2
  have e7 := (hy 7).symm.trans h7
  clear hf hy h7 ho hb hg H2 R1 HGs
  rw [e0, e1, e2, e7]
  clear e0 e1 e2 e7
  go_wp2
  refine H3.out vl w2.heap.size ls HG.out _ _ _ ⟨⟨⟨rfl, rfl⟩, rfl, rfl, rfl⟩, rfl, _, R2.out⟩ ?_
  intro a3 w3 s hf hB
  have R3 := Bx.mk hB
  obtain ⟨y, rfl, hy⟩ := open109 hf.fr
  have e1 := (hy 1).symm.trans hf.s1
  have e7 := (hy 7).symm.trans hf.s7
  have e12 := (hy 12).symm.trans hf.s12
  clear hf hy hB H3 R2
  rw [e1, e7, e12]
  clear e1 e7 e12
  go_wp2
  refine H4.out vl w2.heap.size ls HG.out _ _ _ ⟨⟨⟨rfl, rfl⟩, rfl, rfl, rfl⟩, rfl, s, R3.out⟩ ?_
  intro a4 w4 hf hb
  have HB := Bx.mk hb
  clear hb H4 R3
  obtain ⟨y, rfl, hx⟩ := open109 hf
  clear hf hx
  go_wp2_with fail
  refine (HKn.out w4).mono ?_
  rintro e w5 ⟨rfl, hb⟩
  have HB5 := Bx.mk (HB.out.trans (hb.mono HB.out.size))
  clear hb HB
  go_wp2
  go_ret
  exact ⟨rfl, HB5.out⟩
end Go.Proofs.Ytoohcjdjmafliaa
namespace Go.Proofs.Ytoohcjdjmafliaa
open Go
/-- A world to begin with. -/
noncomputable def laidWorld (os : Os) : World := World.holding Try.prog os ⟨#[], #[], []⟩
end Go.Proofs.Ytoohcjdjmafliaa
