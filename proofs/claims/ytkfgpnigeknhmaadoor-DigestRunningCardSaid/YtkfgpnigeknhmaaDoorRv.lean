/-
  The walk of the statement on running digests: a round.
-/
import Derived.Test.YtkfgpnigeknhmaaDoorRu
import Derived.Laws.Pointers
import Derived.LaidEqlPtr
namespace Go.Proofs.YtkfgpnigeknhmaaDoor
open Go Go.RowKit
set_option maxRecDepth 100000 in
theorem open125 {a : Act} (h : Fr 125 a) : ∃ x : Nat → Value, a = ⟨List.toArray (x 0 :: x 1 :: x 2 :: x 3 :: x 4 :: x 5 :: x 6 :: x 7 :: x 8 :: x 9 :: x 10 :: x 11 :: x 12 :: x 13 :: x 14 :: x 15 :: x 16 :: x 17 :: x 18 :: x 19 :: x 20 :: x 21 :: x 22 :: x 23 :: x 24 :: x 25 :: x 26 :: x 27 :: x 28 :: x 29 :: x 30 :: x 31 :: x 32 :: x 33 :: x 34 :: x 35 :: x 36 :: x 37 :: x 38 :: x 39 :: x 40 :: x 41 :: x 42 :: x 43 :: x 44 :: x 45 :: x 46 :: x 47 :: x 48 :: x 49 :: x 50 :: x 51 :: x 52 :: x 53 :: x 54 :: x 55 :: x 56 :: x 57 :: x 58 :: x 59 :: x 60 :: x 61 :: x 62 :: x 63 :: x 64 :: x 65 :: x 66 :: x 67 :: x 68 :: x 69 :: x 70 :: x 71 :: x 72 :: x 73 :: x 74 :: x 75 :: x 76 :: x 77 :: x 78 :: x 79 :: x 80 :: x 81 :: x 82 :: x 83 :: x 84 :: x 85 :: x 86 :: x 87 :: x 88 :: x 89 :: x 90 :: x 91 :: x 92 :: x 93 :: x 94 :: x 95 :: x 96 :: x 97 :: x 98 :: x 99 :: x 100 :: x 101 :: x 102 :: x 103 :: x 104 :: x 105 :: x 106 :: x 107 :: x 108 :: x 109 :: x 110 :: x 111 :: x 112 :: x 113 :: x 114 :: x 115 :: x 116 :: x 117 :: x 118 :: x 119 :: x 120 :: x 121 :: x 122 :: x 123 :: x 124 :: []), []⟩ ∧ ∀ i, a.eval (.tmp i) = x i := ⟨fun i => a.tmps.getD i undef, h.form, fun _ => rfl⟩
theorem neq_ptr (a : Addr) (w : World) : (binOp .neq 43 (.pointer (some a)) (.pointer (some a))).run Tryd.prog w = .ok (.bool false) w := by
  have hs : (Tryd.prog.info? 42).isSome = true := by kernel_rfl
  obtain ⟨j, hte⟩ := Option.isSome_iff_exists.1 hs
  have h : ∀ d : Nat, (Op.equalIn (d + 1) 43 (.pointer (some a)) (.pointer (some a))).run Tryd.prog w = .ok true w := fun d => by
    simp [Op.equalIn, run_underlying Tryd.underlying43, sizeOf, typeInfo, hte, run_sameAddr_same]
  simp only [binOp]
  simp [Op.equal, Op.maxDepth, h 9999]
theorem tbl_size {tbl : List Value} (h : u32s (kTab ++ hTab) = tbl.toArray) : (Tryd.prog.info? 32).map (·.size) = some tbl.length := by
  have h3 : (Tryd.prog.info? 32).map (·.size) = some 72 := by kernel_rfl
  have h2 : tbl.length = 72 := by
    have h1 : (u32s (kTab ++ hTab)).size = tbl.length := by rw [h]; simp
    rw [← h1, u32s_size]; rfl
  rw [h2]
  exact h3
def cptr : Option (Nat × List UInt8) → Value
  | none => .pointer none
  | some p => .pointer (some ⟨p.1, 0, none⟩)
def clen : Option (Nat × List UInt8) → Nat
  | none => 0
  | some p => p.2.length
/-- What holds at the head of each part. -/
structure IR (w3 : World) (Tb : Nat) (tbl : List Value) (A5 A6 : Option Addr) (N5 C5 N6 C6 : Nat) (qs : List (List UInt8)) (at0 : Int) (i : Nat) (a : Act) (W : World) : Prop where
  fr : Fr 125 a
  s1 : a.eval (.tmp 1) = .int .i64 at0
  s5 : a.eval (.tmp 5) = .slice A5 N5 C5
  s6 : a.eval (.tmp 6) = .slice A6 N6 C6
  s7 : a.eval (.tmp 7) = .pointer (some ⟨Tb, 0, none⟩)
  s8 : a.eval (.tmp 8) = .pointer (some ⟨w3.heap.size, 0, none⟩)
  s10 : a.eval (.tmp 10) = .int .i64 (((qs.take i).flatten.length : Nat) : Int)
  s12 : a.eval (.tmp 12) = .int .i64 (i : Int)
  c : ∃ c, a.eval (.tmp 9) = cptr c ∧ a.eval (.tmp 11) = .int .i64 ((clen c : Nat) : Int) ∧ (∀ p, c = some p → ∃ m, p.2 = (qs.take m).flatten) ∧ Dy w3 (qs.take i).flatten c W
set_option maxRecDepth 100000 in
set_option maxHeartbeats 2000000 in
theorem roundR (w3 : World) (Tb : Nat) (tbl : List Value) (A5 A6 : Option Addr) (N5 C5 N6 C6 : Nat) (qs : List (List UInt8)) (at0 : Int) (st : Stt w3 Tb tbl (.slice A5 N5 C5) (.slice A6 N6 C6) qs) (Q : Exit → Act → World → Prop)
    (i : Nat) (hi : i < qs.length) (a : Act) (wr : World) (h : IR w3 Tb tbl A5 A6 N5 C5 N6 C6 qs at0 i a wr) :
    Code.wp Tryd.prog (loopAt Tryd.f4.body 0) (Exit.then (fun a' w' => IR w3 Tb tbl A5 A6 N5 C5 N6 C6 qs at0 (i + 1) a' w') Q) a wr := by
  obtain ⟨c, hc9, hc11, hcm, hdy⟩ := h.c
  -- the part
  obtain ⟨a5, c5, hv5, hr5⟩ := st.parts
  injection hv5 with e51 e52 e53
  obtain ⟨P, o, ha5, hcell⟩ := hr5 (by omega)
  subst e51 e52 e53
  subst ha5
  obtain ⟨xi, hxi, hxb⟩ := hcell i hi
  obtain ⟨ax, cx, hxf, -, -⟩ := bytes_form hxb
  obtain ⟨pl, hpl⟩ : ∃ pl, (qs.getD i []).length = pl := ⟨_, rfl⟩
  rw [hpl] at hxf
  subst hxf
  have hPl := World.block_lt_of_cell? _ _ hxi
  simp only at hPl
  obtain ⟨bs', hbs'⟩ : ∃ bs', (qs.take (i + 1)).flatten = bs' := ⟨_, rfl⟩
  have ebs := flat_succ qs i hi
  rw [hbs'] at ebs
  have hln : (qs.take i).flatten.length ≤ 1200 := Nat.le_trans (flat_le qs i) st.few.2
  have hln' : bs'.length ≤ 1200 := by rw [← hbs']; exact Nat.le_trans (flat_le qs (i + 1)) st.few.2
  have hpl2 : pl ≤ 1200 := by have : bs'.length = (qs.take i).flatten.length + pl := by rw [ebs, List.length_append, hpl]
                              omega
  have hn' : bs'.length = (qs.take i).flatten.length + pl := by rw [ebs, List.length_append, hpl]
  have hall : bs'.length ≤ qs.flatten.length := by rw [← hbs']; exact flat_le qs (i + 1)
  have hq12 : qs.length ≤ 12 := st.few.1
  -- the contracts
  have HMk : Bx (∀ W, Below w3.heap.size w3 W → W.rangeAt Tb 0 tbl ∧ W.cell? ⟨P, o + i, none⟩ = some (.slice ax pl cx) ∧ Bx (Below w3.heap.size w3 W)) := Bx.mk (fun W hb => ⟨st.rng hb, by rw [hb.cell (p := ⟨P, o + i, none⟩) hPl]; exact hxi, ⟨hb⟩⟩)
  have HAdd : Bx (∀ W, Dy w3 (qs.take i).flatten c W → Calls Tryd.prog 16 #[.pointer (some ⟨w3.heap.size, 0, none⟩), .slice (some ⟨W.heap.size, 0, none⟩) 1 1] (W.alloc (.cells #[.slice ax pl cx] 23)) fun e W' => e = .returned (.pointer (some ⟨w3.heap.size, 0, none⟩)) ∧ Bx (Dy w3 bs' c W')) := Bx.mk (fun W hd =>
    (st.add hd.below (Nat.le_refl _) hd.took hxb (by omega) (by omega)).mono fun _ _ ⟨he, ht⟩ => ⟨he, ⟨(hd.later (below_a _)).add (by rw [ebs]; exact ht)⟩⟩)
  have HSum : Bx (∀ W, Dy w3 bs' c W → Calls Tryd.prog 17 #[.pointer (some ⟨w3.heap.size, 0, none⟩)] W fun e W' => e = .returned (.agg (vs8 (sha bs')).toArray) ∧ Bx (Dy w3 bs' c W')) := Bx.mk (fun W hd =>
    (st.sum hd.below hd.took (by omega)).mono fun _ _ ⟨he, hb⟩ => ⟨he, ⟨hd.later hb⟩⟩)
  obtain ⟨nn, hnn⟩ : ∃ nn, bs'.length = nn := ⟨_, rfl⟩
  have hN6 : qs.flatten.length = N6 := by
    obtain ⟨_, _, hv, _⟩ := st.all
    injection hv with _ e _
    exact e.symm
  have HRef : Bx (∀ W, Dy w3 bs' c W → Calls Tryd.prog 12 #[.agg tbl.toArray, .slice A6 nn C6] W fun e W' => e = .returned (.agg (vs8 (sha bs')).toArray) ∧ Bx (Dy w3 bs' c W')) := Bx.mk (fun W hd => by
    have hb := (st.all.later hd.below).take nn (by omega)
    rw [← hnn, ← hbs', flat_take, hbs', hnn] at hb
    exact (st.ref hd.below hb (by omega)).mono fun _ _ ⟨he, hb⟩ => ⟨he, ⟨hd.later hb⟩⟩)
  have HLen : Bx (∀ W, Dy w3 bs' c W → Calls Tryd.prog 18 #[.pointer (some ⟨w3.heap.size, 0, none⟩)] W fun e W' => e = .returned (.int .i64 (nn : Int)) ∧ W = W') := Bx.mk (fun W hd => by
    rw [← hnn]
    exact len_any _ bs' W hd.took (by omega))
  have HCp : Bx (∀ W, Dy w3 bs' c W → Calls Tryd.prog 19 #[.pointer (some ⟨w3.heap.size, 0, none⟩)] W fun e W' => e = .returned (.pointer (some ⟨W.heap.size, 0, none⟩)) ∧ Bx (Dy w3 bs' (some (W.heap.size, bs')) W')) := Bx.mk (fun W hd =>
    (copy_any _ bs' W hd.took).mono fun _ _ ⟨he, hb, hs, ht⟩ => ⟨he, ⟨hd.below.trans (hb.mono hd.below.size), hd.took.later hb, fun p hp => by injection hp with hp; subst hp; exact ⟨hd.took.lt, ht⟩⟩⟩)
  have hcap : ∃ hh : N6 ≤ C6, A6 = none → C6 = 0 := by
    obtain ⟨_, _, hv, hc, hz, _⟩ := st.all
    injection hv with e1 e2 e3
    subst e1 e2 e3
    exact ⟨hc, hz⟩
  have s6 := fun W => cut_bytes A6 N6 C6 nn (by omega) hcap.1 hcap.2 W
  have eq1 := eqv (sha bs') (sha_length _)
  have HD := Bx.mk hdy
  have HCM := Bx.mk hcm
  have HBS := Bx.mk hbs'
  have HN := Bx.mk hn'
  have HNN := Bx.mk hnn
  have HST := Bx.mk st
  obtain ⟨x, rfl, hx⟩ := open125 h.fr
  have e1 := (hx 1).symm.trans h.s1
  have e5 := (hx 5).symm.trans h.s5
  have e6 := (hx 6).symm.trans h.s6
  have e7 := (hx 7).symm.trans h.s7
  have e8 := (hx 8).symm.trans h.s8
  have e10 := (hx 10).symm.trans h.s10
  have e12 := (hx 12).symm.trans h.s12
  have e9 := (hx 9).symm.trans hc9
  have e11 := (hx 11).symm.trans hc11
  clear h hx hc9 hc11 hcm hdy st hcell hr5 hxb hxi hall hbs' ebs hN6 hcap
  rw [e1, e5, e6, e7, e8, e9, e10, e11, e12]
  clear e1 e5 e6 e7 e8 e9 e10 e11 e12
  rw [hnn] at hln'
  clear hnn
  generalize (qs.take i).flatten.length = n0 at *
  have hn0 : IntKind.i64.wrap ((n0 : Int) + (pl : Int)) = (nn : Int) := by rw [IntWalk.i64_in _ (by omega)]; have := HN.out; have := HNN.out; omega
  generalize hk0 : clen c = k0 at *
  generalize hvc : cptr c = vc at *
  have HKC := Bx.mk (And.intro hk0 hvc)
  clear hk0 hvc
  have hg26 : Tryd.prog.eqGuardType Tryd.prog.depth 26 = false := by kernel_rfl
  obtain ⟨NQ, hNQ⟩ : ∃ NQ, qs.length = NQ := ⟨_, rfl⟩
  have HNQ := Bx.mk hNQ
  rw [hNQ] at hi hq12 ⊢
  have hi1 : (i : Int) < (NQ : Int) := by omega
  clear hNQ
  have cx1 := (HMk.out wr HD.out.below).2.1
  conv => arg 2; whnf
  go_upto_region 10 with (fail)
  clear cx1
  have HD0 : Bx (Dy w3 (qs.take i).flatten c wr.drew) := Bx.mk (HD.out.later (Below.refl _ _).drew)
  clear HD
  have hu32 := Tryd.underlying32
  have hi32 := tbl_size HST.out.is
  have np := fun W => neq_ptr ⟨w3.heap.size, 0, none⟩ W
  refine wp_region_noPanic ?_
  refine wp_region_held_drew (S := fun W => W.rangeAt Tb 0 tbl ∧ W.cell? ⟨P, o + i, none⟩ = some (.slice ax pl cx) ∧ Bx (Below w3.heap.size w3 W)) (by kernel_rfl) (HMk.out _ HD0.out.below) (fun hHeld => ?_)
  refine takeL 0 (v := ?_) rfl (by kernel_rfl) (by kernel_rfl) (by kernel_rfl) (fun _ _ _ h => h) (Or.inl ⟨by rfl, ?_⟩) hHeld ?_
  rotate_left 1
  · (intro w hSw; go_simp; try with_reducible rfl)
  try simp only [Act.put, List.setIfInBounds_toArray, List.set_cons_zero, List.set_cons_succ]
  refine takeL 1 (v := ?_) rfl (by kernel_rfl) (by kernel_rfl) (by kernel_rfl) (fun _ _ _ h => h) (Or.inl ⟨by rfl, ?_⟩) hHeld ?_
  rotate_left 1
  · (intro w hSw; go_simp; try with_reducible rfl)
  try simp only [Act.put, List.setIfInBounds_toArray, List.set_cons_zero, List.set_cons_succ]
  refine takeL 2 (v := ?_) rfl (by kernel_rfl) (by kernel_rfl) (by kernel_rfl) (fun _ _ _ h => h) (Or.inl ⟨by rfl, ?_⟩) hHeld ?_
  rotate_left 1
  · (intro w hSw; (try dsimp only at hSw); obtain ⟨hS1, hS2, hS3⟩ := hSw; go_simp; try with_reducible rfl)
  try simp only [Act.put, List.setIfInBounds_toArray, List.set_cons_zero, List.set_cons_succ]
  refine takeL 3 (v := ?_) rfl (by kernel_rfl) (by kernel_rfl) (by kernel_rfl) (fun _ _ _ h => h) (Or.inl ⟨by rfl, ?_⟩) hHeld ?_
  rotate_left 1
  · (intro w hSw; (try dsimp only at hSw); obtain ⟨hS1, hS2, hS3⟩ := hSw; go_simp; try with_reducible rfl)
  try simp only [Act.put, List.setIfInBounds_toArray, List.set_cons_zero, List.set_cons_succ]
  refine stepL 4 (by kernel_rfl) rfl (fun K hK => ?_)
  go_simp
  refine hK.out _ _ (HMk.out _ (HD0.out.later (below_a _)).below) (fun hHeld => ?_)
  clear hK K
  try simp only [Act.put, List.setIfInBounds_toArray, List.set_cons_zero, List.set_cons_succ]
  refine stepL 5 (by kernel_rfl) rfl (fun K hK => ?_)
  go_simp
  refine (HAdd.out _ HD0.out).mono ?_
  rintro e W1 ⟨rfl, hd⟩
  show K _ _
  refine hK.out _ _ (HMk.out _ hd.out.below) (fun hHeld => ?_)
  clear hK K
  try simp only [Act.put, List.setIfInBounds_toArray, List.set_cons_zero, List.set_cons_succ]
  refine takeL 6 (v := ?_) rfl (by kernel_rfl) (by kernel_rfl) (by kernel_rfl) (fun _ _ _ h => h) (Or.inl ⟨by rfl, ?_⟩) hHeld ?_
  rotate_left 1
  · (intro w hSw; go_simp; try with_reducible rfl)
  try simp only [Act.put, List.setIfInBounds_toArray, List.set_cons_zero, List.set_cons_succ]
  refine takeL 7 (v := ?_) rfl (by kernel_rfl) (by kernel_rfl) (by kernel_rfl) (fun _ _ _ h => h) (Or.inl ⟨by rfl, ?_⟩) hHeld ?_
  rotate_left 1
  · (intro w hSw; go_simp; try with_reducible rfl)
  try simp only [Act.put, List.setIfInBounds_toArray, List.set_cons_zero, List.set_cons_succ]
  refine takeL 9 rfl (by kernel_rfl) (by kernel_rfl) (by kernel_rfl) (fun _ _ _ h => h) (yieldsIf_load_mid (by rfl) _ _ rfl _ _ rfl _ _ (fun w hSw => hSw.1) hu32 rfl hi32) hHeld ?_
  try simp only [Act.put, List.setIfInBounds_toArray, List.set_cons_zero, List.set_cons_succ]
  refine takeL 10 (v := ?_) rfl (by kernel_rfl) (by kernel_rfl) (by kernel_rfl) (fun _ _ _ h => h) (Or.inl ⟨by rfl, ?_⟩) hHeld ?_
  rotate_left 1
  · (intro w hSw; go_simp; try with_reducible rfl)
  try simp only [Act.put, List.setIfInBounds_toArray, List.set_cons_zero, List.set_cons_succ]
  refine takeL 11 (v := ?_) rfl (by kernel_rfl) (by kernel_rfl) (by kernel_rfl) (fun _ _ _ h => h) (Or.inl ⟨by rfl, ?_⟩) hHeld ?_
  rotate_left 1
  · (intro w hSw; go_simp; try with_reducible rfl)
  try simp only [Act.put, List.setIfInBounds_toArray, List.set_cons_zero, List.set_cons_succ]
  refine takeL 12 (v := ?_) rfl (by kernel_rfl) (by kernel_rfl) (by kernel_rfl) (fun _ _ _ h => h) (Or.inl ⟨by rfl, ?_⟩) hHeld ?_
  rotate_left 1
  · (intro w hSw; (try dsimp only at hSw); obtain ⟨hS1, hS2, hS3⟩ := hSw; go_simp; try with_reducible rfl)
  try simp only [Act.put, List.setIfInBounds_toArray, List.set_cons_zero, List.set_cons_succ]
  refine stepL 8 (by kernel_rfl) rfl (fun K hK => ?_)
  go_simp
  refine (HSum.out _ hd.out).mono ?_
  rintro e W2 ⟨rfl, hd2⟩
  show K _ _
  refine hK.out _ _ (HMk.out _ hd2.out.below) (fun hHeld => ?_)
  clear hK K
  try simp only [Act.put, List.setIfInBounds_toArray, List.set_cons_zero, List.set_cons_succ]
  refine stepL 13 (by kernel_rfl) rfl (fun K hK => ?_)
  go_simp
  refine (HRef.out _ hd2.out).mono ?_
  rintro e W3 ⟨rfl, hd3⟩
  show K _ _
  refine hK.out _ _ (HMk.out _ hd3.out.below) (fun hHeld => ?_)
  clear hK K
  try simp only [Act.put, List.setIfInBounds_toArray, List.set_cons_zero, List.set_cons_succ]
  refine takeL 14 (v := ?_) rfl (by kernel_rfl) (by kernel_rfl) (by kernel_rfl) (fun _ _ _ h => h) (Or.inl ⟨by rfl, ?_⟩) hHeld ?_
  rotate_left 1
  · (intro w hSw; go_simp; try with_reducible rfl)
  try simp only [Act.put, List.setIfInBounds_toArray, List.set_cons_zero, List.set_cons_succ]
  refine takeL 15 (v := ?_) rfl (by kernel_rfl) (by kernel_rfl) (by kernel_rfl) (fun _ _ _ h => h) (Or.inl ⟨by rfl, ?_⟩) hHeld ?_
  rotate_left 1
  · (intro w hSw; go_simp; try with_reducible rfl)
  try simp only [Act.put, List.setIfInBounds_toArray, List.set_cons_zero, List.set_cons_succ]
  refine takeL 16 (v := ?_) rfl (by kernel_rfl) (by kernel_rfl) (by kernel_rfl) (fun _ _ _ h => h) (Or.inl ⟨by rfl, ?_⟩) hHeld ?_
  rotate_left 1
  · (intro w hSw; go_simp; try with_reducible rfl)
  try simp only [Act.put, List.setIfInBounds_toArray, List.set_cons_zero, List.set_cons_succ]
  refine takeL 18 (v := ?_) rfl (by kernel_rfl) (by kernel_rfl) (by kernel_rfl) (fun _ _ _ h => h) (Or.inl ⟨by rfl, ?_⟩) hHeld ?_
  rotate_left 1
  · (intro w hSw; go_simp; try with_reducible rfl)
  try simp only [Act.put, List.setIfInBounds_toArray, List.set_cons_zero, List.set_cons_succ]
  refine stepL 17 (by kernel_rfl) rfl (fun K hK => ?_)
  go_simp
  refine (HLen.out _ hd3.out).mono ?_
  rintro e W4 ⟨rfl, rfl⟩
  show K _ _
  refine hK.out _ _ (HMk.out _ hd3.out.below) (fun hHeld => ?_)
  clear hK K
  try simp only [Act.put, List.setIfInBounds_toArray, List.set_cons_zero, List.set_cons_succ]
  refine takeL 19 (v := ?_) rfl (by kernel_rfl) (by kernel_rfl) (by kernel_rfl) (fun _ _ _ h => h) (Or.inl ⟨by rfl, ?_⟩) hHeld ?_
  rotate_left 1
  · (intro w hSw; go_simp; try with_reducible rfl)
  try simp only [Act.put, List.setIfInBounds_toArray, List.set_cons_zero, List.set_cons_succ]
  refine takeL 20 (v := ?_) rfl (by kernel_rfl) (by kernel_rfl) (by kernel_rfl) (fun _ _ _ h => h) (Or.inl ⟨by rfl, ?_⟩) hHeld ?_
  rotate_left 1
  · (intro w hSw; go_simp; try with_reducible rfl)
  try simp only [Act.put, List.setIfInBounds_toArray, List.set_cons_zero, List.set_cons_succ]
  refine wpAnyH_done (by kernel_rfl) ?_ _
  try refine NoPanic.normal ?_
  clear hHeld hd hd2 HD0 HAdd HSum HRef HLen HMk s6 eq1 np hg26 hu32 hi32
  by_cases hat : at0 = (i : Int)
  · have t1 : ((i : Int) == at0) = true := by rw [hat]; simp
    clear hat
    go_wp2_with (go_at_call 19; refine (HCp.out _ hd3.out).mono ?_; rintro e W5 ⟨rfl, hd5⟩)
    exact ⟨⟨rfl, rfl⟩, rfl, rfl, rfl, rfl, rfl, by rw [HBS.out, HNN.out]; rfl, by go_num, some (_, bs'), rfl, by show Value.int .i64 (nn : Int) = .int .i64 ((bs'.length : Nat) : Int); rw [HNN.out], fun p hp => ⟨i + 1, by injection hp with hp; subst hp; exact HBS.out.symm⟩, by rw [HBS.out]; exact hd5.out⟩
  · have t1 : ((i : Int) == at0) = false := by simp; omega
    clear hat
    go_wp2
    exact ⟨⟨rfl, rfl⟩, rfl, rfl, rfl, rfl, rfl, by rw [HBS.out, HNN.out]; rfl, by go_num, c, by rw [HKC.out.2]; rfl, by rw [HKC.out.1]; rfl, HCM.out, by rw [HBS.out]; exact hd3.out⟩
set_option maxRecDepth 100000 in
theorem lastR (w3 : World) (Tb : Nat) (tbl : List Value) (A5 A6 : Option Addr) (N5 C5 N6 C6 : Nat) (qs : List (List UInt8)) (at0 : Int) (hN : N5 = qs.length) (hq : qs.length ≤ 12) (Q : Exit → Act → World → Prop) (N : Act → World → Prop)
    (hQ : ∀ a' w', IR w3 Tb tbl A5 A6 N5 C5 N6 C6 qs at0 qs.length a' w' → Q (.exit 0) a' w') (a : Act) (wr : World) (h : IR w3 Tb tbl A5 A6 N5 C5 N6 C6 qs at0 qs.length a wr) :
    Code.wp Tryd.prog (loopAt Tryd.f4.body 0) (Exit.then N Q) a wr := by
  obtain ⟨c, hc9, hc11, hcm, hdy⟩ := h.c
  have HC := Bx.mk (And.intro hcm hdy)
  have HQ := Bx.mk hQ
  clear hQ hcm hdy
  obtain ⟨x, rfl, hx⟩ := open125 h.fr
  have e1 := (hx 1).symm.trans h.s1
  have e5 := (hx 5).symm.trans h.s5
  have e6 := (hx 6).symm.trans h.s6
  have e7 := (hx 7).symm.trans h.s7
  have e8 := (hx 8).symm.trans h.s8
  have e10 := (hx 10).symm.trans h.s10
  have e12 := (hx 12).symm.trans h.s12
  have e9 := (hx 9).symm.trans hc9
  have e11 := (hx 11).symm.trans hc11
  clear h hx hc9 hc11
  rw [e1, e5, e6, e7, e8, e9, e10, e11, e12]
  clear e1 e5 e6 e7 e8 e9 e10 e11 e12
  obtain ⟨NQ, hNQ⟩ : ∃ NQ, qs.length = NQ := ⟨_, rfl⟩
  have HNQ := Bx.mk hNQ
  rw [hNQ] at hq hN ⊢
  subst hN
  clear hNQ
  have hq1 : (N5 : Int) ≤ 12 := by omega
  generalize hn0 : (qs.take N5).flatten.length = n0
  have HN0 := Bx.mk hn0
  clear hn0
  generalize hk0 : clen c = k0
  generalize hvc : cptr c = vc
  have HKC := Bx.mk (And.intro hk0 hvc)
  clear hk0 hvc
  conv => arg 2; whnf
  go_wp2
  exact HQ.out _ _ ⟨⟨rfl, rfl⟩, rfl, rfl, rfl, rfl, rfl, by rw [HNQ.out, HN0.out]; rfl, by rw [HNQ.out]; rfl, c, by rw [HKC.out.2]; rfl, by rw [HKC.out.1]; rfl, HC.out⟩
theorem loopR (w3 : World) (Tb : Nat) (tbl : List Value) (A5 A6 : Option Addr) (N5 C5 N6 C6 : Nat) (qs : List (List UInt8)) (at0 : Int) (st : Stt w3 Tb tbl (.slice A5 N5 C5) (.slice A6 N6 C6) qs) (Q : Exit → Act → World → Prop)
    (a : Act) (wr : World) (h : IR w3 Tb tbl A5 A6 N5 C5 N6 C6 qs at0 0 a wr) (hQ : ∀ a' w', IR w3 Tb tbl A5 A6 N5 C5 N6 C6 qs at0 qs.length a' w' → Q (.exit 0) a' w') :
    Code.wp Tryd.prog (.loop (loopAt Tryd.f4.body 0)) Q a wr :=
  wp_count qs.length (fun i => IR w3 Tb tbl A5 A6 N5 C5 N6 C6 qs at0 i) 0 (by omega) h (fun i a w hlt hI => roundR w3 Tb tbl A5 A6 N5 C5 N6 C6 qs at0 st Q i hlt a w hI)
    (fun a w hI => lastR w3 Tb tbl A5 A6 N5 C5 N6 C6 qs at0 (by obtain ⟨_, _, hv, _⟩ := st.parts; injection hv with _ e _) st.few.1 Q _ hQ a w hI)
end Go.Proofs.YtkfgpnigeknhmaaDoor
