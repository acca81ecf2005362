/-
  What is framed tells its parts apart; the loop of the statement on frames.
-/
import Derived.Test.YtkfgpnigeknhmaaDoorMe
import Derived.Test.YtkfgpnigeknhmaaDoorMg
import Derived.Test.YtkfgpnigeknhmaaDoorMk
namespace Go.Proofs.YtkfgpnigeknhmaaDoor
open Go Go.RowKit
theorem lenB_inj {n m : Nat} (hn : n < 4294967296) (hm : m < 4294967296) (h : lenB n = lenB m) : n = m := by
  unfold lenB four at h
  simp only [List.cons.injEq, and_true] at h
  obtain ⟨h3, h2, h1, h0⟩ := h
  have e3 := congrArg UInt8.toNat h3
  have e2 := congrArg UInt8.toNat h2
  have e1 := congrArg UInt8.toNat h1
  have e0 := congrArg UInt8.toNat h0
  rw [byteOf_toNat, byteOf_toNat, BitVec.toNat_ofNat, BitVec.toNat_ofNat] at e3 e2 e1 e0
  simp only [Nat.reduceMul, Nat.reducePow, Nat.pow_zero, Nat.div_one, Nat.mul_zero] at e3 e2 e1 e0
  omega
theorem frame_inj : ∀ (ps qs : List (List UInt8)), (∀ p ∈ ps, p.length < 4294967296) → (∀ q ∈ qs, q.length < 4294967296) → frame ps = frame qs → ps = qs
  | [], [], _, _, _ => rfl
  | [], q :: qs, _, _, h => by
    have := congrArg List.length h
    rw [frame_cons, List.length_append] at this
    have h4 : (lenB q.length).length = 4 := rfl
    rw [h4] at this
    simp [frame, framed] at this <;> omega
  | p :: ps, [], _, _, h => by
    have := congrArg List.length h
    rw [frame_cons, List.length_append] at this
    have h4 : (lenB p.length).length = 4 := rfl
    rw [h4] at this
    simp [frame, framed] at this <;> omega
  | p :: ps, q :: qs, hp, hq, h => by
    rw [frame_cons, frame_cons] at h
    obtain ⟨h1, h2⟩ := List.append_inj h rfl
    have hl := lenB_inj (hp p (by simp)) (hq q (by simp)) h1
    obtain ⟨h3, h4⟩ := List.append_inj h2 hl
    rw [h3, frame_inj ps qs (fun r hr => hp r (by simp [hr])) (fun r hr => hq r (by simp [hr])) h4]
/-- Whether labels and parts are the same, as far as k. -/
def smTo (a b : List UInt8) (xs ys : List (List UInt8)) (k : Nat) : Bool := decide (a = b ∧ xs.length = ys.length ∧ xs.take k = ys.take k)
theorem smTo_succ (a b : List UInt8) (xs ys : List (List UInt8)) (k : Nat) (h : smTo a b xs ys k = true) (hk : k < xs.length) : smTo a b xs ys (k + 1) = decide (xs.getD k [] = ys.getD k []) := by
  unfold smTo at h ⊢
  simp only [decide_eq_true_eq] at h
  obtain ⟨h1, h2, h3⟩ := h
  have hy : k < ys.length := by omega
  rw [List.take_succ_eq_append_getElem hk, List.take_succ_eq_append_getElem hy, h3]
  have e1 : xs.getD k [] = xs[k] := by simp [hk]
  have e2 : ys.getD k [] = ys[k] := by simp [hy]
  rw [e1, e2, Bool.eq_iff_iff]
  simp only [decide_eq_true_eq]
  constructor
  · rintro ⟨_, _, h⟩
    have h' := List.append_cancel_left h
    injection h'
  · intro h
    exact ⟨h1, h2, by rw [h]⟩
theorem smTo_end (a b : List UInt8) (xs ys : List (List UInt8)) (k : Nat) (h : smTo a b xs ys k = false ∨ xs.length ≤ k) : smTo a b xs ys k = decide (a :: xs = b :: ys) := by
  unfold smTo at h ⊢
  rw [Bool.eq_iff_iff]
  simp only [decide_eq_true_eq, List.cons.injEq]
  constructor
  · rintro ⟨h1, h2, h3⟩
    rcases h with h | h
    · simp [h1, h2, h3] at h
    · rw [List.take_of_length_le h, List.take_of_length_le (by omega)] at h3
      exact ⟨h1, h3⟩
  · rintro ⟨rfl, rfl⟩
    exact ⟨rfl, rfl, rfl⟩
set_option maxRecDepth 100000 in
theorem open113 {a : Act} (h : Fr 113 a) : ∃ x : Nat → Value, a = ⟨List.toArray (x 0 :: x 1 :: x 2 :: x 3 :: x 4 :: x 5 :: x 6 :: x 7 :: x 8 :: x 9 :: x 10 :: x 11 :: x 12 :: x 13 :: x 14 :: x 15 :: x 16 :: x 17 :: x 18 :: x 19 :: x 20 :: x 21 :: x 22 :: x 23 :: x 24 :: x 25 :: x 26 :: x 27 :: x 28 :: x 29 :: x 30 :: x 31 :: x 32 :: x 33 :: x 34 :: x 35 :: x 36 :: x 37 :: x 38 :: x 39 :: x 40 :: x 41 :: x 42 :: x 43 :: x 44 :: x 45 :: x 46 :: x 47 :: x 48 :: x 49 :: x 50 :: x 51 :: x 52 :: x 53 :: x 54 :: x 55 :: x 56 :: x 57 :: x 58 :: x 59 :: x 60 :: x 61 :: x 62 :: x 63 :: x 64 :: x 65 :: x 66 :: x 67 :: x 68 :: x 69 :: x 70 :: x 71 :: x 72 :: x 73 :: x 74 :: x 75 :: x 76 :: x 77 :: x 78 :: x 79 :: x 80 :: x 81 :: x 82 :: x 83 :: x 84 :: x 85 :: x 86 :: x 87 :: x 88 :: x 89 :: x 90 :: x 91 :: x 92 :: x 93 :: x 94 :: x 95 :: x 96 :: x 97 :: x 98 :: x 99 :: x 100 :: x 101 :: x 102 :: x 103 :: x 104 :: x 105 :: x 106 :: x 107 :: x 108 :: x 109 :: x 110 :: x 111 :: x 112 :: []), []⟩ ∧ ∀ i, a.eval (.tmp i) = x i := ⟨fun i => a.tmps.getD i undef, h.form, fun _ => rfl⟩
/-- What stays. -/
structure FL (v0 v1 v2 vx vy : Value) (a : Act) : Prop where
  fr : Fr 113 a
  s0 : a.eval (.tmp 0) = v0
  s1 : a.eval (.tmp 1) = v1
  s2 : a.eval (.tmp 2) = v2
  s11 : a.eval (.tmp 11) = vx
  s13 : a.eval (.tmp 13) = vy
structure IFm (v0 v1 v2 vx vy : Value) (w4 : World) (sa sb : List UInt8) (xs ys : List (List UInt8)) (k : Nat) (a : Act) (wr : World) : Prop where
  fl : FL v0 v1 v2 vx vy a
  s15 : a.eval (.tmp 15) = .bool (smTo sa sb xs ys k)
  s16 : a.eval (.tmp 16) = .int .i64 (k : Int)
  w : ∃ q, wr = w4.drewN q
set_option maxRecDepth 100000 in
set_option maxHeartbeats 1000000 in
theorem roundFm (v0 v1 v2 : Value) (ax ay : Option Addr) (nx cx ny cy : Nat) (w4 : World) (sa sb : List UInt8) (xs ys : List (List UInt8)) (hx : Parts w4 (.slice ax nx cx) xs) (hy : Parts w4 (.slice ay ny cy) ys) (hl : xs.length ≤ 8) (hpx : ∀ p ∈ xs, p.length ≤ 60) (hpy : ∀ p ∈ ys, p.length ≤ 60) (Q : Exit → Act → World → Prop)
    (k : Nat) (hk : smTo sa sb xs ys k = true) (hkl : k < xs.length) (a : Act) (wr : World) (h : IFm v0 v1 v2 (.slice ax nx cx) (.slice ay ny cy) w4 sa sb xs ys k a wr) :
    Code.wp Tryd.prog (loopAt Tryd.f10.body 0) (Exit.then (fun a' w' => IFm v0 v1 v2 (.slice ax nx cx) (.slice ay ny cy) w4 sa sb xs ys (k + 1) a' w') Q) a wr := by
  obtain ⟨qn, rfl⟩ := h.w
  have hyl : xs.length = ys.length := by unfold smTo at hk; simp only [decide_eq_true_eq] at hk; exact hk.2.1
  have HS := Bx.mk (smTo_succ sa sb xs ys k hk hkl)
  obtain ⟨a1, c1, hv1, hr1⟩ := hx
  injection hv1 with p1 p2 p3
  obtain ⟨g1, o1, ha1, hc1⟩ := hr1 (by omega)
  subst p1 p2 p3
  subst ha1
  obtain ⟨x1, hx1, hb1⟩ := hc1 k hkl
  obtain ⟨a2, c2, hv2, hr2⟩ := hy
  injection hv2 with p1 p2 p3
  obtain ⟨g2, o2, ha2, hc2⟩ := hr2 (by omega)
  subst p1 p2 p3
  subst ha2
  obtain ⟨x2, hx2, hb2⟩ := hc2 k (by omega)
  have hlen1 : (xs.getD k []).length ≤ 60 := by
    have hm : xs.getD k [] ∈ xs := by rw [List.getD_eq_getElem?_getD, List.getElem?_eq_getElem hkl]; exact List.getElem_mem hkl
    exact hpx _ hm
  have hlen2 : (ys.getD k []).length ≤ 60 := by
    have hk2 : k < ys.length := by omega
    have hm : ys.getD k [] ∈ ys := by rw [List.getD_eq_getElem?_getD, List.getElem?_eq_getElem hk2]; exact List.getElem_mem hk2
    exact hpy _ hm
  have HC : Bx (∀ W n, W = w4.drewN n → Calls Tryd.prog 24 #[x1, x2] W fun e w' => e = .returned (.bool (decide (xs.getD k [] = ys.getD k []))) ∧ ∃ m, w' = W.drewN m) := Bx.mk (fun W n hW => by
    subst hW
    exact same_any _ _ x1 x2 _ hb1 hb2 (by omega) (by omega))
  have HD := Bx.mk hk
  have e0 := h.fl.s0
  obtain ⟨x, rfl, hx⟩ := open113 h.fl.fr
  have e0 := (hx 0).symm.trans h.fl.s0
  have e1 := (hx 1).symm.trans h.fl.s1
  have e2 := (hx 2).symm.trans h.fl.s2
  have e11 := (hx 11).symm.trans h.fl.s11
  have e13 := (hx 13).symm.trans h.fl.s13
  have e15 := (hx 15).symm.trans h.s15
  have e16 := (hx 16).symm.trans h.s16
  rw [hk] at e15
  clear h hx hr1 hr2 hc1 hc2 hb1 hb2 hk
  rw [e0, e1, e2, e11, e13, e15, e16]
  clear e0 e1 e2 e11 e13 e15 e16
  generalize decide (xs.getD k [] = ys.getD k []) = d at *
  obtain ⟨nx, hnx⟩ : ∃ n, xs.length = n := ⟨_, rfl⟩
  obtain ⟨ny, hny⟩ : ∃ n, ys.length = n := ⟨_, rfl⟩
  rw [hnx] at hkl hl hyl ⊢
  rw [hny] at hyl ⊢
  have HNN := Bx.mk (And.intro hnx hny)
  clear hnx hny
  have hk1 : (k : Int) < (nx : Int) := by omega
  have hk2 : (k : Int) < (ny : Int) := by omega
  have hx3 : (w4.drewN qn).cell? ⟨g1, o1 + k, none⟩ = some x1 := hx1
  have hx4 : (w4.drewN qn).cell? ⟨g2, o2 + k, none⟩ = some x2 := hx2
  conv => arg 2; whnf
  go_wp2
  go_big_quiet ((go_at_call 24; first | (with_reducible exact Calls.quiet_of (HC.out _ _ rfl)) | (with_reducible exact qz (HC.out _ _ rfl))))
  go_wp2
  exact ⟨⟨⟨rfl, rfl⟩, rfl, rfl, rfl, rfl, rfl⟩, by rw [HS.out]; rfl, by go_num, ⟨_, by first | rfl | exact World.drewN_drewN _ _ _⟩⟩
set_option maxRecDepth 100000 in
set_option maxHeartbeats 1000000 in
theorem lastFm (v0 v1 v2 : Value) (ax ay : Option Addr) (nx cx ny cy : Nat) (w4 : World) (sa sb : List UInt8) (xs ys : List (List UInt8)) (hnx : xs.length = nx) (hl : nx ≤ 8) (Q : Exit → Act → World → Prop) (N : Act → World → Prop)
    (k : Nat) (hk : smTo sa sb xs ys k = false ∨ xs.length ≤ k) (hk8 : k ≤ 8)
    (hq : ∀ a' w', FL v0 v1 v2 (.slice ax nx cx) (.slice ay ny cy) a' → a'.eval (.tmp 15) = .bool (decide (sa :: xs = sb :: ys)) → (∃ q, w' = w4.drewN q) → Q (.exit 0) a' w') (a : Act) (wr : World) (h : IFm v0 v1 v2 (.slice ax nx cx) (.slice ay ny cy) w4 sa sb xs ys k a wr) :
    Code.wp Tryd.prog (loopAt Tryd.f10.body 0) (Exit.then N Q) a wr := by
  have HW := Bx.mk h.w
  have HQ := Bx.mk hq
  have HE := Bx.mk (smTo_end sa sb xs ys k hk)
  clear hq
  obtain ⟨x, rfl, hx⟩ := open113 h.fl.fr
  have e0 := (hx 0).symm.trans h.fl.s0
  have e1 := (hx 1).symm.trans h.fl.s1
  have e2 := (hx 2).symm.trans h.fl.s2
  have e11 := (hx 11).symm.trans h.fl.s11
  have e13 := (hx 13).symm.trans h.fl.s13
  have e15 := (hx 15).symm.trans h.s15
  have e16 := (hx 16).symm.trans h.s16
  clear h hx
  rw [e0, e1, e2, e11, e13, e15, e16]
  clear e0 e1 e2 e11 e13 e15 e16
  have hk1 : (k : Int) ≤ 8 := by omega
  cases hb : smTo sa sb xs ys k with
  | false =>
    rw [hb] at HE
    clear hb hk
    conv => arg 2; whnf
    go_wp2
    exact HQ.out _ _ ⟨⟨rfl, rfl⟩, rfl, rfl, rfl, rfl, rfl⟩ (by rw [← HE.out]; rfl) HW.out
  | true =>
    have hge : ¬ (k : Int) < (nx : Int) := by
      rcases hk with h | h
      · rw [hb] at h; cases h
      · omega
    rw [hb] at HE
    clear hb hk
    conv => arg 2; whnf
    go_wp2
    exact HQ.out _ _ ⟨⟨rfl, rfl⟩, rfl, rfl, rfl, rfl, rfl⟩ (by rw [← HE.out]; rfl) HW.out
theorem loopFm (v0 v1 v2 : Value) (ax ay : Option Addr) (nx cx ny cy : Nat) (w4 : World) (sa sb : List UInt8) (xs ys : List (List UInt8)) (hx : Parts w4 (.slice ax nx cx) xs) (hy : Parts w4 (.slice ay ny cy) ys) (hl : xs.length ≤ 8) (hpx : ∀ p ∈ xs, p.length ≤ 60) (hpy : ∀ p ∈ ys, p.length ≤ 60) (Q : Exit → Act → World → Prop)
    (a : Act) (wr : World) (h : IFm v0 v1 v2 (.slice ax nx cx) (.slice ay ny cy) w4 sa sb xs ys 0 a wr)
    (hq : ∀ a' w', FL v0 v1 v2 (.slice ax nx cx) (.slice ay ny cy) a' → a'.eval (.tmp 15) = .bool (decide (sa :: xs = sb :: ys)) → (∃ q, w' = w4.drewN q) → Q (.exit 0) a' w') :
    Code.wp Tryd.prog (.loop (loopAt Tryd.f10.body 0)) Q a wr := by
  have hnx : xs.length = nx := by obtain ⟨_, _, hv, _⟩ := hx; injection hv with _ e _; exact e.symm
  refine wp_loop_ghost (fun m a w => ∃ k, k ≤ xs.length ∧ m = xs.length - k ∧ IFm v0 v1 v2 (.slice ax nx cx) (.slice ay ny cy) w4 sa sb xs ys k a w) (xs.length - 0) ⟨0, by omega, rfl, h⟩ ?_
  rintro m a w ⟨k, hk, rfl, hI⟩
  by_cases hc : smTo sa sb xs ys k = true ∧ k < xs.length
  · refine wp_mono (roundFm v0 v1 v2 ax ay nx cx ny cy w4 sa sb xs ys hx hy hl hpx hpy Q k hc.1 hc.2 a w hI) ?_
    rintro (_ | _ | _ | _ | _ | _) a' w' hq'
    case normal => exact ⟨xs.length - (k + 1), by omega, k + 1, by omega, rfl, hq'⟩
    all_goals exact hq'
  · exact lastFm v0 v1 v2 ax ay nx cx ny cy w4 sa sb xs ys hnx (by omega) Q _ k (by
      cases hb : smTo sa sb xs ys k with
      | false => exact .inl rfl
      | true => right; rw [hb] at hc; simp at hc; exact hc) (by omega) hq a w hI
theorem cutR_len (pss : List (List UInt8)) : ∀ p ∈ cutQ pss, p.length ≤ 60 := by
  intro p hp
  unfold cutQ at hp
  obtain ⟨q, _, rfl⟩ := List.mem_map.1 hp
  rw [List.length_take]
  omega
theorem cutR_few (pss : List (List UInt8)) : (cutQ pss).length ≤ 8 := by
  unfold cutQ
  rw [List.length_map, List.length_take]
  omega
/-- What stays all through. -/
structure FS (w : World) (v0 vx vy : Value) (key : List UInt8) (xs ys : List (List UInt8)) (W : World) : Prop where
  below : Below w.heap.size w W
  tab : Tab W
  key : Bytes W v0 key
  px : Parts W vx xs
  py : Parts W vy ys
  rx : PartsR W vx xs
  ry : PartsR W vy ys
theorem FS.later {w W W1 : World} {v0 vx vy : Value} {key : List UInt8} {xs ys : List (List UInt8)} (h : FS w v0 vx vy key xs ys W) (hg : 0 < w.heap.size) (hb : Below W.heap.size W W1) : FS w v0 vx vy key xs ys W1 :=
  ⟨h.below.trans (hb.mono h.below.size), h.tab.later hb (Nat.lt_of_lt_of_le hg h.below.size), h.key.later hb, h.px.later hb, h.py.later hb, h.rx.later hb, h.ry.later hb⟩
theorem wpList_apPl {w : World} {ops : Array Oper} {rest : List Oper} {o : Oper} {a : Act} {Q : Exit → Act → World → Prop} (hgd : o.guard = none) (s x : Operand)
    (ho : o.op = .call { callee := .builtin .append, args := #[s, x], argTypes := #[22, 22] }) (base : Nat) (v : Value) (xs : List Value) (hs : a.eval s = v) (hown : OwnP w base v xs) (xv : Value) (ys : List Value) (hx : a.eval x = xv) (hr : RowP w xv ys) (hy : ∀ u ∈ ys, u.oneCell' = true)
    (hn : xs.length + ys.length ≤ 10000) (hbase : base ≤ w.heap.size)
    (h : ∀ v' w', OwnP w' base v' (xs ++ ys) → w.grownBy w' v.ownBlock → wpList Tryd.prog ops Q rest (a.put o.dst v') w') : wpList Tryd.prog ops Q (o :: rest) a w := by
  refine wpList_plain hgd fun K hK => ?_
  obtain ⟨v', w', hrun, h1, h2⟩ := run_apP w base v xs hown xv ys hr hy hn hbase o.type
  unfold Oper.wp
  simp [execOp, ho, resolve, invoke, builtin, hs, hx, hrun, Result.andThen]
  exact hK _ _ (h v' w' h1 h2)
theorem own_one (W : World) (y : Value) : OwnP (W.alloc (.cells #[y] 23)) W.heap.size (.slice (some ⟨W.heap.size, 0, none⟩) 1 1) [y] := ⟨rfl, .inr ⟨W.heap.size, 1, _, rfl, Nat.le_refl _, hnew _ _ _ rfl, Nat.le_refl _, by unfold maxLen; omega, rfl, rfl⟩⟩
theorem consM {P : Program} {ops : Array Oper} {Q : Exit → Act → World → Prop} {md : Region.Mode} {S : World → Prop} {fuel : Nat} {listed : Array Bool} {a : Act} {w : World} (i : Nat) {o : Oper} {rs : List Nat} (ho : ops.toList[i]? = some o)
    (h : ∀ K' : Act → World → Prop, Shut (∀ a w, S w → (S w → wpAnyH P md ops Q S fuel (listed.setIfInBounds i true) a w) → K' a w) → if Region.wanted o (yielded ops a.tmps) = true then Oper.wp P o a w K' Q else K' (a.put o.dst undef) w)
    (hs : AllReadyH P md ops Q S fuel listed a w rs) : AllReadyH P md ops Q S fuel listed a w (i :: rs) := AllReadyH.cons (by rw [← Array.getElem?_toList]; exact ho) h hs
set_option maxRecDepth 100000 in
set_option maxHeartbeats 4000000 in
theorem reg11 (w : World) (a ax ay af ag : Option Addr) (m cap nx cx ny cy nf cf ng cg : Nat) (x sa sb : List UInt8) (xs ys : List (List UInt8)) (hg : 0 < w.heap.size) (hxl : x.length ≤ 70) (hal : sa.length ≤ 60) (hbl : sb.length ≤ 60) (hxs : xs.length ≤ 8) (hys : ys.length ≤ 8) (hpx : ∀ p ∈ xs, p.length ≤ 60) (hpy : ∀ p ∈ ys, p.length ≤ 60)
    (W4 : World) (hF : FS w (.slice a m cap) (.slice ax nx cx) (.slice ay ny cy) x xs ys W4) (hf : Bytes W4 (.slice af nf cf) (frame (sa :: xs))) (hgb : Bytes W4 (.slice ag ng cg) (frame (sb :: ys))) (Q : Exit → Act → World → Prop) (fa : Act) (h : FL (.slice a m cap) (.string ⟨sa.toArray⟩) (.string ⟨sb.toArray⟩) (.slice ax nx cx) (.slice ay ny cy) fa)
    (h15 : fa.eval (.tmp 15) = .bool (decide (sa :: xs = sb :: ys))) (h17 : fa.eval (.tmp 17) = (.slice af nf cf)) (h18 : fa.eval (.tmp 18) = (.slice ag ng cg))
    (hQ : ∀ a' W', Fr 113 a' → a'.eval (.tmp 10) = .bool true → Below w.heap.size w W' → Q .normal a' W') :
    Code.wp Tryd.prog (regionAt Tryd.f10.body 11) Q fa W4 := by
  have hlF : (frame (sa :: xs)).length ≤ 10000 := by
    have h2 := frame_len (sa :: xs) 60 (fun p hp => by rcases List.mem_cons.1 hp with rfl | hp; exact hal; exact hpx p hp)
    rw [List.length_cons] at h2
    omega
  have hlG : (frame (sb :: ys)).length ≤ 10000 := by
    have h2 := frame_len (sb :: ys) 60 (fun p hp => by rcases List.mem_cons.1 hp with rfl | hp; exact hbl; exact hpy p hp)
    rw [List.length_cons] at h2
    omega
  have hsm : decide (frame (sa :: xs) = frame (sb :: ys)) = decide (sa :: xs = sb :: ys) := by
    rw [Bool.eq_iff_iff]
    simp only [decide_eq_true_eq]
    refine ⟨fun h => frame_inj _ _ ?_ ?_ h, fun h => by rw [h]⟩
    · intro p hp; rcases List.mem_cons.1 hp with rfl | hp
      · omega
      · have := hpx p hp; omega
    · intro p hp; rcases List.mem_cons.1 hp with rfl | hp
      · omega
      · have := hpy p hp; omega
  have hS0 : Bx (FS w (.slice a m cap) (.slice ax nx cx) (.slice ay ny cy) x xs ys W4.drew ∧ Bytes W4.drew (.slice af nf cf) (frame (sa :: xs)) ∧ Bytes W4.drew (.slice ag ng cg) (frame (sb :: ys))) := Bx.mk ⟨hF.later hg (Below.refl _ _).drew, hf.later (Below.refl _ _).drew, hgb.later (Below.refl _ _).drew⟩
  have HLt : Bx (∀ {W W' : World}, (FS w (.slice a m cap) (.slice ax nx cx) (.slice ay ny cy) x xs ys W ∧ Bytes W (.slice af nf cf) (frame (sa :: xs)) ∧ Bytes W (.slice ag ng cg) (frame (sb :: ys))) → Below W.heap.size W W' → (FS w (.slice a m cap) (.slice ax nx cx) (.slice ay ny cy) x xs ys W' ∧ Bytes W' (.slice af nf cf) (frame (sa :: xs)) ∧ Bytes W' (.slice ag ng cg) (frame (sb :: ys)))) := Bx.mk (fun h hb => ⟨h.1.later hg hb, h.2.1.later hb, h.2.2.later hb⟩)
  have gl : ∀ {W : World}, FS w (.slice a m cap) (.slice ax nx cx) (.slice ay ny cy) x xs ys W → 0 < W.heap.size := fun h => Nat.lt_of_lt_of_le hg h.below.size
  have HKn : Bx (∀ W, (FS w (.slice a m cap) (.slice ax nx cx) (.slice ay ny cy) x xs ys W ∧ Bytes W (.slice af nf cf) (frame (sa :: xs)) ∧ Bytes W (.slice ag ng cg) (frame (sb :: ys))) → Calls Tryd.prog 27 #[] W fun e W' => e = .returned (.bool true) ∧ Bx (Below W.heap.size W W')) := Bx.mk (fun W h => (known2_any W h.1.tab (gl h.1)).mono fun _ _ ⟨he, hb⟩ => ⟨he, ⟨hb⟩⟩)
  have HSm : Bx (∀ W, (FS w (.slice a m cap) (.slice ax nx cx) (.slice ay ny cy) x xs ys W ∧ Bytes W (.slice af nf cf) (frame (sa :: xs)) ∧ Bytes W (.slice ag ng cg) (frame (sb :: ys))) → Calls Tryd.prog 24 #[(.slice af nf cf), (.slice ag ng cg)] W fun e W' => e = .returned (.bool (decide (sa :: xs = sb :: ys))) ∧ Bx (Below W.heap.size W W')) := Bx.mk (fun W h => by
    rw [← hsm]
    exact (same_any _ _ _ _ W h.2.1 h.2.2 (by omega) (by omega)).mono fun _ _ ⟨he, n, hb⟩ => ⟨he, ⟨by rw [hb]; exact below_drewN (Below.refl _ _) _⟩⟩)
  have HDa : Bx (∀ W, (FS w (.slice a m cap) (.slice ax nx cx) (.slice ay ny cy) x xs ys W ∧ Bytes W (.slice af nf cf) (frame (sa :: xs)) ∧ Bytes W (.slice ag ng cg) (frame (sb :: ys))) → Calls Tryd.prog 30 #[(.slice a m cap), .string ⟨sa.toArray⟩, (.slice ax nx cx)] W fun e W' => e = .returned (.agg (u8s (hmac x (frame (sa :: xs))))) ∧ Bx (Below W.heap.size W W')) := Bx.mk (fun W h => (derive_any x sa xs _ _ W h.1.key h.1.px (by omega) (by omega) (by omega) (fun p hp => by have := hpx p hp; omega) h.1.tab (gl h.1)).mono fun _ _ ⟨he, hb⟩ => ⟨he, ⟨hb⟩⟩)
  have HDb : Bx (∀ W, (FS w (.slice a m cap) (.slice ax nx cx) (.slice ay ny cy) x xs ys W ∧ Bytes W (.slice af nf cf) (frame (sa :: xs)) ∧ Bytes W (.slice ag ng cg) (frame (sb :: ys))) → Calls Tryd.prog 30 #[(.slice a m cap), .string ⟨sb.toArray⟩, (.slice ay ny cy)] W fun e W' => e = .returned (.agg (u8s (hmac x (frame (sb :: ys))))) ∧ Bx (Below W.heap.size W W')) := Bx.mk (fun W h => (derive_any x sb ys _ _ W h.1.key h.1.py (by omega) (by omega) (by omega) (fun p hp => by have := hpy p hp; omega) h.1.tab (gl h.1)).mono fun _ _ ⟨he, hb⟩ => ⟨he, ⟨hb⟩⟩)
  have HTa : Bx (∀ W v, (FS w (.slice a m cap) (.slice ax nx cx) (.slice ay ny cy) x xs ys W ∧ Bytes W (.slice af nf cf) (frame (sa :: xs)) ∧ Bytes W (.slice ag ng cg) (frame (sb :: ys))) → Parts W v [frame (sa :: xs)] → Calls Tryd.prog 28 #[(.slice a m cap), v] W fun e W' => e = .returned (.agg (u8s (hmac x (frame (sa :: xs))))) ∧ Bx (Below W.heap.size W W')) := Bx.mk (fun W v h hp => by
    have ht := tag_any x [frame (sa :: xs)] _ v W h.1.key hp (by omega) (by simp) (by rw [List.flatten_singleton]; omega) h.1.tab (gl h.1)
    rw [List.flatten_singleton] at ht
    exact ht.mono fun _ _ ⟨he, hb⟩ => ⟨he, ⟨hb⟩⟩)
  have HTb : Bx (∀ W v, (FS w (.slice a m cap) (.slice ax nx cx) (.slice ay ny cy) x xs ys W ∧ Bytes W (.slice af nf cf) (frame (sa :: xs)) ∧ Bytes W (.slice ag ng cg) (frame (sb :: ys))) → Parts W v [frame (sb :: ys)] → Calls Tryd.prog 28 #[(.slice a m cap), v] W fun e W' => e = .returned (.agg (u8s (hmac x (frame (sb :: ys))))) ∧ Bx (Below W.heap.size W W')) := Bx.mk (fun W v h hp => by
    have ht := tag_any x [frame (sb :: ys)] _ v W h.1.key hp (by omega) (by simp) (by rw [List.flatten_singleton]; omega) h.1.tab (gl h.1)
    rw [List.flatten_singleton] at ht
    exact ht.mono fun _ _ ⟨he, hb⟩ => ⟨he, ⟨hb⟩⟩)
  have eq1 := fun W => eq32 (hmac x (frame (sa :: xs))) (hmac x (frame (sb :: ys))) (sha_length _) (sha_length _) W
  generalize (hmac x (frame (sa :: xs)) == hmac x (frame (sb :: ys))) = dd at *
  have HQ := Bx.mk hQ
  have hg26 : Tryd.prog.eqGuardType Tryd.prog.depth 26 = false := by kernel_rfl
  obtain ⟨fx, rfl, hfx⟩ := open113 h.fr
  have e0 := (hfx 0).symm.trans h.s0
  have e1 := (hfx 1).symm.trans h.s1
  have e2 := (hfx 2).symm.trans h.s2
  have e11 := (hfx 11).symm.trans h.s11
  have e13 := (hfx 13).symm.trans h.s13
  have e15 := (hfx 15).symm.trans h15
  have e17 := (hfx 17).symm.trans h17
  have e18 := (hfx 18).symm.trans h18
  clear h hfx h15 h17 h18 hQ hF hf hgb hsm hlF hlG gl
  rw [e0, e1, e2, e11, e13, e15, e17, e18]
  clear e0 e1 e2 e11 e13 e15 e17 e18
  generalize decide (sa :: xs = sb :: ys) = sm at *
  generalize frame (sa :: xs) = F at *
  generalize frame (sb :: ys) = G at *
  generalize u8s (hmac x F) = uF at *
  generalize u8s (hmac x G) = uG at *
  conv => arg 2; whnf
  refine wp_region_noPanic ?_
  refine wp_region_held_drew (S := fun W => Bx (Below w.heap.size w W)) (by kernel_rfl) (Bx.mk hS0.out.1.below) (fun hHeld => ?_)
  clear hHeld
  have hHeld : Bx (Below w.heap.size w W4.drew) := Bx.mk hS0.out.1.below
  generalize W4.drew = W0 at *
  refine stepL 0 (by kernel_rfl) rfl (fun K hK => ?_)
  go_simp
  refine (HKn.out _ hS0.out).mono ?_
  rintro e W1 ⟨rfl, hb⟩
  show K _ _
  have h1 := Bx.mk (HLt.out hS0.out hb.out)
  refine hK.out _ _ (Bx.mk h1.out.1.below) (fun hHeld => ?_)
  clear hK K
  try simp only [Act.put, List.setIfInBounds_toArray, List.set_cons_zero, List.set_cons_succ]
  refine takeL 1 (v := ?_) rfl (by kernel_rfl) (by kernel_rfl) (by kernel_rfl) (fun _ _ _ h => h) (Or.inl ⟨by rfl, ?_⟩) hHeld ?_
  rotate_left 1
  · (intro w hSw; go_simp; try with_reducible rfl)
  try simp only [Act.put, List.setIfInBounds_toArray, List.set_cons_zero, List.set_cons_succ]
  refine takeL 2 (v := ?_) rfl (by kernel_rfl) (by kernel_rfl) (by kernel_rfl) (fun _ _ _ h => h) (Or.inl ⟨by rfl, ?_⟩) hHeld ?_
  rotate_left 1
  · (intro w hSw; go_simp; try with_reducible rfl)
  try simp only [Act.put, List.setIfInBounds_toArray, List.set_cons_zero, List.set_cons_succ]
  refine takeL 3 (v := ?_) rfl (by kernel_rfl) (by kernel_rfl) (by kernel_rfl) (fun _ _ _ h => h) (Or.inl ⟨by rfl, ?_⟩) hHeld ?_
  rotate_left 1
  · (intro w hSw; go_simp; try with_reducible rfl)
  try simp only [Act.put, List.setIfInBounds_toArray, List.set_cons_zero, List.set_cons_succ]
  refine takeL 5 (v := ?_) rfl (by kernel_rfl) (by kernel_rfl) (by kernel_rfl) (fun _ _ _ h => h) (Or.inl ⟨by rfl, ?_⟩) hHeld ?_
  rotate_left 1
  · (intro w hSw; go_simp; try with_reducible rfl)
  try simp only [Act.put, List.setIfInBounds_toArray, List.set_cons_zero, List.set_cons_succ]
  refine stepL 4 (by kernel_rfl) rfl (fun K hK => ?_)
  go_simp
  refine (HSm.out _ h1.out).mono ?_
  rintro e W2 ⟨rfl, hb⟩
  show K _ _
  have h2 := Bx.mk (HLt.out h1.out hb.out)
  refine hK.out _ _ (Bx.mk h2.out.1.below) (fun hHeld => ?_)
  clear hK K
  try simp only [Act.put, List.setIfInBounds_toArray, List.set_cons_zero, List.set_cons_succ]
  refine takeL 6 (v := ?_) rfl (by kernel_rfl) (by kernel_rfl) (by kernel_rfl) (fun _ _ _ h => h) (Or.inl ⟨by rfl, ?_⟩) hHeld ?_
  rotate_left 1
  · (intro w hSw; go_simp; try with_reducible rfl)
  try simp only [Act.put, List.setIfInBounds_toArray, List.set_cons_zero, List.set_cons_succ]
  refine takeL 7 (v := ?_) rfl (by kernel_rfl) (by kernel_rfl) (by kernel_rfl) (fun _ _ _ h => h) (Or.inl ⟨by rfl, ?_⟩) hHeld ?_
  rotate_left 1
  · (intro w hSw; go_simp; try with_reducible rfl)
  try simp only [Act.put, List.setIfInBounds_toArray, List.set_cons_zero, List.set_cons_succ]
  refine takeL 8 (v := ?_) rfl (by kernel_rfl) (by kernel_rfl) (by kernel_rfl) (fun _ _ _ h => h) (Or.inl ⟨by rfl, ?_⟩) hHeld ?_
  rotate_left 1
  · (intro w hSw; go_simp; try with_reducible rfl)
  try simp only [Act.put, List.setIfInBounds_toArray, List.set_cons_zero, List.set_cons_succ]
  refine takeL 9 (v := ?_) rfl (by kernel_rfl) (by kernel_rfl) (by kernel_rfl) (fun _ _ _ h => h) (Or.inl ⟨by rfl, ?_⟩) hHeld ?_
  rotate_left 1
  · (intro w hSw; go_simp; try with_reducible rfl)
  try simp only [Act.put, List.setIfInBounds_toArray, List.set_cons_zero, List.set_cons_succ]
  refine takeL 10 (v := ?_) rfl (by kernel_rfl) (by kernel_rfl) (by kernel_rfl) (fun _ _ _ h => h) (Or.inl ⟨by rfl, ?_⟩) hHeld ?_
  rotate_left 1
  · (intro w hSw; go_simp; try with_reducible rfl)
  try simp only [Act.put, List.setIfInBounds_toArray, List.set_cons_zero, List.set_cons_succ]
  refine takeL 11 (v := ?_) rfl (by kernel_rfl) (by kernel_rfl) (by kernel_rfl) (fun _ _ _ h => h) (Or.inl ⟨by rfl, ?_⟩) hHeld ?_
  rotate_left 1
  · (intro w hSw; go_simp; try with_reducible rfl)
  try simp only [Act.put, List.setIfInBounds_toArray, List.set_cons_zero, List.set_cons_succ]
  refine takeL 13 (v := ?_) rfl (by kernel_rfl) (by kernel_rfl) (by kernel_rfl) (fun _ _ _ h => h) (Or.inl ⟨by rfl, ?_⟩) hHeld ?_
  rotate_left 1
  · (intro w hSw; go_simp; try with_reducible rfl)
  try simp only [Act.put, List.setIfInBounds_toArray, List.set_cons_zero, List.set_cons_succ]
  refine takeL 14 (v := ?_) rfl (by kernel_rfl) (by kernel_rfl) (by kernel_rfl) (fun _ _ _ h => h) (Or.inl ⟨by rfl, ?_⟩) hHeld ?_
  rotate_left 1
  · (intro w hSw; go_simp; try with_reducible rfl)
  try simp only [Act.put, List.setIfInBounds_toArray, List.set_cons_zero, List.set_cons_succ]
  refine takeL 15 (v := ?_) rfl (by kernel_rfl) (by kernel_rfl) (by kernel_rfl) (fun _ _ _ h => h) (Or.inl ⟨by rfl, ?_⟩) hHeld ?_
  rotate_left 1
  · (intro w hSw; go_simp; try with_reducible rfl)
  try simp only [Act.put, List.setIfInBounds_toArray, List.set_cons_zero, List.set_cons_succ]
  refine takeL 18 (v := ?_) rfl (by kernel_rfl) (by kernel_rfl) (by kernel_rfl) (fun _ _ _ h => h) (Or.inl ⟨by rfl, ?_⟩) hHeld ?_
  rotate_left 1
  · (intro w hSw; go_simp; try with_reducible rfl)
  try simp only [Act.put, List.setIfInBounds_toArray, List.set_cons_zero, List.set_cons_succ]
  refine takeL 19 (v := ?_) rfl (by kernel_rfl) (by kernel_rfl) (by kernel_rfl) (fun _ _ _ h => h) (Or.inl ⟨by rfl, ?_⟩) hHeld ?_
  rotate_left 1
  · (intro w hSw; go_simp; try with_reducible rfl)
  try simp only [Act.put, List.setIfInBounds_toArray, List.set_cons_zero, List.set_cons_succ]
  refine takeL 22 (v := ?_) rfl (by kernel_rfl) (by kernel_rfl) (by kernel_rfl) (fun _ _ _ h => h) (Or.inl ⟨by rfl, ?_⟩) hHeld ?_
  rotate_left 1
  · (intro w hSw; go_simp; try with_reducible rfl)
  try simp only [Act.put, List.setIfInBounds_toArray, List.set_cons_zero, List.set_cons_succ]
  refine takeL 23 (v := ?_) rfl (by kernel_rfl) (by kernel_rfl) (by kernel_rfl) (fun _ _ _ h => h) (Or.inl ⟨by rfl, ?_⟩) hHeld ?_
  rotate_left 1
  · (intro w hSw; go_simp; try with_reducible rfl)
  try simp only [Act.put, List.setIfInBounds_toArray, List.set_cons_zero, List.set_cons_succ]
  refine wpAnyH_ready (rs := [12, 20, 24]) (by kernel_rfl) (by simp) ?_
  refine consM 12 rfl (fun K hK => ?_) (consM 20 rfl (fun K hK => ?_) (consM 24 rfl (fun K hK => ?_) AllReadyH.nil))
  · go_simp
    refine (HDa.out _ h2.out).mono ?_
    rintro e V3 ⟨rfl, hb⟩
    show K _ _
    have k3 := Bx.mk (HLt.out h2.out hb.out)
    refine hK.out _ _ (Bx.mk k3.out.1.below) (fun hHeld => ?_)
    clear hK K
    try simp only [Act.put, List.setIfInBounds_toArray, List.set_cons_zero, List.set_cons_succ]
    refine wpAnyH_ready (rs := [16, 20, 24]) (by kernel_rfl) (by simp) ?_
    refine consM 16 rfl (fun K hK => ?_) (consM 20 rfl (fun K hK => ?_) (consM 24 rfl (fun K hK => ?_) AllReadyH.nil))
    · go_simp
      refine (HDb.out _ k3.out).mono ?_
      rintro e V4 ⟨rfl, hb⟩
      show K _ _
      have k4 := Bx.mk (HLt.out k3.out hb.out)
      refine hK.out _ _ (Bx.mk k4.out.1.below) (fun hHeld => ?_)
      clear hK K
      try simp only [Act.put, List.setIfInBounds_toArray, List.set_cons_zero, List.set_cons_succ]
      refine takeL 17 (v := ?_) rfl (by kernel_rfl) (by kernel_rfl) (by kernel_rfl) (fun _ _ _ h => h) (Or.inl ⟨by rfl, ?_⟩) hHeld ?_
      rotate_left 1
      · (intro w hSw; go_simp; try with_reducible rfl)
      try simp only [Act.put, List.setIfInBounds_toArray, List.set_cons_zero, List.set_cons_succ]
      refine wpAnyH_ready (rs := [20, 24]) (by kernel_rfl) (by simp) ?_
      refine consM 20 rfl (fun K hK => ?_) (consM 24 rfl (fun K hK => ?_) AllReadyH.nil)
      · go_simp
        have k5 := Bx.mk (HLt.out k4.out (below_a (.cells #[.slice af nf cf] 23)))
        refine hK.out _ _ (Bx.mk k5.out.1.below) (fun hHeld => ?_)
        clear hK K
        try simp only [Act.put, List.setIfInBounds_toArray, List.set_cons_zero, List.set_cons_succ]
        have pF : Bx (Parts (V4.alloc (.cells #[.slice af nf cf] 23)) (.slice (some ⟨V4.heap.size, 0, none⟩) 1 1) [F]) := Bx.mk (one_part k4.out.2.1)
        generalize V4.alloc (.cells #[.slice af nf cf] 23) = V5 at *
        generalize V4.heap.size = DpF at *
        refine wpAnyH_ready (rs := [21, 24]) (by kernel_rfl) (by simp) ?_
        refine consM 21 rfl (fun K hK => ?_) (consM 24 rfl (fun K hK => ?_) AllReadyH.nil)
        · go_simp
          refine (HTa.out _ _ k5.out pF.out).mono ?_
          rintro e V6 ⟨rfl, hb⟩
          show K _ _
          have k6 := Bx.mk (HLt.out k5.out hb.out)
          refine hK.out _ _ (Bx.mk k6.out.1.below) (fun hHeld => ?_)
          clear hK K
          try simp only [Act.put, List.setIfInBounds_toArray, List.set_cons_zero, List.set_cons_succ]
          have pF := Bx.mk (pF.out.later hb.out)
          refine stepL 24 (by kernel_rfl) rfl (fun K hK => ?_)
          go_simp
          have k7 := Bx.mk (HLt.out k6.out (below_a (.cells #[.slice ag ng cg] 23)))
          refine hK.out _ _ (Bx.mk k7.out.1.below) (fun hHeld => ?_)
          clear hK K
          try simp only [Act.put, List.setIfInBounds_toArray, List.set_cons_zero, List.set_cons_succ]
          have pG : Bx (Parts (V6.alloc (.cells #[.slice ag ng cg] 23)) (.slice (some ⟨V6.heap.size, 0, none⟩) 1 1) [G]) := Bx.mk (one_part k6.out.2.2)
          have pF := Bx.mk (pF.out.later (below_a (.cells #[.slice ag ng cg] 23)))
          generalize V6.alloc (.cells #[.slice ag ng cg] 23) = V7 at *
          generalize V6.heap.size = DpG at *
          refine stepL 25 (by kernel_rfl) rfl (fun K hK => ?_)
          go_simp
          refine (HTb.out _ _ k7.out pG.out).mono ?_
          rintro e V8 ⟨rfl, hb⟩
          show K _ _
          have k8 := Bx.mk (HLt.out k7.out hb.out)
          refine hK.out _ _ (Bx.mk k8.out.1.below) (fun hHeld => ?_)
          clear hK K
          try simp only [Act.put, List.setIfInBounds_toArray, List.set_cons_zero, List.set_cons_succ]
          have pF := Bx.mk (pF.out.later hb.out)
          have pG := Bx.mk (pG.out.later hb.out)
          refine takeL 26 (v := ?_) rfl (by kernel_rfl) (by kernel_rfl) (by kernel_rfl) (fun _ _ _ h => h) (Or.inl ⟨by rfl, ?_⟩) hHeld ?_
          rotate_left 1
          · (intro w hSw; go_simp; try with_reducible rfl)
          try simp only [Act.put, List.setIfInBounds_toArray, List.set_cons_zero, List.set_cons_succ]
          refine takeL 27 (v := ?_) rfl (by kernel_rfl) (by kernel_rfl) (by kernel_rfl) (fun _ _ _ h => h) (Or.inl ⟨by rfl, ?_⟩) hHeld ?_
          rotate_left 1
          · (intro w hSw; go_simp; try with_reducible rfl)
          try simp only [Act.put, List.setIfInBounds_toArray, List.set_cons_zero, List.set_cons_succ]
          refine takeL 28 (v := ?_) rfl (by kernel_rfl) (by kernel_rfl) (by kernel_rfl) (fun _ _ _ h => h) (Or.inl ⟨by rfl, ?_⟩) hHeld ?_
          rotate_left 1
          · (intro w hSw; go_simp; try with_reducible rfl)
          try simp only [Act.put, List.setIfInBounds_toArray, List.set_cons_zero, List.set_cons_succ]
          refine takeL 29 (v := ?_) rfl (by kernel_rfl) (by kernel_rfl) (by kernel_rfl) (fun _ _ _ h => h) (Or.inl ⟨by rfl, ?_⟩) hHeld ?_
          rotate_left 1
          · (intro w hSw; go_simp; try with_reducible rfl)
          try simp only [Act.put, List.setIfInBounds_toArray, List.set_cons_zero, List.set_cons_succ]
          refine wpAnyH_done (by kernel_rfl) ?_ _
          exact NoPanic.normal (HQ.out _ _ ⟨rfl, rfl⟩ rfl k8.out.1.below)
        · go_simp
          have k9 := Bx.mk (HLt.out k5.out (below_a (.cells #[.slice ag ng cg] 23)))
          refine hK.out _ _ (Bx.mk k9.out.1.below) (fun hHeld => ?_)
          clear hK K
          try simp only [Act.put, List.setIfInBounds_toArray, List.set_cons_zero, List.set_cons_succ]
          have pG : Bx (Parts (V5.alloc (.cells #[.slice ag ng cg] 23)) (.slice (some ⟨V5.heap.size, 0, none⟩) 1 1) [G]) := Bx.mk (one_part k5.out.2.2)
          have pF := Bx.mk (pF.out.later (below_a (.cells #[.slice ag ng cg] 23)))
          generalize V5.alloc (.cells #[.slice ag ng cg] 23) = V9 at *
          generalize V5.heap.size = DpG at *
          refine stepL 21 (by kernel_rfl) rfl (fun K hK => ?_)
          go_simp
          refine (HTa.out _ _ k9.out pF.out).mono ?_
          rintro e V10 ⟨rfl, hb⟩
          show K _ _
          have k10 := Bx.mk (HLt.out k9.out hb.out)
          refine hK.out _ _ (Bx.mk k10.out.1.below) (fun hHeld => ?_)
          clear hK K
          try simp only [Act.put, List.setIfInBounds_toArray, List.set_cons_zero, List.set_cons_succ]
          have pF := Bx.mk (pF.out.later hb.out)
          have pG := Bx.mk (pG.out.later hb.out)
          refine stepL 25 (by kernel_rfl) rfl (fun K hK => ?_)
          go_simp
          refine (HTb.out _ _ k10.out pG.out).mono ?_
          rintro e V11 ⟨rfl, hb⟩
          show K _ _
          have k11 := Bx.mk (HLt.out k10.out hb.out)
          refine hK.out _ _ (Bx.mk k11.out.1.below) (fun hHeld => ?_)
          clear hK K
          try simp only [Act.put, List.setIfInBounds_toArray, List.set_cons_zero, List.set_cons_succ]
          have pF := Bx.mk (pF.out.later hb.out)
          have pG := Bx.mk (pG.out.later hb.out)
          refine takeL 26 (v := ?_) rfl (by kernel_rfl) (by kernel_rfl) (by kernel_rfl) (fun _ _ _ h => h) (Or.inl ⟨by rfl, ?_⟩) hHeld ?_
          rotate_left 1
          · (intro w hSw; go_simp; try with_reducible rfl)
          try simp only [Act.put, List.setIfInBounds_toArray, List.set_cons_zero, List.set_cons_succ]
          refine takeL 27 (v := ?_) rfl (by kernel_rfl) (by kernel_rfl) (by kernel_rfl) (fun _ _ _ h => h) (Or.inl ⟨by rfl, ?_⟩) hHeld ?_
          rotate_left 1
          · (intro w hSw; go_simp; try with_reducible rfl)
          try simp only [Act.put, List.setIfInBounds_toArray, List.set_cons_zero, List.set_cons_succ]
          refine takeL 28 (v := ?_) rfl (by kernel_rfl) (by kernel_rfl) (by kernel_rfl) (fun _ _ _ h => h) (Or.inl ⟨by rfl, ?_⟩) hHeld ?_
          rotate_left 1
          · (intro w hSw; go_simp; try with_reducible rfl)
          try simp only [Act.put, List.setIfInBounds_toArray, List.set_cons_zero, List.set_cons_succ]
          refine takeL 29 (v := ?_) rfl (by kernel_rfl) (by kernel_rfl) (by kernel_rfl) (fun _ _ _ h => h) (Or.inl ⟨by rfl, ?_⟩) hHeld ?_
          rotate_left 1
          · (intro w hSw; go_simp; try with_reducible rfl)
          try simp only [Act.put, List.setIfInBounds_toArray, List.set_cons_zero, List.set_cons_succ]
          refine wpAnyH_done (by kernel_rfl) ?_ _
          exact NoPanic.normal (HQ.out _ _ ⟨rfl, rfl⟩ rfl k11.out.1.below)
      · go_simp
        have k12 := Bx.mk (HLt.out k4.out (below_a (.cells #[.slice ag ng cg] 23)))
        refine hK.out _ _ (Bx.mk k12.out.1.below) (fun hHeld => ?_)
        clear hK K
        try simp only [Act.put, List.setIfInBounds_toArray, List.set_cons_zero, List.set_cons_succ]
        have pG : Bx (Parts (V4.alloc (.cells #[.slice ag ng cg] 23)) (.slice (some ⟨V4.heap.size, 0, none⟩) 1 1) [G]) := Bx.mk (one_part k4.out.2.2)
        generalize V4.alloc (.cells #[.slice ag ng cg] 23) = V12 at *
        generalize V4.heap.size = DpG at *
        refine stepL 20 (by kernel_rfl) rfl (fun K hK => ?_)
        go_simp
        have k13 := Bx.mk (HLt.out k12.out (below_a (.cells #[.slice af nf cf] 23)))
        refine hK.out _ _ (Bx.mk k13.out.1.below) (fun hHeld => ?_)
        clear hK K
        try simp only [Act.put, List.setIfInBounds_toArray, List.set_cons_zero, List.set_cons_succ]
        have pF : Bx (Parts (V12.alloc (.cells #[.slice af nf cf] 23)) (.slice (some ⟨V12.heap.size, 0, none⟩) 1 1) [F]) := Bx.mk (one_part k12.out.2.1)
        have pG := Bx.mk (pG.out.later (below_a (.cells #[.slice af nf cf] 23)))
        generalize V12.alloc (.cells #[.slice af nf cf] 23) = V13 at *
        generalize V12.heap.size = DpF at *
        refine stepL 21 (by kernel_rfl) rfl (fun K hK => ?_)
        go_simp
        refine (HTa.out _ _ k13.out pF.out).mono ?_
        rintro e V14 ⟨rfl, hb⟩
        show K _ _
        have k14 := Bx.mk (HLt.out k13.out hb.out)
        refine hK.out _ _ (Bx.mk k14.out.1.below) (fun hHeld => ?_)
        clear hK K
        try simp only [Act.put, List.setIfInBounds_toArray, List.set_cons_zero, List.set_cons_succ]
        have pG := Bx.mk (pG.out.later hb.out)
        have pF := Bx.mk (pF.out.later hb.out)
        refine stepL 25 (by kernel_rfl) rfl (fun K hK => ?_)
        go_simp
        refine (HTb.out _ _ k14.out pG.out).mono ?_
        rintro e V15 ⟨rfl, hb⟩
        show K _ _
        have k15 := Bx.mk (HLt.out k14.out hb.out)
        refine hK.out _ _ (Bx.mk k15.out.1.below) (fun hHeld => ?_)
        clear hK K
        try simp only [Act.put, List.setIfInBounds_toArray, List.set_cons_zero, List.set_cons_succ]
        have pG := Bx.mk (pG.out.later hb.out)
        have pF := Bx.mk (pF.out.later hb.out)
        refine takeL 26 (v := ?_) rfl (by kernel_rfl) (by kernel_rfl) (by kernel_rfl) (fun _ _ _ h => h) (Or.inl ⟨by rfl, ?_⟩) hHeld ?_
        rotate_left 1
        · (intro w hSw; go_simp; try with_reducible rfl)
        try simp only [Act.put, List.setIfInBounds_toArray, List.set_cons_zero, List.set_cons_succ]
        refine takeL 27 (v := ?_) rfl (by kernel_rfl) (by kernel_rfl) (by kernel_rfl) (fun _ _ _ h => h) (Or.inl ⟨by rfl, ?_⟩) hHeld ?_
        rotate_left 1
        · (intro w hSw; go_simp; try with_reducible rfl)
        try simp only [Act.put, List.setIfInBounds_toArray, List.set_cons_zero, List.set_cons_succ]
        refine takeL 28 (v := ?_) rfl (by kernel_rfl) (by kernel_rfl) (by kernel_rfl) (fun _ _ _ h => h) (Or.inl ⟨by rfl, ?_⟩) hHeld ?_
        rotate_left 1
        · (intro w hSw; go_simp; try with_reducible rfl)
        try simp only [Act.put, List.setIfInBounds_toArray, List.set_cons_zero, List.set_cons_succ]
        refine takeL 29 (v := ?_) rfl (by kernel_rfl) (by kernel_rfl) (by kernel_rfl) (fun _ _ _ h => h) (Or.inl ⟨by rfl, ?_⟩) hHeld ?_
        rotate_left 1
        · (intro w hSw; go_simp; try with_reducible rfl)
        try simp only [Act.put, List.setIfInBounds_toArray, List.set_cons_zero, List.set_cons_succ]
        refine wpAnyH_done (by kernel_rfl) ?_ _
        exact NoPanic.normal (HQ.out _ _ ⟨rfl, rfl⟩ rfl k15.out.1.below)
    · go_simp
      have k16 := Bx.mk (HLt.out k3.out (below_a (.cells #[.slice af nf cf] 23)))
      refine hK.out _ _ (Bx.mk k16.out.1.below) (fun hHeld => ?_)
      clear hK K
      try simp only [Act.put, List.setIfInBounds_toArray, List.set_cons_zero, List.set_cons_succ]
      have pF : Bx (Parts (V3.alloc (.cells #[.slice af nf cf] 23)) (.slice (some ⟨V3.heap.size, 0, none⟩) 1 1) [F]) := Bx.mk (one_part k3.out.2.1)
      generalize V3.alloc (.cells #[.slice af nf cf] 23) = V16 at *
      generalize V3.heap.size = DpF at *
      refine wpAnyH_ready (rs := [16, 24]) (by kernel_rfl) (by simp) ?_
      refine consM 16 rfl (fun K hK => ?_) (consM 24 rfl (fun K hK => ?_) AllReadyH.nil)
      · go_simp
        refine (HDb.out _ k16.out).mono ?_
        rintro e V17 ⟨rfl, hb⟩
        show K _ _
        have k17 := Bx.mk (HLt.out k16.out hb.out)
        refine hK.out _ _ (Bx.mk k17.out.1.below) (fun hHeld => ?_)
        clear hK K
        try simp only [Act.put, List.setIfInBounds_toArray, List.set_cons_zero, List.set_cons_succ]
        have pF := Bx.mk (pF.out.later hb.out)
        refine takeL 17 (v := ?_) rfl (by kernel_rfl) (by kernel_rfl) (by kernel_rfl) (fun _ _ _ h => h) (Or.inl ⟨by rfl, ?_⟩) hHeld ?_
        rotate_left 1
        · (intro w hSw; go_simp; try with_reducible rfl)
        try simp only [Act.put, List.setIfInBounds_toArray, List.set_cons_zero, List.set_cons_succ]
        refine wpAnyH_ready (rs := [21, 24]) (by kernel_rfl) (by simp) ?_
        refine consM 21 rfl (fun K hK => ?_) (consM 24 rfl (fun K hK => ?_) AllReadyH.nil)
        · go_simp
          refine (HTa.out _ _ k17.out pF.out).mono ?_
          rintro e V18 ⟨rfl, hb⟩
          show K _ _
          have k18 := Bx.mk (HLt.out k17.out hb.out)
          refine hK.out _ _ (Bx.mk k18.out.1.below) (fun hHeld => ?_)
          clear hK K
          try simp only [Act.put, List.setIfInBounds_toArray, List.set_cons_zero, List.set_cons_succ]
          have pF := Bx.mk (pF.out.later hb.out)
          refine stepL 24 (by kernel_rfl) rfl (fun K hK => ?_)
          go_simp
          have k19 := Bx.mk (HLt.out k18.out (below_a (.cells #[.slice ag ng cg] 23)))
          refine hK.out _ _ (Bx.mk k19.out.1.below) (fun hHeld => ?_)
          clear hK K
          try simp only [Act.put, List.setIfInBounds_toArray, List.set_cons_zero, List.set_cons_succ]
          have pG : Bx (Parts (V18.alloc (.cells #[.slice ag ng cg] 23)) (.slice (some ⟨V18.heap.size, 0, none⟩) 1 1) [G]) := Bx.mk (one_part k18.out.2.2)
          have pF := Bx.mk (pF.out.later (below_a (.cells #[.slice ag ng cg] 23)))
          generalize V18.alloc (.cells #[.slice ag ng cg] 23) = V19 at *
          generalize V18.heap.size = DpG at *
          refine stepL 25 (by kernel_rfl) rfl (fun K hK => ?_)
          go_simp
          refine (HTb.out _ _ k19.out pG.out).mono ?_
          rintro e V20 ⟨rfl, hb⟩
          show K _ _
          have k20 := Bx.mk (HLt.out k19.out hb.out)
          refine hK.out _ _ (Bx.mk k20.out.1.below) (fun hHeld => ?_)
          clear hK K
          try simp only [Act.put, List.setIfInBounds_toArray, List.set_cons_zero, List.set_cons_succ]
          have pF := Bx.mk (pF.out.later hb.out)
          have pG := Bx.mk (pG.out.later hb.out)
          refine takeL 26 (v := ?_) rfl (by kernel_rfl) (by kernel_rfl) (by kernel_rfl) (fun _ _ _ h => h) (Or.inl ⟨by rfl, ?_⟩) hHeld ?_
          rotate_left 1
          · (intro w hSw; go_simp; try with_reducible rfl)
          try simp only [Act.put, List.setIfInBounds_toArray, List.set_cons_zero, List.set_cons_succ]
          refine takeL 27 (v := ?_) rfl (by kernel_rfl) (by kernel_rfl) (by kernel_rfl) (fun _ _ _ h => h) (Or.inl ⟨by rfl, ?_⟩) hHeld ?_
          rotate_left 1
          · (intro w hSw; go_simp; try with_reducible rfl)
          try simp only [Act.put, List.setIfInBounds_toArray, List.set_cons_zero, List.set_cons_succ]
          refine takeL 28 (v := ?_) rfl (by kernel_rfl) (by kernel_rfl) (by kernel_rfl) (fun _ _ _ h => h) (Or.inl ⟨by rfl, ?_⟩) hHeld ?_
          rotate_left 1
          · (intro w hSw; go_simp; try with_reducible rfl)
          try simp only [Act.put, List.setIfInBounds_toArray, List.set_cons_zero, List.set_cons_succ]
          refine takeL 29 (v := ?_) rfl (by kernel_rfl) (by kernel_rfl) (by kernel_rfl) (fun _ _ _ h => h) (Or.inl ⟨by rfl, ?_⟩) hHeld ?_
          rotate_left 1
          · (intro w hSw; go_simp; try with_reducible rfl)
          try simp only [Act.put, List.setIfInBounds_toArray, List.set_cons_zero, List.set_cons_succ]
          refine wpAnyH_done (by kernel_rfl) ?_ _
          exact NoPanic.normal (HQ.out _ _ ⟨rfl, rfl⟩ rfl k20.out.1.below)
        · go_simp
          have k21 := Bx.mk (HLt.out k17.out (below_a (.cells #[.slice ag ng cg] 23)))
          refine hK.out _ _ (Bx.mk k21.out.1.below) (fun hHeld => ?_)
          clear hK K
          try simp only [Act.put, List.setIfInBounds_toArray, List.set_cons_zero, List.set_cons_succ]
          have pG : Bx (Parts (V17.alloc (.cells #[.slice ag ng cg] 23)) (.slice (some ⟨V17.heap.size, 0, none⟩) 1 1) [G]) := Bx.mk (one_part k17.out.2.2)
          have pF := Bx.mk (pF.out.later (below_a (.cells #[.slice ag ng cg] 23)))
          generalize V17.alloc (.cells #[.slice ag ng cg] 23) = V21 at *
          generalize V17.heap.size = DpG at *
          refine stepL 21 (by kernel_rfl) rfl (fun K hK => ?_)
          go_simp
          refine (HTa.out _ _ k21.out pF.out).mono ?_
          rintro e V22 ⟨rfl, hb⟩
          show K _ _
          have k22 := Bx.mk (HLt.out k21.out hb.out)
          refine hK.out _ _ (Bx.mk k22.out.1.below) (fun hHeld => ?_)
          clear hK K
          try simp only [Act.put, List.setIfInBounds_toArray, List.set_cons_zero, List.set_cons_succ]
          have pF := Bx.mk (pF.out.later hb.out)
          have pG := Bx.mk (pG.out.later hb.out)
          refine stepL 25 (by kernel_rfl) rfl (fun K hK => ?_)
          go_simp
          refine (HTb.out _ _ k22.out pG.out).mono ?_
          rintro e V23 ⟨rfl, hb⟩
          show K _ _
          have k23 := Bx.mk (HLt.out k22.out hb.out)
          refine hK.out _ _ (Bx.mk k23.out.1.below) (fun hHeld => ?_)
          clear hK K
          try simp only [Act.put, List.setIfInBounds_toArray, List.set_cons_zero, List.set_cons_succ]
          have pF := Bx.mk (pF.out.later hb.out)
          have pG := Bx.mk (pG.out.later hb.out)
          refine takeL 26 (v := ?_) rfl (by kernel_rfl) (by kernel_rfl) (by kernel_rfl) (fun _ _ _ h => h) (Or.inl ⟨by rfl, ?_⟩) hHeld ?_
          rotate_left 1
          · (intro w hSw; go_simp; try with_reducible rfl)
          try simp only [Act.put, List.setIfInBounds_toArray, List.set_cons_zero, List.set_cons_succ]
          refine takeL 27 (v := ?_) rfl (by kernel_rfl) (by kernel_rfl) (by kernel_rfl) (fun _ _ _ h => h) (Or.inl ⟨by rfl, ?_⟩) hHeld ?_
          rotate_left 1
          · (intro w hSw; go_simp; try with_reducible rfl)
          try simp only [Act.put, List.setIfInBounds_toArray, List.set_cons_zero, List.set_cons_succ]
          refine takeL 28 (v := ?_) rfl (by kernel_rfl) (by kernel_rfl) (by kernel_rfl) (fun _ _ _ h => h) (Or.inl ⟨by rfl, ?_⟩) hHeld ?_
          rotate_left 1
          · (intro w hSw; go_simp; try with_reducible rfl)
          try simp only [Act.put, List.setIfInBounds_toArray, List.set_cons_zero, List.set_cons_succ]
          refine takeL 29 (v := ?_) rfl (by kernel_rfl) (by kernel_rfl) (by kernel_rfl) (fun _ _ _ h => h) (Or.inl ⟨by rfl, ?_⟩) hHeld ?_
          rotate_left 1
          · (intro w hSw; go_simp; try with_reducible rfl)
          try simp only [Act.put, List.setIfInBounds_toArray, List.set_cons_zero, List.set_cons_succ]
          refine wpAnyH_done (by kernel_rfl) ?_ _
          exact NoPanic.normal (HQ.out _ _ ⟨rfl, rfl⟩ rfl k23.out.1.below)
      · go_simp
        have k24 := Bx.mk (HLt.out k16.out (below_a (.cells #[.slice ag ng cg] 23)))
        refine hK.out _ _ (Bx.mk k24.out.1.below) (fun hHeld => ?_)
        clear hK K
        try simp only [Act.put, List.setIfInBounds_toArray, List.set_cons_zero, List.set_cons_succ]
        have pG : Bx (Parts (V16.alloc (.cells #[.slice ag ng cg] 23)) (.slice (some ⟨V16.heap.size, 0, none⟩) 1 1) [G]) := Bx.mk (one_part k16.out.2.2)
        have pF := Bx.mk (pF.out.later (below_a (.cells #[.slice ag ng cg] 23)))
        generalize V16.alloc (.cells #[.slice ag ng cg] 23) = V24 at *
        generalize V16.heap.size = DpG at *
        refine stepL 16 (by kernel_rfl) rfl (fun K hK => ?_)
        go_simp
        refine (HDb.out _ k24.out).mono ?_
        rintro e V25 ⟨rfl, hb⟩
        show K _ _
        have k25 := Bx.mk (HLt.out k24.out hb.out)
        refine hK.out _ _ (Bx.mk k25.out.1.below) (fun hHeld => ?_)
        clear hK K
        try simp only [Act.put, List.setIfInBounds_toArray, List.set_cons_zero, List.set_cons_succ]
        have pF := Bx.mk (pF.out.later hb.out)
        have pG := Bx.mk (pG.out.later hb.out)
        refine takeL 17 (v := ?_) rfl (by kernel_rfl) (by kernel_rfl) (by kernel_rfl) (fun _ _ _ h => h) (Or.inl ⟨by rfl, ?_⟩) hHeld ?_
        rotate_left 1
        · (intro w hSw; go_simp; try with_reducible rfl)
        try simp only [Act.put, List.setIfInBounds_toArray, List.set_cons_zero, List.set_cons_succ]
        refine stepL 21 (by kernel_rfl) rfl (fun K hK => ?_)
        go_simp
        refine (HTa.out _ _ k25.out pF.out).mono ?_
        rintro e V26 ⟨rfl, hb⟩
        show K _ _
        have k26 := Bx.mk (HLt.out k25.out hb.out)
        refine hK.out _ _ (Bx.mk k26.out.1.below) (fun hHeld => ?_)
        clear hK K
        try simp only [Act.put, List.setIfInBounds_toArray, List.set_cons_zero, List.set_cons_succ]
        have pF := Bx.mk (pF.out.later hb.out)
        have pG := Bx.mk (pG.out.later hb.out)
        refine stepL 25 (by kernel_rfl) rfl (fun K hK => ?_)
        go_simp
        refine (HTb.out _ _ k26.out pG.out).mono ?_
        rintro e V27 ⟨rfl, hb⟩
        show K _ _
        have k27 := Bx.mk (HLt.out k26.out hb.out)
        refine hK.out _ _ (Bx.mk k27.out.1.below) (fun hHeld => ?_)
        clear hK K
        try simp only [Act.put, List.setIfInBounds_toArray, List.set_cons_zero, List.set_cons_succ]
        have pF := Bx.mk (pF.out.later hb.out)
        have pG := Bx.mk (pG.out.later hb.out)
        refine takeL 26 (v := ?_) rfl (by kernel_rfl) (by kernel_rfl) (by kernel_rfl) (fun _ _ _ h => h) (Or.inl ⟨by rfl, ?_⟩) hHeld ?_
        rotate_left 1
        · (intro w hSw; go_simp; try with_reducible rfl)
        try simp only [Act.put, List.setIfInBounds_toArray, List.set_cons_zero, List.set_cons_succ]
        refine takeL 27 (v := ?_) rfl (by kernel_rfl) (by kernel_rfl) (by kernel_rfl) (fun _ _ _ h => h) (Or.inl ⟨by rfl, ?_⟩) hHeld ?_
        rotate_left 1
        · (intro w hSw; go_simp; try with_reducible rfl)
        try simp only [Act.put, List.setIfInBounds_toArray, List.set_cons_zero, List.set_cons_succ]
        refine takeL 28 (v := ?_) rfl (by kernel_rfl) (by kernel_rfl) (by kernel_rfl) (fun _ _ _ h => h) (Or.inl ⟨by rfl, ?_⟩) hHeld ?_
        rotate_left 1
        · (intro w hSw; go_simp; try with_reducible rfl)
        try simp only [Act.put, List.setIfInBounds_toArray, List.set_cons_zero, List.set_cons_succ]
        refine takeL 29 (v := ?_) rfl (by kernel_rfl) (by kernel_rfl) (by kernel_rfl) (fun _ _ _ h => h) (Or.inl ⟨by rfl, ?_⟩) hHeld ?_
        rotate_left 1
        · (intro w hSw; go_simp; try with_reducible rfl)
        try simp only [Act.put, List.setIfInBounds_toArray, List.set_cons_zero, List.set_cons_succ]
        refine wpAnyH_done (by kernel_rfl) ?_ _
        exact NoPanic.normal (HQ.out _ _ ⟨rfl, rfl⟩ rfl k27.out.1.below)
    · go_simp
      have k28 := Bx.mk (HLt.out k3.out (below_a (.cells #[.slice ag ng cg] 23)))
      refine hK.out _ _ (Bx.mk k28.out.1.below) (fun hHeld => ?_)
      clear hK K
      try simp only [Act.put, List.setIfInBounds_toArray, List.set_cons_zero, List.set_cons_succ]
      have pG : Bx (Parts (V3.alloc (.cells #[.slice ag ng cg] 23)) (.slice (some ⟨V3.heap.size, 0, none⟩) 1 1) [G]) := Bx.mk (one_part k3.out.2.2)
      generalize V3.alloc (.cells #[.slice ag ng cg] 23) = V28 at *
      generalize V3.heap.size = DpG at *
      refine wpAnyH_ready (rs := [16, 20]) (by kernel_rfl) (by simp) ?_
      refine consM 16 rfl (fun K hK => ?_) (consM 20 rfl (fun K hK => ?_) AllReadyH.nil)
      · go_simp
        refine (HDb.out _ k28.out).mono ?_
        rintro e V29 ⟨rfl, hb⟩
        show K _ _
        have k29 := Bx.mk (HLt.out k28.out hb.out)
        refine hK.out _ _ (Bx.mk k29.out.1.below) (fun hHeld => ?_)
        clear hK K
        try simp only [Act.put, List.setIfInBounds_toArray, List.set_cons_zero, List.set_cons_succ]
        have pG := Bx.mk (pG.out.later hb.out)
        refine takeL 17 (v := ?_) rfl (by kernel_rfl) (by kernel_rfl) (by kernel_rfl) (fun _ _ _ h => h) (Or.inl ⟨by rfl, ?_⟩) hHeld ?_
        rotate_left 1
        · (intro w hSw; go_simp; try with_reducible rfl)
        try simp only [Act.put, List.setIfInBounds_toArray, List.set_cons_zero, List.set_cons_succ]
        refine stepL 20 (by kernel_rfl) rfl (fun K hK => ?_)
        go_simp
        have k30 := Bx.mk (HLt.out k29.out (below_a (.cells #[.slice af nf cf] 23)))
        refine hK.out _ _ (Bx.mk k30.out.1.below) (fun hHeld => ?_)
        clear hK K
        try simp only [Act.put, List.setIfInBounds_toArray, List.set_cons_zero, List.set_cons_succ]
        have pF : Bx (Parts (V29.alloc (.cells #[.slice af nf cf] 23)) (.slice (some ⟨V29.heap.size, 0, none⟩) 1 1) [F]) := Bx.mk (one_part k29.out.2.1)
        have pG := Bx.mk (pG.out.later (below_a (.cells #[.slice af nf cf] 23)))
        generalize V29.alloc (.cells #[.slice af nf cf] 23) = V30 at *
        generalize V29.heap.size = DpF at *
        refine stepL 21 (by kernel_rfl) rfl (fun K hK => ?_)
        go_simp
        refine (HTa.out _ _ k30.out pF.out).mono ?_
        rintro e V31 ⟨rfl, hb⟩
        show K _ _
        have k31 := Bx.mk (HLt.out k30.out hb.out)
        refine hK.out _ _ (Bx.mk k31.out.1.below) (fun hHeld => ?_)
        clear hK K
        try simp only [Act.put, List.setIfInBounds_toArray, List.set_cons_zero, List.set_cons_succ]
        have pG := Bx.mk (pG.out.later hb.out)
        have pF := Bx.mk (pF.out.later hb.out)
        refine stepL 25 (by kernel_rfl) rfl (fun K hK => ?_)
        go_simp
        refine (HTb.out _ _ k31.out pG.out).mono ?_
        rintro e V32 ⟨rfl, hb⟩
        show K _ _
        have k32 := Bx.mk (HLt.out k31.out hb.out)
        refine hK.out _ _ (Bx.mk k32.out.1.below) (fun hHeld => ?_)
        clear hK K
        try simp only [Act.put, List.setIfInBounds_toArray, List.set_cons_zero, List.set_cons_succ]
        have pG := Bx.mk (pG.out.later hb.out)
        have pF := Bx.mk (pF.out.later hb.out)
        refine takeL 26 (v := ?_) rfl (by kernel_rfl) (by kernel_rfl) (by kernel_rfl) (fun _ _ _ h => h) (Or.inl ⟨by rfl, ?_⟩) hHeld ?_
        rotate_left 1
        · (intro w hSw; go_simp; try with_reducible rfl)
        try simp only [Act.put, List.setIfInBounds_toArray, List.set_cons_zero, List.set_cons_succ]
        refine takeL 27 (v := ?_) rfl (by kernel_rfl) (by kernel_rfl) (by kernel_rfl) (fun _ _ _ h => h) (Or.inl ⟨by rfl, ?_⟩) hHeld ?_
        rotate_left 1
        · (intro w hSw; go_simp; try with_reducible rfl)
        try simp only [Act.put, List.setIfInBounds_toArray, List.set_cons_zero, List.set_cons_succ]
        refine takeL 28 (v := ?_) rfl (by kernel_rfl) (by kernel_rfl) (by kernel_rfl) (fun _ _ _ h => h) (Or.inl ⟨by rfl, ?_⟩) hHeld ?_
        rotate_left 1
        · (intro w hSw; go_simp; try with_reducible rfl)
        try simp only [Act.put, List.setIfInBounds_toArray, List.set_cons_zero, List.set_cons_succ]
        refine takeL 29 (v := ?_) rfl (by kernel_rfl) (by kernel_rfl) (by kernel_rfl) (fun _ _ _ h => h) (Or.inl ⟨by rfl, ?_⟩) hHeld ?_
        rotate_left 1
        · (intro w hSw; go_simp; try with_reducible rfl)
        try simp only [Act.put, List.setIfInBounds_toArray, List.set_cons_zero, List.set_cons_succ]
        refine wpAnyH_done (by kernel_rfl) ?_ _
        exact NoPanic.normal (HQ.out _ _ ⟨rfl, rfl⟩ rfl k32.out.1.below)
      · go_simp
        have k33 := Bx.mk (HLt.out k28.out (below_a (.cells #[.slice af nf cf] 23)))
        refine hK.out _ _ (Bx.mk k33.out.1.below) (fun hHeld => ?_)
        clear hK K
        try simp only [Act.put, List.setIfInBounds_toArray, List.set_cons_zero, List.set_cons_succ]
        have pF : Bx (Parts (V28.alloc (.cells #[.slice af nf cf] 23)) (.slice (some ⟨V28.heap.size, 0, none⟩) 1 1) [F]) := Bx.mk (one_part k28.out.2.1)
        have pG := Bx.mk (pG.out.later (below_a (.cells #[.slice af nf cf] 23)))
        generalize V28.alloc (.cells #[.slice af nf cf] 23) = V33 at *
        generalize V28.heap.size = DpF at *
        refine stepL 16 (by kernel_rfl) rfl (fun K hK => ?_)
        go_simp
        refine (HDb.out _ k33.out).mono ?_
        rintro e V34 ⟨rfl, hb⟩
        show K _ _
        have k34 := Bx.mk (HLt.out k33.out hb.out)
        refine hK.out _ _ (Bx.mk k34.out.1.below) (fun hHeld => ?_)
        clear hK K
        try simp only [Act.put, List.setIfInBounds_toArray, List.set_cons_zero, List.set_cons_succ]
        have pG := Bx.mk (pG.out.later hb.out)
        have pF := Bx.mk (pF.out.later hb.out)
        refine takeL 17 (v := ?_) rfl (by kernel_rfl) (by kernel_rfl) (by kernel_rfl) (fun _ _ _ h => h) (Or.inl ⟨by rfl, ?_⟩) hHeld ?_
        rotate_left 1
        · (intro w hSw; go_simp; try with_reducible rfl)
        try simp only [Act.put, List.setIfInBounds_toArray, List.set_cons_zero, List.set_cons_succ]
        refine stepL 21 (by kernel_rfl) rfl (fun K hK => ?_)
        go_simp
        refine (HTa.out _ _ k34.out pF.out).mono ?_
        rintro e V35 ⟨rfl, hb⟩
        show K _ _
        have k35 := Bx.mk (HLt.out k34.out hb.out)
        refine hK.out _ _ (Bx.mk k35.out.1.below) (fun hHeld => ?_)
        clear hK K
        try simp only [Act.put, List.setIfInBounds_toArray, List.set_cons_zero, List.set_cons_succ]
        have pG := Bx.mk (pG.out.later hb.out)
        have pF := Bx.mk (pF.out.later hb.out)
        refine stepL 25 (by kernel_rfl) rfl (fun K hK => ?_)
        go_simp
        refine (HTb.out _ _ k35.out pG.out).mono ?_
        rintro e V36 ⟨rfl, hb⟩
        show K _ _
        have k36 := Bx.mk (HLt.out k35.out hb.out)
        refine hK.out _ _ (Bx.mk k36.out.1.below) (fun hHeld => ?_)
        clear hK K
        try simp only [Act.put, List.setIfInBounds_toArray, List.set_cons_zero, List.set_cons_succ]
        have pG := Bx.mk (pG.out.later hb.out)
        have pF := Bx.mk (pF.out.later hb.out)
        refine takeL 26 (v := ?_) rfl (by kernel_rfl) (by kernel_rfl) (by kernel_rfl) (fun _ _ _ h => h) (Or.inl ⟨by rfl, ?_⟩) hHeld ?_
        rotate_left 1
        · (intro w hSw; go_simp; try with_reducible rfl)
        try simp only [Act.put, List.setIfInBounds_toArray, List.set_cons_zero, List.set_cons_succ]
        refine takeL 27 (v := ?_) rfl (by kernel_rfl) (by kernel_rfl) (by kernel_rfl) (fun _ _ _ h => h) (Or.inl ⟨by rfl, ?_⟩) hHeld ?_
        rotate_left 1
        · (intro w hSw; go_simp; try with_reducible rfl)
        try simp only [Act.put, List.setIfInBounds_toArray, List.set_cons_zero, List.set_cons_succ]
        refine takeL 28 (v := ?_) rfl (by kernel_rfl) (by kernel_rfl) (by kernel_rfl) (fun _ _ _ h => h) (Or.inl ⟨by rfl, ?_⟩) hHeld ?_
        rotate_left 1
        · (intro w hSw; go_simp; try with_reducible rfl)
        try simp only [Act.put, List.setIfInBounds_toArray, List.set_cons_zero, List.set_cons_succ]
        refine takeL 29 (v := ?_) rfl (by kernel_rfl) (by kernel_rfl) (by kernel_rfl) (fun _ _ _ h => h) (Or.inl ⟨by rfl, ?_⟩) hHeld ?_
        rotate_left 1
        · (intro w hSw; go_simp; try with_reducible rfl)
        try simp only [Act.put, List.setIfInBounds_toArray, List.set_cons_zero, List.set_cons_succ]
        refine wpAnyH_done (by kernel_rfl) ?_ _
        exact NoPanic.normal (HQ.out _ _ ⟨rfl, rfl⟩ rfl k36.out.1.below)
  · go_simp
    have k37 := Bx.mk (HLt.out h2.out (below_a (.cells #[.slice af nf cf] 23)))
    refine hK.out _ _ (Bx.mk k37.out.1.below) (fun hHeld => ?_)
    clear hK K
    try simp only [Act.put, List.setIfInBounds_toArray, List.set_cons_zero, List.set_cons_succ]
    have pF : Bx (Parts (W2.alloc (.cells #[.slice af nf cf] 23)) (.slice (some ⟨W2.heap.size, 0, none⟩) 1 1) [F]) := Bx.mk (one_part h2.out.2.1)
    generalize W2.alloc (.cells #[.slice af nf cf] 23) = V37 at *
    generalize W2.heap.size = DpF at *
    refine wpAnyH_ready (rs := [12, 24]) (by kernel_rfl) (by simp) ?_
    refine consM 12 rfl (fun K hK => ?_) (consM 24 rfl (fun K hK => ?_) AllReadyH.nil)
    · go_simp
      refine (HDa.out _ k37.out).mono ?_
      rintro e V38 ⟨rfl, hb⟩
      show K _ _
      have k38 := Bx.mk (HLt.out k37.out hb.out)
      refine hK.out _ _ (Bx.mk k38.out.1.below) (fun hHeld => ?_)
      clear hK K
      try simp only [Act.put, List.setIfInBounds_toArray, List.set_cons_zero, List.set_cons_succ]
      have pF := Bx.mk (pF.out.later hb.out)
      refine wpAnyH_ready (rs := [16, 24]) (by kernel_rfl) (by simp) ?_
      refine consM 16 rfl (fun K hK => ?_) (consM 24 rfl (fun K hK => ?_) AllReadyH.nil)
      · go_simp
        refine (HDb.out _ k38.out).mono ?_
        rintro e V39 ⟨rfl, hb⟩
        show K _ _
        have k39 := Bx.mk (HLt.out k38.out hb.out)
        refine hK.out _ _ (Bx.mk k39.out.1.below) (fun hHeld => ?_)
        clear hK K
        try simp only [Act.put, List.setIfInBounds_toArray, List.set_cons_zero, List.set_cons_succ]
        have pF := Bx.mk (pF.out.later hb.out)
        refine takeL 17 (v := ?_) rfl (by kernel_rfl) (by kernel_rfl) (by kernel_rfl) (fun _ _ _ h => h) (Or.inl ⟨by rfl, ?_⟩) hHeld ?_
        rotate_left 1
        · (intro w hSw; go_simp; try with_reducible rfl)
        try simp only [Act.put, List.setIfInBounds_toArray, List.set_cons_zero, List.set_cons_succ]
        refine wpAnyH_ready (rs := [21, 24]) (by kernel_rfl) (by simp) ?_
        refine consM 21 rfl (fun K hK => ?_) (consM 24 rfl (fun K hK => ?_) AllReadyH.nil)
        · go_simp
          refine (HTa.out _ _ k39.out pF.out).mono ?_
          rintro e V40 ⟨rfl, hb⟩
          show K _ _
          have k40 := Bx.mk (HLt.out k39.out hb.out)
          refine hK.out _ _ (Bx.mk k40.out.1.below) (fun hHeld => ?_)
          clear hK K
          try simp only [Act.put, List.setIfInBounds_toArray, List.set_cons_zero, List.set_cons_succ]
          have pF := Bx.mk (pF.out.later hb.out)
          refine stepL 24 (by kernel_rfl) rfl (fun K hK => ?_)
          go_simp
          have k41 := Bx.mk (HLt.out k40.out (below_a (.cells #[.slice ag ng cg] 23)))
          refine hK.out _ _ (Bx.mk k41.out.1.below) (fun hHeld => ?_)
          clear hK K
          try simp only [Act.put, List.setIfInBounds_toArray, List.set_cons_zero, List.set_cons_succ]
          have pG : Bx (Parts (V40.alloc (.cells #[.slice ag ng cg] 23)) (.slice (some ⟨V40.heap.size, 0, none⟩) 1 1) [G]) := Bx.mk (one_part k40.out.2.2)
          have pF := Bx.mk (pF.out.later (below_a (.cells #[.slice ag ng cg] 23)))
          generalize V40.alloc (.cells #[.slice ag ng cg] 23) = V41 at *
          generalize V40.heap.size = DpG at *
          refine stepL 25 (by kernel_rfl) rfl (fun K hK => ?_)
          go_simp
          refine (HTb.out _ _ k41.out pG.out).mono ?_
          rintro e V42 ⟨rfl, hb⟩
          show K _ _
          have k42 := Bx.mk (HLt.out k41.out hb.out)
          refine hK.out _ _ (Bx.mk k42.out.1.below) (fun hHeld => ?_)
          clear hK K
          try simp only [Act.put, List.setIfInBounds_toArray, List.set_cons_zero, List.set_cons_succ]
          have pF := Bx.mk (pF.out.later hb.out)
          have pG := Bx.mk (pG.out.later hb.out)
          refine takeL 26 (v := ?_) rfl (by kernel_rfl) (by kernel_rfl) (by kernel_rfl) (fun _ _ _ h => h) (Or.inl ⟨by rfl, ?_⟩) hHeld ?_
          rotate_left 1
          · (intro w hSw; go_simp; try with_reducible rfl)
          try simp only [Act.put, List.setIfInBounds_toArray, List.set_cons_zero, List.set_cons_succ]
          refine takeL 27 (v := ?_) rfl (by kernel_rfl) (by kernel_rfl) (by kernel_rfl) (fun _ _ _ h => h) (Or.inl ⟨by rfl, ?_⟩) hHeld ?_
          rotate_left 1
          · (intro w hSw; go_simp; try with_reducible rfl)
          try simp only [Act.put, List.setIfInBounds_toArray, List.set_cons_zero, List.set_cons_succ]
          refine takeL 28 (v := ?_) rfl (by kernel_rfl) (by kernel_rfl) (by kernel_rfl) (fun _ _ _ h => h) (Or.inl ⟨by rfl, ?_⟩) hHeld ?_
          rotate_left 1
          · (intro w hSw; go_simp; try with_reducible rfl)
          try simp only [Act.put, List.setIfInBounds_toArray, List.set_cons_zero, List.set_cons_succ]
          refine takeL 29 (v := ?_) rfl (by kernel_rfl) (by kernel_rfl) (by kernel_rfl) (fun _ _ _ h => h) (Or.inl ⟨by rfl, ?_⟩) hHeld ?_
          rotate_left 1
          · (intro w hSw; go_simp; try with_reducible rfl)
          try simp only [Act.put, List.setIfInBounds_toArray, List.set_cons_zero, List.set_cons_succ]
          refine wpAnyH_done (by kernel_rfl) ?_ _
          exact NoPanic.normal (HQ.out _ _ ⟨rfl, rfl⟩ rfl k42.out.1.below)
        · go_simp
          have k43 := Bx.mk (HLt.out k39.out (below_a (.cells #[.slice ag ng cg] 23)))
          refine hK.out _ _ (Bx.mk k43.out.1.below) (fun hHeld => ?_)
          clear hK K
          try simp only [Act.put, List.setIfInBounds_toArray, List.set_cons_zero, List.set_cons_succ]
          have pG : Bx (Parts (V39.alloc (.cells #[.slice ag ng cg] 23)) (.slice (some ⟨V39.heap.size, 0, none⟩) 1 1) [G]) := Bx.mk (one_part k39.out.2.2)
          have pF := Bx.mk (pF.out.later (below_a (.cells #[.slice ag ng cg] 23)))
          generalize V39.alloc (.cells #[.slice ag ng cg] 23) = V43 at *
          generalize V39.heap.size = DpG at *
          refine stepL 21 (by kernel_rfl) rfl (fun K hK => ?_)
          go_simp
          refine (HTa.out _ _ k43.out pF.out).mono ?_
          rintro e V44 ⟨rfl, hb⟩
          show K _ _
          have k44 := Bx.mk (HLt.out k43.out hb.out)
          refine hK.out _ _ (Bx.mk k44.out.1.below) (fun hHeld => ?_)
          clear hK K
          try simp only [Act.put, List.setIfInBounds_toArray, List.set_cons_zero, List.set_cons_succ]
          have pF := Bx.mk (pF.out.later hb.out)
          have pG := Bx.mk (pG.out.later hb.out)
          refine stepL 25 (by kernel_rfl) rfl (fun K hK => ?_)
          go_simp
          refine (HTb.out _ _ k44.out pG.out).mono ?_
          rintro e V45 ⟨rfl, hb⟩
          show K _ _
          have k45 := Bx.mk (HLt.out k44.out hb.out)
          refine hK.out _ _ (Bx.mk k45.out.1.below) (fun hHeld => ?_)
          clear hK K
          try simp only [Act.put, List.setIfInBounds_toArray, List.set_cons_zero, List.set_cons_succ]
          have pF := Bx.mk (pF.out.later hb.out)
          have pG := Bx.mk (pG.out.later hb.out)
          refine takeL 26 (v := ?_) rfl (by kernel_rfl) (by kernel_rfl) (by kernel_rfl) (fun _ _ _ h => h) (Or.inl ⟨by rfl, ?_⟩) hHeld ?_
          rotate_left 1
          · (intro w hSw; go_simp; try with_reducible rfl)
          try simp only [Act.put, List.setIfInBounds_toArray, List.set_cons_zero, List.set_cons_succ]
          refine takeL 27 (v := ?_) rfl (by kernel_rfl) (by kernel_rfl) (by kernel_rfl) (fun _ _ _ h => h) (Or.inl ⟨by rfl, ?_⟩) hHeld ?_
          rotate_left 1
          · (intro w hSw; go_simp; try with_reducible rfl)
          try simp only [Act.put, List.setIfInBounds_toArray, List.set_cons_zero, List.set_cons_succ]
          refine takeL 28 (v := ?_) rfl (by kernel_rfl) (by kernel_rfl) (by kernel_rfl) (fun _ _ _ h => h) (Or.inl ⟨by rfl, ?_⟩) hHeld ?_
          rotate_left 1
          · (intro w hSw; go_simp; try with_reducible rfl)
          try simp only [Act.put, List.setIfInBounds_toArray, List.set_cons_zero, List.set_cons_succ]
          refine takeL 29 (v := ?_) rfl (by kernel_rfl) (by kernel_rfl) (by kernel_rfl) (fun _ _ _ h => h) (Or.inl ⟨by rfl, ?_⟩) hHeld ?_
          rotate_left 1
          · (intro w hSw; go_simp; try with_reducible rfl)
          try simp only [Act.put, List.setIfInBounds_toArray, List.set_cons_zero, List.set_cons_succ]
          refine wpAnyH_done (by kernel_rfl) ?_ _
          exact NoPanic.normal (HQ.out _ _ ⟨rfl, rfl⟩ rfl k45.out.1.below)
      · go_simp
        have k46 := Bx.mk (HLt.out k38.out (below_a (.cells #[.slice ag ng cg] 23)))
        refine hK.out _ _ (Bx.mk k46.out.1.below) (fun hHeld => ?_)
        clear hK K
        try simp only [Act.put, List.setIfInBounds_toArray, List.set_cons_zero, List.set_cons_succ]
        have pG : Bx (Parts (V38.alloc (.cells #[.slice ag ng cg] 23)) (.slice (some ⟨V38.heap.size, 0, none⟩) 1 1) [G]) := Bx.mk (one_part k38.out.2.2)
        have pF := Bx.mk (pF.out.later (below_a (.cells #[.slice ag ng cg] 23)))
        generalize V38.alloc (.cells #[.slice ag ng cg] 23) = V46 at *
        generalize V38.heap.size = DpG at *
        refine stepL 16 (by kernel_rfl) rfl (fun K hK => ?_)
        go_simp
        refine (HDb.out _ k46.out).mono ?_
        rintro e V47 ⟨rfl, hb⟩
        show K _ _
        have k47 := Bx.mk (HLt.out k46.out hb.out)
        refine hK.out _ _ (Bx.mk k47.out.1.below) (fun hHeld => ?_)
        clear hK K
        try simp only [Act.put, List.setIfInBounds_toArray, List.set_cons_zero, List.set_cons_succ]
        have pF := Bx.mk (pF.out.later hb.out)
        have pG := Bx.mk (pG.out.later hb.out)
        refine takeL 17 (v := ?_) rfl (by kernel_rfl) (by kernel_rfl) (by kernel_rfl) (fun _ _ _ h => h) (Or.inl ⟨by rfl, ?_⟩) hHeld ?_
        rotate_left 1
        · (intro w hSw; go_simp; try with_reducible rfl)
        try simp only [Act.put, List.setIfInBounds_toArray, List.set_cons_zero, List.set_cons_succ]
        refine stepL 21 (by kernel_rfl) rfl (fun K hK => ?_)
        go_simp
        refine (HTa.out _ _ k47.out pF.out).mono ?_
        rintro e V48 ⟨rfl, hb⟩
        show K _ _
        have k48 := Bx.mk (HLt.out k47.out hb.out)
        refine hK.out _ _ (Bx.mk k48.out.1.below) (fun hHeld => ?_)
        clear hK K
        try simp only [Act.put, List.setIfInBounds_toArray, List.set_cons_zero, List.set_cons_succ]
        have pF := Bx.mk (pF.out.later hb.out)
        have pG := Bx.mk (pG.out.later hb.out)
        refine stepL 25 (by kernel_rfl) rfl (fun K hK => ?_)
        go_simp
        refine (HTb.out _ _ k48.out pG.out).mono ?_
        rintro e V49 ⟨rfl, hb⟩
        show K _ _
        have k49 := Bx.mk (HLt.out k48.out hb.out)
        refine hK.out _ _ (Bx.mk k49.out.1.below) (fun hHeld => ?_)
        clear hK K
        try simp only [Act.put, List.setIfInBounds_toArray, List.set_cons_zero, List.set_cons_succ]
        have pF := Bx.mk (pF.out.later hb.out)
        have pG := Bx.mk (pG.out.later hb.out)
        refine takeL 26 (v := ?_) rfl (by kernel_rfl) (by kernel_rfl) (by kernel_rfl) (fun _ _ _ h => h) (Or.inl ⟨by rfl, ?_⟩) hHeld ?_
        rotate_left 1
        · (intro w hSw; go_simp; try with_reducible rfl)
        try simp only [Act.put, List.setIfInBounds_toArray, List.set_cons_zero, List.set_cons_succ]
        refine takeL 27 (v := ?_) rfl (by kernel_rfl) (by kernel_rfl) (by kernel_rfl) (fun _ _ _ h => h) (Or.inl ⟨by rfl, ?_⟩) hHeld ?_
        rotate_left 1
        · (intro w hSw; go_simp; try with_reducible rfl)
        try simp only [Act.put, List.setIfInBounds_toArray, List.set_cons_zero, List.set_cons_succ]
        refine takeL 28 (v := ?_) rfl (by kernel_rfl) (by kernel_rfl) (by kernel_rfl) (fun _ _ _ h => h) (Or.inl ⟨by rfl, ?_⟩) hHeld ?_
        rotate_left 1
        · (intro w hSw; go_simp; try with_reducible rfl)
        try simp only [Act.put, List.setIfInBounds_toArray, List.set_cons_zero, List.set_cons_succ]
        refine takeL 29 (v := ?_) rfl (by kernel_rfl) (by kernel_rfl) (by kernel_rfl) (fun _ _ _ h => h) (Or.inl ⟨by rfl, ?_⟩) hHeld ?_
        rotate_left 1
        · (intro w hSw; go_simp; try with_reducible rfl)
        try simp only [Act.put, List.setIfInBounds_toArray, List.set_cons_zero, List.set_cons_succ]
        refine wpAnyH_done (by kernel_rfl) ?_ _
        exact NoPanic.normal (HQ.out _ _ ⟨rfl, rfl⟩ rfl k49.out.1.below)
    · go_simp
      have k50 := Bx.mk (HLt.out k37.out (below_a (.cells #[.slice ag ng cg] 23)))
      refine hK.out _ _ (Bx.mk k50.out.1.below) (fun hHeld => ?_)
      clear hK K
      try simp only [Act.put, List.setIfInBounds_toArray, List.set_cons_zero, List.set_cons_succ]
      have pG : Bx (Parts (V37.alloc (.cells #[.slice ag ng cg] 23)) (.slice (some ⟨V37.heap.size, 0, none⟩) 1 1) [G]) := Bx.mk (one_part k37.out.2.2)
      have pF := Bx.mk (pF.out.later (below_a (.cells #[.slice ag ng cg] 23)))
      generalize V37.alloc (.cells #[.slice ag ng cg] 23) = V50 at *
      generalize V37.heap.size = DpG at *
      refine stepL 12 (by kernel_rfl) rfl (fun K hK => ?_)
      go_simp
      refine (HDa.out _ k50.out).mono ?_
      rintro e V51 ⟨rfl, hb⟩
      show K _ _
      have k51 := Bx.mk (HLt.out k50.out hb.out)
      refine hK.out _ _ (Bx.mk k51.out.1.below) (fun hHeld => ?_)
      clear hK K
      try simp only [Act.put, List.setIfInBounds_toArray, List.set_cons_zero, List.set_cons_succ]
      have pF := Bx.mk (pF.out.later hb.out)
      have pG := Bx.mk (pG.out.later hb.out)
      refine stepL 16 (by kernel_rfl) rfl (fun K hK => ?_)
      go_simp
      refine (HDb.out _ k51.out).mono ?_
      rintro e V52 ⟨rfl, hb⟩
      show K _ _
      have k52 := Bx.mk (HLt.out k51.out hb.out)
      refine hK.out _ _ (Bx.mk k52.out.1.below) (fun hHeld => ?_)
      clear hK K
      try simp only [Act.put, List.setIfInBounds_toArray, List.set_cons_zero, List.set_cons_succ]
      have pF := Bx.mk (pF.out.later hb.out)
      have pG := Bx.mk (pG.out.later hb.out)
      refine takeL 17 (v := ?_) rfl (by kernel_rfl) (by kernel_rfl) (by kernel_rfl) (fun _ _ _ h => h) (Or.inl ⟨by rfl, ?_⟩) hHeld ?_
      rotate_left 1
      · (intro w hSw; go_simp; try with_reducible rfl)
      try simp only [Act.put, List.setIfInBounds_toArray, List.set_cons_zero, List.set_cons_succ]
      refine stepL 21 (by kernel_rfl) rfl (fun K hK => ?_)
      go_simp
      refine (HTa.out _ _ k52.out pF.out).mono ?_
      rintro e V53 ⟨rfl, hb⟩
      show K _ _
      have k53 := Bx.mk (HLt.out k52.out hb.out)
      refine hK.out _ _ (Bx.mk k53.out.1.below) (fun hHeld => ?_)
      clear hK K
      try simp only [Act.put, List.setIfInBounds_toArray, List.set_cons_zero, List.set_cons_succ]
      have pF := Bx.mk (pF.out.later hb.out)
      have pG := Bx.mk (pG.out.later hb.out)
      refine stepL 25 (by kernel_rfl) rfl (fun K hK => ?_)
      go_simp
      refine (HTb.out _ _ k53.out pG.out).mono ?_
      rintro e V54 ⟨rfl, hb⟩
      show K _ _
      have k54 := Bx.mk (HLt.out k53.out hb.out)
      refine hK.out _ _ (Bx.mk k54.out.1.below) (fun hHeld => ?_)
      clear hK K
      try simp only [Act.put, List.setIfInBounds_toArray, List.set_cons_zero, List.set_cons_succ]
      have pF := Bx.mk (pF.out.later hb.out)
      have pG := Bx.mk (pG.out.later hb.out)
      refine takeL 26 (v := ?_) rfl (by kernel_rfl) (by kernel_rfl) (by kernel_rfl) (fun _ _ _ h => h) (Or.inl ⟨by rfl, ?_⟩) hHeld ?_
      rotate_left 1
      · (intro w hSw; go_simp; try with_reducible rfl)
      try simp only [Act.put, List.setIfInBounds_toArray, List.set_cons_zero, List.set_cons_succ]
      refine takeL 27 (v := ?_) rfl (by kernel_rfl) (by kernel_rfl) (by kernel_rfl) (fun _ _ _ h => h) (Or.inl ⟨by rfl, ?_⟩) hHeld ?_
      rotate_left 1
      · (intro w hSw; go_simp; try with_reducible rfl)
      try simp only [Act.put, List.setIfInBounds_toArray, List.set_cons_zero, List.set_cons_succ]
      refine takeL 28 (v := ?_) rfl (by kernel_rfl) (by kernel_rfl) (by kernel_rfl) (fun _ _ _ h => h) (Or.inl ⟨by rfl, ?_⟩) hHeld ?_
      rotate_left 1
      · (intro w hSw; go_simp; try with_reducible rfl)
      try simp only [Act.put, List.setIfInBounds_toArray, List.set_cons_zero, List.set_cons_succ]
      refine takeL 29 (v := ?_) rfl (by kernel_rfl) (by kernel_rfl) (by kernel_rfl) (fun _ _ _ h => h) (Or.inl ⟨by rfl, ?_⟩) hHeld ?_
      rotate_left 1
      · (intro w hSw; go_simp; try with_reducible rfl)
      try simp only [Act.put, List.setIfInBounds_toArray, List.set_cons_zero, List.set_cons_succ]
      refine wpAnyH_done (by kernel_rfl) ?_ _
      exact NoPanic.normal (HQ.out _ _ ⟨rfl, rfl⟩ rfl k54.out.1.below)
  · go_simp
    have k55 := Bx.mk (HLt.out h2.out (below_a (.cells #[.slice ag ng cg] 23)))
    refine hK.out _ _ (Bx.mk k55.out.1.below) (fun hHeld => ?_)
    clear hK K
    try simp only [Act.put, List.setIfInBounds_toArray, List.set_cons_zero, List.set_cons_succ]
    have pG : Bx (Parts (W2.alloc (.cells #[.slice ag ng cg] 23)) (.slice (some ⟨W2.heap.size, 0, none⟩) 1 1) [G]) := Bx.mk (one_part h2.out.2.2)
    generalize W2.alloc (.cells #[.slice ag ng cg] 23) = V55 at *
    generalize W2.heap.size = DpG at *
    refine wpAnyH_ready (rs := [12, 20]) (by kernel_rfl) (by simp) ?_
    refine consM 12 rfl (fun K hK => ?_) (consM 20 rfl (fun K hK => ?_) AllReadyH.nil)
    · go_simp
      refine (HDa.out _ k55.out).mono ?_
      rintro e V56 ⟨rfl, hb⟩
      show K _ _
      have k56 := Bx.mk (HLt.out k55.out hb.out)
      refine hK.out _ _ (Bx.mk k56.out.1.below) (fun hHeld => ?_)
      clear hK K
      try simp only [Act.put, List.setIfInBounds_toArray, List.set_cons_zero, List.set_cons_succ]
      have pG := Bx.mk (pG.out.later hb.out)
      refine wpAnyH_ready (rs := [16, 20]) (by kernel_rfl) (by simp) ?_
      refine consM 16 rfl (fun K hK => ?_) (consM 20 rfl (fun K hK => ?_) AllReadyH.nil)
      · go_simp
        refine (HDb.out _ k56.out).mono ?_
        rintro e V57 ⟨rfl, hb⟩
        show K _ _
        have k57 := Bx.mk (HLt.out k56.out hb.out)
        refine hK.out _ _ (Bx.mk k57.out.1.below) (fun hHeld => ?_)
        clear hK K
        try simp only [Act.put, List.setIfInBounds_toArray, List.set_cons_zero, List.set_cons_succ]
        have pG := Bx.mk (pG.out.later hb.out)
        refine takeL 17 (v := ?_) rfl (by kernel_rfl) (by kernel_rfl) (by kernel_rfl) (fun _ _ _ h => h) (Or.inl ⟨by rfl, ?_⟩) hHeld ?_
        rotate_left 1
        · (intro w hSw; go_simp; try with_reducible rfl)
        try simp only [Act.put, List.setIfInBounds_toArray, List.set_cons_zero, List.set_cons_succ]
        refine stepL 20 (by kernel_rfl) rfl (fun K hK => ?_)
        go_simp
        have k58 := Bx.mk (HLt.out k57.out (below_a (.cells #[.slice af nf cf] 23)))
        refine hK.out _ _ (Bx.mk k58.out.1.below) (fun hHeld => ?_)
        clear hK K
        try simp only [Act.put, List.setIfInBounds_toArray, List.set_cons_zero, List.set_cons_succ]
        have pF : Bx (Parts (V57.alloc (.cells #[.slice af nf cf] 23)) (.slice (some ⟨V57.heap.size, 0, none⟩) 1 1) [F]) := Bx.mk (one_part k57.out.2.1)
        have pG := Bx.mk (pG.out.later (below_a (.cells #[.slice af nf cf] 23)))
        generalize V57.alloc (.cells #[.slice af nf cf] 23) = V58 at *
        generalize V57.heap.size = DpF at *
        refine stepL 21 (by kernel_rfl) rfl (fun K hK => ?_)
        go_simp
        refine (HTa.out _ _ k58.out pF.out).mono ?_
        rintro e V59 ⟨rfl, hb⟩
        show K _ _
        have k59 := Bx.mk (HLt.out k58.out hb.out)
        refine hK.out _ _ (Bx.mk k59.out.1.below) (fun hHeld => ?_)
        clear hK K
        try simp only [Act.put, List.setIfInBounds_toArray, List.set_cons_zero, List.set_cons_succ]
        have pG := Bx.mk (pG.out.later hb.out)
        have pF := Bx.mk (pF.out.later hb.out)
        refine stepL 25 (by kernel_rfl) rfl (fun K hK => ?_)
        go_simp
        refine (HTb.out _ _ k59.out pG.out).mono ?_
        rintro e V60 ⟨rfl, hb⟩
        show K _ _
        have k60 := Bx.mk (HLt.out k59.out hb.out)
        refine hK.out _ _ (Bx.mk k60.out.1.below) (fun hHeld => ?_)
        clear hK K
        try simp only [Act.put, List.setIfInBounds_toArray, List.set_cons_zero, List.set_cons_succ]
        have pG := Bx.mk (pG.out.later hb.out)
        have pF := Bx.mk (pF.out.later hb.out)
        refine takeL 26 (v := ?_) rfl (by kernel_rfl) (by kernel_rfl) (by kernel_rfl) (fun _ _ _ h => h) (Or.inl ⟨by rfl, ?_⟩) hHeld ?_
        rotate_left 1
        · (intro w hSw; go_simp; try with_reducible rfl)
        try simp only [Act.put, List.setIfInBounds_toArray, List.set_cons_zero, List.set_cons_succ]
        refine takeL 27 (v := ?_) rfl (by kernel_rfl) (by kernel_rfl) (by kernel_rfl) (fun _ _ _ h => h) (Or.inl ⟨by rfl, ?_⟩) hHeld ?_
        rotate_left 1
        · (intro w hSw; go_simp; try with_reducible rfl)
        try simp only [Act.put, List.setIfInBounds_toArray, List.set_cons_zero, List.set_cons_succ]
        refine takeL 28 (v := ?_) rfl (by kernel_rfl) (by kernel_rfl) (by kernel_rfl) (fun _ _ _ h => h) (Or.inl ⟨by rfl, ?_⟩) hHeld ?_
        rotate_left 1
        · (intro w hSw; go_simp; try with_reducible rfl)
        try simp only [Act.put, List.setIfInBounds_toArray, List.set_cons_zero, List.set_cons_succ]
        refine takeL 29 (v := ?_) rfl (by kernel_rfl) (by kernel_rfl) (by kernel_rfl) (fun _ _ _ h => h) (Or.inl ⟨by rfl, ?_⟩) hHeld ?_
        rotate_left 1
        · (intro w hSw; go_simp; try with_reducible rfl)
        try simp only [Act.put, List.setIfInBounds_toArray, List.set_cons_zero, List.set_cons_succ]
        refine wpAnyH_done (by kernel_rfl) ?_ _
        exact NoPanic.normal (HQ.out _ _ ⟨rfl, rfl⟩ rfl k60.out.1.below)
      · go_simp
        have k61 := Bx.mk (HLt.out k56.out (below_a (.cells #[.slice af nf cf] 23)))
        refine hK.out _ _ (Bx.mk k61.out.1.below) (fun hHeld => ?_)
        clear hK K
        try simp only [Act.put, List.setIfInBounds_toArray, List.set_cons_zero, List.set_cons_succ]
        have pF : Bx (Parts (V56.alloc (.cells #[.slice af nf cf] 23)) (.slice (some ⟨V56.heap.size, 0, none⟩) 1 1) [F]) := Bx.mk (one_part k56.out.2.1)
        have pG := Bx.mk (pG.out.later (below_a (.cells #[.slice af nf cf] 23)))
        generalize V56.alloc (.cells #[.slice af nf cf] 23) = V61 at *
        generalize V56.heap.size = DpF at *
        refine stepL 16 (by kernel_rfl) rfl (fun K hK => ?_)
        go_simp
        refine (HDb.out _ k61.out).mono ?_
        rintro e V62 ⟨rfl, hb⟩
        show K _ _
        have k62 := Bx.mk (HLt.out k61.out hb.out)
        refine hK.out _ _ (Bx.mk k62.out.1.below) (fun hHeld => ?_)
        clear hK K
        try simp only [Act.put, List.setIfInBounds_toArray, List.set_cons_zero, List.set_cons_succ]
        have pG := Bx.mk (pG.out.later hb.out)
        have pF := Bx.mk (pF.out.later hb.out)
        refine takeL 17 (v := ?_) rfl (by kernel_rfl) (by kernel_rfl) (by kernel_rfl) (fun _ _ _ h => h) (Or.inl ⟨by rfl, ?_⟩) hHeld ?_
        rotate_left 1
        · (intro w hSw; go_simp; try with_reducible rfl)
        try simp only [Act.put, List.setIfInBounds_toArray, List.set_cons_zero, List.set_cons_succ]
        refine stepL 21 (by kernel_rfl) rfl (fun K hK => ?_)
        go_simp
        refine (HTa.out _ _ k62.out pF.out).mono ?_
        rintro e V63 ⟨rfl, hb⟩
        show K _ _
        have k63 := Bx.mk (HLt.out k62.out hb.out)
        refine hK.out _ _ (Bx.mk k63.out.1.below) (fun hHeld => ?_)
        clear hK K
        try simp only [Act.put, List.setIfInBounds_toArray, List.set_cons_zero, List.set_cons_succ]
        have pG := Bx.mk (pG.out.later hb.out)
        have pF := Bx.mk (pF.out.later hb.out)
        refine stepL 25 (by kernel_rfl) rfl (fun K hK => ?_)
        go_simp
        refine (HTb.out _ _ k63.out pG.out).mono ?_
        rintro e V64 ⟨rfl, hb⟩
        show K _ _
        have k64 := Bx.mk (HLt.out k63.out hb.out)
        refine hK.out _ _ (Bx.mk k64.out.1.below) (fun hHeld => ?_)
        clear hK K
        try simp only [Act.put, List.setIfInBounds_toArray, List.set_cons_zero, List.set_cons_succ]
        have pG := Bx.mk (pG.out.later hb.out)
        have pF := Bx.mk (pF.out.later hb.out)
        refine takeL 26 (v := ?_) rfl (by kernel_rfl) (by kernel_rfl) (by kernel_rfl) (fun _ _ _ h => h) (Or.inl ⟨by rfl, ?_⟩) hHeld ?_
        rotate_left 1
        · (intro w hSw; go_simp; try with_reducible rfl)
        try simp only [Act.put, List.setIfInBounds_toArray, List.set_cons_zero, List.set_cons_succ]
        refine takeL 27 (v := ?_) rfl (by kernel_rfl) (by kernel_rfl) (by kernel_rfl) (fun _ _ _ h => h) (Or.inl ⟨by rfl, ?_⟩) hHeld ?_
        rotate_left 1
        · (intro w hSw; go_simp; try with_reducible rfl)
        try simp only [Act.put, List.setIfInBounds_toArray, List.set_cons_zero, List.set_cons_succ]
        refine takeL 28 (v := ?_) rfl (by kernel_rfl) (by kernel_rfl) (by kernel_rfl) (fun _ _ _ h => h) (Or.inl ⟨by rfl, ?_⟩) hHeld ?_
        rotate_left 1
        · (intro w hSw; go_simp; try with_reducible rfl)
        try simp only [Act.put, List.setIfInBounds_toArray, List.set_cons_zero, List.set_cons_succ]
        refine takeL 29 (v := ?_) rfl (by kernel_rfl) (by kernel_rfl) (by kernel_rfl) (fun _ _ _ h => h) (Or.inl ⟨by rfl, ?_⟩) hHeld ?_
        rotate_left 1
        · (intro w hSw; go_simp; try with_reducible rfl)
        try simp only [Act.put, List.setIfInBounds_toArray, List.set_cons_zero, List.set_cons_succ]
        refine wpAnyH_done (by kernel_rfl) ?_ _
        exact NoPanic.normal (HQ.out _ _ ⟨rfl, rfl⟩ rfl k64.out.1.below)
    · go_simp
      have k65 := Bx.mk (HLt.out k55.out (below_a (.cells #[.slice af nf cf] 23)))
      refine hK.out _ _ (Bx.mk k65.out.1.below) (fun hHeld => ?_)
      clear hK K
      try simp only [Act.put, List.setIfInBounds_toArray, List.set_cons_zero, List.set_cons_succ]
      have pF : Bx (Parts (V55.alloc (.cells #[.slice af nf cf] 23)) (.slice (some ⟨V55.heap.size, 0, none⟩) 1 1) [F]) := Bx.mk (one_part k55.out.2.1)
      have pG := Bx.mk (pG.out.later (below_a (.cells #[.slice af nf cf] 23)))
      generalize V55.alloc (.cells #[.slice af nf cf] 23) = V65 at *
      generalize V55.heap.size = DpF at *
      refine stepL 12 (by kernel_rfl) rfl (fun K hK => ?_)
      go_simp
      refine (HDa.out _ k65.out).mono ?_
      rintro e V66 ⟨rfl, hb⟩
      show K _ _
      have k66 := Bx.mk (HLt.out k65.out hb.out)
      refine hK.out _ _ (Bx.mk k66.out.1.below) (fun hHeld => ?_)
      clear hK K
      try simp only [Act.put, List.setIfInBounds_toArray, List.set_cons_zero, List.set_cons_succ]
      have pG := Bx.mk (pG.out.later hb.out)
      have pF := Bx.mk (pF.out.later hb.out)
      refine stepL 16 (by kernel_rfl) rfl (fun K hK => ?_)
      go_simp
      refine (HDb.out _ k66.out).mono ?_
      rintro e V67 ⟨rfl, hb⟩
      show K _ _
      have k67 := Bx.mk (HLt.out k66.out hb.out)
      refine hK.out _ _ (Bx.mk k67.out.1.below) (fun hHeld => ?_)
      clear hK K
      try simp only [Act.put, List.setIfInBounds_toArray, List.set_cons_zero, List.set_cons_succ]
      have pG := Bx.mk (pG.out.later hb.out)
      have pF := Bx.mk (pF.out.later hb.out)
      refine takeL 17 (v := ?_) rfl (by kernel_rfl) (by kernel_rfl) (by kernel_rfl) (fun _ _ _ h => h) (Or.inl ⟨by rfl, ?_⟩) hHeld ?_
      rotate_left 1
      · (intro w hSw; go_simp; try with_reducible rfl)
      try simp only [Act.put, List.setIfInBounds_toArray, List.set_cons_zero, List.set_cons_succ]
      refine stepL 21 (by kernel_rfl) rfl (fun K hK => ?_)
      go_simp
      refine (HTa.out _ _ k67.out pF.out).mono ?_
      rintro e V68 ⟨rfl, hb⟩
      show K _ _
      have k68 := Bx.mk (HLt.out k67.out hb.out)
      refine hK.out _ _ (Bx.mk k68.out.1.below) (fun hHeld => ?_)
      clear hK K
      try simp only [Act.put, List.setIfInBounds_toArray, List.set_cons_zero, List.set_cons_succ]
      have pG := Bx.mk (pG.out.later hb.out)
      have pF := Bx.mk (pF.out.later hb.out)
      refine stepL 25 (by kernel_rfl) rfl (fun K hK => ?_)
      go_simp
      refine (HTb.out _ _ k68.out pG.out).mono ?_
      rintro e V69 ⟨rfl, hb⟩
      show K _ _
      have k69 := Bx.mk (HLt.out k68.out hb.out)
      refine hK.out _ _ (Bx.mk k69.out.1.below) (fun hHeld => ?_)
      clear hK K
      try simp only [Act.put, List.setIfInBounds_toArray, List.set_cons_zero, List.set_cons_succ]
      have pG := Bx.mk (pG.out.later hb.out)
      have pF := Bx.mk (pF.out.later hb.out)
      refine takeL 26 (v := ?_) rfl (by kernel_rfl) (by kernel_rfl) (by kernel_rfl) (fun _ _ _ h => h) (Or.inl ⟨by rfl, ?_⟩) hHeld ?_
      rotate_left 1
      · (intro w hSw; go_simp; try with_reducible rfl)
      try simp only [Act.put, List.setIfInBounds_toArray, List.set_cons_zero, List.set_cons_succ]
      refine takeL 27 (v := ?_) rfl (by kernel_rfl) (by kernel_rfl) (by kernel_rfl) (fun _ _ _ h => h) (Or.inl ⟨by rfl, ?_⟩) hHeld ?_
      rotate_left 1
      · (intro w hSw; go_simp; try with_reducible rfl)
      try simp only [Act.put, List.setIfInBounds_toArray, List.set_cons_zero, List.set_cons_succ]
      refine takeL 28 (v := ?_) rfl (by kernel_rfl) (by kernel_rfl) (by kernel_rfl) (fun _ _ _ h => h) (Or.inl ⟨by rfl, ?_⟩) hHeld ?_
      rotate_left 1
      · (intro w hSw; go_simp; try with_reducible rfl)
      try simp only [Act.put, List.setIfInBounds_toArray, List.set_cons_zero, List.set_cons_succ]
      refine takeL 29 (v := ?_) rfl (by kernel_rfl) (by kernel_rfl) (by kernel_rfl) (fun _ _ _ h => h) (Or.inl ⟨by rfl, ?_⟩) hHeld ?_
      rotate_left 1
      · (intro w hSw; go_simp; try with_reducible rfl)
      try simp only [Act.put, List.setIfInBounds_toArray, List.set_cons_zero, List.set_cons_succ]
      refine wpAnyH_done (by kernel_rfl) ?_ _
      exact NoPanic.normal (HQ.out _ _ ⟨rfl, rfl⟩ rfl k69.out.1.below)
end Go.Proofs.YtkfgpnigeknhmaaDoor
