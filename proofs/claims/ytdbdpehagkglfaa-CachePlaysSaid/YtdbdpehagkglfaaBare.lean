/-
  Only, in both: what goes, what stays.
-/
import Derived.Test.YtdbdpehagkglfaaH40
import Derived.Test.YtdbdpehagkglfaaH41
import Derived.Test.YtdbdpehagkglfaaH42
import Derived.Test.YtdbdpehagkglfaaCu
namespace Go.Proofs.Ytdbdpehagkglfaa
open Go Go.RowKit
def outT (tk : Int) (z : Zz) : Bool := decide (z.e.c.id = tk)
def goneT (tk : Int) (l : List Zz) : List Cl := (l.filter (outT tk)).map (·.e.c)
def restT (tk : Int) (l : List Zz) : List Zz := l.filter fun z => !outT tk z
def onlyT (tk : Int) (l : List Zz) : List Cl := (restT tk l).map (·.e.c)
theorem goneT_snoc (tk : Int) (zs : List Zz) (k : Nat) (hk : k < zs.length) : goneT tk (zs.take (k + 1)) = goneT tk (zs.take k) ++ if outT tk zs[k] then [(zs[k]).e.c] else [] := by
  unfold goneT
  rw [filterZ_snoc _ zs k hk, List.map_append]
  congr 1
  cases h : outT tk zs[k] <;> simp
theorem restT_snoc (tk : Int) (zs : List Zz) (k : Nat) (hk : k < zs.length) : restT tk (zs.take (k + 1)) = restT tk (zs.take k) ++ if outT tk zs[k] then [] else [zs[k]] := by
  unfold restT
  rw [filterZ_snoc _ zs k hk]
  congr 1
  cases h : outT tk zs[k] <;> simp
theorem onlyT_snoc (tk : Int) (zs : List Zz) (k : Nat) (hk : k < zs.length) : onlyT tk (zs.take (k + 1)) = onlyT tk (zs.take k) ++ if outT tk zs[k] then [] else [(zs[k]).e.c] := by
  unfold onlyT
  rw [restT_snoc tk zs k hk, List.map_append]
  congr 1
  cases h : outT tk zs[k] <;> simp
theorem goneT_len (tk : Int) (l : List Zz) : (goneT tk l).length ≤ l.length := by unfold goneT; rw [List.length_map]; exact List.length_filter_le _ _
theorem restT_len (tk : Int) (l : List Zz) : (restT tk l).length ≤ l.length := List.length_filter_le _ _
theorem onlyT_len (tk : Int) (l : List Zz) : (onlyT tk l).length ≤ l.length := by unfold onlyT; rw [List.length_map]; exact restT_len tk l
theorem only_in (tk : Int) {zs : List Zz} {z : Zz} (hz : z ∈ zs) : z.e.c ∈ onlyT tk zs ↔ outT tk z = false := by
  unfold onlyT restT outT
  rw [List.mem_map]
  constructor
  · rintro ⟨y, hy, he⟩
    have h1 := (List.mem_filter.1 hy).2
    simp only [Bool.not_eq_true', decide_eq_false_iff_not] at h1 ⊢
    rw [← he]
    exact h1
  · intro h
    exact ⟨z, List.mem_filter.2 ⟨hz, by rw [h]; rfl⟩, rfl⟩
/-- Rows that grow behind a world. -/
structure IO (N0 : Nat) (W0 : World) (lg : List Cl) (lr : List Zz) (lo : List Cl) (v20 v21 v22 : Value) (W : World) : Prop where
  n : W0.heap.size = N0
  g : OwnG 24 4 encC W N0 v20 lg
  r : OwnG 56 8 encZ W N0 v21 lr
  o : OwnG 34 4 encC W N0 v22 lo
  b : Below N0 W0 W
variable {N0 : Nat} {W0 : World} {lg : List Cl} {lr : List Zz} {lo : List Cl} {v20 v21 v22 : Value} {W W1 : World}
theorem IO.start (W0 : World) : IO W0.heap.size W0 [] [] [] (.slice none 0 0) (.slice none 0 0) (.slice none 0 0) W0 := ⟨rfl, OwnG.nil _ _ _ _ _, OwnG.nil _ _ _ _ _, OwnG.nil _ _ _ _ _, Below.refl _ _⟩
theorem IO.le (h : IO N0 W0 lg lr lo v20 v21 v22 W) : N0 ≤ W.heap.size := by rw [← h.n]; exact h.b.size
theorem IO.later (h : IO N0 W0 lg lr lo v20 v21 v22 W) (hb : Below W.heap.size W W1) : IO N0 W0 lg lr lo v20 v21 v22 W1 := ⟨h.n, h.g.later hb, h.r.later hb, h.o.later hb, h.b.trans (hb.mono h.le)⟩
theorem own_neG {α β : Type} {T T' : TypeId} {n n' base base' : Nat} {enc : α → List Value} {enc' : β → List Value} {v v' : Value} {l : List α} {l' : List β} (hT : T ≠ T') (h : OwnG T n enc W base v l) (h' : OwnG T' n' enc' W base' v' l') (hg : W.grownBy W1 v'.ownBlock) : OwnG T n enc W1 base v l := h.aside (fun M cs fr e h0 => by
  obtain ⟨cs', fr', h1⟩ := h'.kind M e
  rw [h0] at h1
  injection h1 with h1
  injection h1 with _ h1
  exact hT h1) hg
theorem IO.addG (h : IO N0 W0 lg lr lo v20 v21 v22 W) {v : Value} {l : List Cl} (ho : OwnG 24 4 encC W1 N0 v l) (hg : W.grownBy W1 v20.ownBlock) : IO N0 W0 l lr lo v v21 v22 W1 :=
  ⟨h.n, ho, own_neG (by decide) h.r h.g hg, own_neG (by decide) h.o h.g hg, h.b.trans (OwnG.below h.g hg h.le)⟩
theorem IO.addR (h : IO N0 W0 lg lr lo v20 v21 v22 W) {v : Value} {l : List Zz} (ho : OwnG 56 8 encZ W1 N0 v l) (hg : W.grownBy W1 v21.ownBlock) : IO N0 W0 lg l lo v20 v v22 W1 :=
  ⟨h.n, own_neG (by decide) h.g h.r hg, ho, own_neG (by decide) h.o h.r hg, h.b.trans (OwnG.below h.r hg h.le)⟩
theorem IO.addO (h : IO N0 W0 lg lr lo v20 v21 v22 W) {v : Value} {l : List Cl} (ho : OwnG 34 4 encC W1 N0 v l) (hg : W.grownBy W1 v22.ownBlock) : IO N0 W0 lg lr l v20 v21 v W1 :=
  ⟨h.n, own_neG (by decide) h.g h.o hg, own_neG (by decide) h.r h.o hg, ho, h.b.trans (OwnG.below h.o hg h.le)⟩
/-- Only, in both. -/
theorem only_pair {B : Nat} {w : World} {n : Nat} {zs : List Zz} {mv : Value} (h : StL B w n zs mv W0) (hB : B ≤ W0.heap.size) (tk : Int) (hi : IO N0 W0 (goneT tk zs) (restT tk zs) (onlyT tk zs) v20 v21 v22 W) :
    Calls Try.prog 22 #[ptr B, v22] W fun x W2 => ∃ a k cp, x = .returned (.slice a k cp) ∧ RowC W2 (.slice a k cp) (goneT tk zs) ∧ RowC W2 v20 (goneT tk zs) ∧ StL B w n (restT tk zs) v21 W2 := by
  have hb1 : Below W0.heap.size W0 W := by rw [hi.n]; exact hi.b
  have hz : zs.length ≤ 16 := h.le
  have e1 : goneE (ens zs) (onlyT tk zs) = goneT tk zs := by
    unfold goneE
    rw [srt_who h.srt]
    unfold goneT
    congr 1
    refine List.filter_congr fun z hz' => ?_
    have h1 := only_in tk hz'
    cases ho : outT tk z with
    | true =>
      rw [ho] at h1
      simp [h1]
    | false =>
      rw [ho] at h1
      simp [h1]
  have e2 : ((ens zs).filter fun e => decide (e.c ∈ onlyT tk zs)) = ens (restT tk zs) := by
    unfold ens
    rw [List.filter_map]
    unfold restT
    congr 1
    refine List.filter_congr fun z hz' => ?_
    have h1 := only_in tk hz'
    simp only [Function.comp]
    unfold restT at h1
    cases ho : outT tk z with
    | true =>
      rw [ho] at h1
      simp [h1]
    | false =>
      rw [ho] at h1
      simp [h1]
  refine (only_any15 B B (ens zs) v22 (onlyT tk zs) W (h.book.later hb1) (len_le h.le) hi.o.rowT (Nat.le_trans (onlyT_len tk zs) (by omega))).mono ?_
  rintro x W2 ⟨u, rfl, h1, h2, h3⟩
  rw [e1] at h1
  rw [e2] at h2
  have hBW : B ≤ W.heap.size := Nat.le_trans hB hb1.size
  obtain ⟨a, cp, rfl⟩ := h1.form
  refine ⟨a, _, cp, rfl, h1, (OwnG.keepB hi.g h3 (by decide) (by decide)).rowT, h2, OwnG.weak (OwnG.keepB hi.r h3 (by decide) (by decide)) (by have := hi.n; omega), fun z hz' => ((h.each z (List.mem_filter.1 hz').1).later hb1).keepB h3, h.srt.filter _, Nat.le_trans (restT_len tk zs) h.le, (h.below.trans (hb1.mono hB)).trans (h3.below hBW)⟩
end Go.Proofs.Ytdbdpehagkglfaa
namespace Go.Proofs.Ytdbdpehagkglfaa
open Go Go.RowKit
/-- What stays in the frame in the loop within. -/
structure FI15 (v0 : Value) (X B A k : Nat) (mv : Value) (a : Act) : Prop where
  fb : FB15 v0 X B a
  s8 : a.eval (.tmp 8) = mv
  s9 : a.eval (.tmp 9) = .int .i64 (k : Int)
  s10 : a.eval (.tmp 10) = .pointer (some ⟨A, 0, none⟩)
/-- Between two rounds. -/
structure II15 (v0 : Value) (X B A k N0 : Nat) (W0 : World) (mv : Value) (tk : Int) (zs : List Zz) (j : Nat) (a : Act) (W : World) : Prop where
  fi : FI15 v0 X B A k mv a
  s23 : a.eval (.tmp 23) = .int .i64 (j : Int)
  io : ∃ v20 v21 v22, a.eval (.tmp 20) = v20 ∧ a.eval (.tmp 21) = v21 ∧ a.eval (.tmp 22) = v22 ∧ IO N0 W0 (goneT tk (zs.take j)) (restT tk (zs.take j)) (onlyT tk (zs.take j)) v20 v21 v22 W
set_option maxRecDepth 100000 in
set_option maxHeartbeats 4000000 in
theorem roundI_y (v0 : Value) (X B A k N0 : Nat) (W0 : World) (mv : Value) (tk : Int) (zs : List Zz) (hrow : RowZ W0 B mv zs) (hsl : SlZ zs) (hle : zs.length ≤ 16) (hA : ∃ A1 A2 A3 A4 A5 A6 A7 A8 : Value, W0.heap[A]? = some (.cells #[A1, .int .i64 tk, A2, A3, A4, A5, A6, A7, A8] 32 (0, 0))) (hN : W0.heap.size = N0) (Q : Exit → Act → World → Prop) (j : Nat) (a : Act) (wr : World) (hj : j < zs.length) (hout : outT tk zs[j] = true) (h : II15 v0 X B A k N0 W0 mv tk zs j a wr) :
    Code.wp Try.prog (loopAt (Try.f3.body) 1) (Exit.then (fun a' w' => II15 v0 X B A k N0 W0 mv tk zs (j + 1) a' w') Q) a wr := by
  obtain ⟨hf, s23, v20, v21, v22, s20, s21, s22, hio⟩ := h
  obtain ⟨g, cap, rfl⟩ := OwnG.start hrow (by omega)
  have HG : Bx (∀ W, Below N0 W0 W → W.rangeAt g (j * 8) (encZ zs[j])) := Bx.mk fun W hb => (OwnG.later hrow (hN ▸ hb)).at_ encZ_len j hj
  have HAc : Bx (∀ W, Below N0 W0 W → W.cell? ⟨A, 1, none⟩ = some (.int .i64 tk)) := Bx.mk fun W hb => by
    obtain ⟨A1, A2, A3, A4, A5, A6, A7, A8, h⟩ := hA
    exact (cells9 ((hb.block A (hN ▸ (Array.getElem?_eq_some_iff.1 h).1)).trans h)).2.1
  have HS := Bx.mk (And.intro (goneT_snoc tk zs j hj) (And.intro (restT_snoc tk zs j hj) (onlyT_snoc tk zs j hj)))
  rw [hout] at HS
  have HSl := hsl _ (List.getElem_mem hj)
  have HL1 : Bx ((goneT tk (zs.take j)).length ≤ 1000 ∧ (restT tk (zs.take j)).length ≤ 1000 ∧ (onlyT tk (zs.take j)).length ≤ 1000) := Bx.mk ⟨Nat.le_trans (goneT_len _ _) (by rw [List.length_take]; omega), Nat.le_trans (restT_len _ _) (by rw [List.length_take]; omega), Nat.le_trans (onlyT_len _ _) (by rw [List.length_take]; omega)⟩
  have HZ0 := Bx.mk (encZ_one zs[j] HSl.1 HSl.2)
  unfold outT at hout
  generalize zs[j] = z at *
  obtain ⟨nz, hnz⟩ : ∃ n, zs.length = n := ⟨_, rfl⟩
  rw [hnz] at hj hf hle ⊢
  have hj1 : (j : Int) < (nz : Int) := by omega
  have hj0 : (0 : Int) ≤ (j : Int) := by omega
  have hjn : ¬ (j : Int) < 0 := by omega
  have hwj : IntKind.i64.wrap ((j : Int) + 1) = (j : Int) + 1 := by simp [IntKind.wrap_i64]; omega
  have R0' := Bx.mk hio
  obtain ⟨b20, c20, rfl, -, -⟩ := OwnG.form hio.g
  obtain ⟨b21, c21, rfl, -, -⟩ := OwnG.form hio.r
  obtain ⟨b22, c22, rfl, -, -⟩ := OwnG.form hio.o
  obtain ⟨l20, hl20⟩ : ∃ n, (goneT tk (zs.take j)).length = n := ⟨_, rfl⟩
  obtain ⟨l21, hl21⟩ : ∃ n, (restT tk (zs.take j)).length = n := ⟨_, rfl⟩
  obtain ⟨l22, hl22⟩ : ∃ n, (onlyT tk (zs.take j)).length = n := ⟨_, rfl⟩
  rw [hl20] at s20 R0'
  rw [hl21] at s21 R0'
  rw [hl22] at s22 R0'
  obtain ⟨⟨⟨zi, zr, zx, zq⟩, zp, zs', zk', za⟩, zkv, ztv, zns, zask⟩ := z
  simp only at hout
  obtain ⟨y, rfl, hy⟩ := open227 hf.fb.fr
  have e0 := (hy 0).symm.trans hf.fb.s0
  have e4 := (hy 4).symm.trans hf.fb.s4
  have e5 := (hy 5).symm.trans hf.fb.s5
  have e7 := (hy 7).symm.trans hf.fb.s7
  have e8 := (hy 8).symm.trans hf.s8
  have e9 := (hy 9).symm.trans hf.s9
  have e10 := (hy 10).symm.trans hf.s10
  have e20 := (hy 20).symm.trans s20
  have e21 := (hy 21).symm.trans s21
  have e22 := (hy 22).symm.trans s22
  have e23 := (hy 23).symm.trans s23
  clear hf hy s20 s21 s22 s23 hio hj hle hnz hrow hsl hA hN HSl hl20 hl21 hl22
  rw [e0, e4, e5, e7, e8, e9, e10, e20, e21, e22, e23]
  clear e0 e4 e5 e7 e8 e9 e10 e20 e21 e22 e23
  conv => arg 2; whnf
  have hzt : zi = tk := of_decide_eq_true hout
  clear hout
  subst hzt
  go_upto_region 19 with fail
  have R0 := Bx.mk (R0'.out.later (Below.refl _ wr).drew)
  clear R0'
  refine wp_region_noPanic ?_
  refine wp_region_held_drew (S := fun W => W.cell? ⟨g, j * 8, none⟩ = some (.int .i64 zi) ∧ W.cell? ⟨A, 1, none⟩ = some (.int .i64 zi)) (by kernel_rfl) (⟨HG.out _ R0.out.b 0 _ rfl, HAc.out _ R0.out.b⟩) (fun hHeld => ?_)
  generalize wr.drew = u0 at *
  refine takeL 0 (v := ?_) rfl (by kernel_rfl) (by kernel_rfl) (by kernel_rfl) (fun _ _ _ h => h) (Or.inl ⟨by rfl, ?_⟩) hHeld ?_
  rotate_left 1
  · (intro w hSw; go_simp; try with_reducible rfl)
  try simp only [Act.put, List.setIfInBounds_toArray, List.set_cons_zero, List.set_cons_succ]
  refine takeL 1 (v := ?_) rfl (by kernel_rfl) (by kernel_rfl) (by kernel_rfl) (fun _ _ _ h => h) (Or.inl ⟨by rfl, ?_⟩) hHeld ?_
  rotate_left 1
  · (intro w hSw; go_simp; try with_reducible rfl)
  try simp only [Act.put, List.setIfInBounds_toArray, List.set_cons_zero, List.set_cons_succ]
  refine takeL 2 (v := ?_) rfl (by kernel_rfl) (by kernel_rfl) (by kernel_rfl) (fun _ _ _ h => h) (Or.inl ⟨by rfl, ?_⟩) hHeld ?_
  rotate_left 1
  · (intro w hSw; go_simp; try with_reducible rfl)
  try simp only [Act.put, List.setIfInBounds_toArray, List.set_cons_zero, List.set_cons_succ]
  refine takeL 3 (v := ?_) rfl (by kernel_rfl) (by kernel_rfl) (by kernel_rfl) (fun _ _ _ h => h) (Or.inl ⟨by rfl, ?_⟩) hHeld ?_
  rotate_left 1
  · (intro w hSw; go_simp; try with_reducible rfl)
  try simp only [Act.put, List.setIfInBounds_toArray, List.set_cons_zero, List.set_cons_succ]
  refine takeL 4 (v := ?_) rfl (by kernel_rfl) (by kernel_rfl) (by kernel_rfl) (fun _ _ _ h => h) (Or.inl ⟨by rfl, ?_⟩) hHeld ?_
  rotate_left 1
  · (intro w hSw; go_simp; try with_reducible rfl)
  try simp only [Act.put, List.setIfInBounds_toArray, List.set_cons_zero, List.set_cons_succ]
  refine takeL 5 (v := ?_) rfl (by kernel_rfl) (by kernel_rfl) (by kernel_rfl) (fun _ _ _ h => h) (Or.inl ⟨by rfl, ?_⟩) hHeld ?_
  rotate_left 1
  · (intro w hSw; have h1 : w.cell? ⟨g, j * 8, none⟩ = some (.int .i64 zi) := hSw.1; go_simp; try with_reducible rfl)
  try simp only [Act.put, List.setIfInBounds_toArray, List.set_cons_zero, List.set_cons_succ]
  refine takeL 6 (v := ?_) rfl (by kernel_rfl) (by kernel_rfl) (by kernel_rfl) (fun _ _ _ h => h) (Or.inl ⟨by rfl, ?_⟩) hHeld ?_
  rotate_left 1
  · (intro w hSw; go_simp; try with_reducible rfl)
  try simp only [Act.put, List.setIfInBounds_toArray, List.set_cons_zero, List.set_cons_succ]
  refine takeL 7 (v := ?_) rfl (by kernel_rfl) (by kernel_rfl) (by kernel_rfl) (fun _ _ _ h => h) (Or.inl ⟨by rfl, ?_⟩) hHeld ?_
  rotate_left 1
  · (intro w hSw; have h1 : w.cell? ⟨A, 1, none⟩ = some (.int .i64 zi) := hSw.2; go_simp; try with_reducible rfl)
  try simp only [Act.put, List.setIfInBounds_toArray, List.set_cons_zero, List.set_cons_succ]
  refine takeL 8 (v := ?_) rfl (by kernel_rfl) (by kernel_rfl) (by kernel_rfl) (fun _ _ _ h => h) (Or.inl ⟨by rfl, ?_⟩) hHeld ?_
  rotate_left 1
  · (intro w hSw; go_simp; try with_reducible rfl)
  try simp only [Act.put, List.setIfInBounds_toArray, List.set_cons_zero, List.set_cons_succ]
  refine wpAnyH_done (by kernel_rfl) ?_ _
  refine NoPanic.normal ?_
  clear hHeld
  have k0 : u0.cell? ⟨g, j * 8, none⟩ = some (.int .i64 zi) := HG.out _ R0.out.b 0 _ rfl
  have k1 : u0.cell? ⟨g, j * 8 + 1, none⟩ = some (.int .i64 zr) := HG.out _ R0.out.b 1 _ rfl
  have k2 : u0.cell? ⟨g, j * 8 + 2, none⟩ = some (.int .i64 zx) := HG.out _ R0.out.b 2 _ rfl
  have k3 : u0.cell? ⟨g, j * 8 + 3, none⟩ = some (.int .i64 zq) := HG.out _ R0.out.b 3 _ rfl
  have A0 := Bx.mk (R0.out.later (below_a (W := u0) (.cells #[.int .i64 zi, .int .i64 zr, .int .i64 zx, .int .i64 zq] 24)))
  go_wp2_with (refine wpList_apG (T := 24) (n := 4) (enc := encC) elRc rfl _ _ rfl N0 (.slice b20 l20 c20) _ (by rfl) A0.out.g u0.heap.size 0 ⟨zi, zr, zx, zq⟩ 1 (by rfl) (box_rng u0 ⟨zi, zr, zx, zq⟩ 24) (encC_len _) (encC_one _) HL1.out.1 A0.out.le ?_; intro v5 w5 ho hg; have P1 := Bx.mk (A0.out.addG ho hg); clear ho hg)
  have P2 : Bx (IO N0 W0 (goneT zi (zs.take (j + 1))) (restT zi (zs.take (j + 1))) (onlyT zi (zs.take (j + 1))) v5 (.slice b21 l21 c21) (.slice b22 l22 c22) w5) := Bx.mk (by
    obtain ⟨h1, h2, h3⟩ := HS.out
    rw [h1, h2, h3]
    simp only [if_true, List.append_nil]
    exact P1.out)
  exact ⟨⟨⟨⟨rfl, rfl⟩, rfl, rfl, rfl, rfl⟩, rfl, rfl, rfl⟩, by first | rfl | go_num, _, _, _, rfl, rfl, rfl, P2.out⟩
set_option maxRecDepth 100000 in
set_option maxHeartbeats 4000000 in
theorem roundI_n (v0 : Value) (X B A k N0 : Nat) (W0 : World) (mv : Value) (tk : Int) (zs : List Zz) (hrow : RowZ W0 B mv zs) (hsl : SlZ zs) (hle : zs.length ≤ 16) (hA : ∃ A1 A2 A3 A4 A5 A6 A7 A8 : Value, W0.heap[A]? = some (.cells #[A1, .int .i64 tk, A2, A3, A4, A5, A6, A7, A8] 32 (0, 0))) (hN : W0.heap.size = N0) (Q : Exit → Act → World → Prop) (j : Nat) (a : Act) (wr : World) (hj : j < zs.length) (hout : outT tk zs[j] = false) (h : II15 v0 X B A k N0 W0 mv tk zs j a wr) :
    Code.wp Try.prog (loopAt (Try.f3.body) 1) (Exit.then (fun a' w' => II15 v0 X B A k N0 W0 mv tk zs (j + 1) a' w') Q) a wr := by
  obtain ⟨hf, s23, v20, v21, v22, s20, s21, s22, hio⟩ := h
  obtain ⟨g, cap, rfl⟩ := OwnG.start hrow (by omega)
  have HG : Bx (∀ W, Below N0 W0 W → W.rangeAt g (j * 8) (encZ zs[j])) := Bx.mk fun W hb => (OwnG.later hrow (hN ▸ hb)).at_ encZ_len j hj
  have HAc : Bx (∀ W, Below N0 W0 W → W.cell? ⟨A, 1, none⟩ = some (.int .i64 tk)) := Bx.mk fun W hb => by
    obtain ⟨A1, A2, A3, A4, A5, A6, A7, A8, h⟩ := hA
    exact (cells9 ((hb.block A (hN ▸ (Array.getElem?_eq_some_iff.1 h).1)).trans h)).2.1
  have HS := Bx.mk (And.intro (goneT_snoc tk zs j hj) (And.intro (restT_snoc tk zs j hj) (onlyT_snoc tk zs j hj)))
  rw [hout] at HS
  have HSl := hsl _ (List.getElem_mem hj)
  have HL1 : Bx ((goneT tk (zs.take j)).length ≤ 1000 ∧ (restT tk (zs.take j)).length ≤ 1000 ∧ (onlyT tk (zs.take j)).length ≤ 1000) := Bx.mk ⟨Nat.le_trans (goneT_len _ _) (by rw [List.length_take]; omega), Nat.le_trans (restT_len _ _) (by rw [List.length_take]; omega), Nat.le_trans (onlyT_len _ _) (by rw [List.length_take]; omega)⟩
  have HZ0 := Bx.mk (encZ_one zs[j] HSl.1 HSl.2)
  unfold outT at hout
  generalize zs[j] = z at *
  obtain ⟨nz, hnz⟩ : ∃ n, zs.length = n := ⟨_, rfl⟩
  rw [hnz] at hj hf hle ⊢
  have hj1 : (j : Int) < (nz : Int) := by omega
  have hj0 : (0 : Int) ≤ (j : Int) := by omega
  have hjn : ¬ (j : Int) < 0 := by omega
  have hwj : IntKind.i64.wrap ((j : Int) + 1) = (j : Int) + 1 := by simp [IntKind.wrap_i64]; omega
  have R0' := Bx.mk hio
  obtain ⟨b20, c20, rfl, -, -⟩ := OwnG.form hio.g
  obtain ⟨b21, c21, rfl, -, -⟩ := OwnG.form hio.r
  obtain ⟨b22, c22, rfl, -, -⟩ := OwnG.form hio.o
  obtain ⟨l20, hl20⟩ : ∃ n, (goneT tk (zs.take j)).length = n := ⟨_, rfl⟩
  obtain ⟨l21, hl21⟩ : ∃ n, (restT tk (zs.take j)).length = n := ⟨_, rfl⟩
  obtain ⟨l22, hl22⟩ : ∃ n, (onlyT tk (zs.take j)).length = n := ⟨_, rfl⟩
  rw [hl20] at s20 R0'
  rw [hl21] at s21 R0'
  rw [hl22] at s22 R0'
  obtain ⟨⟨⟨zi, zr, zx, zq⟩, zp, zs', zk', za⟩, zkv, ztv, zns, zask⟩ := z
  simp only at hout
  obtain ⟨y, rfl, hy⟩ := open227 hf.fb.fr
  have e0 := (hy 0).symm.trans hf.fb.s0
  have e4 := (hy 4).symm.trans hf.fb.s4
  have e5 := (hy 5).symm.trans hf.fb.s5
  have e7 := (hy 7).symm.trans hf.fb.s7
  have e8 := (hy 8).symm.trans hf.s8
  have e9 := (hy 9).symm.trans hf.s9
  have e10 := (hy 10).symm.trans hf.s10
  have e20 := (hy 20).symm.trans s20
  have e21 := (hy 21).symm.trans s21
  have e22 := (hy 22).symm.trans s22
  have e23 := (hy 23).symm.trans s23
  clear hf hy s20 s21 s22 s23 hio hj hle hnz hrow hsl hA hN HSl hl20 hl21 hl22
  rw [e0, e4, e5, e7, e8, e9, e10, e20, e21, e22, e23]
  clear e0 e4 e5 e7 e8 e9 e10 e20 e21 e22 e23
  conv => arg 2; whnf
  have hzt : ¬ zi = tk := of_decide_eq_false hout
  have hm : (zi == tk) = false := by simpa using hzt
  clear hout
  go_upto_region 19 with fail
  have R0 := Bx.mk (R0'.out.later (Below.refl _ wr).drew)
  clear R0'
  refine wp_region_noPanic ?_
  refine wp_region_held_drew (S := fun W => W.cell? ⟨g, j * 8, none⟩ = some (.int .i64 zi) ∧ W.cell? ⟨A, 1, none⟩ = some (.int .i64 tk)) (by kernel_rfl) (⟨HG.out _ R0.out.b 0 _ rfl, HAc.out _ R0.out.b⟩) (fun hHeld => ?_)
  generalize wr.drew = u0 at *
  refine takeL 0 (v := ?_) rfl (by kernel_rfl) (by kernel_rfl) (by kernel_rfl) (fun _ _ _ h => h) (Or.inl ⟨by rfl, ?_⟩) hHeld ?_
  rotate_left 1
  · (intro w hSw; go_simp; try with_reducible rfl)
  try simp only [Act.put, List.setIfInBounds_toArray, List.set_cons_zero, List.set_cons_succ]
  refine takeL 1 (v := ?_) rfl (by kernel_rfl) (by kernel_rfl) (by kernel_rfl) (fun _ _ _ h => h) (Or.inl ⟨by rfl, ?_⟩) hHeld ?_
  rotate_left 1
  · (intro w hSw; go_simp; try with_reducible rfl)
  try simp only [Act.put, List.setIfInBounds_toArray, List.set_cons_zero, List.set_cons_succ]
  refine takeL 2 (v := ?_) rfl (by kernel_rfl) (by kernel_rfl) (by kernel_rfl) (fun _ _ _ h => h) (Or.inl ⟨by rfl, ?_⟩) hHeld ?_
  rotate_left 1
  · (intro w hSw; go_simp; try with_reducible rfl)
  try simp only [Act.put, List.setIfInBounds_toArray, List.set_cons_zero, List.set_cons_succ]
  refine takeL 3 (v := ?_) rfl (by kernel_rfl) (by kernel_rfl) (by kernel_rfl) (fun _ _ _ h => h) (Or.inl ⟨by rfl, ?_⟩) hHeld ?_
  rotate_left 1
  · (intro w hSw; go_simp; try with_reducible rfl)
  try simp only [Act.put, List.setIfInBounds_toArray, List.set_cons_zero, List.set_cons_succ]
  refine takeL 4 (v := ?_) rfl (by kernel_rfl) (by kernel_rfl) (by kernel_rfl) (fun _ _ _ h => h) (Or.inl ⟨by rfl, ?_⟩) hHeld ?_
  rotate_left 1
  · (intro w hSw; go_simp; try with_reducible rfl)
  try simp only [Act.put, List.setIfInBounds_toArray, List.set_cons_zero, List.set_cons_succ]
  refine takeL 5 (v := ?_) rfl (by kernel_rfl) (by kernel_rfl) (by kernel_rfl) (fun _ _ _ h => h) (Or.inl ⟨by rfl, ?_⟩) hHeld ?_
  rotate_left 1
  · (intro w hSw; have h1 : w.cell? ⟨g, j * 8, none⟩ = some (.int .i64 zi) := hSw.1; go_simp; try with_reducible rfl)
  try simp only [Act.put, List.setIfInBounds_toArray, List.set_cons_zero, List.set_cons_succ]
  refine takeL 6 (v := ?_) rfl (by kernel_rfl) (by kernel_rfl) (by kernel_rfl) (fun _ _ _ h => h) (Or.inl ⟨by rfl, ?_⟩) hHeld ?_
  rotate_left 1
  · (intro w hSw; go_simp; try with_reducible rfl)
  try simp only [Act.put, List.setIfInBounds_toArray, List.set_cons_zero, List.set_cons_succ]
  refine takeL 7 (v := ?_) rfl (by kernel_rfl) (by kernel_rfl) (by kernel_rfl) (fun _ _ _ h => h) (Or.inl ⟨by rfl, ?_⟩) hHeld ?_
  rotate_left 1
  · (intro w hSw; have h1 : w.cell? ⟨A, 1, none⟩ = some (.int .i64 tk) := hSw.2; go_simp; try with_reducible rfl)
  try simp only [Act.put, List.setIfInBounds_toArray, List.set_cons_zero, List.set_cons_succ]
  refine takeL 8 (v := ?_) rfl (by kernel_rfl) (by kernel_rfl) (by kernel_rfl) (fun _ _ _ h => h) (Or.inl ⟨by rfl, ?_⟩) hHeld ?_
  rotate_left 1
  · (intro w hSw; go_simp; try with_reducible rfl)
  try simp only [Act.put, List.setIfInBounds_toArray, List.set_cons_zero, List.set_cons_succ]
  refine wpAnyH_done (by kernel_rfl) ?_ _
  refine NoPanic.normal ?_
  clear hHeld
  have k0 : u0.cell? ⟨g, j * 8, none⟩ = some (.int .i64 zi) := HG.out _ R0.out.b 0 _ rfl
  have k1 : u0.cell? ⟨g, j * 8 + 1, none⟩ = some (.int .i64 zr) := HG.out _ R0.out.b 1 _ rfl
  have k2 : u0.cell? ⟨g, j * 8 + 2, none⟩ = some (.int .i64 zx) := HG.out _ R0.out.b 2 _ rfl
  have k3 : u0.cell? ⟨g, j * 8 + 3, none⟩ = some (.int .i64 zq) := HG.out _ R0.out.b 3 _ rfl
  have k4 : u0.cell? ⟨g, j * 8 + 4, none⟩ = some (.bool zk'.isSome) := HG.out _ R0.out.b 4 _ rfl
  have k5 : u0.cell? ⟨g, j * 8 + 5, none⟩ = some (.int .i64 zask) := HG.out _ R0.out.b 5 _ rfl
  have k6 : u0.cell? ⟨g, j * 8 + 6, none⟩ = some (zkv) := HG.out _ R0.out.b 6 _ rfl
  have k7 : u0.cell? ⟨g, j * 8 + 7, none⟩ = some (ztv) := HG.out _ R0.out.b 7 _ rfl
  have A0 := Bx.mk (R0.out.later (below_a (W := u0) (.cells #[.int .i64 zi, .int .i64 zr, .int .i64 zx, .int .i64 zq, .bool zk'.isSome, .int .i64 zask, zkv, ztv] 56)))
  have HTo := Bx.mk fun W => cto_any ⟨zi, zr, zx, zq⟩ W
  unfold clV at HTo
  simp only at HTo
  go_wp2_with (refine wpList_apG (T := 56) (n := 8) (enc := encZ) elEn rfl _ _ rfl N0 (.slice b21 l21 c21) _ (by rfl) A0.out.r u0.heap.size 0 ⟨⟨⟨zi, zr, zx, zq⟩, zp, zs', zk', za⟩, zkv, ztv, zns, zask⟩ 1 (by rfl) (row_rng15 (l := encZ ⟨⟨⟨zi, zr, zx, zq⟩, zp, zs', zk', za⟩, zkv, ztv, zns, zask⟩) (hnew _ _ _ rfl)) rfl HZ0.out HL1.out.2.1 A0.out.le ?_; intro v5 w5 ho hg; have P1 := Bx.mk (A0.out.addR ho hg); clear ho hg k0 k1 k2 k3 k4 k5 k6 k7 A0 R0; have p0 : w5.cell? ⟨g, j * 8, none⟩ = some (.int .i64 zi) := HG.out _ P1.out.b 0 _ rfl; have p1 : w5.cell? ⟨g, j * 8 + 1, none⟩ = some (.int .i64 zr) := HG.out _ P1.out.b 1 _ rfl; have p2 : w5.cell? ⟨g, j * 8 + 2, none⟩ = some (.int .i64 zx) := HG.out _ P1.out.b 2 _ rfl; have p3 : w5.cell? ⟨g, j * 8 + 3, none⟩ = some (.int .i64 zq) := HG.out _ P1.out.b 3 _ rfl)
  refine (HTo.out _).mono ?_
  rintro e w6 ⟨rfl, hb⟩
  have P2 := Bx.mk (P1.out.later hb)
  have A2 := Bx.mk (P2.out.later (below_a (W := w6) (.cells #[.int .i64 zi, .int .i64 zr, .int .i64 zx, .int .i64 zq] 34)))
  clear hb P1 p0 p1 p2 p3
  go_wp2_with (refine wpList_apG (T := 34) (n := 4) (enc := encC) elCl rfl _ _ rfl N0 (.slice b22 l22 c22) _ (by rfl) A2.out.o w6.heap.size 0 ⟨zi, zr, zx, zq⟩ 1 (by rfl) (box_rng w6 ⟨zi, zr, zx, zq⟩ 34) (encC_len _) (encC_one _) HL1.out.2.2 A2.out.le ?_; intro v7 w7 ho hg; have P3 := Bx.mk (A2.out.addO ho hg); clear ho hg)
  have P4 : Bx (IO N0 W0 (goneT tk (zs.take (j + 1))) (restT tk (zs.take (j + 1))) (onlyT tk (zs.take (j + 1))) (.slice b20 l20 c20) v5 v7 w7) := Bx.mk (by
    obtain ⟨h1, h2, h3⟩ := HS.out
    rw [h1, h2, h3]
    simp only [Bool.false_eq_true, if_false, List.append_nil]
    exact P3.out)
  exact ⟨⟨⟨⟨rfl, rfl⟩, rfl, rfl, rfl, rfl⟩, rfl, rfl, rfl⟩, by first | rfl | go_num, _, _, _, rfl, rfl, rfl, P4.out⟩
set_option maxRecDepth 100000 in
set_option maxHeartbeats 4000000 in
theorem lastI (v0 : Value) (X B A k N0 : Nat) (W0 : World) (mv : Value) (tk : Int) (zs : List Zz) (hrow : RowZ W0 B mv zs) (hsl : SlZ zs) (hle : zs.length ≤ 16) (hA : ∃ A1 A2 A3 A4 A5 A6 A7 A8 : Value, W0.heap[A]? = some (.cells #[A1, .int .i64 tk, A2, A3, A4, A5, A6, A7, A8] 32 (0, 0))) (hN : W0.heap.size = N0) (Q : Exit → Act → World → Prop) (N : Act → World → Prop) (a : Act) (wr : World) (h : II15 v0 X B A k N0 W0 mv tk zs zs.length a wr)
    (hq : ∀ a' w' v20 v21 v22, FI15 v0 X B A k mv a' → a'.eval (.tmp 20) = v20 → a'.eval (.tmp 21) = v21 → a'.eval (.tmp 22) = v22 → IO N0 W0 (goneT tk zs) (restT tk zs) (onlyT tk zs) v20 v21 v22 w' → Q (.exit 3) a' w') :
    Code.wp Try.prog (loopAt (Try.f3.body) 1) (Exit.then N Q) a wr := by
  obtain ⟨hf, s23, v20, v21, v22, s20, s21, s22, hio⟩ := h
  rw [List.take_length] at hio
  have HQ := Bx.mk hq
  have R0 := Bx.mk hio
  obtain ⟨ma, mc, rfl, -, -⟩ := OwnG.form hrow
  obtain ⟨nz, hnz⟩ : ∃ n, zs.length = n := ⟨_, rfl⟩
  rw [hnz] at hf HQ s23 hle
  have hj1 : ¬ (nz : Int) < (nz : Int) := by omega
  obtain ⟨y, rfl, hy⟩ := open227 hf.fb.fr
  have e0 := (hy 0).symm.trans hf.fb.s0
  have e4 := (hy 4).symm.trans hf.fb.s4
  have e5 := (hy 5).symm.trans hf.fb.s5
  have e7 := (hy 7).symm.trans hf.fb.s7
  have e8 := (hy 8).symm.trans hf.s8
  have e9 := (hy 9).symm.trans hf.s9
  have e10 := (hy 10).symm.trans hf.s10
  have e20 := (hy 20).symm.trans s20
  have e21 := (hy 21).symm.trans s21
  have e22 := (hy 22).symm.trans s22
  have e23 := (hy 23).symm.trans s23
  clear hf hy s20 s21 s22 s23 hio hnz hrow hsl hA hN hq
  rw [e0, e4, e5, e7, e8, e9, e10, e20, e21, e22, e23]
  clear e0 e4 e5 e7 e8 e9 e10 e20 e21 e22 e23
  conv => arg 2; whnf
  go_wp2
  exact HQ.out _ _ _ _ _ ⟨⟨⟨rfl, rfl⟩, rfl, rfl, rfl, rfl⟩, rfl, rfl, rfl⟩ rfl rfl rfl R0.out
theorem loopI (v0 : Value) (X B A k N0 : Nat) (W0 : World) (mv : Value) (tk : Int) (zs : List Zz) (hrow : RowZ W0 B mv zs) (hsl : SlZ zs) (hle : zs.length ≤ 16) (hA : ∃ A1 A2 A3 A4 A5 A6 A7 A8 : Value, W0.heap[A]? = some (.cells #[A1, .int .i64 tk, A2, A3, A4, A5, A6, A7, A8] 32 (0, 0))) (hN : W0.heap.size = N0) (Q : Exit → Act → World → Prop) (a : Act) (wr : World) (h : II15 v0 X B A k N0 W0 mv tk zs 0 a wr)
    (hq : ∀ a' w' v20 v21 v22, FI15 v0 X B A k mv a' → a'.eval (.tmp 20) = v20 → a'.eval (.tmp 21) = v21 → a'.eval (.tmp 22) = v22 → IO N0 W0 (goneT tk zs) (restT tk zs) (onlyT tk zs) v20 v21 v22 w' → Q (.exit 3) a' w') :
    Code.wp Try.prog (.loop (loopAt (Try.f3.body) 1)) Q a wr :=
  wp_count zs.length (fun j a w' => II15 v0 X B A k N0 W0 mv tk zs j a w') 0 (Nat.zero_le _) h (fun j a w' hj hI => by
    cases ho : outT tk zs[j] with
    | true => exact roundI_y v0 X B A k N0 W0 mv tk zs hrow hsl hle hA hN Q j a w' hj ho hI
    | false => exact roundI_n v0 X B A k N0 W0 mv tk zs hrow hsl hle hA hN Q j a w' hj ho hI) (fun a w' hI => lastI v0 X B A k N0 W0 mv tk zs hrow hsl hle hA hN Q _ a w' hI hq)
end Go.Proofs.Ytdbdpehagkglfaa
namespace Go.Proofs.Ytdbdpehagkglfaa
open Go Go.RowKit
set_option maxRecDepth 100000 in
set_option maxHeartbeats 4000000 in
theorem round15_5 (wb : World) (X B : Nat) (xc : Cl) (xn : Nn) (l : List A15) (v0 : Value) (hin : In15 wb X B xc xn l v0) (Q : Exit → Act → World → Prop) (k : Nat) (a : Act) (wr : World) (hk : k < l.length) (hk5 : k < 50) (h : IL15 wb v0 X B k a wr) (hkd : (IntKind.u64.wrap (l.getD k A15.zero).kd).tmod 6 = 5) :
    Code.wp Try.prog (loopAt (Try.f3.body) 0) (Exit.then (fun a' w' => IL15 wb v0 X B (k + 1) a' w') Q) a wr := by
  obtain ⟨hf, s9, mv, zs, s8, hS⟩ := h
  obtain ⟨b, o, cap, rfl⟩ := hin.acts.start (by omega)
  obtain ⟨vb, hr, hkb, -, -, hc64, hkl, hnf⟩ := hin.acts.at_ k hk
  have HBX := Bx.mk fun W (hb : Below B wb W) => hin.box hb
  have HTl := Bx.mk fun (m : Nat) (zs : List Zz) (mv : Value) (W : World) (h : StL B wb m zs mv W) (hm : m ≤ 1000) => tells_any B wb m zs mv xc hin.fitC xn hin.fitN W h hm
  obtain ⟨na, hna⟩ : ∃ na, l.length = na := ⟨_, rfl⟩
  have hlen := hin.len
  have hsz := hin.size
  rw [hna] at hk hf hlen ⊢
  clear hin
  generalize l.getD k A15.zero = ac at *
  obtain ⟨kd, tk, ⟨ci, cr, cx, cq⟩, kk, ⟨pb, pc⟩⟩ := ac
  obtain ⟨xi, xr, xx, xq⟩ := xc
  obtain ⟨xb, xc⟩ := xn
  simp only at hr hkb hc64 hkl hnf hkd HBX
  obtain ⟨tt, ht, et⟩ := lowT tk 1073741824 (by omega) (by omega)
  have et : wrap64 ((IntKind.u64.wrap tk).tmod 1073741824) = (tt : Int) := et
  have HT30 : Bx ((0 : Int) ≤ (tt : Int) ∧ (tt : Int) ≤ 1073741824) := Bx.mk ⟨by omega, by omega⟩
  have HC64 := Bx.mk (And.intro hc64 hnf)
  obtain ⟨ka, kcap, hvb, hkcap, hkno⟩ := bytes_form hkb
  obtain ⟨kl, hkl'⟩ : ∃ kl, kk.length = kl := ⟨_, rfl⟩
  rw [hkl'] at hvb hkcap hkl
  subst hvb
  obtain ⟨km, hkm⟩ : ∃ km, km = min kl 40 := ⟨_, rfl⟩
  have m1 : min (kl : Int) 40 = (km : Int) := by omega
  have s1 := fun W => cut_bytes ka kl kcap km (by omega) hkcap hkno W
  have HKm : Bx (km ≤ 40 ∧ km ≤ kl) := Bx.mk ⟨by omega, by omega⟩
  have HKB : Bx (∀ W, Below B wb W → Bytes W (.slice ka km kcap) (kk.take km) ∧ (kk.take km).length ≤ 40) := Bx.mk fun W hb => ⟨(hkb.take km (by omega)).later (by rw [hsz]; exact hb), by rw [List.length_take]; omega⟩
  have hB0 : B ≤ wr.heap.size := by rw [← hsz]; exact hS.below.size
  have hrw := rng_later hr (by rw [hsz]; exact hS.below)
  obtain ⟨d0, d1, d2, d3, d4, d5, d6, d7, d8⟩ := rng9 hrw
  have HTo := Bx.mk fun W => cto_any ⟨ci, cr, cx, cq⟩ W
  have k1 : (k : Int) < 50 := by omega
  have k2 : (k : Int) < (na : Int) := by omega
  have k0 : (0 : Int) ≤ (k : Int) := by omega
  have n1 : (na : Int) ≤ 9223372036854775807 := by omega
  have l1 : (kl : Int) ≤ 9223372036854775807 := by omega
  have hwk : IntKind.i64.wrap ((k : Int) + 1) = (k : Int) + 1 := by simp [IntKind.wrap_i64]; omega
  have HK := Bx.mk (show k ≤ 1000 by omega)
  obtain ⟨ma, mk, mc, rfl⟩ := hS.form
  have HSz := Bx.mk hsz
  have R1 : Bx (StL B wb k zs (.slice ma mk mc) (wr.alloc (.cells #[.int .i64 kd, .int .i64 tk, .int .i64 ci, .int .i64 cr, .int .i64 cx, .int .i64 cq, .slice ka kl kcap, .int .i64 pb, .int .i64 pc] 32)) ∧ (wr.alloc (.cells #[.int .i64 kd, .int .i64 tk, .int .i64 ci, .int .i64 cr, .int .i64 cx, .int .i64 cq, .slice ka kl kcap, .int .i64 pb, .int .i64 pc] 32)).heap[wr.heap.size]? = some (.cells #[.int .i64 kd, .int .i64 tk, .int .i64 ci, .int .i64 cr, .int .i64 cx, .int .i64 cq, .slice ka kl kcap, .int .i64 pb, .int .i64 pc] 32 (0, 0)) ∧ B ≤ wr.heap.size) := Bx.mk ⟨hS.later hB0 (below_a _), hnew _ _ _ rfl, hB0⟩
  obtain ⟨y, rfl, hy⟩ := open227 hf.fr
  have e0 := (hy 0).symm.trans hf.s0
  have e4 := (hy 4).symm.trans hf.s4
  have e5 := (hy 5).symm.trans hf.s5
  have e7 := (hy 7).symm.trans hf.s7
  have e8 := (hy 8).symm.trans s8
  have e9 := (hy 9).symm.trans s9
  clear hf hy s8 s9 hS hk hk5 hna hkm hkl hkl' hkcap hkno hkb hr hrw hc64 hnf ht hB0 hlen hsz
  rw [e0, e4, e5, e7, e8, e9]
  clear e0 e4 e5 e7 e8 e9
  conv => arg 2; whnf
  unfold clV at HTo
  simp only at HTo
  go_wp2_with fail
  refine (HTo.out _).mono ?_
  rintro e w2 ⟨rfl, hb⟩
  have R2 : Bx (StL B wb k zs (.slice ma mk mc) (w2.alloc (.cells #[.int .i64 ci, .int .i64 cr, .int .i64 cx, .int .i64 cq] 34)) ∧ (w2.alloc (.cells #[.int .i64 ci, .int .i64 cr, .int .i64 cx, .int .i64 cq] 34)).heap[wr.heap.size]? = some (.cells #[.int .i64 kd, .int .i64 tk, .int .i64 ci, .int .i64 cr, .int .i64 cx, .int .i64 cq, .slice ka kl kcap, .int .i64 pb, .int .i64 pc] 32 (0, 0)) ∧ (w2.alloc (.cells #[.int .i64 ci, .int .i64 cr, .int .i64 cx, .int .i64 cq] 34)).heap[w2.heap.size]? = some (.cells #[.int .i64 ci, .int .i64 cr, .int .i64 cx, .int .i64 cq] 34 (0, 0)) ∧ B ≤ (w2.alloc (.cells #[.int .i64 ci, .int .i64 cr, .int .i64 cx, .int .i64 cq] 34)).heap.size) := Bx.mk (by
    have h1 := R1.out.2.2
    have h2 : B ≤ (wr.alloc (.cells #[.int .i64 kd, .int .i64 tk, .int .i64 ci, .int .i64 cr, .int .i64 cx, .int .i64 cq, .slice ka kl kcap, .int .i64 pb, .int .i64 pc] 32)).heap.size := by rw [World.size_alloc]; omega
    have h3 := hb.size
    have h4 := (Array.getElem?_eq_some_iff.1 R1.out.2.1).1
    refine ⟨(R1.out.1.later h2 hb).later (by omega) (below_a _), ?_, hnew _ _ _ rfl, by rw [World.size_alloc]; omega⟩
    rw [hold _ _ _ (by omega)]
    exact (hb.block _ h4).trans R1.out.2.1)
  have hAne : wr.heap.size ≠ w2.heap.size := by
    have := hb.size
    have := (Array.getElem?_eq_some_iff.1 R1.out.2.1).1
    omega
  obtain ⟨a0, -, -, -, -, -, -, -, -⟩ := cells9 R2.out.2.1
  clear hb R1 HTo d0 d1 d2 d3 d4 d5 d6 d7 d8
  go_upto_region 26 with fail
  clear a0 m1 s1
  generalize hA : wr.heap.size = A at *
  generalize hY : w2.heap.size = Y at *
  generalize w2.alloc (.cells #[.int .i64 ci, .int .i64 cr, .int .i64 cx, .int .i64 cq] 34) = w3 at *
  clear hA hY hAne
  have HI := Bx.mk fun (Q : Exit → Act → World → Prop) (a : Act) (wr : World) => loopI (.slice (some ⟨b, o, none⟩) na cap) X B A k w3.heap.size w3 (.slice ma mk mc) tk zs R2.out.1.row R2.out.1.slz R2.out.1.le ⟨_, _, _, _, _, _, _, _, R2.out.2.1⟩ rfl Q a wr
  have HIO : Bx (IO w3.heap.size w3 (goneT tk (zs.take 0)) (restT tk (zs.take 0)) (onlyT tk (zs.take 0)) (.slice none 0 0) (.slice none 0 0) (.slice none 0 0) w3) := Bx.mk (IO.start w3)
  have S3 := Bx.mk R2.out.1
  have HB3 := Bx.mk R2.out.2.2.2
  have HLe : Bx ((goneT tk zs).length ≤ 1000) := Bx.mk (Nat.le_trans (goneT_len tk zs) (by have := R2.out.1.le; omega))
  clear R2
  go_wp2
  refine HI.out _ _ _ ⟨⟨⟨⟨rfl, rfl⟩, rfl, rfl, rfl, rfl⟩, rfl, rfl, rfl⟩, rfl, _, _, _, rfl, rfl, rfl, HIO.out⟩ ?_
  intro a6 w6 v20 v21 v22 hf s20 s21 s22 hio
  have HOp := Bx.mk (only_pair S3.out HB3.out tk hio)
  unfold ptr at HOp
  obtain ⟨a21, c21, hv21, -, -⟩ := OwnG.form hio.r
  obtain ⟨n21, hn21⟩ : ∃ n, (restT tk zs).length = n := ⟨_, rfl⟩
  rw [hn21] at hv21
  subst hv21
  obtain ⟨y, rfl, hy⟩ := open227 hf.fb.fr
  have e0 := (hy 0).symm.trans hf.fb.s0
  have e4 := (hy 4).symm.trans hf.fb.s4
  have e5 := (hy 5).symm.trans hf.fb.s5
  have e7 := (hy 7).symm.trans hf.fb.s7
  have e9 := (hy 9).symm.trans hf.s9
  have e20 := (hy 20).symm.trans s20
  have e21 := (hy 21).symm.trans s21
  have e22 := (hy 22).symm.trans s22
  clear hf hy s20 s21 s22 hio HI HIO S3 HB3 hn21
  rw [e0, e4, e5, e7, e9, e20, e21, e22]
  clear e0 e4 e5 e7 e9 e20 e21 e22
  go_wp2_with fail
  refine HOp.out.mono ?_
  rintro e w7 ⟨q1, q2, q3, rfl, h1, h2, hS'⟩
  have S7 := Bx.mk hS'
  have HSm := Bx.mk (lsame15 _ _ (goneT tk zs) _ h1 h2 HLe.out)
  clear h1 h2 hS' HOp HLe
  go_wp2_with fail
  refine HSm.out.mono ?_
  rintro e w8 ⟨rfl, hb⟩
  have S8 := Bx.mk (S7.out.later (by have := S7.out.below.size; have := HSz.out; omega) hb)
  clear hb S7 HSm
  have HBx2 := HBX.out w8 S8.out.below
  obtain ⟨b0, b1, b2, b3⟩ := cells4' HBx2.1
  obtain ⟨p0, p1⟩ := cells2' HBx2.2
  have HTl2 := Bx.mk (HTl.out _ _ _ _ S8.out (by have := HK.out; omega))
  unfold ptr clV nv at HTl2
  simp only at HTl2
  clear HBx2
  go_wp2_with fail
  refine HTl2.out.mono ?_
  rintro e wz ⟨rfl, hbz⟩
  have SZ := Bx.mk ((S8.out.later (by have := S8.out.below.size; have := HSz.out; omega) hbz).more (show k ≤ k + 1 by omega))
  clear hbz b0 b1 b2 b3 p0 p1 HTl2
  go_wp2
  exact ⟨⟨⟨rfl, rfl⟩, rfl, rfl, rfl, rfl⟩, by first | rfl | go_num, _, _, rfl, SZ.out⟩
end Go.Proofs.Ytdbdpehagkglfaa
namespace Go.Proofs.Ytdbdpehagkglfaa
open Go Go.RowKit
theorem round15 (wb : World) (X B : Nat) (xc : Cl) (xn : Nn) (l : List A15) (v0 : Value) (hin : In15 wb X B xc xn l v0) (Q : Exit → Act → World → Prop) (k : Nat) (a : Act) (wr : World) (hk : k < l.length) (hk5 : k < 50) (h : IL15 wb v0 X B k a wr) : Code.wp Try.prog (loopAt (Try.f3.body) 0) (Exit.then (fun a' w' => IL15 wb v0 X B (k + 1) a' w') Q) a wr := by
  rcases kind6 (l.getD k A15.zero).kd with h6 | h6 | h6 | h6 | h6 | h6
  · exact round15_0 wb X B xc xn l v0 hin Q k a wr hk hk5 h h6
  · exact round15_1 wb X B xc xn l v0 hin Q k a wr hk hk5 h h6
  · exact round15_2 wb X B xc xn l v0 hin Q k a wr hk hk5 h h6
  · exact round15_3 wb X B xc xn l v0 hin Q k a wr hk hk5 h h6
  · exact round15_4 wb X B xc xn l v0 hin Q k a wr hk hk5 h h6
  · exact round15_5 wb X B xc xn l v0 hin Q k a wr hk hk5 h h6
set_option maxRecDepth 100000 in
set_option maxHeartbeats 4000000 in
theorem last15 (wb : World) (X B : Nat) (xc : Cl) (xn : Nn) (l : List A15) (v0 : Value) (hin : In15 wb X B xc xn l v0) (Q : Exit → Act → World → Prop) (N : Act → World → Prop) (k : Nat) (hk : k ≤ l.length) (hk5 : k ≤ 50) (hend : l.length ≤ k ∨ k = 50) (a : Act) (wr : World) (h : IL15 wb v0 X B k a wr)
    (hq : ∀ a' w' mv zs, FB15 v0 X B a' → a'.eval (.tmp 8) = mv → StL B wb k zs mv w' → Q (.exit 0) a' w') :
    Code.wp Try.prog (loopAt (Try.f3.body) 0) (Exit.then N Q) a wr := by
  obtain ⟨hf, s9, mv, zs, s8, hS⟩ := h
  have HL := Bx.mk hS
  have HQ := Bx.mk hq
  obtain ⟨a0, cap, rfl⟩ := hin.acts.form
  obtain ⟨na, hna⟩ : ∃ m, l.length = m := ⟨_, rfl⟩
  have hn := hin.len
  clear hin
  rw [hna] at hk hn hf hend HQ
  have k0 : (0 : Int) ≤ (k : Int) := by omega
  have m1 : (na : Int) ≤ 9223372036854775807 := by omega
  obtain ⟨ma, mk, mc, rfl⟩ := hS.form
  obtain ⟨y, rfl, hy⟩ := open227 hf.fr
  have e0 := (hy 0).symm.trans hf.s0
  have e4 := (hy 4).symm.trans hf.s4
  have e5 := (hy 5).symm.trans hf.s5
  have e7 := (hy 7).symm.trans hf.s7
  have e8 := (hy 8).symm.trans s8
  have e9 := (hy 9).symm.trans s9
  clear hf hy s8 s9 hS hq hna
  rw [e0, e4, e5, e7, e8, e9]
  clear e0 e4 e5 e7 e8 e9
  conv => arg 2; whnf
  by_cases hlt : k < na
  · have h1 : (k : Int) < (na : Int) := by omega
    have h2 : ¬ (k : Int) < 50 := by omega
    clear hend hlt hk hk5 hn
    go_wp2
    exact HQ.out _ _ _ _ ⟨⟨rfl, rfl⟩, rfl, rfl, rfl, rfl⟩ rfl HL.out
  · have h1 : ¬ (k : Int) < (na : Int) := by omega
    clear hend hlt hk hk5 hn
    go_wp2
    exact HQ.out _ _ _ _ ⟨⟨rfl, rfl⟩, rfl, rfl, rfl, rfl⟩ rfl HL.out
theorem loop15 (wb : World) (X B : Nat) (xc : Cl) (xn : Nn) (l : List A15) (v0 : Value) (hin : In15 wb X B xc xn l v0) (Q : Exit → Act → World → Prop) (a : Act) (wr : World) (h : IL15 wb v0 X B 0 a wr)
    (hq : ∀ a' w' mv zs k, k ≤ 50 → FB15 v0 X B a' → a'.eval (.tmp 8) = mv → StL B wb k zs mv w' → Q (.exit 0) a' w') :
    Code.wp Try.prog (.loop (loopAt (Try.f3.body) 0)) Q a wr :=
  wp_count (min l.length 50) (fun k a w' => IL15 wb v0 X B k a w') 0 (Nat.zero_le _) h (fun k a w' hk hI => round15 wb X B xc xn l v0 hin Q k a w' (by omega) (by omega) hI) (fun a w' hI => last15 wb X B xc xn l v0 hin Q _ _ (by omega) (by omega) (by omega) a w' hI (fun a' w' mv zs => hq a' w' mv zs _ (by omega)))
theorem Acts15.later {w w1 : World} {v : Value} {l : List A15} (h : Acts15 w v l) (hb : Below w.heap.size w w1) : Acts15 w1 v l := by
  obtain ⟨a, cap, hv, hr⟩ := h
  refine ⟨a, cap, hv, fun hp => ?_⟩
  obtain ⟨b, o, ha, hi⟩ := hr hp
  refine ⟨b, o, ha, fun i hi' => ?_⟩
  obtain ⟨vb, h1, h2, h3⟩ := hi i hi'
  exact ⟨vb, rng_later h1 hb, h2.later hb, h3⟩
end Go.Proofs.Ytdbdpehagkglfaa
namespace Go.Proofs.Ytdbdpehagkglfaa
open Go Go.RowKit
set_option maxRecDepth 100000 in
set_option maxHeartbeats 4000000 in
theorem plays_walk (l : List A15) (xcl : Cl) (xnn : Nn) (v0 : Value) (w : World) (hv : Acts15 w v0 l) (hl : l.length ≤ 9223372036854775807) (hc : Cl64 xcl) (hn : xnn.fit) :
    Calls Try.prog 3 #[v0, clV xcl, nv xnn] w fun x w' => x = .returned (.bool true) ∧ Below w.heap.size w w' := by
  obtain ⟨xi, xr, xx, xq⟩ := xcl
  obtain ⟨xb, xc⟩ := xnn
  obtain ⟨X, hX⟩ : ∃ X, w.heap.size = X := ⟨_, rfl⟩
  have hbw : Below X w ((w.alloc (.cells #[.int .i64 xi, .int .i64 xr, .int .i64 xx, .int .i64 xq] 24)).alloc (.cells #[.int .i64 xb, .int .i64 xc] 26)) := by rw [← hX]; exact (below_a _).alloc (by rw [World.size_alloc]; omega) _
  have hIn : In15 ((w.alloc (.cells #[.int .i64 xi, .int .i64 xr, .int .i64 xx, .int .i64 xq] 24)).alloc (.cells #[.int .i64 xb, .int .i64 xc] 26)) X (X + 2) ⟨xi, xr, xx, xq⟩ ⟨xb, xc⟩ l v0 := ⟨by rw [World.size_alloc, World.size_alloc, hX], hc, hn, hv.later (by rw [hX]; exact hbw), hl, by
    rw [hold _ _ _ (by rw [World.size_alloc]; omega)]
    exact hnew _ _ _ hX.symm, hnew _ _ _ (by rw [World.size_alloc, hX])⟩
  have HIn := Bx.mk hIn
  have HBX := Bx.mk fun W (hb : Below (X + 2) ((w.alloc (.cells #[.int .i64 xi, .int .i64 xr, .int .i64 xx, .int .i64 xq] 24)).alloc (.cells #[.int .i64 xb, .int .i64 xc] 26)) W) => hIn.box hb
  have HNw := Bx.mk (new15 ((w.alloc (.cells #[.int .i64 xi, .int .i64 xr, .int .i64 xx, .int .i64 xq] 24)).alloc (.cells #[.int .i64 xb, .int .i64 xc] 26)))
  rw [hIn.size] at HNw
  have HK := Bx.mk known15_ex
  have HTl := Bx.mk fun (m : Nat) (zs : List Zz) (mv : Value) (W : World) (h : StL (X + 2) ((w.alloc (.cells #[.int .i64 xi, .int .i64 xr, .int .i64 xx, .int .i64 xq] 24)).alloc (.cells #[.int .i64 xb, .int .i64 xc] 26)) m zs mv W) (hm : m ≤ 1000) => tells_any (X + 2) ((w.alloc (.cells #[.int .i64 xi, .int .i64 xr, .int .i64 xx, .int .i64 xq] 24)).alloc (.cells #[.int .i64 xb, .int .i64 xc] 26)) m zs mv ⟨xi, xr, xx, xq⟩ hc ⟨xb, xc⟩ hn W h hm
  have HS0 : Bx (∀ W, BookAt (X + 2) (X + 2) [] W → Below (X + 2) ((w.alloc (.cells #[.int .i64 xi, .int .i64 xr, .int .i64 xx, .int .i64 xq] 24)).alloc (.cells #[.int .i64 xb, .int .i64 xc] 26)) W → StL (X + 2) ((w.alloc (.cells #[.int .i64 xi, .int .i64 xr, .int .i64 xx, .int .i64 xq] 24)).alloc (.cells #[.int .i64 xb, .int .i64 xc] 26)) 0 [] (.slice none 0 0) W) := Bx.mk fun W h1 h2 => ⟨h1, OwnG.nil _ _ _ _ _, (fun z hz => by cases hz), List.Pairwise.nil, by decide, h2⟩
  have HBW := Bx.mk hbw
  have HLp := Bx.mk fun (Q : Exit → Act → World → Prop) (a : Act) (wr : World) => loop15 ((w.alloc (.cells #[.int .i64 xi, .int .i64 xr, .int .i64 xx, .int .i64 xq] 24)).alloc (.cells #[.int .i64 xb, .int .i64 xc] 26)) X (X + 2) ⟨xi, xr, xx, xq⟩ ⟨xb, xc⟩ l v0 hIn Q a wr
  have HSz := Bx.mk hIn.size
  obtain ⟨va, vc, rfl⟩ := hv.form
  generalize l.length = na at *
  clear hv hl hc hn hIn hbw
  rw [hX]
  unfold clV nv ptr at *
  simp only at HTl ⊢
  generalize hwb : ((w.alloc (.cells #[.int .i64 xi, .int .i64 xr, .int .i64 xx, .int .i64 xq] 24)).alloc (.cells #[.int .i64 xb, .int .i64 xc] 26)) = wb at *
  go_enter Try.func3, Try.ntmps3
  go_wp2_with fail
  refine HNw.out.mono ?_
  rintro e w1 ⟨rfl, h1, h2⟩
  have S1 := Bx.mk (HS0.out w1 h1 h2)
  clear h1 h2 HNw HS0 hwb
  go_wp2
  refine HLp.out _ _ _ ⟨⟨⟨rfl, rfl⟩, rfl, rfl, rfl, rfl⟩, rfl, _, _, rfl, S1.out⟩ ?_
  intro a6 w6 mv zs k hk5 hf s8 hS
  have S6 := Bx.mk hS
  obtain ⟨ma, mk, mc, rfl⟩ := hS.form
  obtain ⟨y, rfl, hy⟩ := open227 hf.fr
  have e0 := (hy 0).symm.trans hf.s0
  have e4 := (hy 4).symm.trans hf.s4
  have e5 := (hy 5).symm.trans hf.s5
  have e7 := (hy 7).symm.trans hf.s7
  have e8 := (hy 8).symm.trans s8
  clear hf hy s8 hS S1 HLp
  rw [e0, e4, e5, e7, e8]
  clear e0 e4 e5 e7 e8
  go_wp2_with fail
  refine (HK.out _).mono ?_
  rintro e w7 ⟨rfl, hb⟩
  have S7 := Bx.mk (S6.out.later (by have := S6.out.below.size; have := HSz.out; omega) hb)
  clear hb S6 HK
  have HBx2 := HBX.out w7 S7.out.below
  obtain ⟨b0, b1, b2, b3⟩ := cells4' HBx2.1
  obtain ⟨p0, p1⟩ := cells2' HBx2.2
  have HTl2 := Bx.mk (HTl.out _ _ _ _ S7.out (by omega))
  clear HBx2 hk5
  go_wp2_with fail
  refine HTl2.out.mono ?_
  rintro e wz ⟨rfl, hbz⟩
  have HB : Bx (Below X w wz) := Bx.mk (HBW.out.trans ((S7.out.below.trans (hbz.mono (by have := S7.out.below.size; have := HSz.out; omega))).mono (by omega)))
  clear hbz b0 b1 b2 b3 p0 p1 HTl2 S7
  go_wp2
  go_ret
  exact ⟨rfl, HB.out⟩
end Go.Proofs.Ytdbdpehagkglfaa
namespace Go.Proofs.Ytdbdpehagkglfaa
open Go
/-- A world to begin with. -/
noncomputable def laidWorld (os : Os) : World := World.holding Try.prog os ⟨#[], #[], []⟩
end Go.Proofs.Ytdbdpehagkglfaa
