/-
  The statement on what is put: the third loop.
-/
import Derived.Test.YtgbhckoaabnblaaUb
namespace Go.Proofs.Ytgbhckoaabnblaa
open Go Go.RowKit
/-- The frame in and behind the third loop. -/
structure H0 (ax : Option Addr) (m cx q : Nat) (v7 v10 : Value) (a : Act) : Prop where
  fr : Fr 204 a
  s3 : a.eval (.tmp 3) = (.slice ax m cx)
  s7 : a.eval (.tmp 7) = v7
  s10 : a.eval (.tmp 10) = v10
  s15 : a.eval (.tmp 15) = (.pointer (some ⟨q, 0, none⟩))
/-- What stays in memory while fields are got. -/
structure MR (w : World) (B q : Nat) (xv v7 v10 : Value) (gs : List Fd) (l7 l10 rest : List UInt8) (W : World) : Prop where
  bel : Below w.heap.size w W
  leB : w.heap.size ≤ B
  fx : FldsB W B xv gs
  rd : IsR W q rest 0
  bq : B ≤ q
  o7 : BytesN W q v7 l7
  o10 : BytesN W q v10 l10
theorem MR.ltB {w : World} {B q : Nat} {xv v7 v10 : Value} {gs : List Fd} {l7 l10 rest : List UInt8} {W : World} (h : MR w B q xv v7 v10 gs l7 l10 rest W) : B ≤ W.heap.size := Nat.le_trans h.bq (Nat.le_of_lt h.rd.lt)
theorem MR.later {w : World} {B q : Nat} {xv v7 v10 : Value} {gs : List Fd} {l7 l10 rest : List UInt8} {W W1 : World} (h : MR w B q xv v7 v10 gs l7 l10 rest W) (hb : Below W.heap.size W W1) : MR w B q xv v7 v10 gs l7 l10 rest W1 :=
  ⟨h.bel.trans (hb.mono h.bel.size), h.leB, h.fx.later (hb.mono h.ltB), h.rd.later hb, h.bq, h.o7.grown (kb_below _ hb), h.o10.grown (kb_below _ hb)⟩
theorem MR.got {w : World} {B q : Nat} {xv v7 v10 : Value} {gs : List Fd} {l7 l10 rest rest' : List UInt8} {W W1 : World} (h : MR w B q xv v7 v10 gs l7 l10 rest W) (hg : W.grownBy W1 (some q)) (hr : IsR W1 q rest' 0) : MR w B q xv v7 v10 gs l7 l10 rest' W1 :=
  ⟨h.bel.trans (grown_below hg (Nat.le_trans h.leB h.bq) h.bel.size), h.leB, h.fx.later (grown_below hg h.bq h.ltB), hr, h.bq, h.o7.grown hg, h.o10.grown hg⟩
/-- The bytes of fields. -/
def encs (gs : List Fd) : List UInt8 := (gs.map enc).flatten
theorem encs_drop (gs : List Fd) (k : Nat) (hk : k < gs.length) : encs (gs.drop k) = enc (gs.getD k Fd.zero) ++ encs (gs.drop (k + 1)) := by
  rw [List.drop_eq_getElem_cons hk, List.getD_eq_getElem?_getD, List.getElem?_eq_getElem hk]
  rfl
theorem encs_le (gs : List Fd) (k : Nat) : (encs (gs.drop k)).length ≤ (encs gs).length := by
  induction gs generalizing k with
  | nil => simp [encs]
  | cons f r ih =>
    rcases k with _ | k
    · exact Nat.le_refl _
    · have h := ih k
      simp only [encs, List.drop_succ_cons, List.map_cons, List.flatten_cons, List.length_append] at h ⊢
      omega
theorem fold_ok (gs : List Fd) : ∀ (l r : List UInt8), gs.foldl putS (l, 0) = (r, 0) → r = l ++ encs gs ∧ ∀ f ∈ gs, chk f = 0 := by
  induction gs with
  | nil =>
    intro l r h
    have e : l = r := congrArg Prod.fst h
    exact ⟨by simp [encs, e], fun f hf => by cases hf⟩
  | cons f gs ih =>
    intro l r h
    rw [List.foldl_cons] at h
    by_cases hz : rfs (l, 0) f = 0
    · rw [putS_rfs, if_pos hz] at h
      obtain ⟨e, hc⟩ := ih _ _ h
      refine ⟨by rw [e]; simp [encs], fun g hg => ?_⟩
      rcases List.mem_cons.1 hg with rfl | hg
      · exact (rfs_zero hz).2.1
      · exact hc g hg
    · rw [putS_rfs, if_neg hz, fold_stuck _ (by exact hz)] at h
      exact absurd (congrArg Prod.snd h) hz
/-- The third loop's state. -/
structure I3 (w : World) (B : Nat) (ax : Option Addr) (m cx q : Nat) (v7 v10 : Value) (gs : List Fd) (l7 l10 : List UInt8) (k : Nat) (a : Act) (W : World) : Prop where
  kf : H0 ax m cx q v7 v10 a
  s16 : a.eval (.tmp 16) = .int .i64 (k : Int)
  mr : MR w B q (.slice ax m cx) v7 v10 gs l7 l10 (encs (gs.drop k)) W
set_option maxRecDepth 100000 in
set_option maxHeartbeats 4000000 in
theorem round3 (w : World) (B : Nat) (ax : Option Addr) (m cx q : Nat) (v7 v10 : Value) (gs : List Fd) (l7 l10 : List UInt8) (hm : m ≤ 12) (hck : ∀ f ∈ gs, chk f = 0) (htot : (encs gs).length ≤ 1024)
    (Q : Exit → Act → World → Prop) (k : Nat) (a : Act) (wr : World) (hk : k < m) (h : I3 w B ax m cx q v7 v10 gs l7 l10 k a wr) :
    Code.wp Try.prog (loopAt Try.f3.body 2) (Exit.then (fun a' w' => I3 w B ax m cx q v7 v10 gs l7 l10 (k + 1) a' w') Q) a wr := by
  have hml : (m : Int) ≤ 12 := by omega
  obtain ⟨gx, ox, vb, rfl, hgB, hrg, hbn, hbB⟩ := h.mr.fx.at_ k hk
  have HC := Bx.mk (hck (gs.getD k Fd.zero) (by rw [List.getD_eq_getElem?_getD, List.getElem?_eq_getElem (by rw [h.mr.fx.len]; exact hk)]; exact List.getElem_mem _))
  have HRe0 := encs_drop gs k (by rw [h.mr.fx.len]; exact hk)
  obtain ⟨more, hmo⟩ : ∃ l, encs (gs.drop (k + 1)) = l := ⟨_, rfl⟩
  have HMe := Bx.mk hmo
  have HMo : Bx (more.length ≤ 1024) := Bx.mk (by rw [← hmo]; exact Nat.le_trans (encs_le gs (k + 1)) htot)
  rw [hmo] at HRe0
  have HM := h.mr
  obtain ⟨rest, hre⟩ : ∃ l, encs (gs.drop k) = l := ⟨_, rfl⟩
  rw [hre] at HRe0 HM
  generalize gs.getD k Fd.zero = f at *
  obtain ⟨s, n, b⟩ := f
  simp only at hrg hbn hbB
  have HRe := Bx.mk HRe0
  obtain ⟨ab, cb, hvb, -⟩ := id hbn
  subst hvb
  have HBx0 : Bx (∀ W, Below B wr W → Bytes W (.slice ab b.length cb) b) := Bx.mk (fun W hb => bytes_below hbn hbB hb)
  have HSS0 : Bx (∀ W, Below B wr W → W.cell? ⟨gx, ox + k * 3, none⟩ = some (.int .i64 s) ∧ W.rangeAt gx (ox + k * 3) [.int .i64 s, .int .i64 n, .slice ab b.length cb]) := Bx.mk (fun W hb => ⟨(cells_of (range_later hrg hb hgB)).1, range_later hrg hb hgB⟩)
  have H : Bx (MR w B q (.slice (some ⟨gx, ox, none⟩) m cx) v7 v10 gs l7 l10 rest wr ∧ Below B wr wr) := Bx.mk ⟨HM, Below.refl _ _⟩
  obtain ⟨L, hL⟩ : ∃ n, b.length = n := ⟨_, rfl⟩
  rw [hL] at HBx0 HSS0
  have HBx := HBx0
  have HSS : Bx (∀ W, Below B wr W → (fun W => W.cell? ⟨gx, ox + k * 3, none⟩ = some (.int .i64 s) ∧ W.rangeAt gx (ox + k * 3) [.int .i64 s, .int .i64 n, .slice ab L cb]) W) := HSS0
  obtain ⟨x, rfl, hx⟩ := open204 h.kf.fr
  have e3 := (hx 3).symm.trans h.kf.s3
  have e7 := (hx 7).symm.trans h.kf.s7
  have e10 := (hx 10).symm.trans h.kf.s10
  have e15 := (hx 15).symm.trans h.kf.s15
  have e16 := (hx 16).symm.trans h.s16
  clear h hx hrg hbn hbB hL hmo hre HRe0 HM HBx0 HSS0 hck htot
  rw [e3, e7, e10, e15, e16]
  clear e3 e7 e10 e15 e16
  obtain ⟨⟨a7, c7, hv7, -⟩, -⟩ := id H.out.1.o7
  subst hv7
  obtain ⟨⟨a10, c10, hv10, -⟩, -⟩ := id H.out.1.o10
  subst hv10
  obtain ⟨u7, hu7⟩ : ∃ n, l7.length = n := ⟨_, rfl⟩
  obtain ⟨u10, hu10⟩ : ∃ n, l10.length = n := ⟨_, rfl⟩
  rw [hu7, hu10] at H ⊢
  clear hu7 hu10
  have hk1 : (k : Int) < (m : Int) := by omega
  conv => arg 2; whnf
  go_upto_region 36 with fail
  refine wp_region_noPanic ?_
  refine wp_region_held_drew (S := fun W => W.cell? ⟨gx, ox + k * 3, none⟩ = some (.int .i64 s) ∧ W.rangeAt gx (ox + k * 3) [.int .i64 s, .int .i64 n, .slice ab L cb]) (by kernel_rfl) (HSS.out _ H.out.2.drew) (fun hHeld => ?_)
  have H : Bx (MR w B q (.slice (some ⟨gx, ox, none⟩) m cx) (.slice a7 u7 c7) (.slice a10 u10 c10) gs l7 l10 rest wr.drew ∧ Below B wr wr.drew) := Bx.mk ⟨H.out.1.later (Below.refl _ _).drew, H.out.2.drew⟩
  obtain ⟨W0, hW0⟩ : ∃ W, wr.drew = W := ⟨_, rfl⟩
  rw [hW0] at H hHeld ⊢
  clear hW0
  refine takeL 0 (v := ?_) rfl (by kernel_rfl) (by kernel_rfl) (by kernel_rfl) (fun _ _ _ h => h) (Or.inl ⟨by rfl, ?_⟩) hHeld ?_
  rotate_left 1
  · (intro w hSw; go_simp; try with_reducible rfl)
  try simp only [Act.put, List.setIfInBounds_toArray, List.set_cons_zero, List.set_cons_succ]
  refine takeL 1 (v := ?_) rfl (by kernel_rfl) (by kernel_rfl) (by kernel_rfl) (fun _ _ _ h => h) (Or.inl ⟨by rfl, ?_⟩) hHeld ?_
  rotate_left 1
  · (intro w hSw; go_simp; try with_reducible rfl)
  try simp only [Act.put, List.setIfInBounds_toArray, List.set_cons_zero, List.set_cons_succ]
  refine takeL 2 (v := ?_) rfl (by kernel_rfl) (by kernel_rfl) (by kernel_rfl) (fun _ _ _ h => h) (Or.inl ⟨by rfl, ?_⟩) hHeld ?_
  rotate_left 1
  · (intro w hSw; go_simp; try with_reducible rfl)
  try simp only [Act.put, List.setIfInBounds_toArray, List.set_cons_zero, List.set_cons_succ]
  refine takeL 3 (v := ?_) rfl (by kernel_rfl) (by kernel_rfl) (by kernel_rfl) (fun _ _ _ h => h) (Or.inl ⟨by rfl, ?_⟩) hHeld ?_
  rotate_left 1
  · (intro w hSw; go_simp; try with_reducible rfl)
  try simp only [Act.put, List.setIfInBounds_toArray, List.set_cons_zero, List.set_cons_succ]
  refine takeL 4 (v := ?_) rfl (by kernel_rfl) (by kernel_rfl) (by kernel_rfl) (fun _ _ _ h => h) (Or.inl ⟨by rfl, ?_⟩) hHeld ?_
  rotate_left 1
  · (intro w hSw; go_simp; try with_reducible rfl)
  try simp only [Act.put, List.setIfInBounds_toArray, List.set_cons_zero, List.set_cons_succ]
  refine takeL 5 (v := ?_) rfl (by kernel_rfl) (by kernel_rfl) (by kernel_rfl) (fun _ _ _ h => h) (Or.inl ⟨by rfl, ?_⟩) hHeld ?_
  rotate_left 1
  · (intro w hSw; go_simp; try with_reducible rfl)
  try simp only [Act.put, List.setIfInBounds_toArray, List.set_cons_zero, List.set_cons_succ]
  refine takeL 7 (v := ?_) rfl (by kernel_rfl) (by kernel_rfl) (by kernel_rfl) (fun _ _ _ h => h) (Or.inl ⟨by rfl, ?_⟩) hHeld ?_
  rotate_left 1
  · (intro w hSw; go_simp; try with_reducible rfl)
  try simp only [Act.put, List.setIfInBounds_toArray, List.set_cons_zero, List.set_cons_succ]
  refine takeL 8 (v := ?_) rfl (by kernel_rfl) (by kernel_rfl) (by kernel_rfl) (fun _ _ _ h => h) (Or.inl ⟨by rfl, ?_⟩) hHeld ?_
  rotate_left 1
  · (intro w hSw; go_simp; try with_reducible rfl)
  try simp only [Act.put, List.setIfInBounds_toArray, List.set_cons_zero, List.set_cons_succ]
  refine takeL 9 (v := ?_) rfl (by kernel_rfl) (by kernel_rfl) (by kernel_rfl) (fun _ _ _ h => h) (Or.inl ⟨by rfl, ?_⟩) hHeld ?_
  rotate_left 1
  · (intro w hSw; go_simp; try with_reducible rfl)
  try simp only [Act.put, List.setIfInBounds_toArray, List.set_cons_zero, List.set_cons_succ]
  refine takeL 10 rfl (by kernel_rfl) (by kernel_rfl) (by kernel_rfl) (fun _ _ _ h => h) (yieldsIf_load_mid (by rfl) _ _ rfl _ _ rfl _ _ (fun w hSw => hSw.2) Try.underlying40 rfl (by kernel_rfl)) hHeld ?_
  try simp only [Act.put, List.setIfInBounds_toArray, List.set_cons_zero, List.set_cons_succ]
  refine stepL 6 (by kernel_rfl) rfl (fun K hK => ?_)
  go_simp
  refine (get_ok q ⟨s, n, b⟩ more W0 HC.out (by rw [← HRe.out]; exact H.out.1.rd) (by have := HMo.out; omega)).mono ?_
  rintro e W1 ⟨v1, rfl, hf1, hr1, hg1⟩
  show K _ _
  have H1 : Bx (MR w B q (.slice (some ⟨gx, ox, none⟩) m cx) (.slice a7 u7 c7) (.slice a10 u10 c10) gs l7 l10 more W1 ∧ Below B wr W1 ∧ IsF W1 v1 ⟨s, n, b⟩) := Bx.mk ⟨H.out.1.got hg1 hr1, H.out.2.trans (grown_below hg1 H.out.1.bq H.out.1.ltB), hf1⟩
  clear hf1 hr1 hg1 H
  refine hK.out _ _ (HSS.out _ H1.out.2.1) (fun hHeld => ?_)
  clear hK K
  try simp only [Act.put, List.setIfInBounds_toArray, List.set_cons_zero, List.set_cons_succ]
  refine stepL 11 (by kernel_rfl) rfl (fun K hK => ?_)
  go_simp
  refine (wsame_eq ⟨s, n, b⟩ _ _ W1 H1.out.2.2 ⟨_, rfl, HBx.out _ H1.out.2.1⟩).mono ?_
  rintro e W2 ⟨rfl, hb2⟩
  show K _ _
  have H2 : Bx (MR w B q (.slice (some ⟨gx, ox, none⟩) m cx) (.slice a7 u7 c7) (.slice a10 u10 c10) gs l7 l10 more W2 ∧ Below B wr W2) := Bx.mk ⟨H1.out.1.later hb2, H1.out.2.1.trans (hb2.mono H1.out.1.ltB)⟩
  clear hb2 H1
  refine hK.out _ _ (HSS.out _ H2.out.2) (fun hHeld => ?_)
  clear hK K
  try simp only [Act.put, List.setIfInBounds_toArray, List.set_cons_zero, List.set_cons_succ]
  refine takeL 12 (v := ?_) rfl (by kernel_rfl) (by kernel_rfl) (by kernel_rfl) (fun _ _ _ h => h) (Or.inl ⟨by rfl, ?_⟩) hHeld ?_
  rotate_left 1
  · (intro w hSw; go_simp; try with_reducible rfl)
  try simp only [Act.put, List.setIfInBounds_toArray, List.set_cons_zero, List.set_cons_succ]
  refine wpAnyH_done (by kernel_rfl) ?_ _
  refine NoPanic.normal ?_
  clear hHeld
  go_wp2
  exact ⟨⟨⟨rfl, rfl⟩, rfl, rfl, rfl, rfl⟩, by first | rfl | go_num, by rw [HMe.out]; exact H2.out.1⟩
set_option maxRecDepth 100000 in
set_option maxHeartbeats 1000000 in
theorem last3 (w : World) (B : Nat) (ax : Option Addr) (m cx q : Nat) (v7 v10 : Value) (gs : List Fd) (l7 l10 : List UInt8) (hm : m ≤ 12)
    (Q : Exit → Act → World → Prop) (N : Act → World → Prop) (hq : ∀ a' w', H0 ax m cx q v7 v10 a' → MR w B q (.slice ax m cx) v7 v10 gs l7 l10 [] w' → Q (.exit 4) a' w')
    (a : Act) (wr : World) (h : I3 w B ax m cx q v7 v10 gs l7 l10 m a wr) : Code.wp Try.prog (loopAt Try.f3.body 2) (Exit.then N Q) a wr := by
  have hml : (m : Int) ≤ 12 := by omega
  have HQ := Bx.mk hq
  have HM := Bx.mk h.mr
  have e0 : encs (gs.drop m) = [] := by rw [List.drop_of_length_le (by rw [h.mr.fx.len]; exact Nat.le_refl _)]; rfl
  rw [e0] at HM
  obtain ⟨x, rfl, hx⟩ := open204 h.kf.fr
  have e3 := (hx 3).symm.trans h.kf.s3
  have e7 := (hx 7).symm.trans h.kf.s7
  have e10 := (hx 10).symm.trans h.kf.s10
  have e15 := (hx 15).symm.trans h.kf.s15
  have e16 := (hx 16).symm.trans h.s16
  clear h hx hq e0
  rw [e3, e7, e10, e15, e16]
  clear e3 e7 e10 e15 e16
  obtain ⟨⟨a7, c7, hv7, -⟩, -⟩ := id HM.out.o7
  subst hv7
  obtain ⟨⟨a10, c10, hv10, -⟩, -⟩ := id HM.out.o10
  subst hv10
  generalize l7.length = u7 at *
  generalize l10.length = u10 at *
  conv => arg 2; whnf
  go_wp2
  exact HQ.out _ _ ⟨⟨rfl, rfl⟩, rfl, rfl, rfl, rfl⟩ HM.out
theorem loop3 (w : World) (B : Nat) (ax : Option Addr) (m cx q : Nat) (v7 v10 : Value) (gs : List Fd) (l7 l10 : List UInt8) (hm : m ≤ 12) (hck : ∀ f ∈ gs, chk f = 0) (htot : (encs gs).length ≤ 1024)
    (Q : Exit → Act → World → Prop) (a : Act) (wr : World) (h : I3 w B ax m cx q v7 v10 gs l7 l10 0 a wr) (hq : ∀ a' w', H0 ax m cx q v7 v10 a' → MR w B q (.slice ax m cx) v7 v10 gs l7 l10 [] w' → Q (.exit 4) a' w') :
    Code.wp Try.prog (.loop (loopAt Try.f3.body 2)) Q a wr :=
  wp_count m (fun k a w' => I3 w B ax m cx q v7 v10 gs l7 l10 k a w') 0 (Nat.zero_le _) h (fun k a w' hk hI => round3 w B ax m cx q v7 v10 gs l7 l10 hm hck htot Q k a w' hk hI) (fun a w' hI => last3 w B ax m cx q v7 v10 gs l7 l10 hm Q _ hq a w' hI)
end Go.Proofs.Ytgbhckoaabnblaa
