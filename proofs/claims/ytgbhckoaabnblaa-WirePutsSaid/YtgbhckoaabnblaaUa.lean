/-
  The statement on what is put: what stays, and the first loop.
-/
import Derived.Test.YtgbhckoaabnblaaIp
import Derived.Test.YtgbhckoaabnblaaIl
import Derived.Test.YtgbhckoaabnblaaIs
import Derived.Test.YtgbhckoaabnblaaIe
namespace Go.Proofs.Ytgbhckoaabnblaa
open Go Go.RowKit
set_option maxRecDepth 100000 in
theorem open204 {a : Act} (h : Fr 204 a) : ∃ x : Nat → Value, a = ⟨List.toArray (x 0 :: x 1 :: x 2 :: x 3 :: x 4 :: x 5 :: x 6 :: x 7 :: x 8 :: x 9 :: x 10 :: x 11 :: x 12 :: x 13 :: x 14 :: x 15 :: x 16 :: x 17 :: x 18 :: x 19 :: x 20 :: x 21 :: x 22 :: x 23 :: x 24 :: x 25 :: x 26 :: x 27 :: x 28 :: x 29 :: x 30 :: x 31 :: x 32 :: x 33 :: x 34 :: x 35 :: x 36 :: x 37 :: x 38 :: x 39 :: x 40 :: x 41 :: x 42 :: x 43 :: x 44 :: x 45 :: x 46 :: x 47 :: x 48 :: x 49 :: x 50 :: x 51 :: x 52 :: x 53 :: x 54 :: x 55 :: x 56 :: x 57 :: x 58 :: x 59 :: x 60 :: x 61 :: x 62 :: x 63 :: x 64 :: x 65 :: x 66 :: x 67 :: x 68 :: x 69 :: x 70 :: x 71 :: x 72 :: x 73 :: x 74 :: x 75 :: x 76 :: x 77 :: x 78 :: x 79 :: x 80 :: x 81 :: x 82 :: x 83 :: x 84 :: x 85 :: x 86 :: x 87 :: x 88 :: x 89 :: x 90 :: x 91 :: x 92 :: x 93 :: x 94 :: x 95 :: x 96 :: x 97 :: x 98 :: x 99 :: x 100 :: x 101 :: x 102 :: x 103 :: x 104 :: x 105 :: x 106 :: x 107 :: x 108 :: x 109 :: x 110 :: x 111 :: x 112 :: x 113 :: x 114 :: x 115 :: x 116 :: x 117 :: x 118 :: x 119 :: x 120 :: x 121 :: x 122 :: x 123 :: x 124 :: x 125 :: x 126 :: x 127 :: x 128 :: x 129 :: x 130 :: x 131 :: x 132 :: x 133 :: x 134 :: x 135 :: x 136 :: x 137 :: x 138 :: x 139 :: x 140 :: x 141 :: x 142 :: x 143 :: x 144 :: x 145 :: x 146 :: x 147 :: x 148 :: x 149 :: x 150 :: x 151 :: x 152 :: x 153 :: x 154 :: x 155 :: x 156 :: x 157 :: x 158 :: x 159 :: x 160 :: x 161 :: x 162 :: x 163 :: x 164 :: x 165 :: x 166 :: x 167 :: x 168 :: x 169 :: x 170 :: x 171 :: x 172 :: x 173 :: x 174 :: x 175 :: x 176 :: x 177 :: x 178 :: x 179 :: x 180 :: x 181 :: x 182 :: x 183 :: x 184 :: x 185 :: x 186 :: x 187 :: x 188 :: x 189 :: x 190 :: x 191 :: x 192 :: x 193 :: x 194 :: x 195 :: x 196 :: x 197 :: x 198 :: x 199 :: x 200 :: x 201 :: x 202 :: x 203 :: []), []⟩ ∧ ∀ i, a.eval (.tmp i) = x i := ⟨fun i => a.tmps.getD i undef, h.form, fun _ => rfl⟩
/-- A loop that goes from k up to n at most, and may end before. -/
theorem wp_countx {P : Program} {Q : Exit → Act → World → Prop} {a : Act} {w : World} {c : Code} (n : Nat) (I : Nat → Act → World → Prop) (k0 : Nat) (hk : k0 ≤ n) (h0 : I k0 a w)
    (round : ∀ k a w, k ≤ n → I k a w → c.wp P (Exit.then (fun a' w' => k < n ∧ I (k + 1) a' w') Q) a w) : (Code.loop c).wp P Q a w := by
  refine wp_loop_ghost (fun m a w => ∃ k, k ≤ n ∧ m = n - k ∧ I k a w) (n - k0) ⟨k0, hk, rfl, h0⟩ ?_
  rintro m a w ⟨k, hk, rfl, hI⟩
  refine wp_mono (round k a w hk hI) ?_
  rintro (_ | _ | _ | _ | _ | _) a' w' hq'
  case normal => exact ⟨n - (k + 1), by have := hq'.1; omega, k + 1, hq'.1, rfl, hq'.2⟩
  all_goals exact hq'
theorem OwnB.off {w w1 : World} {C p : Nat} {v : Value} {l : List UInt8} (h : OwnB w C v l) (hg : w.grownBy w1 (some p)) (hp : p < C) : OwnB w1 C v l := h.kept hg (fun e => by have := (h.lt p e).2; omega)
theorem IsW.grown {w w1 : World} {p q : Nat} {st : List UInt8 × Int} (h : IsW w p st) (hg : w.grownBy w1 (some q)) (hne : p ≠ q) : IsW w1 p st := by
  have hp := h.lt
  obtain ⟨out, h1, h2, h3, h4⟩ := h
  exact ⟨out, h1, h2, h3, by rw [hg.block p hp (fun e => hne (by injection e))]; exact h4⟩
/-- What stays in memory. -/
structure MP (w : World) (B : Nat) (xv yv : Value) (gs : List Fd) (p5 p6 : Nat) (st5 st6 : List UInt8 × Int) (W : World) : Prop where
  bel : Below w.heap.size w W
  leB : w.heap.size ≤ B
  fx : FldsB W B xv gs
  fy : FldsB W B yv gs
  w5 : IsW W p5 st5
  w6 : IsW W p6 st6
  b5 : B ≤ p5
  b6 : p5 < p6
theorem MP.ltB {w : World} {B : Nat} {xv yv : Value} {gs : List Fd} {p5 p6 : Nat} {st5 st6 : List UInt8 × Int} {W : World} (h : MP w B xv yv gs p5 p6 st5 st6 W) : B ≤ W.heap.size := Nat.le_trans h.b5 (Nat.le_of_lt h.w5.lt)
theorem MP.later {w : World} {B : Nat} {xv yv : Value} {gs : List Fd} {p5 p6 : Nat} {st5 st6 : List UInt8 × Int} {W W1 : World} (h : MP w B xv yv gs p5 p6 st5 st6 W) (hb : Below W.heap.size W W1) : MP w B xv yv gs p5 p6 st5 st6 W1 :=
  ⟨h.bel.trans (hb.mono h.bel.size), h.leB, h.fx.later (hb.mono h.ltB), h.fy.later (hb.mono h.ltB), h.w5.later hb h.w5.lt, h.w6.later hb h.w6.lt, h.b5, h.b6⟩
theorem MP.put5 {w : World} {B : Nat} {xv yv : Value} {gs : List Fd} {p5 p6 : Nat} {st5 st5' st6 : List UInt8 × Int} {W W1 : World} (h : MP w B xv yv gs p5 p6 st5 st6 W) (hg : W.grownBy W1 (some p5)) (hw : IsW W1 p5 st5') : MP w B xv yv gs p5 p6 st5' st6 W1 :=
  ⟨h.bel.trans (grown_below hg (Nat.le_trans h.leB h.b5) h.bel.size), h.leB, h.fx.later (grown_below hg h.b5 h.ltB), h.fy.later (grown_below hg h.b5 h.ltB), hw, h.w6.grown hg (by have := h.b6; omega), h.b5, h.b6⟩
theorem MP.put6 {w : World} {B : Nat} {xv yv : Value} {gs : List Fd} {p5 p6 : Nat} {st5 st6 st6' : List UInt8 × Int} {W W1 : World} (h : MP w B xv yv gs p5 p6 st5 st6 W) (hg : W.grownBy W1 (some p6)) (hw : IsW W1 p6 st6') : MP w B xv yv gs p5 p6 st5 st6' W1 :=
  ⟨h.bel.trans (grown_below hg (by have := h.leB; have := h.b5; have := h.b6; omega) h.bel.size), h.leB, h.fx.later (grown_below hg (by have := h.b5; have := h.b6; omega) h.ltB), h.fy.later (grown_below hg (by have := h.b5; have := h.b6; omega) h.ltB), h.w5.grown hg (by have := h.b6; omega), hw, h.b5, h.b6⟩
theorem MP.kept {w : World} {B : Nat} {xv yv : Value} {gs : List Fd} {p5 p6 : Nat} {st5 st6 : List UInt8 × Int} {W W1 : World} (h : MP w B xv yv gs p5 p6 st5 st6 W) (hb : Below (p6 + 1) W W1) : MP w B xv yv gs p5 p6 st5 st6 W1 :=
  ⟨h.bel.trans (hb.mono (by have := h.leB; have := h.b5; have := h.b6; omega)), h.leB, h.fx.later (hb.mono (by have := h.b5; have := h.b6; omega)), h.fy.later (hb.mono (by have := h.b5; have := h.b6; omega)), h.w5.later hb (by have := h.b6; omega), h.w6.later hb (by omega), h.b5, h.b6⟩
/-- A field's cells, in a row below B. -/
theorem FldsB.at_ {w : World} {B : Nat} {a : Option Addr} {m cap : Nat} {gs : List Fd} (h : FldsB w B (.slice a m cap) gs) (k : Nat) (hk : k < m) : ∃ g o vb, a = some ⟨g, o, none⟩ ∧ g < B ∧ w.rangeAt g (o + k * 3) [.int .i64 (gs.getD k Fd.zero).s, .int .i64 (gs.getD k Fd.zero).n, vb] ∧ Bytes w vb (gs.getD k Fd.zero).b ∧ (0 < (gs.getD k Fd.zero).b.length → ∃ c, vb.ownBlock = some c ∧ c < B) := by
  obtain ⟨a', cap', hv, hc, hr⟩ := h
  injection hv with e1 e2 e3
  obtain ⟨g, o, ha, hlt, hf⟩ := hr (by omega)
  obtain ⟨vb, h1, h2, h3⟩ := hf k (by omega)
  exact ⟨g, o, vb, by rw [e1]; exact ha, hlt, h1, h2, h3⟩
theorem cells_of {w : World} {g o : Nat} {a b c : Value} (h : w.rangeAt g o [a, b, c]) : w.cell? ⟨g, o, none⟩ = some a ∧ w.cell? ⟨g, o + 1, none⟩ = some b ∧ w.cell? ⟨g, o + 2, none⟩ = some c :=
  ⟨by have := h 0 _ rfl; rwa [Nat.add_zero] at this, h 1 _ rfl, h 2 _ rfl⟩
theorem FldsB.len {w : World} {B : Nat} {a : Option Addr} {m cap : Nat} {gs : List Fd} (h : FldsB w B (.slice a m cap) gs) : gs.length = m := by
  obtain ⟨a', cap', hv, -⟩ := h
  injection hv with _ e2 _
  exact e2.symm
theorem putS_le {st : List UInt8 × Int} (f : Fd) (h : st.1.length ≤ 1024) : (putS st f).1.length ≤ 1024 := by
  unfold putS
  repeat' split
  · exact h
  · exact h
  · exact h
  · simp only [List.length_append]; omega
theorem fold_le (gs : List Fd) {st : List UInt8 × Int} (h : st.1.length ≤ 1024) : (gs.foldl putS st).1.length ≤ 1024 := by
  induction gs generalizing st with
  | nil => exact h
  | cons f r ih => exact ih (putS_le f h)
/-- The frame behind the first loop. -/
structure F0 (ax ay : Option Addr) (m cx cy p5 p6 : Nat) (v7 : Value) (bad : Int) (a : Act) : Prop where
  fr : Fr 204 a
  s3 : a.eval (.tmp 3) = (.slice ax m cx)
  s4 : a.eval (.tmp 4) = (.slice ay m cy)
  s5 : a.eval (.tmp 5) = (.pointer (some ⟨p5, 0, none⟩))
  s6 : a.eval (.tmp 6) = (.pointer (some ⟨p6, 0, none⟩))
  s7 : a.eval (.tmp 7) = v7
  s8 : a.eval (.tmp 8) = .int .i64 bad
/-- The first loop's state. -/
structure I1 (w : World) (B : Nat) (ax ay : Option Addr) (m cx cy p5 p6 : Nat) (gs : List Fd) (st5 st6 : List UInt8 × Int) (k : Nat) (a : Act) (W : World) : Prop where
  ex : ∃ v7, F0 ax ay m cx cy p5 p6 v7 ((gs.take k).foldl putS ([], 0)).2 a ∧ a.eval (.tmp 9) = .int .i64 (k : Int) ∧ OwnB W (p6 + 1) v7 ((gs.take k).foldl putS ([], 0)).1
  mp : MP w B (.slice ax m cx) (.slice ay m cy) gs p5 p6 st5 st6 W
set_option maxRecDepth 100000 in
set_option maxHeartbeats 4000000 in
theorem round1 (w : World) (B : Nat) (ax ay : Option Addr) (m cx cy p5 p6 : Nat) (gs : List Fd) (st5 st6 : List UInt8 × Int) (hm : m ≤ 12) (hgn : ∀ f ∈ gs, -9223372036854775808 ≤ f.n ∧ f.n ≤ 9223372036854775807)
    (Q : Exit → Act → World → Prop) (hq : ∀ a' w' v7, F0 ax ay m cx cy p5 p6 v7 (gs.foldl putS ([], 0)).2 a' → OwnB w' (p6 + 1) v7 (gs.foldl putS ([], 0)).1 → MP w B (.slice ax m cx) (.slice ay m cy) gs p5 p6 st5 st6 w' → Q (.exit 0) a' w')
    (k : Nat) (a : Act) (wr : World) (hk : k ≤ m) (h : I1 w B ax ay m cx cy p5 p6 gs st5 st6 k a wr) :
    Code.wp Try.prog (loopAt Try.f3.body 0) (Exit.then (fun a' w' => k < m ∧ I1 w B ax ay m cx cy p5 p6 gs st5 st6 (k + 1) a' w') Q) a wr := by
  obtain ⟨v7, hF, h9, ho⟩ := h.ex
  have HM := Bx.mk h.mp
  have HQ := Bx.mk hq
  have HLn := Bx.mk h.mp.fx.len
  have hml : (m : Int) ≤ 12 := by omega
  clear hq
  by_cases hc : k < m ∧ ((gs.take k).foldl putS ([], 0)).2 = 0
  · obtain ⟨hlt, hz⟩ := hc
    obtain ⟨gy, oy, vb, rfl, hgB, hrg, hbn, hbB⟩ := h.mp.fy.at_ k hlt
    have HSt := Bx.mk (fold_take gs ([], 0) k (by rw [h.mp.fx.len]; exact hlt))
    have HGn := Bx.mk (hgn (gs.getD k Fd.zero) (by rw [List.getD_eq_getElem?_getD, List.getElem?_eq_getElem (by rw [h.mp.fx.len]; exact hlt)]; exact List.getElem_mem _))
    have HLe := Bx.mk (fold_le (gs.take k) (st := ([], 0)) (by simp))
    generalize gs.getD k Fd.zero = f at *
    obtain ⟨s, n, b⟩ := f
    simp only at hrg hbn hbB HGn
    obtain ⟨ab, cb, hvb, -⟩ := id hbn
    subst hvb
    have HBy := Bx.mk (And.intro hbn hbB)
    have HRy := Bx.mk hrg
    obtain ⟨L, hL⟩ : ∃ n, b.length = n := ⟨_, rfl⟩
    rw [hL] at HBy HRy
    have HO := Bx.mk ho
    obtain ⟨a7, c7, hv7, -⟩ := ho.bytes
    subst hv7
    obtain ⟨⟨al, bd⟩, hst⟩ : ∃ st, (gs.take k).foldl putS ([], 0) = st := ⟨_, rfl⟩
    rw [hst] at HSt HLe HO hz hF
    simp only at HLe HO hz hF
    subst hz
    obtain ⟨u, hu⟩ : ∃ n, al.length = n := ⟨_, rfl⟩
    have HU := Bx.mk hu
    rw [hu] at HO HLe hF
    obtain ⟨x, rfl, hx⟩ := open204 hF.fr
    have e3 := (hx 3).symm.trans hF.s3
    have e4 := (hx 4).symm.trans hF.s4
    have e5 := (hx 5).symm.trans hF.s5
    have e6 := (hx 6).symm.trans hF.s6
    have e7 := (hx 7).symm.trans hF.s7
    have e8 := (hx 8).symm.trans hF.s8
    have e9 := (hx 9).symm.trans h9
    clear h hF h9 hx ho hbn hbB hrg hL hst hu hgn
    rw [e3, e4, e5, e6, e7, e8, e9]
    clear e3 e4 e5 e6 e7 e8 e9
    have hk1 : (k : Int) < (m : Int) := by omega
    have hu1 : (u : Int) ≤ 1024 := by have := HLe.out; omega
    conv => arg 2; whnf
    obtain ⟨hc0, hc1, hc2⟩ := cells_of HRy.out
    go_wp2_with fail
    refine (rcheck_any ⟨s, n, b⟩ _ wr ⟨_, rfl, HBy.out.1⟩ HGn.out.1 HGn.out.2).mono ?_
    rintro e w1 ⟨rfl, hb1⟩
    have H1 : Bx (MP w B (.slice ax m cx) (.slice (some ⟨gy, oy, none⟩) m cy) gs p5 p6 st5 st6 w1 ∧ OwnB w1 (p6 + 1) (.slice a7 u c7) al ∧ Bytes w1 (.slice ab L cb) b ∧ w1.rangeAt gy (oy + k * 3) [.int .i64 s, .int .i64 n, .slice ab L cb]) := Bx.mk ⟨HM.out.later hb1, HO.out.later hb1 (fun g hg => (HO.out.lt g hg).1), HBy.out.1.later hb1, range_later HRy.out hb1 (Nat.lt_of_lt_of_le hgB HM.out.ltB)⟩
    clear hb1 HM HO HBy HRy hc0 hc1 hc2
    by_cases hck : chk ⟨s, n, b⟩ = 0
    · rw [hck]
      have HCk := Bx.mk hck
      obtain ⟨hc0, hc1, hc2⟩ := cells_of H1.out.2.2.2
      have hel := wid_len _ hck
      obtain ⟨el, he1⟩ : ∃ k, (enc ⟨s, n, b⟩).length = k := ⟨_, rfl⟩
      rw [he1] at hel
      have HEl := Bx.mk he1
      have hel1 : (el : Int) ≤ 514 := by omega
      clear hel he1 hck
      go_wp2_with fail
      refine (rout_any ⟨s, n, b⟩ _ w1 ⟨_, rfl, H1.out.2.2.1⟩ HCk.out).mono ?_
      rintro e w2 ⟨v2, rfl, ho2, hb2⟩
      have H2 : Bx (MP w B (.slice ax m cx) (.slice (some ⟨gy, oy, none⟩) m cy) gs p5 p6 st5 st6 w2 ∧ OwnB w2 (p6 + 1) (.slice a7 u c7) al ∧ Bytes w2 (.slice ab L cb) b ∧ w2.rangeAt gy (oy + k * 3) [.int .i64 s, .int .i64 n, .slice ab L cb]) := Bx.mk ⟨H1.out.1.later hb2, H1.out.2.1.later hb2 (fun g hg => (H1.out.2.1.lt g hg).1), H1.out.2.2.1.later hb2, range_later H1.out.2.2.2 hb2 (Nat.lt_of_lt_of_le hgB H1.out.1.ltB)⟩
      obtain ⟨a2, c2, hv2, -⟩ := ho2.bytes
      rw [HEl.out] at hv2
      subst hv2
      clear ho2 hb2 H1 hc0 hc1 hc2
      by_cases hbig : 1024 < u + el
      · have hb1 : (1024 : Int) < (u : Int) + (el : Int) := by omega
        have HP : Bx (putS (al, 0) ⟨s, n, b⟩ = (al, 2)) := Bx.mk (by unfold putS; rw [if_neg (by simp), if_neg (by simp [HCk.out]), if_pos (by simp only; rw [HU.out, HEl.out]; exact hbig)])
        go_wp2
        exact ⟨hlt, ⟨_, ⟨⟨rfl, rfl⟩, rfl, rfl, rfl, rfl, rfl, by rw [HSt.out, HP.out]; rfl⟩, by first | rfl | go_num, by rw [HSt.out, HP.out]; exact H2.out.2.1⟩, H2.out.1⟩
      · have hb1 : ¬ (1024 : Int) < (u : Int) + (el : Int) := by omega
        have HP : Bx (putS (al, 0) ⟨s, n, b⟩ = (al ++ enc ⟨s, n, b⟩, 0)) := Bx.mk (by unfold putS; rw [if_neg (by simp), if_neg (by simp [HCk.out]), if_neg (by simp only; rw [HU.out, HEl.out]; exact hbig)])
        obtain ⟨hc0, hc1, hc2⟩ := cells_of H2.out.2.2.2
        go_wp2_with fail
        refine (rout_any ⟨s, n, b⟩ _ w2 ⟨_, rfl, H2.out.2.2.1⟩ HCk.out).mono ?_
        rintro e w3 ⟨v3, rfl, ho3, hb3⟩
        have H3 : Bx (MP w B (.slice ax m cx) (.slice (some ⟨gy, oy, none⟩) m cy) gs p5 p6 st5 st6 w3 ∧ OwnB w3 (p6 + 1) (.slice a7 u c7) al ∧ Bytes w3 v3 (enc ⟨s, n, b⟩)) := Bx.mk ⟨H2.out.1.later hb3, H2.out.2.1.later hb3 (fun g hg => (H2.out.2.1.lt g hg).1), ho3.bytes⟩
        obtain ⟨a3, c3, hv3, -⟩ := ho3.bytes
        rw [HEl.out] at hv3
        subst hv3
        clear ho3 hb3 H2 hc0 hc1 hc2
        go_wp2_with (refine wpList_ap rfl _ _ rfl (p6 + 1) _ al (by rfl) H3.out.2.1 _ (enc ⟨s, n, b⟩) (by rfl) H3.out.2.2 (by rw [HU.out, HEl.out]; omega) H3.out.1.w6.lt ?_; intro v4 w4 ho4 hg4 _; have H4 : Bx (MP w B (.slice ax m cx) (.slice (some ⟨gy, oy, none⟩) m cy) gs p5 p6 st5 st6 w4 ∧ OwnB w4 (p6 + 1) v4 (al ++ enc ⟨s, n, b⟩)) := Bx.mk ⟨H3.out.1.kept (own_below H3.out.2.1 hg4 H3.out.1.w6.lt), ho4⟩; clear ho4 hg4 H3)
        exact ⟨hlt, ⟨_, ⟨⟨rfl, rfl⟩, rfl, rfl, rfl, rfl, rfl, by rw [HSt.out, HP.out]; rfl⟩, by first | rfl | go_num, by rw [HSt.out, HP.out]; exact H4.out.2⟩, H4.out.1⟩
    · have HP : Bx (putS (al, 0) ⟨s, n, b⟩ = (al, chk ⟨s, n, b⟩)) := Bx.mk (by unfold putS; rw [if_neg (by simp), if_pos (by simp [hck])])
      generalize chk ⟨s, n, b⟩ = ck at *
      have hck1 : (ck == 0) = false := by simp; exact hck
      go_wp2
      exact ⟨hlt, ⟨_, ⟨⟨rfl, rfl⟩, rfl, rfl, rfl, rfl, rfl, by rw [HSt.out, HP.out]; rfl⟩, by first | rfl | go_num, by rw [HSt.out, HP.out]; exact H1.out.2.1⟩, H1.out.1⟩
  · have HE : Bx ((gs.take k).foldl putS ([], 0) = gs.foldl putS ([], 0)) := Bx.mk (by
      by_cases hkm : k < m
      · have hne : ((gs.take k).foldl putS ([], 0)).2 ≠ 0 := fun e => hc ⟨hkm, e⟩
        rw [fold_from gs ([], 0) k, fold_stuck _ hne]
      · rw [List.take_of_length_le (by rw [HLn.out]; omega)])
    rw [HE.out] at hF ho hc
    have HO := Bx.mk ho
    obtain ⟨a7, c7, hv7, -⟩ := ho.bytes
    subst hv7
    generalize gs.foldl putS ([], 0) = st at *
    obtain ⟨al, bd⟩ := st
    simp only at hF HO hc HQ
    generalize al.length = u at *
    obtain ⟨x, rfl, hx⟩ := open204 hF.fr
    have e3 := (hx 3).symm.trans hF.s3
    have e4 := (hx 4).symm.trans hF.s4
    have e5 := (hx 5).symm.trans hF.s5
    have e6 := (hx 6).symm.trans hF.s6
    have e7 := (hx 7).symm.trans hF.s7
    have e8 := (hx 8).symm.trans hF.s8
    have e9 := (hx 9).symm.trans h9
    clear h hF h9 hx ho hgn HE
    rw [e3, e4, e5, e6, e7, e8, e9]
    clear e3 e4 e5 e6 e7 e8 e9
    by_cases hkm : k < m
    · have hk1 : (k : Int) < (m : Int) := by omega
      have hb0 : (bd == 0) = false := by simp; intro e; exact hc ⟨hkm, e⟩
      conv => arg 2; whnf
      go_wp2
      exact HQ.out _ _ _ ⟨⟨rfl, rfl⟩, rfl, rfl, rfl, rfl, rfl, rfl⟩ HO.out HM.out
    · have hk1 : ¬ (k : Int) < (m : Int) := by omega
      conv => arg 2; whnf
      go_wp2
      exact HQ.out _ _ _ ⟨⟨rfl, rfl⟩, rfl, rfl, rfl, rfl, rfl, rfl⟩ HO.out HM.out
theorem loop1 (w : World) (B : Nat) (ax ay : Option Addr) (m cx cy p5 p6 : Nat) (gs : List Fd) (st5 st6 : List UInt8 × Int) (hm : m ≤ 12) (hgn : ∀ f ∈ gs, -9223372036854775808 ≤ f.n ∧ f.n ≤ 9223372036854775807)
    (Q : Exit → Act → World → Prop) (a : Act) (wr : World) (h : I1 w B ax ay m cx cy p5 p6 gs st5 st6 0 a wr) (hq : ∀ a' w' v7, F0 ax ay m cx cy p5 p6 v7 (gs.foldl putS ([], 0)).2 a' → OwnB w' (p6 + 1) v7 (gs.foldl putS ([], 0)).1 → MP w B (.slice ax m cx) (.slice ay m cy) gs p5 p6 st5 st6 w' → Q (.exit 0) a' w') :
    Code.wp Try.prog (.loop (loopAt Try.f3.body 0)) Q a wr :=
  wp_countx m (fun k a w' => I1 w B ax ay m cx cy p5 p6 gs st5 st6 k a w') 0 (Nat.zero_le _) h (fun k a w' hk hI => round1 w B ax ay m cx cy p5 p6 gs st5 st6 hm hgn Q hq k a w' hk hI)
end Go.Proofs.Ytgbhckoaabnblaa
