/-
  RevokeSince, of versions that there are.
-/
import Derived.Test.YtmfhdhggpepbbaaDoorFt
import Derived.Test.YtmfhdhggpepbbaaDoorJc
namespace Go.Proofs.YtmfhdhggpepbbaaDoor
open Go Go.RowKit
set_option maxRecDepth 100000 in
set_option maxHeartbeats 8000000 in
theorem since_good (acs : List Ac8) (v : Value) (y : V4) (w : World) (hA : Acts8 w v acs) (hn : acs.length ≤ 9223372036854775807) (hi : y.In) (hF : Full w) (hf : 0 < w.heap.size) (hT : Tab w) (hG : 1 < w.heap.size) (hb : inR y (setS acs (min acs.length 12))) :
    Calls Tryd.prog 4 #[v, y.v] w fun e w' => e = .returned (.bool true) ∧ Below w.heap.size w w' := by
  obtain ⟨ya, yb, yc, yd⟩ := y
  have hb0 := hb
  unfold inR at hb0
  simp only at hb0
  obtain ⟨na, rfl⟩ : ∃ n : Nat, ya = (n : Int) := ⟨ya.toNat, by omega⟩
  obtain ⟨nb, rfl⟩ : ∃ n : Nat, yb = (n : Int) := ⟨yb.toNat, by omega⟩
  obtain ⟨nc, rfl⟩ : ∃ n : Nat, yc = (n : Int) := ⟨yc.toNat, by omega⟩
  obtain ⟨nd, rfl⟩ : ∃ n : Nat, yd = (n : Int) := ⟨yd.toNat, by omega⟩
  clear hb0
  obtain ⟨al, cl, rfl, -⟩ := id hA
  obtain ⟨nl, hnl⟩ : ∃ n, acs.length = n := ⟨_, rfl⟩
  rw [hnl] at hA hn hb ⊢
  obtain ⟨E, hE⟩ : ∃ E, w.heap.size = E := ⟨_, rfl⟩
  rw [hE] at hf hG
  have HL := Bx.mk (loopS w E (V4.mk (na : Int) (nb : Int) (nc : Int) (nd : Int)) acs al nl cl hA hnl hE hn)
  have HTab : Bx (∀ W, Below E w W → Tab W ∧ 1 < W.heap.size) := ⟨fun W h => ⟨hT.later h hG, Nat.lt_of_lt_of_le hG (by have := h.size; rw [hE] at this; exact this)⟩⟩
  have HFu : Bx (∀ W, Below E w W → Full W ∧ 0 < W.heap.size) := ⟨fun W h => ⟨hF.later h hf, Nat.lt_of_lt_of_le hf (by have := h.size; rw [hE] at this; exact this)⟩⟩
  have HG2 := Bx.mk (setS_good acs (min nl 12))
  have HS0 : Bx (setS acs 0 = L4.nil) := ⟨rfl⟩
  have K0 : Bx (KR w E [(E, .cells #[.int .i64 (na : Int), .int .i64 (nb : Int), .int .i64 (nc : Int), .int .i64 (nd : Int)] 31)] (w.alloc (.cells #[.int .i64 (na : Int), .int .i64 (nb : Int), .int .i64 (nc : Int), .int .i64 (nd : Int)] 31)) ∧ (w.alloc (.cells #[.int .i64 (na : Int), .int .i64 (nb : Int), .int .i64 (nc : Int), .int .i64 (nd : Int)] 31)).heap.size = E + 1) := ⟨by
    subst hE
    exact ⟨(KR.start w).new _, by simp⟩⟩
  have HN := Bx.mk (fun W => new_any8 W)
  rw [hE]
  unfold V4.v
  simp only
  clear hA hF hf hT hG hnl hi
  go_enter Tryd.func4, Tryd.ntmps4
  go_wp2_with fail
  generalize w.alloc (.cells #[.int .i64 (na : Int), .int .i64 (nb : Int), .int .i64 (nc : Int), .int .i64 (nd : Int)] 31) = w0 at *
  have hw0 := K0.out.2
  refine (HN.out w0).mono ?_
  rw [hw0]
  rintro e w1 ⟨rfl, hs, hb1, hz1⟩
  rw [← hw0] at hb1
  have K1 := Bx.mk (And.intro (K0.out.1.later hb1) hs)
  clear hs hb1 K0 hw0
  go_wp2_with fail
  refine (HN.out w1).mono ?_
  rw [hz1]
  rintro e w2 ⟨rfl, hs, hb1, -⟩
  rw [← hz1] at hb1
  have K2 := Bx.mk (And.intro (K1.out.1.later hb1) (And.intro (K1.out.2.later hb1) hs))
  clear hs hb1 K1 hz1 HN
  go_wp2_with fail
  refine HL.out _ _ w2 ⟨⟨⟨rfl, rfl⟩, rfl, rfl, rfl, rfl, rfl⟩, K2.out.1, by rw [HS0.out]; exact K2.out.2.1, K2.out.2.2⟩ ?_
  intro a3 w3 h3
  have K3 : Bx (KR w E [(E, .cells #[.int .i64 (na : Int), .int .i64 (nb : Int), .int .i64 (nc : Int), .int .i64 (nd : Int)] 31)] w3 ∧ SetAt w3 (E + 1) (setS acs (min nl 12)) ∧ SetAt w3 (E + 2) L4.nil) := ⟨h3.kr, h3.s, h3.h⟩
  obtain ⟨z, rfl, hz⟩ := open186 h3.fr.fr
  have f0 := (hz 0).symm.trans h3.fr.s0
  have f3 := (hz 3).symm.trans h3.fr.s3
  have f5 := (hz 5).symm.trans h3.fr.s5
  have f6 := (hz 6).symm.trans h3.fr.s6
  have f7 := (hz 7).symm.trans h3.fr.s7
  clear h3 hz K2 HL HS0
  rw [f0, f3, f5, f6, f7]
  clear f0 f3 f5 f6 f7
  generalize setS acs (min nl 12) = l at *
  obtain ⟨la, hla⟩ : ∃ n, l.a.length = n := ⟨_, rfl⟩
  obtain ⟨lb, hlb⟩ : ∃ n, l.b.length = n := ⟨_, rfl⟩
  obtain ⟨lc, hlc⟩ : ∃ n, l.c.length = n := ⟨_, rfl⟩
  obtain ⟨ld, hld⟩ : ∃ n, l.d.length = n := ⟨_, rfl⟩
  have HV : Bx (∀ W, SetAt W (E + 1) l → Calls Tryd.prog 21 #[.pointer (some ⟨E + 1, 0, none⟩)] W fun e w' => e = .returned (.agg #[.int .i64 (la : Int), .int .i64 (lb : Int), .int .i64 (lc : Int), .int .i64 (ld : Int)]) ∧ Below W.heap.size W w') := ⟨fun W h => by
    have h1 := versions_any (.pointer (some ⟨E + 1, 0, none⟩)) l W (.inr ⟨_, rfl, h⟩)
    unfold L4.ver V4.v at h1
    simp only [hla, hlb, hlc, hld] at h1
    exact h1⟩
  have HLn := Bx.mk (And.intro hla (And.intro hlb (And.intro hlc hld)))
  have hbr := hb
  unfold inR at hbr
  simp only at hbr
  rw [hla, hlb, hlc, hld] at hbr
  obtain ⟨⟨-, ra⟩, ⟨-, rb⟩, ⟨-, rc⟩, ⟨-, rd⟩⟩ := hbr
  have sa : na ≤ la := by omega
  have sb : nb ≤ lb := by omega
  have sc : nc ≤ lc := by omega
  have sd : nd ≤ ld := by omega
  have HSi := Bx.mk (since_ok (V4.mk (na : Int) (nb : Int) (nc : Int) (nd : Int)) na nb nc nd (E + 1) l w3 K3.out.2.1 HG2.out.1 rfl rfl rfl rfl (by rw [hla]; exact sa) (by rw [hlb]; exact sb) (by rw [hlc]; exact sc) (by rw [hld]; exact sd))
  obtain ⟨d0, hd0⟩ : ∃ r, l.a.drop na = r := ⟨_, rfl⟩
  obtain ⟨d1, hd1⟩ : ∃ r, l.b.drop nb = r := ⟨_, rfl⟩
  obtain ⟨d2, hd2⟩ : ∃ r, l.c.drop nc = r := ⟨_, rfl⟩
  obtain ⟨d3, hd3⟩ : ∃ r, l.d.drop nd = r := ⟨_, rfl⟩
  have e0w : d0.length = la - na := by rw [← hd0, List.length_drop, hla]
  have e1w : d1.length = lb - nb := by rw [← hd1, List.length_drop, hlb]
  have e2w : d2.length = lc - nc := by rw [← hd2, List.length_drop, hlc]
  have e3w : d3.length = ld - nd := by rw [← hd3, List.length_drop, hld]
  have g1 := HG2.out.1.a
  have g2 := HG2.out.1.b
  have g3 := HG2.out.1.c
  have g4 := HG2.out.1.d
  rw [hla] at g1
  rw [hlb] at g2
  rw [hlc] at g3
  rw [hld] at g4
  rw [hd0, hd1, hd2, hd3] at HSi
  have hLe : (N4.mk na nb nc nd).Le l.len := by unfold L4.len; rw [hla, hlb, hlc, hld]; exact ⟨sa, sb, sc, sd⟩
  have hpre : l.pre (N4.mk na nb nc nd) = (L4.mk (l.a.take na) (l.b.take nb) (l.c.take nc) (l.d.take nd)) := rfl
  have hself : l.len.Le l.len := ⟨Nat.le_refl _, Nat.le_refl _, Nat.le_refl _, Nat.le_refl _⟩
  have hnn : (N4.mk na nb nc nd).Le (N4.mk na nb nc nd) := ⟨Nat.le_refl _, Nat.le_refl _, Nat.le_refl _, Nat.le_refl _⟩
  have hmx1 : N4.max (N4.mk na nb nc nd) l.len = l.len := by
    unfold N4.max L4.len
    rw [hla, hlb, hlc, hld]
    simp only [Nat.max_def, if_pos sa, if_pos sb, if_pos sc, if_pos sd]
  have hmx2 : N4.max l.len l.len = l.len := by
    unfold N4.max
    simp only [Nat.max_def, Nat.le_refl, if_true]
  have hfr : l.from_ (N4.mk na nb nc nd) = (L4.mk d0 d1 d2 d3) := by unfold L4.from_; rw [hd0, hd1, hd2, hd3]
  obtain ⟨wa, hwa⟩ : ∃ n, d0.length = n := ⟨_, rfl⟩
  obtain ⟨wb, hwb⟩ : ∃ n, d1.length = n := ⟨_, rfl⟩
  obtain ⟨wc, hwc⟩ : ∃ n, d2.length = n := ⟨_, rfl⟩
  obtain ⟨wd, hwd⟩ : ∃ n, d3.length = n := ⟨_, rfl⟩
  have HA1 : Bx (applyL (L4.mk (l.a.take na) (l.b.take nb) (l.c.take nc) (l.d.take nd)) (V4.mk (na : Int) (nb : Int) (nc : Int) (nd : Int)) (L4.mk d0 d1 d2 d3) = ((wa : Int) + (wb : Int) + (wc : Int) + (wd : Int), 0, l)) := ⟨by
    have h := applyL_pre HG2.out.1 HG2.out.2 (N4.mk na nb nc nd) l.len (N4.mk na nb nc nd) hLe hself hnn hLe
    rw [L4.pre_all, hfr, hmx1, L4.pre_all] at h
    rw [← hpre]
    refine Eq.trans h ?_
    congr 1
    unfold cntL L4.pre
    simp only [List.length_take]
    omega⟩
  have HA2 : Bx (applyL l (V4.mk (na : Int) (nb : Int) (nc : Int) (nd : Int)) (L4.mk d0 d1 d2 d3) = (0, 0, l)) := ⟨by
    have h := applyL_pre HG2.out.1 HG2.out.2 l.len l.len (N4.mk na nb nc nd) hself hself hLe hLe
    rw [L4.pre_all, hfr, hmx2, L4.pre_all] at h
    refine Eq.trans h ?_
    congr 1
    omega⟩
  have HHg : Bx (Good (L4.mk (l.a.take na) (l.b.take nb) (l.c.take nc) (l.d.take nd))) := ⟨HG2.out.1.pre (N4.mk na nb nc nd)⟩
  have HMo : Bx (Most (L4.mk d0 d1 d2 d3) 1000) := ⟨⟨by simp only; omega, by simp only; omega, by simp only; omega, by simp only; omega⟩⟩
  have HV2 : Bx (∀ W, SetAt W (E + 2) (L4.mk (l.a.take na) (l.b.take nb) (l.c.take nc) (l.d.take nd)) → Calls Tryd.prog 21 #[.pointer (some ⟨E + 2, 0, none⟩)] W fun e w' => e = .returned (.agg #[.int .i64 (na : Int), .int .i64 (nb : Int), .int .i64 (nc : Int), .int .i64 (nd : Int)]) ∧ Below W.heap.size W w') := ⟨fun W h => by
    have h1 := versions_any (.pointer (some ⟨E + 2, 0, none⟩)) (L4.mk (l.a.take na) (l.b.take nb) (l.c.take nc) (l.d.take nd)) W (.inr ⟨_, rfl, h⟩)
    rw [← hpre, L4.pre_len hLe] at h1
    exact h1⟩
  have HV3 : Bx (∀ W, SetAt W (E + 2) l → Calls Tryd.prog 21 #[.pointer (some ⟨E + 2, 0, none⟩)] W fun e w' => e = .returned (.agg #[.int .i64 (la : Int), .int .i64 (lb : Int), .int .i64 (lc : Int), .int .i64 (ld : Int)]) ∧ Below W.heap.size W w') := ⟨fun W h => by
    have h1 := versions_any (.pointer (some ⟨E + 2, 0, none⟩)) l W (.inr ⟨_, rfl, h⟩)
    unfold L4.ver V4.v at h1
    simp only [hla, hlb, hlc, hld] at h1
    exact h1⟩
  have HCv : Bx (∀ W, Calls Tryd.prog 26 #[.agg #[.int .i64 (la : Int), .int .i64 (lb : Int), .int .i64 (lc : Int), .int .i64 (ld : Int)], .agg #[.int .i64 (na : Int), .int .i64 (nb : Int), .int .i64 (nc : Int), .int .i64 (nd : Int)]] W fun e w' => e = .returned (.bool true) ∧ Below W.heap.size W w') := ⟨fun W => by
    have h1 := covers_any8 (V4.mk (la : Int) (lb : Int) (lc : Int) (ld : Int)) (V4.mk (na : Int) (nb : Int) (nc : Int) (nd : Int)) W
    have h2 : covV (V4.mk (la : Int) (lb : Int) (lc : Int) (ld : Int)) (V4.mk (na : Int) (nb : Int) (nc : Int) (nd : Int)) = true := by
      unfold covV
      simp only [decide_eq_true_iff]
      omega
    rw [h2] at h1
    exact h1⟩
  have HR0 : Bx (revL L4.nil 0 (l.a.take na) = (0, (L4.mk (l.a.take na) [] [] []))) := ⟨rev_first0 rfl (fun x hx => by have hs := HG2.out.1.s; exact hs x (.inl (List.mem_of_mem_take hx))) (nodup_take _ HG2.out.2.a) (by rw [List.length_take]; omega)⟩
  have HHg0 : Bx (Good L4.nil) := ⟨⟨fun y hy => by
    have hs := HG2.out.1.s
    simp [L4.nil] at hy, by simp [L4.nil], by simp [L4.nil], by simp [L4.nil], by simp [L4.nil]⟩⟩
  have HLg0 : Bx (∀ W, SetAt W (E + 1) l → Calls Tryd.prog 24 #[.pointer (some ⟨E + 1, 0, none⟩), .int .i64 0] W fun e w' => ∃ a c, e = .returned (.slice a la c) ∧ IsL w' (.slice a la c) l.a ∧ la ≤ c ∧ Below W.heap.size W w') := ⟨fun W h => (log_0 _ l W (.inr ⟨_, rfl, h⟩) (by omega)).mono (by
    rintro e w' ⟨u, rfl, hu, hb⟩
    obtain ⟨a, c, rfl, hc, -⟩ := id hu
    rw [hla] at hu hc ⊢
    exact ⟨a, c, rfl, hu, hc, hb⟩)⟩
  have hcl0 := fun (a : Option Addr) (c : Nat) (W : World) => cut_l a la c na sa W
  have hch0 := fun (a : Option Addr) (c : Nat) (h : la ≤ c) (W : World) => cut_h a la c na (Nat.le_trans sa h) W
  have HPa0 : Bx (∀ W a c, IsL W (.slice a la c) l.a → IsL W (sl a c na la) d0) := ⟨fun W a c h => by
    have h1 := h.part na la sa (Nat.le_refl _)
    rw [← hla, List.take_length, hd0, hla] at h1
    exact h1⟩
  have HCu0 : Bx (∀ W a c, IsL W (.slice a la c) l.a → la ≤ c → IsL W (.slice a na c) (l.a.take na)) := ⟨fun W a c h hc => h.cut na sa c (by omega) (fun e => by
    obtain ⟨_, _, hv, _, hn, _⟩ := h
    injection hv with v1 v2 v3
    subst v1 v3
    exact hn e)⟩
  have HR1 : Bx (revL (L4.mk (l.a.take na) [] [] []) 1 (l.b.take nb) = (0, (L4.mk (l.a.take na) (l.b.take nb) [] []))) := ⟨rev_first1 rfl (fun x hx => by have hs := HG2.out.1.s; exact hs x (.inr (.inl (List.mem_of_mem_take hx)))) (nodup_take _ HG2.out.2.b) (by rw [List.length_take]; omega)⟩
  have HHg1 : Bx (Good (L4.mk (l.a.take na) [] [] [])) := ⟨⟨fun y hy => by
    have hs := HG2.out.1.s
    simp only [List.not_mem_nil, or_false] at hy
    exact hs y (.inl (List.mem_of_mem_take hy)), by simp only [List.length_take]; omega, by simp, by simp, by simp⟩⟩
  have HLg1 : Bx (∀ W, SetAt W (E + 1) l → Calls Tryd.prog 24 #[.pointer (some ⟨E + 1, 0, none⟩), .int .i64 1] W fun e w' => ∃ a c, e = .returned (.slice a lb c) ∧ IsL w' (.slice a lb c) l.b ∧ lb ≤ c ∧ Below W.heap.size W w') := ⟨fun W h => (log_1 _ l W (.inr ⟨_, rfl, h⟩) (by omega)).mono (by
    rintro e w' ⟨u, rfl, hu, hb⟩
    obtain ⟨a, c, rfl, hc, -⟩ := id hu
    rw [hlb] at hu hc ⊢
    exact ⟨a, c, rfl, hu, hc, hb⟩)⟩
  have hcl1 := fun (a : Option Addr) (c : Nat) (W : World) => cut_l a lb c nb sb W
  have hch1 := fun (a : Option Addr) (c : Nat) (h : lb ≤ c) (W : World) => cut_h a lb c nb (Nat.le_trans sb h) W
  have HPa1 : Bx (∀ W a c, IsL W (.slice a lb c) l.b → IsL W (sl a c nb lb) d1) := ⟨fun W a c h => by
    have h1 := h.part nb lb sb (Nat.le_refl _)
    rw [← hlb, List.take_length, hd1, hlb] at h1
    exact h1⟩
  have HCu1 : Bx (∀ W a c, IsL W (.slice a lb c) l.b → lb ≤ c → IsL W (.slice a nb c) (l.b.take nb)) := ⟨fun W a c h hc => h.cut nb sb c (by omega) (fun e => by
    obtain ⟨_, _, hv, _, hn, _⟩ := h
    injection hv with v1 v2 v3
    subst v1 v3
    exact hn e)⟩
  have HR2 : Bx (revL (L4.mk (l.a.take na) (l.b.take nb) [] []) 2 (l.c.take nc) = (0, (L4.mk (l.a.take na) (l.b.take nb) (l.c.take nc) []))) := ⟨rev_first2 rfl (fun x hx => by have hs := HG2.out.1.s; exact hs x (.inr (.inr (.inl (List.mem_of_mem_take hx))))) (nodup_take _ HG2.out.2.c) (by rw [List.length_take]; omega)⟩
  have HHg2 : Bx (Good (L4.mk (l.a.take na) (l.b.take nb) [] [])) := ⟨⟨fun y hy => by
    have hs := HG2.out.1.s
    simp only [List.not_mem_nil, or_false] at hy
    rcases hy with hy | hy
    · exact hs y (.inl (List.mem_of_mem_take hy))
    · exact hs y (.inr (.inl (List.mem_of_mem_take hy))), by simp only [List.length_take]; omega, by simp only [List.length_take]; omega, by simp, by simp⟩⟩
  have HLg2 : Bx (∀ W, SetAt W (E + 1) l → Calls Tryd.prog 24 #[.pointer (some ⟨E + 1, 0, none⟩), .int .i64 2] W fun e w' => ∃ a c, e = .returned (.slice a lc c) ∧ IsL w' (.slice a lc c) l.c ∧ lc ≤ c ∧ Below W.heap.size W w') := ⟨fun W h => (log_2 _ l W (.inr ⟨_, rfl, h⟩) (by omega)).mono (by
    rintro e w' ⟨u, rfl, hu, hb⟩
    obtain ⟨a, c, rfl, hc, -⟩ := id hu
    rw [hlc] at hu hc ⊢
    exact ⟨a, c, rfl, hu, hc, hb⟩)⟩
  have hcl2 := fun (a : Option Addr) (c : Nat) (W : World) => cut_l a lc c nc sc W
  have hch2 := fun (a : Option Addr) (c : Nat) (h : lc ≤ c) (W : World) => cut_h a lc c nc (Nat.le_trans sc h) W
  have HPa2 : Bx (∀ W a c, IsL W (.slice a lc c) l.c → IsL W (sl a c nc lc) d2) := ⟨fun W a c h => by
    have h1 := h.part nc lc sc (Nat.le_refl _)
    rw [← hlc, List.take_length, hd2, hlc] at h1
    exact h1⟩
  have HCu2 : Bx (∀ W a c, IsL W (.slice a lc c) l.c → lc ≤ c → IsL W (.slice a nc c) (l.c.take nc)) := ⟨fun W a c h hc => h.cut nc sc c (by omega) (fun e => by
    obtain ⟨_, _, hv, _, hn, _⟩ := h
    injection hv with v1 v2 v3
    subst v1 v3
    exact hn e)⟩
  have HR3 : Bx (revL (L4.mk (l.a.take na) (l.b.take nb) (l.c.take nc) []) 3 (l.d.take nd) = (0, (L4.mk (l.a.take na) (l.b.take nb) (l.c.take nc) (l.d.take nd)))) := ⟨rev_first3 rfl (fun x hx => by have hs := HG2.out.1.s; exact hs x (.inr (.inr (.inr (List.mem_of_mem_take hx))))) (nodup_take _ HG2.out.2.d) (by rw [List.length_take]; omega)⟩
  have HHg3 : Bx (Good (L4.mk (l.a.take na) (l.b.take nb) (l.c.take nc) [])) := ⟨⟨fun y hy => by
    have hs := HG2.out.1.s
    simp only [List.not_mem_nil, or_false] at hy
    rcases hy with hy | hy | hy
    · exact hs y (.inl (List.mem_of_mem_take hy))
    · exact hs y (.inr (.inl (List.mem_of_mem_take hy)))
    · exact hs y (.inr (.inr (.inl (List.mem_of_mem_take hy)))), by simp only [List.length_take]; omega, by simp only [List.length_take]; omega, by simp only [List.length_take]; omega, by simp⟩⟩
  have HLg3 : Bx (∀ W, SetAt W (E + 1) l → Calls Tryd.prog 24 #[.pointer (some ⟨E + 1, 0, none⟩), .int .i64 3] W fun e w' => ∃ a c, e = .returned (.slice a ld c) ∧ IsL w' (.slice a ld c) l.d ∧ ld ≤ c ∧ Below W.heap.size W w') := ⟨fun W h => (log_3 _ l W (.inr ⟨_, rfl, h⟩) (by omega)).mono (by
    rintro e w' ⟨u, rfl, hu, hb⟩
    obtain ⟨a, c, rfl, hc, -⟩ := id hu
    rw [hld] at hu hc ⊢
    exact ⟨a, c, rfl, hu, hc, hb⟩)⟩
  have hcl3 := fun (a : Option Addr) (c : Nat) (W : World) => cut_l a ld c nd sd W
  have hch3 := fun (a : Option Addr) (c : Nat) (h : ld ≤ c) (W : World) => cut_h a ld c nd (Nat.le_trans sd h) W
  have HPa3 : Bx (∀ W a c, IsL W (.slice a ld c) l.d → IsL W (sl a c nd ld) d3) := ⟨fun W a c h => by
    have h1 := h.part nd ld sd (Nat.le_refl _)
    rw [← hld, List.take_length, hd3, hld] at h1
    exact h1⟩
  have HCu3 : Bx (∀ W a c, IsL W (.slice a ld c) l.d → ld ≤ c → IsL W (.slice a nd c) (l.d.take nd)) := ⟨fun W a c h hc => h.cut nd sd c (by omega) (fun e => by
    obtain ⟨_, _, hv, _, hn, _⟩ := h
    injection hv with v1 v2 v3
    subst v1 v3
    exact hn e)⟩
  have hvs := vers_self
  have hvn := vers_neq0
  obtain ⟨sb2, hsb⟩ : ∃ sb, sha (printB l) = sb := ⟨_, rfl⟩
  have hl32 : sb2.length = 32 := by rw [← hsb]; exact sha_length _
  have heq := eq32 sb2 sb2 hl32 hl32
  have HP : Bx (∀ W p, Below E w W → SetAt W p l → Calls Tryd.prog 25 #[.pointer (some ⟨p, 0, none⟩)] W fun e w' => e = .returned (.agg (u8s sb2)) ∧ Below W.heap.size W w') := ⟨fun W p h hu => by rw [← hsb]; exact print_any8 _ l W (.inr ⟨p, rfl, hu⟩) HG2.out.1 (HTab.out W h).1 (HTab.out W h).2⟩
  generalize u8s sb2 = sbd at *
  simp only [beq_self_eq_true] at heq
  have i0 := idxV0 la lb lc ld
  have i1 := idxV1 la lb lc ld
  have i2 := idxV2 la lb lc ld
  have i3 := idxV3 la lb lc ld
  have ta : ¬ (la : Int) < (na : Int) := by omega
  have tb : ¬ (lb : Int) < (nb : Int) := by omega
  have tc : ¬ (lc : Int) < (nc : Int) := by omega
  have td : ¬ (ld : Int) < (nd : Int) := by omega
  have ua : (wa : Int) ≤ 256 := by omega
  have ub : (wb : Int) ≤ 256 := by omega
  have uc : (wc : Int) ≤ 256 := by omega
  have ud : (wd : Int) ≤ 256 := by omega
  have va : (0 : Int) ≤ (wa : Int) := by omega
  have vb : (0 : Int) ≤ (wb : Int) := by omega
  have vc : (0 : Int) ≤ (wc : Int) := by omega
  have vd : (0 : Int) ≤ (wd : Int) := by omega
  have HWl := Bx.mk (And.intro hwa (And.intro hwb (And.intro hwc hwd)))
  have HLl : Bx (∀ x ∈ [la, lb, lc, ld, wa, wb, wc, wd], x ≤ 1000) := ⟨by simp; omega⟩
  have HD4 := Bx.mk (And.intro hd0 (And.intro hd1 (And.intro hd2 hd3)))
  unfold V4.v at HSi
  simp only at HSi
  clear hb ra rb rc rd hla hlb hlc hld hd0 hd1 hd2 hd3 e0w e1w e2w e3w g1 g2 g3 g4 hLe hpre hself hnn hmx1 hmx2 hfr hwa hwb hwc hwd hsb hl32 HTab
  go_wp2_with (refine wpList_load_row rfl 31 _ rfl E (by rfl) _ #[.int .i64 (na : Int), .int .i64 (nb : Int), .int .i64 (nc : Int), .int .i64 (nd : Int)] (0, 0) _ (K3.out.1.rows _ (.head _)) Tryd.underlying31 rfl (by kernel_rfl) ?_)
  refine HSi.out.mono ?_
  rintro e w4 ⟨u, rfl, hu, hb⟩
  obtain ⟨e0, e1, e2, e3, f0, f1, f2, f3, rfl⟩ := hu.forms
  simp only [HWl.out.1, HWl.out.2.1, HWl.out.2.2.1, HWl.out.2.2.2] at hu ⊢
  unfold dC
  simp only
  obtain ⟨D, hD⟩ : ∃ D, w4.heap.size = D := ⟨_, rfl⟩
  have K4 : Bx (SH w E D #[.int .i64 (na : Int), .int .i64 (nb : Int), .int .i64 (nc : Int), .int .i64 (nd : Int)] #[.int .i64 (na : Int), .int .i64 (nb : Int), .int .i64 (nc : Int), .int .i64 (nd : Int), .slice e0 wa f0, .slice e1 wb f1, .slice e2 wc f2, .slice e3 wd f3] (VV.mk (.slice e0 wa f0) (.slice e1 wb f1) (.slice e2 wc f2) (.slice e3 wd f3)) (L4.mk d0 d1 d2 d3) l L4.nil (w4.alloc (.cells #[.int .i64 (na : Int), .int .i64 (nb : Int), .int .i64 (nc : Int), .int .i64 (nd : Int), .slice e0 wa f0, .slice e1 wb f1, .slice e2 wc f2, .slice e3 wd f3] 41)) ∧ E + 2 < D) := ⟨by
    subst hD
    exact ⟨⟨(K3.out.1.later hb).new _, (K3.out.2.1.later hb).later (below_a _), (K3.out.2.2.later hb).later (below_a _), hu.later (below_a _)⟩, (K3.out.2.2.later hb).lt⟩⟩
  clear hb hu K3 HSi
  go_wp2
  generalize w4.alloc (.cells #[.int .i64 (na : Int), .int .i64 (nb : Int), .int .i64 (nc : Int), .int .i64 (nd : Int), .slice e0 wa f0, .slice e1 wb f1, .slice e2 wc f2, .slice e3 wd f3] 41) = y0 at *
  clear hD
  have HDE := Bx.mk K4.out.2
  have S0 := Bx.mk K4.out.1
  clear K4
  refine wp_loop_rounds 5 ?_
  rw [rounds_succ]
  go_upto_region 12 with fail
  have R0 := Bx.mk (S0.out.later (Below.refl _ _).drew)
  clear S0
  refine wp_region_noPanic ?_
  refine wp_region_held_drew (S := fun W => W.rangeAt E 0 [.int .i64 (na : Int), .int .i64 (nb : Int), .int .i64 (nc : Int), .int .i64 (nd : Int)]) (by kernel_rfl) (row_rng8 (l := [.int .i64 (na : Int), .int .i64 (nb : Int), .int .i64 (nc : Int), .int .i64 (nd : Int)]) (R0.out.k.rows _ (.tail _ (.head _)))) (fun hHeld => ?_)
  generalize y0.drew = Y0 at *
  refine takeL 0 (v := ?_) rfl (by kernel_rfl) (by kernel_rfl) (by kernel_rfl) (fun _ _ _ h => h) (Or.inl ⟨by rfl, ?_⟩) hHeld ?_
  rotate_left 1
  · (intro w hSw; go_simp; try with_reducible rfl)
  try simp only [Act.put, List.setIfInBounds_toArray, List.set_cons_zero, List.set_cons_succ]
  refine takeL 1 (v := ?_) rfl (by kernel_rfl) (by kernel_rfl) (by kernel_rfl) (fun _ _ _ h => h) (Or.inl ⟨by rfl, ?_⟩) hHeld ?_
  rotate_left 1
  · (intro w hSw; go_simp; try with_reducible rfl)
  try simp only [Act.put, List.setIfInBounds_toArray, List.set_cons_zero, List.set_cons_succ]
  refine takeL 2 (v := ?_) rfl (by kernel_rfl) (by kernel_rfl) (by kernel_rfl) (fun _ _ _ h => h) (Or.inl ⟨by rfl, ?_⟩) hHeld ?_
  rotate_left 1
  · (intro w hSw; have c1 : w.cell? ⟨E, 0, none⟩ = some _ := hSw 0 _ rfl; go_simp; try with_reducible rfl)
  try simp only [Act.put, List.setIfInBounds_toArray, List.set_cons_zero, List.set_cons_succ]
  refine takeL 3 (v := ?_) rfl (by kernel_rfl) (by kernel_rfl) (by kernel_rfl) (fun _ _ _ h => h) (Or.inl ⟨by rfl, ?_⟩) hHeld ?_
  rotate_left 1
  · (intro w hSw; go_simp; try with_reducible rfl)
  try simp only [Act.put, List.setIfInBounds_toArray, List.set_cons_zero, List.set_cons_succ]
  refine takeL 4 (v := ?_) rfl (by kernel_rfl) (by kernel_rfl) (by kernel_rfl) (fun _ _ _ h => h) (Or.inl ⟨by rfl, ?_⟩) hHeld ?_
  rotate_left 1
  · (intro w hSw; go_simp; try with_reducible rfl)
  try simp only [Act.put, List.setIfInBounds_toArray, List.set_cons_zero, List.set_cons_succ]
  refine takeL 5 (v := ?_) rfl (by kernel_rfl) (by kernel_rfl) (by kernel_rfl) (fun _ _ _ h => h) (Or.inl ⟨by rfl, ?_⟩) hHeld ?_
  rotate_left 1
  · (intro w hSw; go_simp; try with_reducible rfl)
  try simp only [Act.put, List.setIfInBounds_toArray, List.set_cons_zero, List.set_cons_succ]
  refine takeL 6 (v := ?_) rfl (by kernel_rfl) (by kernel_rfl) (by kernel_rfl) (fun _ _ _ h => h) (Or.inl ⟨by rfl, ?_⟩) hHeld ?_
  rotate_left 1
  · (intro w hSw; go_simp; try with_reducible rfl)
  try simp only [Act.put, List.setIfInBounds_toArray, List.set_cons_zero, List.set_cons_succ]
  refine takeL 7 (v := ?_) rfl (by kernel_rfl) (by kernel_rfl) (by kernel_rfl) (fun _ _ _ h => h) (Or.inl ⟨by rfl, ?_⟩) hHeld ?_
  rotate_left 1
  · (intro w hSw; have c1 : w.cell? ⟨E, 0, none⟩ = some _ := hSw 0 _ rfl; go_simp; try with_reducible rfl)
  try simp only [Act.put, List.setIfInBounds_toArray, List.set_cons_zero, List.set_cons_succ]
  refine takeL 8 (v := ?_) rfl (by kernel_rfl) (by kernel_rfl) (by kernel_rfl) (fun _ _ _ h => h) (Or.inl ⟨by rfl, ?_⟩) hHeld ?_
  rotate_left 1
  · (intro w hSw; go_simp; try with_reducible rfl)
  try simp only [Act.put, List.setIfInBounds_toArray, List.set_cons_zero, List.set_cons_succ]
  refine takeL 10 (v := ?_) rfl (by kernel_rfl) (by kernel_rfl) (by kernel_rfl) (fun _ _ _ h => h) (Or.inl ⟨by rfl, ?_⟩) hHeld ?_
  rotate_left 1
  · (intro w hSw; go_simp; try with_reducible rfl)
  try simp only [Act.put, List.setIfInBounds_toArray, List.set_cons_zero, List.set_cons_succ]
  refine stepL 9 (by kernel_rfl) rfl (fun K hK => ?_)
  go_simp
  refine (HV.out Y0 R0.out.s).mono ?_
  rintro e x0 ⟨rfl, hb⟩
  show K _ _
  have R1 := Bx.mk (R0.out.later hb)
  clear hb R0
  refine hK.out _ _ (row_rng8 (l := [.int .i64 (na : Int), .int .i64 (nb : Int), .int .i64 (nc : Int), .int .i64 (nd : Int)]) (R1.out.k.rows _ (.tail _ (.head _)))) (fun hHeld => ?_)
  clear hK K
  try simp only [Act.put, List.setIfInBounds_toArray, List.set_cons_zero, List.set_cons_succ]
  refine takeL 11 (v := ?_) rfl (by kernel_rfl) (by kernel_rfl) (by kernel_rfl) (fun _ _ _ h => h) (Or.inl ⟨by rfl, ?_⟩) hHeld ?_
  rotate_left 1
  · (intro w hSw; go_simp; try with_reducible rfl)
  try simp only [Act.put, List.setIfInBounds_toArray, List.set_cons_zero, List.set_cons_succ]
  refine takeL 12 (v := ?_) rfl (by kernel_rfl) (by kernel_rfl) (by kernel_rfl) (fun _ _ _ h => h) (Or.inl ⟨by rfl, ?_⟩) hHeld ?_
  rotate_left 1
  · (intro w hSw; go_simp; try with_reducible rfl)
  try simp only [Act.put, List.setIfInBounds_toArray, List.set_cons_zero, List.set_cons_succ]
  refine takeL 13 (v := ?_) rfl (by kernel_rfl) (by kernel_rfl) (by kernel_rfl) (fun _ _ _ h => h) (Or.inl ⟨by rfl, ?_⟩) hHeld ?_
  rotate_left 1
  · (intro w hSw; go_simp; try with_reducible rfl)
  try simp only [Act.put, List.setIfInBounds_toArray, List.set_cons_zero, List.set_cons_succ]
  refine wpAnyH_done (by kernel_rfl) ?_ _
  refine NoPanic.normal ?_
  clear hHeld
  have S1 := R1
  clear R1
  go_wp2
  rw [rounds_succ]
  go_upto_region 12 with fail
  have R0 := Bx.mk (S1.out.later (Below.refl _ _).drew)
  clear S1
  refine wp_region_noPanic ?_
  refine wp_region_held_drew (S := fun W => W.rangeAt E 0 [.int .i64 (na : Int), .int .i64 (nb : Int), .int .i64 (nc : Int), .int .i64 (nd : Int)]) (by kernel_rfl) (row_rng8 (l := [.int .i64 (na : Int), .int .i64 (nb : Int), .int .i64 (nc : Int), .int .i64 (nd : Int)]) (R0.out.k.rows _ (.tail _ (.head _)))) (fun hHeld => ?_)
  generalize x0.drew = Y1 at *
  refine takeL 0 (v := ?_) rfl (by kernel_rfl) (by kernel_rfl) (by kernel_rfl) (fun _ _ _ h => h) (Or.inl ⟨by rfl, ?_⟩) hHeld ?_
  rotate_left 1
  · (intro w hSw; go_simp; try with_reducible rfl)
  try simp only [Act.put, List.setIfInBounds_toArray, List.set_cons_zero, List.set_cons_succ]
  refine takeL 1 (v := ?_) rfl (by kernel_rfl) (by kernel_rfl) (by kernel_rfl) (fun _ _ _ h => h) (Or.inl ⟨by rfl, ?_⟩) hHeld ?_
  rotate_left 1
  · (intro w hSw; go_simp; try with_reducible rfl)
  try simp only [Act.put, List.setIfInBounds_toArray, List.set_cons_zero, List.set_cons_succ]
  refine takeL 2 (v := ?_) rfl (by kernel_rfl) (by kernel_rfl) (by kernel_rfl) (fun _ _ _ h => h) (Or.inl ⟨by rfl, ?_⟩) hHeld ?_
  rotate_left 1
  · (intro w hSw; have c1 : w.cell? ⟨E, 1, none⟩ = some _ := hSw 1 _ rfl; go_simp; try with_reducible rfl)
  try simp only [Act.put, List.setIfInBounds_toArray, List.set_cons_zero, List.set_cons_succ]
  refine takeL 3 (v := ?_) rfl (by kernel_rfl) (by kernel_rfl) (by kernel_rfl) (fun _ _ _ h => h) (Or.inl ⟨by rfl, ?_⟩) hHeld ?_
  rotate_left 1
  · (intro w hSw; go_simp; try with_reducible rfl)
  try simp only [Act.put, List.setIfInBounds_toArray, List.set_cons_zero, List.set_cons_succ]
  refine takeL 4 (v := ?_) rfl (by kernel_rfl) (by kernel_rfl) (by kernel_rfl) (fun _ _ _ h => h) (Or.inl ⟨by rfl, ?_⟩) hHeld ?_
  rotate_left 1
  · (intro w hSw; go_simp; try with_reducible rfl)
  try simp only [Act.put, List.setIfInBounds_toArray, List.set_cons_zero, List.set_cons_succ]
  refine takeL 5 (v := ?_) rfl (by kernel_rfl) (by kernel_rfl) (by kernel_rfl) (fun _ _ _ h => h) (Or.inl ⟨by rfl, ?_⟩) hHeld ?_
  rotate_left 1
  · (intro w hSw; go_simp; try with_reducible rfl)
  try simp only [Act.put, List.setIfInBounds_toArray, List.set_cons_zero, List.set_cons_succ]
  refine takeL 6 (v := ?_) rfl (by kernel_rfl) (by kernel_rfl) (by kernel_rfl) (fun _ _ _ h => h) (Or.inl ⟨by rfl, ?_⟩) hHeld ?_
  rotate_left 1
  · (intro w hSw; go_simp; try with_reducible rfl)
  try simp only [Act.put, List.setIfInBounds_toArray, List.set_cons_zero, List.set_cons_succ]
  refine takeL 7 (v := ?_) rfl (by kernel_rfl) (by kernel_rfl) (by kernel_rfl) (fun _ _ _ h => h) (Or.inl ⟨by rfl, ?_⟩) hHeld ?_
  rotate_left 1
  · (intro w hSw; have c1 : w.cell? ⟨E, 1, none⟩ = some _ := hSw 1 _ rfl; go_simp; try with_reducible rfl)
  try simp only [Act.put, List.setIfInBounds_toArray, List.set_cons_zero, List.set_cons_succ]
  refine takeL 8 (v := ?_) rfl (by kernel_rfl) (by kernel_rfl) (by kernel_rfl) (fun _ _ _ h => h) (Or.inl ⟨by rfl, ?_⟩) hHeld ?_
  rotate_left 1
  · (intro w hSw; go_simp; try with_reducible rfl)
  try simp only [Act.put, List.setIfInBounds_toArray, List.set_cons_zero, List.set_cons_succ]
  refine takeL 10 (v := ?_) rfl (by kernel_rfl) (by kernel_rfl) (by kernel_rfl) (fun _ _ _ h => h) (Or.inl ⟨by rfl, ?_⟩) hHeld ?_
  rotate_left 1
  · (intro w hSw; go_simp; try with_reducible rfl)
  try simp only [Act.put, List.setIfInBounds_toArray, List.set_cons_zero, List.set_cons_succ]
  refine stepL 9 (by kernel_rfl) rfl (fun K hK => ?_)
  go_simp
  refine (HV.out Y1 R0.out.s).mono ?_
  rintro e x1 ⟨rfl, hb⟩
  show K _ _
  have R1 := Bx.mk (R0.out.later hb)
  clear hb R0
  refine hK.out _ _ (row_rng8 (l := [.int .i64 (na : Int), .int .i64 (nb : Int), .int .i64 (nc : Int), .int .i64 (nd : Int)]) (R1.out.k.rows _ (.tail _ (.head _)))) (fun hHeld => ?_)
  clear hK K
  try simp only [Act.put, List.setIfInBounds_toArray, List.set_cons_zero, List.set_cons_succ]
  refine takeL 11 (v := ?_) rfl (by kernel_rfl) (by kernel_rfl) (by kernel_rfl) (fun _ _ _ h => h) (Or.inl ⟨by rfl, ?_⟩) hHeld ?_
  rotate_left 1
  · (intro w hSw; go_simp; try with_reducible rfl)
  try simp only [Act.put, List.setIfInBounds_toArray, List.set_cons_zero, List.set_cons_succ]
  refine takeL 12 (v := ?_) rfl (by kernel_rfl) (by kernel_rfl) (by kernel_rfl) (fun _ _ _ h => h) (Or.inl ⟨by rfl, ?_⟩) hHeld ?_
  rotate_left 1
  · (intro w hSw; go_simp; try with_reducible rfl)
  try simp only [Act.put, List.setIfInBounds_toArray, List.set_cons_zero, List.set_cons_succ]
  refine takeL 13 (v := ?_) rfl (by kernel_rfl) (by kernel_rfl) (by kernel_rfl) (fun _ _ _ h => h) (Or.inl ⟨by rfl, ?_⟩) hHeld ?_
  rotate_left 1
  · (intro w hSw; go_simp; try with_reducible rfl)
  try simp only [Act.put, List.setIfInBounds_toArray, List.set_cons_zero, List.set_cons_succ]
  refine wpAnyH_done (by kernel_rfl) ?_ _
  refine NoPanic.normal ?_
  clear hHeld
  have S2 := R1
  clear R1
  go_wp2
  rw [rounds_succ]
  go_upto_region 12 with fail
  have R0 := Bx.mk (S2.out.later (Below.refl _ _).drew)
  clear S2
  refine wp_region_noPanic ?_
  refine wp_region_held_drew (S := fun W => W.rangeAt E 0 [.int .i64 (na : Int), .int .i64 (nb : Int), .int .i64 (nc : Int), .int .i64 (nd : Int)]) (by kernel_rfl) (row_rng8 (l := [.int .i64 (na : Int), .int .i64 (nb : Int), .int .i64 (nc : Int), .int .i64 (nd : Int)]) (R0.out.k.rows _ (.tail _ (.head _)))) (fun hHeld => ?_)
  generalize x1.drew = Y2 at *
  refine takeL 0 (v := ?_) rfl (by kernel_rfl) (by kernel_rfl) (by kernel_rfl) (fun _ _ _ h => h) (Or.inl ⟨by rfl, ?_⟩) hHeld ?_
  rotate_left 1
  · (intro w hSw; go_simp; try with_reducible rfl)
  try simp only [Act.put, List.setIfInBounds_toArray, List.set_cons_zero, List.set_cons_succ]
  refine takeL 1 (v := ?_) rfl (by kernel_rfl) (by kernel_rfl) (by kernel_rfl) (fun _ _ _ h => h) (Or.inl ⟨by rfl, ?_⟩) hHeld ?_
  rotate_left 1
  · (intro w hSw; go_simp; try with_reducible rfl)
  try simp only [Act.put, List.setIfInBounds_toArray, List.set_cons_zero, List.set_cons_succ]
  refine takeL 2 (v := ?_) rfl (by kernel_rfl) (by kernel_rfl) (by kernel_rfl) (fun _ _ _ h => h) (Or.inl ⟨by rfl, ?_⟩) hHeld ?_
  rotate_left 1
  · (intro w hSw; have c1 : w.cell? ⟨E, 2, none⟩ = some _ := hSw 2 _ rfl; go_simp; try with_reducible rfl)
  try simp only [Act.put, List.setIfInBounds_toArray, List.set_cons_zero, List.set_cons_succ]
  refine takeL 3 (v := ?_) rfl (by kernel_rfl) (by kernel_rfl) (by kernel_rfl) (fun _ _ _ h => h) (Or.inl ⟨by rfl, ?_⟩) hHeld ?_
  rotate_left 1
  · (intro w hSw; go_simp; try with_reducible rfl)
  try simp only [Act.put, List.setIfInBounds_toArray, List.set_cons_zero, List.set_cons_succ]
  refine takeL 4 (v := ?_) rfl (by kernel_rfl) (by kernel_rfl) (by kernel_rfl) (fun _ _ _ h => h) (Or.inl ⟨by rfl, ?_⟩) hHeld ?_
  rotate_left 1
  · (intro w hSw; go_simp; try with_reducible rfl)
  try simp only [Act.put, List.setIfInBounds_toArray, List.set_cons_zero, List.set_cons_succ]
  refine takeL 5 (v := ?_) rfl (by kernel_rfl) (by kernel_rfl) (by kernel_rfl) (fun _ _ _ h => h) (Or.inl ⟨by rfl, ?_⟩) hHeld ?_
  rotate_left 1
  · (intro w hSw; go_simp; try with_reducible rfl)
  try simp only [Act.put, List.setIfInBounds_toArray, List.set_cons_zero, List.set_cons_succ]
  refine takeL 6 (v := ?_) rfl (by kernel_rfl) (by kernel_rfl) (by kernel_rfl) (fun _ _ _ h => h) (Or.inl ⟨by rfl, ?_⟩) hHeld ?_
  rotate_left 1
  · (intro w hSw; go_simp; try with_reducible rfl)
  try simp only [Act.put, List.setIfInBounds_toArray, List.set_cons_zero, List.set_cons_succ]
  refine takeL 7 (v := ?_) rfl (by kernel_rfl) (by kernel_rfl) (by kernel_rfl) (fun _ _ _ h => h) (Or.inl ⟨by rfl, ?_⟩) hHeld ?_
  rotate_left 1
  · (intro w hSw; have c1 : w.cell? ⟨E, 2, none⟩ = some _ := hSw 2 _ rfl; go_simp; try with_reducible rfl)
  try simp only [Act.put, List.setIfInBounds_toArray, List.set_cons_zero, List.set_cons_succ]
  refine takeL 8 (v := ?_) rfl (by kernel_rfl) (by kernel_rfl) (by kernel_rfl) (fun _ _ _ h => h) (Or.inl ⟨by rfl, ?_⟩) hHeld ?_
  rotate_left 1
  · (intro w hSw; go_simp; try with_reducible rfl)
  try simp only [Act.put, List.setIfInBounds_toArray, List.set_cons_zero, List.set_cons_succ]
  refine takeL 10 (v := ?_) rfl (by kernel_rfl) (by kernel_rfl) (by kernel_rfl) (fun _ _ _ h => h) (Or.inl ⟨by rfl, ?_⟩) hHeld ?_
  rotate_left 1
  · (intro w hSw; go_simp; try with_reducible rfl)
  try simp only [Act.put, List.setIfInBounds_toArray, List.set_cons_zero, List.set_cons_succ]
  refine stepL 9 (by kernel_rfl) rfl (fun K hK => ?_)
  go_simp
  refine (HV.out Y2 R0.out.s).mono ?_
  rintro e x2 ⟨rfl, hb⟩
  show K _ _
  have R1 := Bx.mk (R0.out.later hb)
  clear hb R0
  refine hK.out _ _ (row_rng8 (l := [.int .i64 (na : Int), .int .i64 (nb : Int), .int .i64 (nc : Int), .int .i64 (nd : Int)]) (R1.out.k.rows _ (.tail _ (.head _)))) (fun hHeld => ?_)
  clear hK K
  try simp only [Act.put, List.setIfInBounds_toArray, List.set_cons_zero, List.set_cons_succ]
  refine takeL 11 (v := ?_) rfl (by kernel_rfl) (by kernel_rfl) (by kernel_rfl) (fun _ _ _ h => h) (Or.inl ⟨by rfl, ?_⟩) hHeld ?_
  rotate_left 1
  · (intro w hSw; go_simp; try with_reducible rfl)
  try simp only [Act.put, List.setIfInBounds_toArray, List.set_cons_zero, List.set_cons_succ]
  refine takeL 12 (v := ?_) rfl (by kernel_rfl) (by kernel_rfl) (by kernel_rfl) (fun _ _ _ h => h) (Or.inl ⟨by rfl, ?_⟩) hHeld ?_
  rotate_left 1
  · (intro w hSw; go_simp; try with_reducible rfl)
  try simp only [Act.put, List.setIfInBounds_toArray, List.set_cons_zero, List.set_cons_succ]
  refine takeL 13 (v := ?_) rfl (by kernel_rfl) (by kernel_rfl) (by kernel_rfl) (fun _ _ _ h => h) (Or.inl ⟨by rfl, ?_⟩) hHeld ?_
  rotate_left 1
  · (intro w hSw; go_simp; try with_reducible rfl)
  try simp only [Act.put, List.setIfInBounds_toArray, List.set_cons_zero, List.set_cons_succ]
  refine wpAnyH_done (by kernel_rfl) ?_ _
  refine NoPanic.normal ?_
  clear hHeld
  have S3 := R1
  clear R1
  go_wp2
  rw [rounds_succ]
  go_upto_region 12 with fail
  have R0 := Bx.mk (S3.out.later (Below.refl _ _).drew)
  clear S3
  refine wp_region_noPanic ?_
  refine wp_region_held_drew (S := fun W => W.rangeAt E 0 [.int .i64 (na : Int), .int .i64 (nb : Int), .int .i64 (nc : Int), .int .i64 (nd : Int)]) (by kernel_rfl) (row_rng8 (l := [.int .i64 (na : Int), .int .i64 (nb : Int), .int .i64 (nc : Int), .int .i64 (nd : Int)]) (R0.out.k.rows _ (.tail _ (.head _)))) (fun hHeld => ?_)
  generalize x2.drew = Y3 at *
  refine takeL 0 (v := ?_) rfl (by kernel_rfl) (by kernel_rfl) (by kernel_rfl) (fun _ _ _ h => h) (Or.inl ⟨by rfl, ?_⟩) hHeld ?_
  rotate_left 1
  · (intro w hSw; go_simp; try with_reducible rfl)
  try simp only [Act.put, List.setIfInBounds_toArray, List.set_cons_zero, List.set_cons_succ]
  refine takeL 1 (v := ?_) rfl (by kernel_rfl) (by kernel_rfl) (by kernel_rfl) (fun _ _ _ h => h) (Or.inl ⟨by rfl, ?_⟩) hHeld ?_
  rotate_left 1
  · (intro w hSw; go_simp; try with_reducible rfl)
  try simp only [Act.put, List.setIfInBounds_toArray, List.set_cons_zero, List.set_cons_succ]
  refine takeL 2 (v := ?_) rfl (by kernel_rfl) (by kernel_rfl) (by kernel_rfl) (fun _ _ _ h => h) (Or.inl ⟨by rfl, ?_⟩) hHeld ?_
  rotate_left 1
  · (intro w hSw; have c1 : w.cell? ⟨E, 3, none⟩ = some _ := hSw 3 _ rfl; go_simp; try with_reducible rfl)
  try simp only [Act.put, List.setIfInBounds_toArray, List.set_cons_zero, List.set_cons_succ]
  refine takeL 3 (v := ?_) rfl (by kernel_rfl) (by kernel_rfl) (by kernel_rfl) (fun _ _ _ h => h) (Or.inl ⟨by rfl, ?_⟩) hHeld ?_
  rotate_left 1
  · (intro w hSw; go_simp; try with_reducible rfl)
  try simp only [Act.put, List.setIfInBounds_toArray, List.set_cons_zero, List.set_cons_succ]
  refine takeL 4 (v := ?_) rfl (by kernel_rfl) (by kernel_rfl) (by kernel_rfl) (fun _ _ _ h => h) (Or.inl ⟨by rfl, ?_⟩) hHeld ?_
  rotate_left 1
  · (intro w hSw; go_simp; try with_reducible rfl)
  try simp only [Act.put, List.setIfInBounds_toArray, List.set_cons_zero, List.set_cons_succ]
  refine takeL 5 (v := ?_) rfl (by kernel_rfl) (by kernel_rfl) (by kernel_rfl) (fun _ _ _ h => h) (Or.inl ⟨by rfl, ?_⟩) hHeld ?_
  rotate_left 1
  · (intro w hSw; go_simp; try with_reducible rfl)
  try simp only [Act.put, List.setIfInBounds_toArray, List.set_cons_zero, List.set_cons_succ]
  refine takeL 6 (v := ?_) rfl (by kernel_rfl) (by kernel_rfl) (by kernel_rfl) (fun _ _ _ h => h) (Or.inl ⟨by rfl, ?_⟩) hHeld ?_
  rotate_left 1
  · (intro w hSw; go_simp; try with_reducible rfl)
  try simp only [Act.put, List.setIfInBounds_toArray, List.set_cons_zero, List.set_cons_succ]
  refine takeL 7 (v := ?_) rfl (by kernel_rfl) (by kernel_rfl) (by kernel_rfl) (fun _ _ _ h => h) (Or.inl ⟨by rfl, ?_⟩) hHeld ?_
  rotate_left 1
  · (intro w hSw; have c1 : w.cell? ⟨E, 3, none⟩ = some _ := hSw 3 _ rfl; go_simp; try with_reducible rfl)
  try simp only [Act.put, List.setIfInBounds_toArray, List.set_cons_zero, List.set_cons_succ]
  refine takeL 8 (v := ?_) rfl (by kernel_rfl) (by kernel_rfl) (by kernel_rfl) (fun _ _ _ h => h) (Or.inl ⟨by rfl, ?_⟩) hHeld ?_
  rotate_left 1
  · (intro w hSw; go_simp; try with_reducible rfl)
  try simp only [Act.put, List.setIfInBounds_toArray, List.set_cons_zero, List.set_cons_succ]
  refine takeL 10 (v := ?_) rfl (by kernel_rfl) (by kernel_rfl) (by kernel_rfl) (fun _ _ _ h => h) (Or.inl ⟨by rfl, ?_⟩) hHeld ?_
  rotate_left 1
  · (intro w hSw; go_simp; try with_reducible rfl)
  try simp only [Act.put, List.setIfInBounds_toArray, List.set_cons_zero, List.set_cons_succ]
  refine stepL 9 (by kernel_rfl) rfl (fun K hK => ?_)
  go_simp
  refine (HV.out Y3 R0.out.s).mono ?_
  rintro e x3 ⟨rfl, hb⟩
  show K _ _
  have R1 := Bx.mk (R0.out.later hb)
  clear hb R0
  refine hK.out _ _ (row_rng8 (l := [.int .i64 (na : Int), .int .i64 (nb : Int), .int .i64 (nc : Int), .int .i64 (nd : Int)]) (R1.out.k.rows _ (.tail _ (.head _)))) (fun hHeld => ?_)
  clear hK K
  try simp only [Act.put, List.setIfInBounds_toArray, List.set_cons_zero, List.set_cons_succ]
  refine takeL 11 (v := ?_) rfl (by kernel_rfl) (by kernel_rfl) (by kernel_rfl) (fun _ _ _ h => h) (Or.inl ⟨by rfl, ?_⟩) hHeld ?_
  rotate_left 1
  · (intro w hSw; go_simp; try with_reducible rfl)
  try simp only [Act.put, List.setIfInBounds_toArray, List.set_cons_zero, List.set_cons_succ]
  refine takeL 12 (v := ?_) rfl (by kernel_rfl) (by kernel_rfl) (by kernel_rfl) (fun _ _ _ h => h) (Or.inl ⟨by rfl, ?_⟩) hHeld ?_
  rotate_left 1
  · (intro w hSw; go_simp; try with_reducible rfl)
  try simp only [Act.put, List.setIfInBounds_toArray, List.set_cons_zero, List.set_cons_succ]
  refine takeL 13 (v := ?_) rfl (by kernel_rfl) (by kernel_rfl) (by kernel_rfl) (fun _ _ _ h => h) (Or.inl ⟨by rfl, ?_⟩) hHeld ?_
  rotate_left 1
  · (intro w hSw; go_simp; try with_reducible rfl)
  try simp only [Act.put, List.setIfInBounds_toArray, List.set_cons_zero, List.set_cons_succ]
  refine wpAnyH_done (by kernel_rfl) ?_ _
  refine NoPanic.normal ?_
  clear hHeld
  have S4 := R1
  clear R1
  go_wp2
  rw [rounds_succ]
  go_wp2
  refine wp_loop_rounds 5 ?_
  rw [rounds_succ]
  go_upto_region 17 with fail
  have R0 := Bx.mk (S4.out.later (Below.refl _ _).drew)
  clear S4
  refine wp_region_noPanic ?_
  refine wp_region_held_drew (S := fun W => W.rangeAt E 0 [.int .i64 (na : Int), .int .i64 (nb : Int), .int .i64 (nc : Int), .int .i64 (nd : Int)] ∧ W.rangeAt D 0 [.int .i64 (na : Int), .int .i64 (nb : Int), .int .i64 (nc : Int), .int .i64 (nd : Int), .slice e0 wa f0, .slice e1 wb f1, .slice e2 wc f2, .slice e3 wd f3]) (by kernel_rfl) (⟨row_rng8 (l := [.int .i64 (na : Int), .int .i64 (nb : Int), .int .i64 (nc : Int), .int .i64 (nd : Int)]) (R0.out.k.rows _ (.tail _ (.head _))), row_rng8 (l := [.int .i64 (na : Int), .int .i64 (nb : Int), .int .i64 (nc : Int), .int .i64 (nd : Int), .slice e0 wa f0, .slice e1 wb f1, .slice e2 wc f2, .slice e3 wd f3]) (R0.out.k.rows _ (.head _))⟩) (fun hHeld => ?_)
  generalize x3.drew = Z0 at *
  refine takeL 0 (v := ?_) rfl (by kernel_rfl) (by kernel_rfl) (by kernel_rfl) (fun _ _ _ h => h) (Or.inl ⟨by rfl, ?_⟩) hHeld ?_
  rotate_left 1
  · (intro w hSw; go_simp; try with_reducible rfl)
  try simp only [Act.put, List.setIfInBounds_toArray, List.set_cons_zero, List.set_cons_succ]
  refine takeL 1 (v := ?_) rfl (by kernel_rfl) (by kernel_rfl) (by kernel_rfl) (fun _ _ _ h => h) (Or.inl ⟨by rfl, ?_⟩) hHeld ?_
  rotate_left 1
  · (intro w hSw; go_simp; try with_reducible rfl)
  try simp only [Act.put, List.setIfInBounds_toArray, List.set_cons_zero, List.set_cons_succ]
  refine takeL 2 (v := ?_) rfl (by kernel_rfl) (by kernel_rfl) (by kernel_rfl) (fun _ _ _ h => h) (Or.inl ⟨by rfl, ?_⟩) hHeld ?_
  rotate_left 1
  · (intro w hSw; go_simp; try with_reducible rfl)
  try simp only [Act.put, List.setIfInBounds_toArray, List.set_cons_zero, List.set_cons_succ]
  refine takeL 3 (v := ?_) rfl (by kernel_rfl) (by kernel_rfl) (by kernel_rfl) (fun _ _ _ h => h) (Or.inl ⟨by rfl, ?_⟩) hHeld ?_
  rotate_left 1
  · (intro w hSw; go_simp; try with_reducible rfl)
  try simp only [Act.put, List.setIfInBounds_toArray, List.set_cons_zero, List.set_cons_succ]
  refine takeL 4 (v := ?_) rfl (by kernel_rfl) (by kernel_rfl) (by kernel_rfl) (fun _ _ _ h => h) (Or.inl ⟨by rfl, ?_⟩) hHeld ?_
  rotate_left 1
  · (intro w hSw; go_simp; try with_reducible rfl)
  try simp only [Act.put, List.setIfInBounds_toArray, List.set_cons_zero, List.set_cons_succ]
  refine takeL 5 (v := ?_) rfl (by kernel_rfl) (by kernel_rfl) (by kernel_rfl) (fun _ _ _ h => h) (Or.inl ⟨by rfl, ?_⟩) hHeld ?_
  rotate_left 1
  · (intro w hSw; go_simp; try with_reducible rfl)
  try simp only [Act.put, List.setIfInBounds_toArray, List.set_cons_zero, List.set_cons_succ]
  refine takeL 6 (v := ?_) rfl (by kernel_rfl) (by kernel_rfl) (by kernel_rfl) (fun _ _ _ h => h) (Or.inl ⟨by rfl, ?_⟩) hHeld ?_
  rotate_left 1
  · (intro w hSw; have c1 : w.cell? ⟨D, 4, none⟩ = some _ := hSw.2 4 _ rfl; go_simp; try with_reducible rfl)
  try simp only [Act.put, List.setIfInBounds_toArray, List.set_cons_zero, List.set_cons_succ]
  refine takeL 7 (v := ?_) rfl (by kernel_rfl) (by kernel_rfl) (by kernel_rfl) (fun _ _ _ h => h) (Or.inl ⟨by rfl, ?_⟩) hHeld ?_
  rotate_left 1
  · (intro w hSw; go_simp; try with_reducible rfl)
  try simp only [Act.put, List.setIfInBounds_toArray, List.set_cons_zero, List.set_cons_succ]
  refine takeL 8 (v := ?_) rfl (by kernel_rfl) (by kernel_rfl) (by kernel_rfl) (fun _ _ _ h => h) (Or.inl ⟨by rfl, ?_⟩) hHeld ?_
  rotate_left 1
  · (intro w hSw; go_simp; try with_reducible rfl)
  try simp only [Act.put, List.setIfInBounds_toArray, List.set_cons_zero, List.set_cons_succ]
  refine takeL 10 (v := ?_) rfl (by kernel_rfl) (by kernel_rfl) (by kernel_rfl) (fun _ _ _ h => h) (Or.inl ⟨by rfl, ?_⟩) hHeld ?_
  rotate_left 1
  · (intro w hSw; go_simp; try with_reducible rfl)
  try simp only [Act.put, List.setIfInBounds_toArray, List.set_cons_zero, List.set_cons_succ]
  refine takeL 11 (v := ?_) rfl (by kernel_rfl) (by kernel_rfl) (by kernel_rfl) (fun _ _ _ h => h) (Or.inl ⟨by rfl, ?_⟩) hHeld ?_
  rotate_left 1
  · (intro w hSw; go_simp; try with_reducible rfl)
  try simp only [Act.put, List.setIfInBounds_toArray, List.set_cons_zero, List.set_cons_succ]
  refine takeL 12 (v := ?_) rfl (by kernel_rfl) (by kernel_rfl) (by kernel_rfl) (fun _ _ _ h => h) (Or.inl ⟨by rfl, ?_⟩) hHeld ?_
  rotate_left 1
  · (intro w hSw; have c1 : w.cell? ⟨E, 0, none⟩ = some _ := hSw.1 0 _ rfl; go_simp; try with_reducible rfl)
  try simp only [Act.put, List.setIfInBounds_toArray, List.set_cons_zero, List.set_cons_succ]
  refine stepL 9 (by kernel_rfl) rfl (fun K hK => ?_)
  go_simp
  refine (HLg0.out Z0 R0.out.s).mono ?_
  rintro e p0 ⟨ag, cg, rfl, hl, -, hb⟩
  show K _ _
  have R1 := Bx.mk (R0.out.later hb)
  have L1 := Bx.mk (HPa0.out _ _ _ hl)
  clear hb hl R0
  refine hK.out _ _ (⟨row_rng8 (l := [.int .i64 (na : Int), .int .i64 (nb : Int), .int .i64 (nc : Int), .int .i64 (nd : Int)]) (R1.out.k.rows _ (.tail _ (.head _))), row_rng8 (l := [.int .i64 (na : Int), .int .i64 (nb : Int), .int .i64 (nc : Int), .int .i64 (nd : Int), .slice e0 wa f0, .slice e1 wb f1, .slice e2 wc f2, .slice e3 wd f3]) (R1.out.k.rows _ (.head _))⟩) (fun hHeld => ?_)
  clear hK K
  try simp only [Act.put, List.setIfInBounds_toArray, List.set_cons_zero, List.set_cons_succ]
  refine takeL 13 (v := ?_) rfl (by kernel_rfl) (by kernel_rfl) (by kernel_rfl) (fun _ _ _ h => h) (Or.inl ⟨by rfl, ?_⟩) hHeld ?_
  rotate_left 1
  · (intro w hSw; have h3 := hcl0 ag cg w; go_simp; try with_reducible rfl)
  try simp only [Act.put, List.setIfInBounds_toArray, List.set_cons_zero, List.set_cons_succ]
  refine stepL 14 (by kernel_rfl) rfl (fun K hK => ?_)
  go_simp
  refine (rsame8 d0 d0 _ _ p0 R1.out.u.a L1.out (by rw [HWl.out.1]; exact Nat.le_trans (HLl.out _ (by simp)) (by omega)) (by rw [HWl.out.1]; exact Nat.le_trans (HLl.out _ (by simp)) (by omega))).mono ?_
  rw [decide_eq_true (rfl : d0 = d0)]
  rintro e q0 ⟨rfl, hb⟩
  show K _ _
  have R2 := Bx.mk (R1.out.later hb)
  clear hb R1 L1
  refine hK.out _ _ (⟨row_rng8 (l := [.int .i64 (na : Int), .int .i64 (nb : Int), .int .i64 (nc : Int), .int .i64 (nd : Int)]) (R2.out.k.rows _ (.tail _ (.head _))), row_rng8 (l := [.int .i64 (na : Int), .int .i64 (nb : Int), .int .i64 (nc : Int), .int .i64 (nd : Int), .slice e0 wa f0, .slice e1 wb f1, .slice e2 wc f2, .slice e3 wd f3]) (R2.out.k.rows _ (.head _))⟩) (fun hHeld => ?_)
  clear hK K
  try simp only [Act.put, List.setIfInBounds_toArray, List.set_cons_zero, List.set_cons_succ]
  refine takeL 15 (v := ?_) rfl (by kernel_rfl) (by kernel_rfl) (by kernel_rfl) (fun _ _ _ h => h) (Or.inl ⟨by rfl, ?_⟩) hHeld ?_
  rotate_left 1
  · (intro w hSw; go_simp; try with_reducible rfl)
  try simp only [Act.put, List.setIfInBounds_toArray, List.set_cons_zero, List.set_cons_succ]
  refine takeL 16 (v := ?_) rfl (by kernel_rfl) (by kernel_rfl) (by kernel_rfl) (fun _ _ _ h => h) (Or.inl ⟨by rfl, ?_⟩) hHeld ?_
  rotate_left 1
  · (intro w hSw; go_simp; try with_reducible rfl)
  try simp only [Act.put, List.setIfInBounds_toArray, List.set_cons_zero, List.set_cons_succ]
  refine takeL 17 (v := ?_) rfl (by kernel_rfl) (by kernel_rfl) (by kernel_rfl) (fun _ _ _ h => h) (Or.inl ⟨by rfl, ?_⟩) hHeld ?_
  rotate_left 1
  · (intro w hSw; go_simp; try with_reducible rfl)
  try simp only [Act.put, List.setIfInBounds_toArray, List.set_cons_zero, List.set_cons_succ]
  refine takeL 18 (v := ?_) rfl (by kernel_rfl) (by kernel_rfl) (by kernel_rfl) (fun _ _ _ h => h) (Or.inl ⟨by rfl, ?_⟩) hHeld ?_
  rotate_left 1
  · (intro w hSw; go_simp; try with_reducible rfl)
  try simp only [Act.put, List.setIfInBounds_toArray, List.set_cons_zero, List.set_cons_succ]
  refine takeL 19 (v := ?_) rfl (by kernel_rfl) (by kernel_rfl) (by kernel_rfl) (fun _ _ _ h => h) (Or.inl ⟨by rfl, ?_⟩) hHeld ?_
  rotate_left 1
  · (intro w hSw; go_simp; try with_reducible rfl)
  try simp only [Act.put, List.setIfInBounds_toArray, List.set_cons_zero, List.set_cons_succ]
  refine takeL 20 (v := ?_) rfl (by kernel_rfl) (by kernel_rfl) (by kernel_rfl) (fun _ _ _ h => h) (Or.inl ⟨by rfl, ?_⟩) hHeld ?_
  rotate_left 1
  · (intro w hSw; go_simp; try with_reducible rfl)
  try simp only [Act.put, List.setIfInBounds_toArray, List.set_cons_zero, List.set_cons_succ]
  refine takeL 21 (v := ?_) rfl (by kernel_rfl) (by kernel_rfl) (by kernel_rfl) (fun _ _ _ h => h) (Or.inl ⟨by rfl, ?_⟩) hHeld ?_
  rotate_left 1
  · (intro w hSw; go_simp; try with_reducible rfl)
  try simp only [Act.put, List.setIfInBounds_toArray, List.set_cons_zero, List.set_cons_succ]
  refine takeL 23 (v := ?_) rfl (by kernel_rfl) (by kernel_rfl) (by kernel_rfl) (fun _ _ _ h => h) (Or.inl ⟨by rfl, ?_⟩) hHeld ?_
  rotate_left 1
  · (intro w hSw; go_simp; try with_reducible rfl)
  try simp only [Act.put, List.setIfInBounds_toArray, List.set_cons_zero, List.set_cons_succ]
  refine takeL 24 (v := ?_) rfl (by kernel_rfl) (by kernel_rfl) (by kernel_rfl) (fun _ _ _ h => h) (Or.inl ⟨by rfl, ?_⟩) hHeld ?_
  rotate_left 1
  · (intro w hSw; go_simp; try with_reducible rfl)
  try simp only [Act.put, List.setIfInBounds_toArray, List.set_cons_zero, List.set_cons_succ]
  refine takeL 25 (v := ?_) rfl (by kernel_rfl) (by kernel_rfl) (by kernel_rfl) (fun _ _ _ h => h) (Or.inl ⟨by rfl, ?_⟩) hHeld ?_
  rotate_left 1
  · (intro w hSw; have c1 : w.cell? ⟨E, 0, none⟩ = some _ := hSw.1 0 _ rfl; go_simp; try with_reducible rfl)
  try simp only [Act.put, List.setIfInBounds_toArray, List.set_cons_zero, List.set_cons_succ]
  refine stepL 22 (by kernel_rfl) rfl (fun K hK => ?_)
  go_simp
  refine (HLg0.out q0 R2.out.s).mono ?_
  rintro e r0 ⟨ah, ch, rfl, hl, hlc, hb⟩
  show K _ _
  have R3 := Bx.mk (R2.out.later hb)
  have L3 := Bx.mk (HCu0.out _ _ _ hl hlc)
  have hchk := hch0 ah ch hlc
  clear hb hl R2 hlc
  refine hK.out _ _ (⟨row_rng8 (l := [.int .i64 (na : Int), .int .i64 (nb : Int), .int .i64 (nc : Int), .int .i64 (nd : Int)]) (R3.out.k.rows _ (.tail _ (.head _))), row_rng8 (l := [.int .i64 (na : Int), .int .i64 (nb : Int), .int .i64 (nc : Int), .int .i64 (nd : Int), .slice e0 wa f0, .slice e1 wb f1, .slice e2 wc f2, .slice e3 wd f3]) (R3.out.k.rows _ (.head _))⟩) (fun hHeld => ?_)
  clear hK K
  try simp only [Act.put, List.setIfInBounds_toArray, List.set_cons_zero, List.set_cons_succ]
  refine takeL 26 (v := ?_) rfl (by kernel_rfl) (by kernel_rfl) (by kernel_rfl) (fun _ _ _ h => h) (Or.inl ⟨by rfl, ?_⟩) hHeld ?_
  rotate_left 1
  · (intro w hSw; have h3 := hchk w; go_simp; try with_reducible rfl)
  try simp only [Act.put, List.setIfInBounds_toArray, List.set_cons_zero, List.set_cons_succ]
  refine stepL 27 (by kernel_rfl) rfl (fun K hK => ?_)
  go_simp
  refine (revoke_any 0 _ (l.a.take na) (E + 2) L4.nil r0 R3.out.h HHg0.out L3.out (by rw [List.length_take]; have := HLl.out la (by simp); have := HLn.out.1; omega)).mono ?_
  rw [HR0.out]
  rintro e s0 ⟨rfl, hs2, hg2⟩
  show K _ _
  have T1 := Bx.mk (R3.out.half hg2 hs2 HDE.out)
  clear hs2 hg2 R3 L3 hchk
  refine hK.out _ _ (⟨row_rng8 (l := [.int .i64 (na : Int), .int .i64 (nb : Int), .int .i64 (nc : Int), .int .i64 (nd : Int)]) (T1.out.k.rows _ (.tail _ (.head _))), row_rng8 (l := [.int .i64 (na : Int), .int .i64 (nb : Int), .int .i64 (nc : Int), .int .i64 (nd : Int), .slice e0 wa f0, .slice e1 wb f1, .slice e2 wc f2, .slice e3 wd f3]) (T1.out.k.rows _ (.head _))⟩) (fun hHeld => ?_)
  clear hK K
  refine takeL 28 (v := ?_) rfl (by kernel_rfl) (by kernel_rfl) (by kernel_rfl) (fun _ _ _ h => h) (Or.inl ⟨by rfl, ?_⟩) hHeld ?_
  rotate_left 1
  · (intro w hSw; go_simp; try with_reducible rfl)
  try simp only [Act.put, List.setIfInBounds_toArray, List.set_cons_zero, List.set_cons_succ]
  refine takeL 29 (v := ?_) rfl (by kernel_rfl) (by kernel_rfl) (by kernel_rfl) (fun _ _ _ h => h) (Or.inl ⟨by rfl, ?_⟩) hHeld ?_
  rotate_left 1
  · (intro w hSw; go_simp; try with_reducible rfl)
  try simp only [Act.put, List.setIfInBounds_toArray, List.set_cons_zero, List.set_cons_succ]
  refine wpAnyH_done (by kernel_rfl) ?_ _
  refine NoPanic.normal ?_
  clear hHeld
  go_wp2
  rw [rounds_succ]
  go_upto_region 17 with fail
  have R0 := Bx.mk (T1.out.later (Below.refl _ _).drew)
  clear T1
  refine wp_region_noPanic ?_
  refine wp_region_held_drew (S := fun W => W.rangeAt E 0 [.int .i64 (na : Int), .int .i64 (nb : Int), .int .i64 (nc : Int), .int .i64 (nd : Int)] ∧ W.rangeAt D 0 [.int .i64 (na : Int), .int .i64 (nb : Int), .int .i64 (nc : Int), .int .i64 (nd : Int), .slice e0 wa f0, .slice e1 wb f1, .slice e2 wc f2, .slice e3 wd f3]) (by kernel_rfl) (⟨row_rng8 (l := [.int .i64 (na : Int), .int .i64 (nb : Int), .int .i64 (nc : Int), .int .i64 (nd : Int)]) (R0.out.k.rows _ (.tail _ (.head _))), row_rng8 (l := [.int .i64 (na : Int), .int .i64 (nb : Int), .int .i64 (nc : Int), .int .i64 (nd : Int), .slice e0 wa f0, .slice e1 wb f1, .slice e2 wc f2, .slice e3 wd f3]) (R0.out.k.rows _ (.head _))⟩) (fun hHeld => ?_)
  generalize s0.drew = Z1 at *
  refine takeL 0 (v := ?_) rfl (by kernel_rfl) (by kernel_rfl) (by kernel_rfl) (fun _ _ _ h => h) (Or.inl ⟨by rfl, ?_⟩) hHeld ?_
  rotate_left 1
  · (intro w hSw; go_simp; try with_reducible rfl)
  try simp only [Act.put, List.setIfInBounds_toArray, List.set_cons_zero, List.set_cons_succ]
  refine takeL 1 (v := ?_) rfl (by kernel_rfl) (by kernel_rfl) (by kernel_rfl) (fun _ _ _ h => h) (Or.inl ⟨by rfl, ?_⟩) hHeld ?_
  rotate_left 1
  · (intro w hSw; go_simp; try with_reducible rfl)
  try simp only [Act.put, List.setIfInBounds_toArray, List.set_cons_zero, List.set_cons_succ]
  refine takeL 2 (v := ?_) rfl (by kernel_rfl) (by kernel_rfl) (by kernel_rfl) (fun _ _ _ h => h) (Or.inl ⟨by rfl, ?_⟩) hHeld ?_
  rotate_left 1
  · (intro w hSw; go_simp; try with_reducible rfl)
  try simp only [Act.put, List.setIfInBounds_toArray, List.set_cons_zero, List.set_cons_succ]
  refine takeL 3 (v := ?_) rfl (by kernel_rfl) (by kernel_rfl) (by kernel_rfl) (fun _ _ _ h => h) (Or.inl ⟨by rfl, ?_⟩) hHeld ?_
  rotate_left 1
  · (intro w hSw; go_simp; try with_reducible rfl)
  try simp only [Act.put, List.setIfInBounds_toArray, List.set_cons_zero, List.set_cons_succ]
  refine takeL 4 (v := ?_) rfl (by kernel_rfl) (by kernel_rfl) (by kernel_rfl) (fun _ _ _ h => h) (Or.inl ⟨by rfl, ?_⟩) hHeld ?_
  rotate_left 1
  · (intro w hSw; go_simp; try with_reducible rfl)
  try simp only [Act.put, List.setIfInBounds_toArray, List.set_cons_zero, List.set_cons_succ]
  refine takeL 5 (v := ?_) rfl (by kernel_rfl) (by kernel_rfl) (by kernel_rfl) (fun _ _ _ h => h) (Or.inl ⟨by rfl, ?_⟩) hHeld ?_
  rotate_left 1
  · (intro w hSw; go_simp; try with_reducible rfl)
  try simp only [Act.put, List.setIfInBounds_toArray, List.set_cons_zero, List.set_cons_succ]
  refine takeL 6 (v := ?_) rfl (by kernel_rfl) (by kernel_rfl) (by kernel_rfl) (fun _ _ _ h => h) (Or.inl ⟨by rfl, ?_⟩) hHeld ?_
  rotate_left 1
  · (intro w hSw; have c1 : w.cell? ⟨D, 5, none⟩ = some _ := hSw.2 5 _ rfl; go_simp; try with_reducible rfl)
  try simp only [Act.put, List.setIfInBounds_toArray, List.set_cons_zero, List.set_cons_succ]
  refine takeL 7 (v := ?_) rfl (by kernel_rfl) (by kernel_rfl) (by kernel_rfl) (fun _ _ _ h => h) (Or.inl ⟨by rfl, ?_⟩) hHeld ?_
  rotate_left 1
  · (intro w hSw; go_simp; try with_reducible rfl)
  try simp only [Act.put, List.setIfInBounds_toArray, List.set_cons_zero, List.set_cons_succ]
  refine takeL 8 (v := ?_) rfl (by kernel_rfl) (by kernel_rfl) (by kernel_rfl) (fun _ _ _ h => h) (Or.inl ⟨by rfl, ?_⟩) hHeld ?_
  rotate_left 1
  · (intro w hSw; go_simp; try with_reducible rfl)
  try simp only [Act.put, List.setIfInBounds_toArray, List.set_cons_zero, List.set_cons_succ]
  refine takeL 10 (v := ?_) rfl (by kernel_rfl) (by kernel_rfl) (by kernel_rfl) (fun _ _ _ h => h) (Or.inl ⟨by rfl, ?_⟩) hHeld ?_
  rotate_left 1
  · (intro w hSw; go_simp; try with_reducible rfl)
  try simp only [Act.put, List.setIfInBounds_toArray, List.set_cons_zero, List.set_cons_succ]
  refine takeL 11 (v := ?_) rfl (by kernel_rfl) (by kernel_rfl) (by kernel_rfl) (fun _ _ _ h => h) (Or.inl ⟨by rfl, ?_⟩) hHeld ?_
  rotate_left 1
  · (intro w hSw; go_simp; try with_reducible rfl)
  try simp only [Act.put, List.setIfInBounds_toArray, List.set_cons_zero, List.set_cons_succ]
  refine takeL 12 (v := ?_) rfl (by kernel_rfl) (by kernel_rfl) (by kernel_rfl) (fun _ _ _ h => h) (Or.inl ⟨by rfl, ?_⟩) hHeld ?_
  rotate_left 1
  · (intro w hSw; have c1 : w.cell? ⟨E, 1, none⟩ = some _ := hSw.1 1 _ rfl; go_simp; try with_reducible rfl)
  try simp only [Act.put, List.setIfInBounds_toArray, List.set_cons_zero, List.set_cons_succ]
  refine stepL 9 (by kernel_rfl) rfl (fun K hK => ?_)
  go_simp
  refine (HLg1.out Z1 R0.out.s).mono ?_
  rintro e p1 ⟨ag, cg, rfl, hl, -, hb⟩
  show K _ _
  have R1 := Bx.mk (R0.out.later hb)
  have L1 := Bx.mk (HPa1.out _ _ _ hl)
  clear hb hl R0
  refine hK.out _ _ (⟨row_rng8 (l := [.int .i64 (na : Int), .int .i64 (nb : Int), .int .i64 (nc : Int), .int .i64 (nd : Int)]) (R1.out.k.rows _ (.tail _ (.head _))), row_rng8 (l := [.int .i64 (na : Int), .int .i64 (nb : Int), .int .i64 (nc : Int), .int .i64 (nd : Int), .slice e0 wa f0, .slice e1 wb f1, .slice e2 wc f2, .slice e3 wd f3]) (R1.out.k.rows _ (.head _))⟩) (fun hHeld => ?_)
  clear hK K
  try simp only [Act.put, List.setIfInBounds_toArray, List.set_cons_zero, List.set_cons_succ]
  refine takeL 13 (v := ?_) rfl (by kernel_rfl) (by kernel_rfl) (by kernel_rfl) (fun _ _ _ h => h) (Or.inl ⟨by rfl, ?_⟩) hHeld ?_
  rotate_left 1
  · (intro w hSw; have h3 := hcl1 ag cg w; go_simp; try with_reducible rfl)
  try simp only [Act.put, List.setIfInBounds_toArray, List.set_cons_zero, List.set_cons_succ]
  refine stepL 14 (by kernel_rfl) rfl (fun K hK => ?_)
  go_simp
  refine (rsame8 d1 d1 _ _ p1 R1.out.u.b L1.out (by rw [HWl.out.2.1]; exact Nat.le_trans (HLl.out _ (by simp)) (by omega)) (by rw [HWl.out.2.1]; exact Nat.le_trans (HLl.out _ (by simp)) (by omega))).mono ?_
  rw [decide_eq_true (rfl : d1 = d1)]
  rintro e q1 ⟨rfl, hb⟩
  show K _ _
  have R2 := Bx.mk (R1.out.later hb)
  clear hb R1 L1
  refine hK.out _ _ (⟨row_rng8 (l := [.int .i64 (na : Int), .int .i64 (nb : Int), .int .i64 (nc : Int), .int .i64 (nd : Int)]) (R2.out.k.rows _ (.tail _ (.head _))), row_rng8 (l := [.int .i64 (na : Int), .int .i64 (nb : Int), .int .i64 (nc : Int), .int .i64 (nd : Int), .slice e0 wa f0, .slice e1 wb f1, .slice e2 wc f2, .slice e3 wd f3]) (R2.out.k.rows _ (.head _))⟩) (fun hHeld => ?_)
  clear hK K
  try simp only [Act.put, List.setIfInBounds_toArray, List.set_cons_zero, List.set_cons_succ]
  refine takeL 15 (v := ?_) rfl (by kernel_rfl) (by kernel_rfl) (by kernel_rfl) (fun _ _ _ h => h) (Or.inl ⟨by rfl, ?_⟩) hHeld ?_
  rotate_left 1
  · (intro w hSw; go_simp; try with_reducible rfl)
  try simp only [Act.put, List.setIfInBounds_toArray, List.set_cons_zero, List.set_cons_succ]
  refine takeL 16 (v := ?_) rfl (by kernel_rfl) (by kernel_rfl) (by kernel_rfl) (fun _ _ _ h => h) (Or.inl ⟨by rfl, ?_⟩) hHeld ?_
  rotate_left 1
  · (intro w hSw; go_simp; try with_reducible rfl)
  try simp only [Act.put, List.setIfInBounds_toArray, List.set_cons_zero, List.set_cons_succ]
  refine takeL 17 (v := ?_) rfl (by kernel_rfl) (by kernel_rfl) (by kernel_rfl) (fun _ _ _ h => h) (Or.inl ⟨by rfl, ?_⟩) hHeld ?_
  rotate_left 1
  · (intro w hSw; go_simp; try with_reducible rfl)
  try simp only [Act.put, List.setIfInBounds_toArray, List.set_cons_zero, List.set_cons_succ]
  refine takeL 18 (v := ?_) rfl (by kernel_rfl) (by kernel_rfl) (by kernel_rfl) (fun _ _ _ h => h) (Or.inl ⟨by rfl, ?_⟩) hHeld ?_
  rotate_left 1
  · (intro w hSw; go_simp; try with_reducible rfl)
  try simp only [Act.put, List.setIfInBounds_toArray, List.set_cons_zero, List.set_cons_succ]
  refine takeL 19 (v := ?_) rfl (by kernel_rfl) (by kernel_rfl) (by kernel_rfl) (fun _ _ _ h => h) (Or.inl ⟨by rfl, ?_⟩) hHeld ?_
  rotate_left 1
  · (intro w hSw; go_simp; try with_reducible rfl)
  try simp only [Act.put, List.setIfInBounds_toArray, List.set_cons_zero, List.set_cons_succ]
  refine takeL 20 (v := ?_) rfl (by kernel_rfl) (by kernel_rfl) (by kernel_rfl) (fun _ _ _ h => h) (Or.inl ⟨by rfl, ?_⟩) hHeld ?_
  rotate_left 1
  · (intro w hSw; go_simp; try with_reducible rfl)
  try simp only [Act.put, List.setIfInBounds_toArray, List.set_cons_zero, List.set_cons_succ]
  refine takeL 21 (v := ?_) rfl (by kernel_rfl) (by kernel_rfl) (by kernel_rfl) (fun _ _ _ h => h) (Or.inl ⟨by rfl, ?_⟩) hHeld ?_
  rotate_left 1
  · (intro w hSw; go_simp; try with_reducible rfl)
  try simp only [Act.put, List.setIfInBounds_toArray, List.set_cons_zero, List.set_cons_succ]
  refine takeL 23 (v := ?_) rfl (by kernel_rfl) (by kernel_rfl) (by kernel_rfl) (fun _ _ _ h => h) (Or.inl ⟨by rfl, ?_⟩) hHeld ?_
  rotate_left 1
  · (intro w hSw; go_simp; try with_reducible rfl)
  try simp only [Act.put, List.setIfInBounds_toArray, List.set_cons_zero, List.set_cons_succ]
  refine takeL 24 (v := ?_) rfl (by kernel_rfl) (by kernel_rfl) (by kernel_rfl) (fun _ _ _ h => h) (Or.inl ⟨by rfl, ?_⟩) hHeld ?_
  rotate_left 1
  · (intro w hSw; go_simp; try with_reducible rfl)
  try simp only [Act.put, List.setIfInBounds_toArray, List.set_cons_zero, List.set_cons_succ]
  refine takeL 25 (v := ?_) rfl (by kernel_rfl) (by kernel_rfl) (by kernel_rfl) (fun _ _ _ h => h) (Or.inl ⟨by rfl, ?_⟩) hHeld ?_
  rotate_left 1
  · (intro w hSw; have c1 : w.cell? ⟨E, 1, none⟩ = some _ := hSw.1 1 _ rfl; go_simp; try with_reducible rfl)
  try simp only [Act.put, List.setIfInBounds_toArray, List.set_cons_zero, List.set_cons_succ]
  refine stepL 22 (by kernel_rfl) rfl (fun K hK => ?_)
  go_simp
  refine (HLg1.out q1 R2.out.s).mono ?_
  rintro e r1 ⟨ah, ch, rfl, hl, hlc, hb⟩
  show K _ _
  have R3 := Bx.mk (R2.out.later hb)
  have L3 := Bx.mk (HCu1.out _ _ _ hl hlc)
  have hchk := hch1 ah ch hlc
  clear hb hl R2 hlc
  refine hK.out _ _ (⟨row_rng8 (l := [.int .i64 (na : Int), .int .i64 (nb : Int), .int .i64 (nc : Int), .int .i64 (nd : Int)]) (R3.out.k.rows _ (.tail _ (.head _))), row_rng8 (l := [.int .i64 (na : Int), .int .i64 (nb : Int), .int .i64 (nc : Int), .int .i64 (nd : Int), .slice e0 wa f0, .slice e1 wb f1, .slice e2 wc f2, .slice e3 wd f3]) (R3.out.k.rows _ (.head _))⟩) (fun hHeld => ?_)
  clear hK K
  try simp only [Act.put, List.setIfInBounds_toArray, List.set_cons_zero, List.set_cons_succ]
  refine takeL 26 (v := ?_) rfl (by kernel_rfl) (by kernel_rfl) (by kernel_rfl) (fun _ _ _ h => h) (Or.inl ⟨by rfl, ?_⟩) hHeld ?_
  rotate_left 1
  · (intro w hSw; have h3 := hchk w; go_simp; try with_reducible rfl)
  try simp only [Act.put, List.setIfInBounds_toArray, List.set_cons_zero, List.set_cons_succ]
  refine stepL 27 (by kernel_rfl) rfl (fun K hK => ?_)
  go_simp
  refine (revoke_any 1 _ (l.b.take nb) (E + 2) (L4.mk (l.a.take na) [] [] []) r1 R3.out.h HHg1.out L3.out (by rw [List.length_take]; have := HLl.out lb (by simp); have := HLn.out.2.1; omega)).mono ?_
  rw [HR1.out]
  rintro e s1 ⟨rfl, hs2, hg2⟩
  show K _ _
  have T2 := Bx.mk (R3.out.half hg2 hs2 HDE.out)
  clear hs2 hg2 R3 L3 hchk
  refine hK.out _ _ (⟨row_rng8 (l := [.int .i64 (na : Int), .int .i64 (nb : Int), .int .i64 (nc : Int), .int .i64 (nd : Int)]) (T2.out.k.rows _ (.tail _ (.head _))), row_rng8 (l := [.int .i64 (na : Int), .int .i64 (nb : Int), .int .i64 (nc : Int), .int .i64 (nd : Int), .slice e0 wa f0, .slice e1 wb f1, .slice e2 wc f2, .slice e3 wd f3]) (T2.out.k.rows _ (.head _))⟩) (fun hHeld => ?_)
  clear hK K
  refine takeL 28 (v := ?_) rfl (by kernel_rfl) (by kernel_rfl) (by kernel_rfl) (fun _ _ _ h => h) (Or.inl ⟨by rfl, ?_⟩) hHeld ?_
  rotate_left 1
  · (intro w hSw; go_simp; try with_reducible rfl)
  try simp only [Act.put, List.setIfInBounds_toArray, List.set_cons_zero, List.set_cons_succ]
  refine takeL 29 (v := ?_) rfl (by kernel_rfl) (by kernel_rfl) (by kernel_rfl) (fun _ _ _ h => h) (Or.inl ⟨by rfl, ?_⟩) hHeld ?_
  rotate_left 1
  · (intro w hSw; go_simp; try with_reducible rfl)
  try simp only [Act.put, List.setIfInBounds_toArray, List.set_cons_zero, List.set_cons_succ]
  refine wpAnyH_done (by kernel_rfl) ?_ _
  refine NoPanic.normal ?_
  clear hHeld
  go_wp2
  rw [rounds_succ]
  go_upto_region 17 with fail
  have R0 := Bx.mk (T2.out.later (Below.refl _ _).drew)
  clear T2
  refine wp_region_noPanic ?_
  refine wp_region_held_drew (S := fun W => W.rangeAt E 0 [.int .i64 (na : Int), .int .i64 (nb : Int), .int .i64 (nc : Int), .int .i64 (nd : Int)] ∧ W.rangeAt D 0 [.int .i64 (na : Int), .int .i64 (nb : Int), .int .i64 (nc : Int), .int .i64 (nd : Int), .slice e0 wa f0, .slice e1 wb f1, .slice e2 wc f2, .slice e3 wd f3]) (by kernel_rfl) (⟨row_rng8 (l := [.int .i64 (na : Int), .int .i64 (nb : Int), .int .i64 (nc : Int), .int .i64 (nd : Int)]) (R0.out.k.rows _ (.tail _ (.head _))), row_rng8 (l := [.int .i64 (na : Int), .int .i64 (nb : Int), .int .i64 (nc : Int), .int .i64 (nd : Int), .slice e0 wa f0, .slice e1 wb f1, .slice e2 wc f2, .slice e3 wd f3]) (R0.out.k.rows _ (.head _))⟩) (fun hHeld => ?_)
  generalize s1.drew = Z2 at *
  refine takeL 0 (v := ?_) rfl (by kernel_rfl) (by kernel_rfl) (by kernel_rfl) (fun _ _ _ h => h) (Or.inl ⟨by rfl, ?_⟩) hHeld ?_
  rotate_left 1
  · (intro w hSw; go_simp; try with_reducible rfl)
  try simp only [Act.put, List.setIfInBounds_toArray, List.set_cons_zero, List.set_cons_succ]
  refine takeL 1 (v := ?_) rfl (by kernel_rfl) (by kernel_rfl) (by kernel_rfl) (fun _ _ _ h => h) (Or.inl ⟨by rfl, ?_⟩) hHeld ?_
  rotate_left 1
  · (intro w hSw; go_simp; try with_reducible rfl)
  try simp only [Act.put, List.setIfInBounds_toArray, List.set_cons_zero, List.set_cons_succ]
  refine takeL 2 (v := ?_) rfl (by kernel_rfl) (by kernel_rfl) (by kernel_rfl) (fun _ _ _ h => h) (Or.inl ⟨by rfl, ?_⟩) hHeld ?_
  rotate_left 1
  · (intro w hSw; go_simp; try with_reducible rfl)
  try simp only [Act.put, List.setIfInBounds_toArray, List.set_cons_zero, List.set_cons_succ]
  refine takeL 3 (v := ?_) rfl (by kernel_rfl) (by kernel_rfl) (by kernel_rfl) (fun _ _ _ h => h) (Or.inl ⟨by rfl, ?_⟩) hHeld ?_
  rotate_left 1
  · (intro w hSw; go_simp; try with_reducible rfl)
  try simp only [Act.put, List.setIfInBounds_toArray, List.set_cons_zero, List.set_cons_succ]
  refine takeL 4 (v := ?_) rfl (by kernel_rfl) (by kernel_rfl) (by kernel_rfl) (fun _ _ _ h => h) (Or.inl ⟨by rfl, ?_⟩) hHeld ?_
  rotate_left 1
  · (intro w hSw; go_simp; try with_reducible rfl)
  try simp only [Act.put, List.setIfInBounds_toArray, List.set_cons_zero, List.set_cons_succ]
  refine takeL 5 (v := ?_) rfl (by kernel_rfl) (by kernel_rfl) (by kernel_rfl) (fun _ _ _ h => h) (Or.inl ⟨by rfl, ?_⟩) hHeld ?_
  rotate_left 1
  · (intro w hSw; go_simp; try with_reducible rfl)
  try simp only [Act.put, List.setIfInBounds_toArray, List.set_cons_zero, List.set_cons_succ]
  refine takeL 6 (v := ?_) rfl (by kernel_rfl) (by kernel_rfl) (by kernel_rfl) (fun _ _ _ h => h) (Or.inl ⟨by rfl, ?_⟩) hHeld ?_
  rotate_left 1
  · (intro w hSw; have c1 : w.cell? ⟨D, 6, none⟩ = some _ := hSw.2 6 _ rfl; go_simp; try with_reducible rfl)
  try simp only [Act.put, List.setIfInBounds_toArray, List.set_cons_zero, List.set_cons_succ]
  refine takeL 7 (v := ?_) rfl (by kernel_rfl) (by kernel_rfl) (by kernel_rfl) (fun _ _ _ h => h) (Or.inl ⟨by rfl, ?_⟩) hHeld ?_
  rotate_left 1
  · (intro w hSw; go_simp; try with_reducible rfl)
  try simp only [Act.put, List.setIfInBounds_toArray, List.set_cons_zero, List.set_cons_succ]
  refine takeL 8 (v := ?_) rfl (by kernel_rfl) (by kernel_rfl) (by kernel_rfl) (fun _ _ _ h => h) (Or.inl ⟨by rfl, ?_⟩) hHeld ?_
  rotate_left 1
  · (intro w hSw; go_simp; try with_reducible rfl)
  try simp only [Act.put, List.setIfInBounds_toArray, List.set_cons_zero, List.set_cons_succ]
  refine takeL 10 (v := ?_) rfl (by kernel_rfl) (by kernel_rfl) (by kernel_rfl) (fun _ _ _ h => h) (Or.inl ⟨by rfl, ?_⟩) hHeld ?_
  rotate_left 1
  · (intro w hSw; go_simp; try with_reducible rfl)
  try simp only [Act.put, List.setIfInBounds_toArray, List.set_cons_zero, List.set_cons_succ]
  refine takeL 11 (v := ?_) rfl (by kernel_rfl) (by kernel_rfl) (by kernel_rfl) (fun _ _ _ h => h) (Or.inl ⟨by rfl, ?_⟩) hHeld ?_
  rotate_left 1
  · (intro w hSw; go_simp; try with_reducible rfl)
  try simp only [Act.put, List.setIfInBounds_toArray, List.set_cons_zero, List.set_cons_succ]
  refine takeL 12 (v := ?_) rfl (by kernel_rfl) (by kernel_rfl) (by kernel_rfl) (fun _ _ _ h => h) (Or.inl ⟨by rfl, ?_⟩) hHeld ?_
  rotate_left 1
  · (intro w hSw; have c1 : w.cell? ⟨E, 2, none⟩ = some _ := hSw.1 2 _ rfl; go_simp; try with_reducible rfl)
  try simp only [Act.put, List.setIfInBounds_toArray, List.set_cons_zero, List.set_cons_succ]
  refine stepL 9 (by kernel_rfl) rfl (fun K hK => ?_)
  go_simp
  refine (HLg2.out Z2 R0.out.s).mono ?_
  rintro e p2 ⟨ag, cg, rfl, hl, -, hb⟩
  show K _ _
  have R1 := Bx.mk (R0.out.later hb)
  have L1 := Bx.mk (HPa2.out _ _ _ hl)
  clear hb hl R0
  refine hK.out _ _ (⟨row_rng8 (l := [.int .i64 (na : Int), .int .i64 (nb : Int), .int .i64 (nc : Int), .int .i64 (nd : Int)]) (R1.out.k.rows _ (.tail _ (.head _))), row_rng8 (l := [.int .i64 (na : Int), .int .i64 (nb : Int), .int .i64 (nc : Int), .int .i64 (nd : Int), .slice e0 wa f0, .slice e1 wb f1, .slice e2 wc f2, .slice e3 wd f3]) (R1.out.k.rows _ (.head _))⟩) (fun hHeld => ?_)
  clear hK K
  try simp only [Act.put, List.setIfInBounds_toArray, List.set_cons_zero, List.set_cons_succ]
  refine takeL 13 (v := ?_) rfl (by kernel_rfl) (by kernel_rfl) (by kernel_rfl) (fun _ _ _ h => h) (Or.inl ⟨by rfl, ?_⟩) hHeld ?_
  rotate_left 1
  · (intro w hSw; have h3 := hcl2 ag cg w; go_simp; try with_reducible rfl)
  try simp only [Act.put, List.setIfInBounds_toArray, List.set_cons_zero, List.set_cons_succ]
  refine stepL 14 (by kernel_rfl) rfl (fun K hK => ?_)
  go_simp
  refine (rsame8 d2 d2 _ _ p2 R1.out.u.c L1.out (by rw [HWl.out.2.2.1]; exact Nat.le_trans (HLl.out _ (by simp)) (by omega)) (by rw [HWl.out.2.2.1]; exact Nat.le_trans (HLl.out _ (by simp)) (by omega))).mono ?_
  rw [decide_eq_true (rfl : d2 = d2)]
  rintro e q2 ⟨rfl, hb⟩
  show K _ _
  have R2 := Bx.mk (R1.out.later hb)
  clear hb R1 L1
  refine hK.out _ _ (⟨row_rng8 (l := [.int .i64 (na : Int), .int .i64 (nb : Int), .int .i64 (nc : Int), .int .i64 (nd : Int)]) (R2.out.k.rows _ (.tail _ (.head _))), row_rng8 (l := [.int .i64 (na : Int), .int .i64 (nb : Int), .int .i64 (nc : Int), .int .i64 (nd : Int), .slice e0 wa f0, .slice e1 wb f1, .slice e2 wc f2, .slice e3 wd f3]) (R2.out.k.rows _ (.head _))⟩) (fun hHeld => ?_)
  clear hK K
  try simp only [Act.put, List.setIfInBounds_toArray, List.set_cons_zero, List.set_cons_succ]
  refine takeL 15 (v := ?_) rfl (by kernel_rfl) (by kernel_rfl) (by kernel_rfl) (fun _ _ _ h => h) (Or.inl ⟨by rfl, ?_⟩) hHeld ?_
  rotate_left 1
  · (intro w hSw; go_simp; try with_reducible rfl)
  try simp only [Act.put, List.setIfInBounds_toArray, List.set_cons_zero, List.set_cons_succ]
  refine takeL 16 (v := ?_) rfl (by kernel_rfl) (by kernel_rfl) (by kernel_rfl) (fun _ _ _ h => h) (Or.inl ⟨by rfl, ?_⟩) hHeld ?_
  rotate_left 1
  · (intro w hSw; go_simp; try with_reducible rfl)
  try simp only [Act.put, List.setIfInBounds_toArray, List.set_cons_zero, List.set_cons_succ]
  refine takeL 17 (v := ?_) rfl (by kernel_rfl) (by kernel_rfl) (by kernel_rfl) (fun _ _ _ h => h) (Or.inl ⟨by rfl, ?_⟩) hHeld ?_
  rotate_left 1
  · (intro w hSw; go_simp; try with_reducible rfl)
  try simp only [Act.put, List.setIfInBounds_toArray, List.set_cons_zero, List.set_cons_succ]
  refine takeL 18 (v := ?_) rfl (by kernel_rfl) (by kernel_rfl) (by kernel_rfl) (fun _ _ _ h => h) (Or.inl ⟨by rfl, ?_⟩) hHeld ?_
  rotate_left 1
  · (intro w hSw; go_simp; try with_reducible rfl)
  try simp only [Act.put, List.setIfInBounds_toArray, List.set_cons_zero, List.set_cons_succ]
  refine takeL 19 (v := ?_) rfl (by kernel_rfl) (by kernel_rfl) (by kernel_rfl) (fun _ _ _ h => h) (Or.inl ⟨by rfl, ?_⟩) hHeld ?_
  rotate_left 1
  · (intro w hSw; go_simp; try with_reducible rfl)
  try simp only [Act.put, List.setIfInBounds_toArray, List.set_cons_zero, List.set_cons_succ]
  refine takeL 20 (v := ?_) rfl (by kernel_rfl) (by kernel_rfl) (by kernel_rfl) (fun _ _ _ h => h) (Or.inl ⟨by rfl, ?_⟩) hHeld ?_
  rotate_left 1
  · (intro w hSw; go_simp; try with_reducible rfl)
  try simp only [Act.put, List.setIfInBounds_toArray, List.set_cons_zero, List.set_cons_succ]
  refine takeL 21 (v := ?_) rfl (by kernel_rfl) (by kernel_rfl) (by kernel_rfl) (fun _ _ _ h => h) (Or.inl ⟨by rfl, ?_⟩) hHeld ?_
  rotate_left 1
  · (intro w hSw; go_simp; try with_reducible rfl)
  try simp only [Act.put, List.setIfInBounds_toArray, List.set_cons_zero, List.set_cons_succ]
  refine takeL 23 (v := ?_) rfl (by kernel_rfl) (by kernel_rfl) (by kernel_rfl) (fun _ _ _ h => h) (Or.inl ⟨by rfl, ?_⟩) hHeld ?_
  rotate_left 1
  · (intro w hSw; go_simp; try with_reducible rfl)
  try simp only [Act.put, List.setIfInBounds_toArray, List.set_cons_zero, List.set_cons_succ]
  refine takeL 24 (v := ?_) rfl (by kernel_rfl) (by kernel_rfl) (by kernel_rfl) (fun _ _ _ h => h) (Or.inl ⟨by rfl, ?_⟩) hHeld ?_
  rotate_left 1
  · (intro w hSw; go_simp; try with_reducible rfl)
  try simp only [Act.put, List.setIfInBounds_toArray, List.set_cons_zero, List.set_cons_succ]
  refine takeL 25 (v := ?_) rfl (by kernel_rfl) (by kernel_rfl) (by kernel_rfl) (fun _ _ _ h => h) (Or.inl ⟨by rfl, ?_⟩) hHeld ?_
  rotate_left 1
  · (intro w hSw; have c1 : w.cell? ⟨E, 2, none⟩ = some _ := hSw.1 2 _ rfl; go_simp; try with_reducible rfl)
  try simp only [Act.put, List.setIfInBounds_toArray, List.set_cons_zero, List.set_cons_succ]
  refine stepL 22 (by kernel_rfl) rfl (fun K hK => ?_)
  go_simp
  refine (HLg2.out q2 R2.out.s).mono ?_
  rintro e r2 ⟨ah, ch, rfl, hl, hlc, hb⟩
  show K _ _
  have R3 := Bx.mk (R2.out.later hb)
  have L3 := Bx.mk (HCu2.out _ _ _ hl hlc)
  have hchk := hch2 ah ch hlc
  clear hb hl R2 hlc
  refine hK.out _ _ (⟨row_rng8 (l := [.int .i64 (na : Int), .int .i64 (nb : Int), .int .i64 (nc : Int), .int .i64 (nd : Int)]) (R3.out.k.rows _ (.tail _ (.head _))), row_rng8 (l := [.int .i64 (na : Int), .int .i64 (nb : Int), .int .i64 (nc : Int), .int .i64 (nd : Int), .slice e0 wa f0, .slice e1 wb f1, .slice e2 wc f2, .slice e3 wd f3]) (R3.out.k.rows _ (.head _))⟩) (fun hHeld => ?_)
  clear hK K
  try simp only [Act.put, List.setIfInBounds_toArray, List.set_cons_zero, List.set_cons_succ]
  refine takeL 26 (v := ?_) rfl (by kernel_rfl) (by kernel_rfl) (by kernel_rfl) (fun _ _ _ h => h) (Or.inl ⟨by rfl, ?_⟩) hHeld ?_
  rotate_left 1
  · (intro w hSw; have h3 := hchk w; go_simp; try with_reducible rfl)
  try simp only [Act.put, List.setIfInBounds_toArray, List.set_cons_zero, List.set_cons_succ]
  refine stepL 27 (by kernel_rfl) rfl (fun K hK => ?_)
  go_simp
  refine (revoke_any 2 _ (l.c.take nc) (E + 2) (L4.mk (l.a.take na) (l.b.take nb) [] []) r2 R3.out.h HHg2.out L3.out (by rw [List.length_take]; have := HLl.out lc (by simp); have := HLn.out.2.2.1; omega)).mono ?_
  rw [HR2.out]
  rintro e s2 ⟨rfl, hs2, hg2⟩
  show K _ _
  have T3 := Bx.mk (R3.out.half hg2 hs2 HDE.out)
  clear hs2 hg2 R3 L3 hchk
  refine hK.out _ _ (⟨row_rng8 (l := [.int .i64 (na : Int), .int .i64 (nb : Int), .int .i64 (nc : Int), .int .i64 (nd : Int)]) (T3.out.k.rows _ (.tail _ (.head _))), row_rng8 (l := [.int .i64 (na : Int), .int .i64 (nb : Int), .int .i64 (nc : Int), .int .i64 (nd : Int), .slice e0 wa f0, .slice e1 wb f1, .slice e2 wc f2, .slice e3 wd f3]) (T3.out.k.rows _ (.head _))⟩) (fun hHeld => ?_)
  clear hK K
  refine takeL 28 (v := ?_) rfl (by kernel_rfl) (by kernel_rfl) (by kernel_rfl) (fun _ _ _ h => h) (Or.inl ⟨by rfl, ?_⟩) hHeld ?_
  rotate_left 1
  · (intro w hSw; go_simp; try with_reducible rfl)
  try simp only [Act.put, List.setIfInBounds_toArray, List.set_cons_zero, List.set_cons_succ]
  refine takeL 29 (v := ?_) rfl (by kernel_rfl) (by kernel_rfl) (by kernel_rfl) (fun _ _ _ h => h) (Or.inl ⟨by rfl, ?_⟩) hHeld ?_
  rotate_left 1
  · (intro w hSw; go_simp; try with_reducible rfl)
  try simp only [Act.put, List.setIfInBounds_toArray, List.set_cons_zero, List.set_cons_succ]
  refine wpAnyH_done (by kernel_rfl) ?_ _
  refine NoPanic.normal ?_
  clear hHeld
  go_wp2
  rw [rounds_succ]
  go_upto_region 17 with fail
  have R0 := Bx.mk (T3.out.later (Below.refl _ _).drew)
  clear T3
  refine wp_region_noPanic ?_
  refine wp_region_held_drew (S := fun W => W.rangeAt E 0 [.int .i64 (na : Int), .int .i64 (nb : Int), .int .i64 (nc : Int), .int .i64 (nd : Int)] ∧ W.rangeAt D 0 [.int .i64 (na : Int), .int .i64 (nb : Int), .int .i64 (nc : Int), .int .i64 (nd : Int), .slice e0 wa f0, .slice e1 wb f1, .slice e2 wc f2, .slice e3 wd f3]) (by kernel_rfl) (⟨row_rng8 (l := [.int .i64 (na : Int), .int .i64 (nb : Int), .int .i64 (nc : Int), .int .i64 (nd : Int)]) (R0.out.k.rows _ (.tail _ (.head _))), row_rng8 (l := [.int .i64 (na : Int), .int .i64 (nb : Int), .int .i64 (nc : Int), .int .i64 (nd : Int), .slice e0 wa f0, .slice e1 wb f1, .slice e2 wc f2, .slice e3 wd f3]) (R0.out.k.rows _ (.head _))⟩) (fun hHeld => ?_)
  generalize s2.drew = Z3 at *
  refine takeL 0 (v := ?_) rfl (by kernel_rfl) (by kernel_rfl) (by kernel_rfl) (fun _ _ _ h => h) (Or.inl ⟨by rfl, ?_⟩) hHeld ?_
  rotate_left 1
  · (intro w hSw; go_simp; try with_reducible rfl)
  try simp only [Act.put, List.setIfInBounds_toArray, List.set_cons_zero, List.set_cons_succ]
  refine takeL 1 (v := ?_) rfl (by kernel_rfl) (by kernel_rfl) (by kernel_rfl) (fun _ _ _ h => h) (Or.inl ⟨by rfl, ?_⟩) hHeld ?_
  rotate_left 1
  · (intro w hSw; go_simp; try with_reducible rfl)
  try simp only [Act.put, List.setIfInBounds_toArray, List.set_cons_zero, List.set_cons_succ]
  refine takeL 2 (v := ?_) rfl (by kernel_rfl) (by kernel_rfl) (by kernel_rfl) (fun _ _ _ h => h) (Or.inl ⟨by rfl, ?_⟩) hHeld ?_
  rotate_left 1
  · (intro w hSw; go_simp; try with_reducible rfl)
  try simp only [Act.put, List.setIfInBounds_toArray, List.set_cons_zero, List.set_cons_succ]
  refine takeL 3 (v := ?_) rfl (by kernel_rfl) (by kernel_rfl) (by kernel_rfl) (fun _ _ _ h => h) (Or.inl ⟨by rfl, ?_⟩) hHeld ?_
  rotate_left 1
  · (intro w hSw; go_simp; try with_reducible rfl)
  try simp only [Act.put, List.setIfInBounds_toArray, List.set_cons_zero, List.set_cons_succ]
  refine takeL 4 (v := ?_) rfl (by kernel_rfl) (by kernel_rfl) (by kernel_rfl) (fun _ _ _ h => h) (Or.inl ⟨by rfl, ?_⟩) hHeld ?_
  rotate_left 1
  · (intro w hSw; go_simp; try with_reducible rfl)
  try simp only [Act.put, List.setIfInBounds_toArray, List.set_cons_zero, List.set_cons_succ]
  refine takeL 5 (v := ?_) rfl (by kernel_rfl) (by kernel_rfl) (by kernel_rfl) (fun _ _ _ h => h) (Or.inl ⟨by rfl, ?_⟩) hHeld ?_
  rotate_left 1
  · (intro w hSw; go_simp; try with_reducible rfl)
  try simp only [Act.put, List.setIfInBounds_toArray, List.set_cons_zero, List.set_cons_succ]
  refine takeL 6 (v := ?_) rfl (by kernel_rfl) (by kernel_rfl) (by kernel_rfl) (fun _ _ _ h => h) (Or.inl ⟨by rfl, ?_⟩) hHeld ?_
  rotate_left 1
  · (intro w hSw; have c1 : w.cell? ⟨D, 7, none⟩ = some _ := hSw.2 7 _ rfl; go_simp; try with_reducible rfl)
  try simp only [Act.put, List.setIfInBounds_toArray, List.set_cons_zero, List.set_cons_succ]
  refine takeL 7 (v := ?_) rfl (by kernel_rfl) (by kernel_rfl) (by kernel_rfl) (fun _ _ _ h => h) (Or.inl ⟨by rfl, ?_⟩) hHeld ?_
  rotate_left 1
  · (intro w hSw; go_simp; try with_reducible rfl)
  try simp only [Act.put, List.setIfInBounds_toArray, List.set_cons_zero, List.set_cons_succ]
  refine takeL 8 (v := ?_) rfl (by kernel_rfl) (by kernel_rfl) (by kernel_rfl) (fun _ _ _ h => h) (Or.inl ⟨by rfl, ?_⟩) hHeld ?_
  rotate_left 1
  · (intro w hSw; go_simp; try with_reducible rfl)
  try simp only [Act.put, List.setIfInBounds_toArray, List.set_cons_zero, List.set_cons_succ]
  refine takeL 10 (v := ?_) rfl (by kernel_rfl) (by kernel_rfl) (by kernel_rfl) (fun _ _ _ h => h) (Or.inl ⟨by rfl, ?_⟩) hHeld ?_
  rotate_left 1
  · (intro w hSw; go_simp; try with_reducible rfl)
  try simp only [Act.put, List.setIfInBounds_toArray, List.set_cons_zero, List.set_cons_succ]
  refine takeL 11 (v := ?_) rfl (by kernel_rfl) (by kernel_rfl) (by kernel_rfl) (fun _ _ _ h => h) (Or.inl ⟨by rfl, ?_⟩) hHeld ?_
  rotate_left 1
  · (intro w hSw; go_simp; try with_reducible rfl)
  try simp only [Act.put, List.setIfInBounds_toArray, List.set_cons_zero, List.set_cons_succ]
  refine takeL 12 (v := ?_) rfl (by kernel_rfl) (by kernel_rfl) (by kernel_rfl) (fun _ _ _ h => h) (Or.inl ⟨by rfl, ?_⟩) hHeld ?_
  rotate_left 1
  · (intro w hSw; have c1 : w.cell? ⟨E, 3, none⟩ = some _ := hSw.1 3 _ rfl; go_simp; try with_reducible rfl)
  try simp only [Act.put, List.setIfInBounds_toArray, List.set_cons_zero, List.set_cons_succ]
  refine stepL 9 (by kernel_rfl) rfl (fun K hK => ?_)
  go_simp
  refine (HLg3.out Z3 R0.out.s).mono ?_
  rintro e p3 ⟨ag, cg, rfl, hl, -, hb⟩
  show K _ _
  have R1 := Bx.mk (R0.out.later hb)
  have L1 := Bx.mk (HPa3.out _ _ _ hl)
  clear hb hl R0
  refine hK.out _ _ (⟨row_rng8 (l := [.int .i64 (na : Int), .int .i64 (nb : Int), .int .i64 (nc : Int), .int .i64 (nd : Int)]) (R1.out.k.rows _ (.tail _ (.head _))), row_rng8 (l := [.int .i64 (na : Int), .int .i64 (nb : Int), .int .i64 (nc : Int), .int .i64 (nd : Int), .slice e0 wa f0, .slice e1 wb f1, .slice e2 wc f2, .slice e3 wd f3]) (R1.out.k.rows _ (.head _))⟩) (fun hHeld => ?_)
  clear hK K
  try simp only [Act.put, List.setIfInBounds_toArray, List.set_cons_zero, List.set_cons_succ]
  refine takeL 13 (v := ?_) rfl (by kernel_rfl) (by kernel_rfl) (by kernel_rfl) (fun _ _ _ h => h) (Or.inl ⟨by rfl, ?_⟩) hHeld ?_
  rotate_left 1
  · (intro w hSw; have h3 := hcl3 ag cg w; go_simp; try with_reducible rfl)
  try simp only [Act.put, List.setIfInBounds_toArray, List.set_cons_zero, List.set_cons_succ]
  refine stepL 14 (by kernel_rfl) rfl (fun K hK => ?_)
  go_simp
  refine (rsame8 d3 d3 _ _ p3 R1.out.u.d L1.out (by rw [HWl.out.2.2.2]; exact Nat.le_trans (HLl.out _ (by simp)) (by omega)) (by rw [HWl.out.2.2.2]; exact Nat.le_trans (HLl.out _ (by simp)) (by omega))).mono ?_
  rw [decide_eq_true (rfl : d3 = d3)]
  rintro e q3 ⟨rfl, hb⟩
  show K _ _
  have R2 := Bx.mk (R1.out.later hb)
  clear hb R1 L1
  refine hK.out _ _ (⟨row_rng8 (l := [.int .i64 (na : Int), .int .i64 (nb : Int), .int .i64 (nc : Int), .int .i64 (nd : Int)]) (R2.out.k.rows _ (.tail _ (.head _))), row_rng8 (l := [.int .i64 (na : Int), .int .i64 (nb : Int), .int .i64 (nc : Int), .int .i64 (nd : Int), .slice e0 wa f0, .slice e1 wb f1, .slice e2 wc f2, .slice e3 wd f3]) (R2.out.k.rows _ (.head _))⟩) (fun hHeld => ?_)
  clear hK K
  try simp only [Act.put, List.setIfInBounds_toArray, List.set_cons_zero, List.set_cons_succ]
  refine takeL 15 (v := ?_) rfl (by kernel_rfl) (by kernel_rfl) (by kernel_rfl) (fun _ _ _ h => h) (Or.inl ⟨by rfl, ?_⟩) hHeld ?_
  rotate_left 1
  · (intro w hSw; go_simp; try with_reducible rfl)
  try simp only [Act.put, List.setIfInBounds_toArray, List.set_cons_zero, List.set_cons_succ]
  refine takeL 16 (v := ?_) rfl (by kernel_rfl) (by kernel_rfl) (by kernel_rfl) (fun _ _ _ h => h) (Or.inl ⟨by rfl, ?_⟩) hHeld ?_
  rotate_left 1
  · (intro w hSw; go_simp; try with_reducible rfl)
  try simp only [Act.put, List.setIfInBounds_toArray, List.set_cons_zero, List.set_cons_succ]
  refine takeL 17 (v := ?_) rfl (by kernel_rfl) (by kernel_rfl) (by kernel_rfl) (fun _ _ _ h => h) (Or.inl ⟨by rfl, ?_⟩) hHeld ?_
  rotate_left 1
  · (intro w hSw; go_simp; try with_reducible rfl)
  try simp only [Act.put, List.setIfInBounds_toArray, List.set_cons_zero, List.set_cons_succ]
  refine takeL 18 (v := ?_) rfl (by kernel_rfl) (by kernel_rfl) (by kernel_rfl) (fun _ _ _ h => h) (Or.inl ⟨by rfl, ?_⟩) hHeld ?_
  rotate_left 1
  · (intro w hSw; go_simp; try with_reducible rfl)
  try simp only [Act.put, List.setIfInBounds_toArray, List.set_cons_zero, List.set_cons_succ]
  refine takeL 19 (v := ?_) rfl (by kernel_rfl) (by kernel_rfl) (by kernel_rfl) (fun _ _ _ h => h) (Or.inl ⟨by rfl, ?_⟩) hHeld ?_
  rotate_left 1
  · (intro w hSw; go_simp; try with_reducible rfl)
  try simp only [Act.put, List.setIfInBounds_toArray, List.set_cons_zero, List.set_cons_succ]
  refine takeL 20 (v := ?_) rfl (by kernel_rfl) (by kernel_rfl) (by kernel_rfl) (fun _ _ _ h => h) (Or.inl ⟨by rfl, ?_⟩) hHeld ?_
  rotate_left 1
  · (intro w hSw; go_simp; try with_reducible rfl)
  try simp only [Act.put, List.setIfInBounds_toArray, List.set_cons_zero, List.set_cons_succ]
  refine takeL 21 (v := ?_) rfl (by kernel_rfl) (by kernel_rfl) (by kernel_rfl) (fun _ _ _ h => h) (Or.inl ⟨by rfl, ?_⟩) hHeld ?_
  rotate_left 1
  · (intro w hSw; go_simp; try with_reducible rfl)
  try simp only [Act.put, List.setIfInBounds_toArray, List.set_cons_zero, List.set_cons_succ]
  refine takeL 23 (v := ?_) rfl (by kernel_rfl) (by kernel_rfl) (by kernel_rfl) (fun _ _ _ h => h) (Or.inl ⟨by rfl, ?_⟩) hHeld ?_
  rotate_left 1
  · (intro w hSw; go_simp; try with_reducible rfl)
  try simp only [Act.put, List.setIfInBounds_toArray, List.set_cons_zero, List.set_cons_succ]
  refine takeL 24 (v := ?_) rfl (by kernel_rfl) (by kernel_rfl) (by kernel_rfl) (fun _ _ _ h => h) (Or.inl ⟨by rfl, ?_⟩) hHeld ?_
  rotate_left 1
  · (intro w hSw; go_simp; try with_reducible rfl)
  try simp only [Act.put, List.setIfInBounds_toArray, List.set_cons_zero, List.set_cons_succ]
  refine takeL 25 (v := ?_) rfl (by kernel_rfl) (by kernel_rfl) (by kernel_rfl) (fun _ _ _ h => h) (Or.inl ⟨by rfl, ?_⟩) hHeld ?_
  rotate_left 1
  · (intro w hSw; have c1 : w.cell? ⟨E, 3, none⟩ = some _ := hSw.1 3 _ rfl; go_simp; try with_reducible rfl)
  try simp only [Act.put, List.setIfInBounds_toArray, List.set_cons_zero, List.set_cons_succ]
  refine stepL 22 (by kernel_rfl) rfl (fun K hK => ?_)
  go_simp
  refine (HLg3.out q3 R2.out.s).mono ?_
  rintro e r3 ⟨ah, ch, rfl, hl, hlc, hb⟩
  show K _ _
  have R3 := Bx.mk (R2.out.later hb)
  have L3 := Bx.mk (HCu3.out _ _ _ hl hlc)
  have hchk := hch3 ah ch hlc
  clear hb hl R2 hlc
  refine hK.out _ _ (⟨row_rng8 (l := [.int .i64 (na : Int), .int .i64 (nb : Int), .int .i64 (nc : Int), .int .i64 (nd : Int)]) (R3.out.k.rows _ (.tail _ (.head _))), row_rng8 (l := [.int .i64 (na : Int), .int .i64 (nb : Int), .int .i64 (nc : Int), .int .i64 (nd : Int), .slice e0 wa f0, .slice e1 wb f1, .slice e2 wc f2, .slice e3 wd f3]) (R3.out.k.rows _ (.head _))⟩) (fun hHeld => ?_)
  clear hK K
  try simp only [Act.put, List.setIfInBounds_toArray, List.set_cons_zero, List.set_cons_succ]
  refine takeL 26 (v := ?_) rfl (by kernel_rfl) (by kernel_rfl) (by kernel_rfl) (fun _ _ _ h => h) (Or.inl ⟨by rfl, ?_⟩) hHeld ?_
  rotate_left 1
  · (intro w hSw; have h3 := hchk w; go_simp; try with_reducible rfl)
  try simp only [Act.put, List.setIfInBounds_toArray, List.set_cons_zero, List.set_cons_succ]
  refine stepL 27 (by kernel_rfl) rfl (fun K hK => ?_)
  go_simp
  refine (revoke_any 3 _ (l.d.take nd) (E + 2) (L4.mk (l.a.take na) (l.b.take nb) (l.c.take nc) []) r3 R3.out.h HHg3.out L3.out (by rw [List.length_take]; have := HLl.out ld (by simp); have := HLn.out.2.2.2; omega)).mono ?_
  rw [HR3.out]
  rintro e s3 ⟨rfl, hs2, hg2⟩
  show K _ _
  have T4 := Bx.mk (R3.out.half hg2 hs2 HDE.out)
  clear hs2 hg2 R3 L3 hchk
  refine hK.out _ _ (⟨row_rng8 (l := [.int .i64 (na : Int), .int .i64 (nb : Int), .int .i64 (nc : Int), .int .i64 (nd : Int)]) (T4.out.k.rows _ (.tail _ (.head _))), row_rng8 (l := [.int .i64 (na : Int), .int .i64 (nb : Int), .int .i64 (nc : Int), .int .i64 (nd : Int), .slice e0 wa f0, .slice e1 wb f1, .slice e2 wc f2, .slice e3 wd f3]) (T4.out.k.rows _ (.head _))⟩) (fun hHeld => ?_)
  clear hK K
  refine takeL 28 (v := ?_) rfl (by kernel_rfl) (by kernel_rfl) (by kernel_rfl) (fun _ _ _ h => h) (Or.inl ⟨by rfl, ?_⟩) hHeld ?_
  rotate_left 1
  · (intro w hSw; go_simp; try with_reducible rfl)
  try simp only [Act.put, List.setIfInBounds_toArray, List.set_cons_zero, List.set_cons_succ]
  refine takeL 29 (v := ?_) rfl (by kernel_rfl) (by kernel_rfl) (by kernel_rfl) (fun _ _ _ h => h) (Or.inl ⟨by rfl, ?_⟩) hHeld ?_
  rotate_left 1
  · (intro w hSw; go_simp; try with_reducible rfl)
  try simp only [Act.put, List.setIfInBounds_toArray, List.set_cons_zero, List.set_cons_succ]
  refine wpAnyH_done (by kernel_rfl) ?_ _
  refine NoPanic.normal ?_
  clear hHeld
  go_wp2
  rw [rounds_succ]
  go_upto_region 19 with fail
  have R0 := Bx.mk (T4.out.later (Below.refl _ _).drew)
  clear T4
  refine wp_region_noPanic ?_
  refine wp_region_held_drew (S := fun W => W.rangeAt E 0 [.int .i64 (na : Int), .int .i64 (nb : Int), .int .i64 (nc : Int), .int .i64 (nd : Int)]) (by kernel_rfl) (row_rng8 (l := [.int .i64 (na : Int), .int .i64 (nb : Int), .int .i64 (nc : Int), .int .i64 (nd : Int)]) (R0.out.k.rows _ (.tail _ (.head _)))) (fun hHeld => ?_)
  generalize s3.drew = W0 at *
  refine takeL 0 (v := ?_) rfl (by kernel_rfl) (by kernel_rfl) (by kernel_rfl) (fun _ _ _ h => h) (Or.inl ⟨by rfl, ?_⟩) hHeld ?_
  rotate_left 1
  · (intro w hSw; go_simp; try with_reducible rfl)
  try simp only [Act.put, List.setIfInBounds_toArray, List.set_cons_zero, List.set_cons_succ]
  refine takeL 2 rfl (by kernel_rfl) (by kernel_rfl) (by kernel_rfl) (fun _ _ _ h => h) (yieldsIf_load_mid (by rfl) _ _ rfl _ _ rfl _ _ (fun w hSw => hSw) Tryd.underlying31 rfl (by kernel_rfl)) hHeld ?_
  try simp only [Act.put, List.setIfInBounds_toArray, List.set_cons_zero, List.set_cons_succ]
  refine stepL 1 (by kernel_rfl) rfl (fun K hK => ?_)
  go_simp
  refine (HV2.out W0 R0.out.h).mono ?_
  rintro e W1 ⟨rfl, hb⟩
  show K _ _
  have R1 := Bx.mk (R0.out.later hb)
  clear hb R0
  refine hK.out _ _ (row_rng8 (l := [.int .i64 (na : Int), .int .i64 (nb : Int), .int .i64 (nc : Int), .int .i64 (nd : Int)]) (R1.out.k.rows _ (.tail _ (.head _)))) (fun hHeld => ?_)
  clear hK K
  try simp only [Act.put, List.setIfInBounds_toArray, List.set_cons_zero, List.set_cons_succ]
  refine takeL 3 (v := ?_) rfl (by kernel_rfl) (by kernel_rfl) (by kernel_rfl) (fun _ _ _ h => h) (Or.inl ⟨by rfl, ?_⟩) hHeld ?_
  rotate_left 1
  · (intro w hSw; have h3 := hvn (na : Int) (nb : Int) (nc : Int) (nd : Int) w; go_simp; try with_reducible rfl)
  try simp only [Act.put, List.setIfInBounds_toArray, List.set_cons_zero, List.set_cons_succ]
  refine wpAnyH_done (by kernel_rfl) ?_ _
  refine NoPanic.normal ?_
  clear hHeld
  go_wp2_with (refine wpList_load_row rfl 41 _ rfl D (by rfl) _ #[.int .i64 (na : Int), .int .i64 (nb : Int), .int .i64 (nc : Int), .int .i64 (nd : Int), .slice e0 wa f0, .slice e1 wb f1, .slice e2 wc f2, .slice e3 wd f3] (0, 0) _ (R1.out.k.rows _ (.head _)) Tryd.underlying41 rfl (by kernel_rfl) ?_)
  refine (apply_any (V4.mk (na : Int) (nb : Int) (nc : Int) (nd : Int)) (VV.mk (.slice e0 wa f0) (.slice e1 wb f1) (.slice e2 wc f2) (.slice e3 wd f3)) (L4.mk d0 d1 d2 d3) (L4.mk (l.a.take na) (l.b.take nb) (l.c.take nc) (l.d.take nd)) (E + 2) W1 R1.out.u HMo.out R1.out.h (HFu.out _ R1.out.k.below).1 (HFu.out _ R1.out.k.below).2 HHg.out).mono ?_
  rw [HA1.out]
  rintro e W2 ⟨rfl, hs2, hg2⟩
  have R2 := Bx.mk (R1.out.half hg2 hs2 HDE.out)
  clear hs2 hg2 R1
  go_wp2_with (refine wpList_load_row rfl 41 _ rfl D (by rfl) _ #[.int .i64 (na : Int), .int .i64 (nb : Int), .int .i64 (nc : Int), .int .i64 (nd : Int), .slice e0 wa f0, .slice e1 wb f1, .slice e2 wc f2, .slice e3 wd f3] (0, 0) _ (R2.out.k.rows _ (.head _)) Tryd.underlying41 rfl (by kernel_rfl) ?_)
  refine (apply_any (V4.mk (na : Int) (nb : Int) (nc : Int) (nd : Int)) (VV.mk (.slice e0 wa f0) (.slice e1 wb f1) (.slice e2 wc f2) (.slice e3 wd f3)) (L4.mk d0 d1 d2 d3) l (E + 2) W2 R2.out.u HMo.out R2.out.h (HFu.out _ R2.out.k.below).1 (HFu.out _ R2.out.k.below).2 HG2.out.1).mono ?_
  rw [HA2.out]
  rintro e W3 ⟨rfl, hs2, hg2⟩
  have R3 := Bx.mk (R2.out.half hg2 hs2 HDE.out)
  clear hs2 hg2 R2
  have k4 : W3.cell? ⟨D, 4, none⟩ = some (.slice e0 wa f0) := by rw [cell_of_row _ _ _ _ _ _ (R3.out.k.rows _ (.head _))]; rfl
  have k5 : W3.cell? ⟨D, 5, none⟩ = some (.slice e1 wb f1) := by rw [cell_of_row _ _ _ _ _ _ (R3.out.k.rows _ (.head _))]; rfl
  have k6 : W3.cell? ⟨D, 6, none⟩ = some (.slice e2 wc f2) := by rw [cell_of_row _ _ _ _ _ _ (R3.out.k.rows _ (.head _))]; rfl
  have k7 : W3.cell? ⟨D, 7, none⟩ = some (.slice e3 wd f3) := by rw [cell_of_row _ _ _ _ _ _ (R3.out.k.rows _ (.head _))]; rfl
  go_wp2
  refine wp_loop_rounds 5 ?_
  rw [rounds_succ]
  go_wp2
  rw [rounds_succ]
  go_wp2
  rw [rounds_succ]
  go_wp2
  rw [rounds_succ]
  go_wp2
  rw [rounds_succ]
  go_upto_region 28 with fail
  clear k4 k5 k6 k7
  have R0 := Bx.mk (R3.out.later (Below.refl _ _).drew)
  clear R3
  refine wp_region_noPanic ?_
  refine wp_region_held_drew (S := fun W => W.rangeAt E 0 [.int .i64 (na : Int), .int .i64 (nb : Int), .int .i64 (nc : Int), .int .i64 (nd : Int)]) (by kernel_rfl) (row_rng8 (l := [.int .i64 (na : Int), .int .i64 (nb : Int), .int .i64 (nc : Int), .int .i64 (nd : Int)]) (R0.out.k.rows _ (.tail _ (.head _)))) (fun hHeld => ?_)
  generalize W3.drew = V0 at *
  refine stepL 0 (by kernel_rfl) rfl (fun K hK => ?_)
  go_simp
  refine (known8_any V0).mono ?_
  rintro e V1 ⟨rfl, hb⟩
  show K _ _
  have R1 := Bx.mk (R0.out.later hb)
  clear hb R0
  refine hK.out _ _ (row_rng8 (l := [.int .i64 (na : Int), .int .i64 (nb : Int), .int .i64 (nc : Int), .int .i64 (nd : Int)]) (R1.out.k.rows _ (.tail _ (.head _)))) (fun hHeld => ?_)
  clear hK K
  try simp only [Act.put, List.setIfInBounds_toArray, List.set_cons_zero, List.set_cons_succ]
  refine takeL 1 (v := ?_) rfl (by kernel_rfl) (by kernel_rfl) (by kernel_rfl) (fun _ _ _ h => h) (Or.inl ⟨by rfl, ?_⟩) hHeld ?_
  rotate_left 1
  · (intro w hSw; go_simp; try with_reducible rfl)
  try simp only [Act.put, List.setIfInBounds_toArray, List.set_cons_zero, List.set_cons_succ]
  refine takeL 2 (v := ?_) rfl (by kernel_rfl) (by kernel_rfl) (by kernel_rfl) (fun _ _ _ h => h) (Or.inl ⟨by rfl, ?_⟩) hHeld ?_
  rotate_left 1
  · (intro w hSw; go_simp; try with_reducible rfl)
  try simp only [Act.put, List.setIfInBounds_toArray, List.set_cons_zero, List.set_cons_succ]
  refine takeL 3 (v := ?_) rfl (by kernel_rfl) (by kernel_rfl) (by kernel_rfl) (fun _ _ _ h => h) (Or.inl ⟨by rfl, ?_⟩) hHeld ?_
  rotate_left 1
  · (intro w hSw; go_simp; try with_reducible rfl)
  try simp only [Act.put, List.setIfInBounds_toArray, List.set_cons_zero, List.set_cons_succ]
  refine takeL 4 (v := ?_) rfl (by kernel_rfl) (by kernel_rfl) (by kernel_rfl) (fun _ _ _ h => h) (Or.inl ⟨by rfl, ?_⟩) hHeld ?_
  rotate_left 1
  · (intro w hSw; go_simp; try with_reducible rfl)
  try simp only [Act.put, List.setIfInBounds_toArray, List.set_cons_zero, List.set_cons_succ]
  refine takeL 5 (v := ?_) rfl (by kernel_rfl) (by kernel_rfl) (by kernel_rfl) (fun _ _ _ h => h) (Or.inl ⟨by rfl, ?_⟩) hHeld ?_
  rotate_left 1
  · (intro w hSw; go_simp; try with_reducible rfl)
  try simp only [Act.put, List.setIfInBounds_toArray, List.set_cons_zero, List.set_cons_succ]
  refine takeL 6 (v := ?_) rfl (by kernel_rfl) (by kernel_rfl) (by kernel_rfl) (fun _ _ _ h => h) (Or.inl ⟨by rfl, ?_⟩) hHeld ?_
  rotate_left 1
  · (intro w hSw; go_simp; try with_reducible rfl)
  try simp only [Act.put, List.setIfInBounds_toArray, List.set_cons_zero, List.set_cons_succ]
  refine takeL 7 (v := ?_) rfl (by kernel_rfl) (by kernel_rfl) (by kernel_rfl) (fun _ _ _ h => h) (Or.inl ⟨by rfl, ?_⟩) hHeld ?_
  rotate_left 1
  · (intro w hSw; go_simp; try with_reducible rfl)
  try simp only [Act.put, List.setIfInBounds_toArray, List.set_cons_zero, List.set_cons_succ]
  refine takeL 8 (v := ?_) rfl (by kernel_rfl) (by kernel_rfl) (by kernel_rfl) (fun _ _ _ h => h) (Or.inl ⟨by rfl, ?_⟩) hHeld ?_
  rotate_left 1
  · (intro w hSw; go_simp; try with_reducible rfl)
  try simp only [Act.put, List.setIfInBounds_toArray, List.set_cons_zero, List.set_cons_succ]
  refine takeL 9 (v := ?_) rfl (by kernel_rfl) (by kernel_rfl) (by kernel_rfl) (fun _ _ _ h => h) (Or.inl ⟨by rfl, ?_⟩) hHeld ?_
  rotate_left 1
  · (intro w hSw; go_simp; try with_reducible rfl)
  try simp only [Act.put, List.setIfInBounds_toArray, List.set_cons_zero, List.set_cons_succ]
  refine takeL 10 (v := ?_) rfl (by kernel_rfl) (by kernel_rfl) (by kernel_rfl) (fun _ _ _ h => h) (Or.inl ⟨by rfl, ?_⟩) hHeld ?_
  rotate_left 1
  · (intro w hSw; go_simp; try with_reducible rfl)
  try simp only [Act.put, List.setIfInBounds_toArray, List.set_cons_zero, List.set_cons_succ]
  refine takeL 11 (v := ?_) rfl (by kernel_rfl) (by kernel_rfl) (by kernel_rfl) (fun _ _ _ h => h) (Or.inl ⟨by rfl, ?_⟩) hHeld ?_
  rotate_left 1
  · (intro w hSw; go_simp; try with_reducible rfl)
  try simp only [Act.put, List.setIfInBounds_toArray, List.set_cons_zero, List.set_cons_succ]
  refine takeL 12 (v := ?_) rfl (by kernel_rfl) (by kernel_rfl) (by kernel_rfl) (fun _ _ _ h => h) (Or.inl ⟨by rfl, ?_⟩) hHeld ?_
  rotate_left 1
  · (intro w hSw; go_simp; try with_reducible rfl)
  try simp only [Act.put, List.setIfInBounds_toArray, List.set_cons_zero, List.set_cons_succ]
  refine takeL 13 (v := ?_) rfl (by kernel_rfl) (by kernel_rfl) (by kernel_rfl) (fun _ _ _ h => h) (Or.inl ⟨by rfl, ?_⟩) hHeld ?_
  rotate_left 1
  · (intro w hSw; go_simp; try with_reducible rfl)
  try simp only [Act.put, List.setIfInBounds_toArray, List.set_cons_zero, List.set_cons_succ]
  refine takeL 14 (v := ?_) rfl (by kernel_rfl) (by kernel_rfl) (by kernel_rfl) (fun _ _ _ h => h) (Or.inl ⟨by rfl, ?_⟩) hHeld ?_
  rotate_left 1
  · (intro w hSw; go_simp; try with_reducible rfl)
  try simp only [Act.put, List.setIfInBounds_toArray, List.set_cons_zero, List.set_cons_succ]
  refine takeL 15 (v := ?_) rfl (by kernel_rfl) (by kernel_rfl) (by kernel_rfl) (fun _ _ _ h => h) (Or.inl ⟨by rfl, ?_⟩) hHeld ?_
  rotate_left 1
  · (intro w hSw; go_simp; try with_reducible rfl)
  try simp only [Act.put, List.setIfInBounds_toArray, List.set_cons_zero, List.set_cons_succ]
  refine takeL 16 (v := ?_) rfl (by kernel_rfl) (by kernel_rfl) (by kernel_rfl) (fun _ _ _ h => h) (Or.inl ⟨by rfl, ?_⟩) hHeld ?_
  rotate_left 1
  · (intro w hSw; go_simp; try with_reducible rfl)
  try simp only [Act.put, List.setIfInBounds_toArray, List.set_cons_zero, List.set_cons_succ]
  refine takeL 17 (v := ?_) rfl (by kernel_rfl) (by kernel_rfl) (by kernel_rfl) (fun _ _ _ h => h) (Or.inl ⟨by rfl, ?_⟩) hHeld ?_
  rotate_left 1
  · (intro w hSw; go_simp; try with_reducible rfl)
  try simp only [Act.put, List.setIfInBounds_toArray, List.set_cons_zero, List.set_cons_succ]
  refine takeL 18 (v := ?_) rfl (by kernel_rfl) (by kernel_rfl) (by kernel_rfl) (fun _ _ _ h => h) (Or.inl ⟨by rfl, ?_⟩) hHeld ?_
  rotate_left 1
  · (intro w hSw; go_simp; try with_reducible rfl)
  try simp only [Act.put, List.setIfInBounds_toArray, List.set_cons_zero, List.set_cons_succ]
  refine takeL 19 (v := ?_) rfl (by kernel_rfl) (by kernel_rfl) (by kernel_rfl) (fun _ _ _ h => h) (Or.inl ⟨by rfl, ?_⟩) hHeld ?_
  rotate_left 1
  · (intro w hSw; go_simp; try with_reducible rfl)
  try simp only [Act.put, List.setIfInBounds_toArray, List.set_cons_zero, List.set_cons_succ]
  refine takeL 21 (v := ?_) rfl (by kernel_rfl) (by kernel_rfl) (by kernel_rfl) (fun _ _ _ h => h) (Or.inl ⟨by rfl, ?_⟩) hHeld ?_
  rotate_left 1
  · (intro w hSw; go_simp; try with_reducible rfl)
  try simp only [Act.put, List.setIfInBounds_toArray, List.set_cons_zero, List.set_cons_succ]
  refine stepL 20 (by kernel_rfl) rfl (fun K hK => ?_)
  go_simp
  refine (HP.out V1 _ R1.out.k.below R1.out.h).mono ?_
  rintro e V2 ⟨rfl, hb⟩
  show K _ _
  have R2 := Bx.mk (R1.out.later hb)
  clear hb R1
  refine hK.out _ _ (row_rng8 (l := [.int .i64 (na : Int), .int .i64 (nb : Int), .int .i64 (nc : Int), .int .i64 (nd : Int)]) (R2.out.k.rows _ (.tail _ (.head _)))) (fun hHeld => ?_)
  clear hK K
  try simp only [Act.put, List.setIfInBounds_toArray, List.set_cons_zero, List.set_cons_succ]
  refine stepL 22 (by kernel_rfl) rfl (fun K hK => ?_)
  go_simp
  refine (HP.out V2 _ R2.out.k.below R2.out.s).mono ?_
  rintro e V3 ⟨rfl, hb⟩
  show K _ _
  have R3 := Bx.mk (R2.out.later hb)
  clear hb R2
  refine hK.out _ _ (row_rng8 (l := [.int .i64 (na : Int), .int .i64 (nb : Int), .int .i64 (nc : Int), .int .i64 (nd : Int)]) (R3.out.k.rows _ (.tail _ (.head _)))) (fun hHeld => ?_)
  clear hK K
  try simp only [Act.put, List.setIfInBounds_toArray, List.set_cons_zero, List.set_cons_succ]
  refine takeL 23 (v := ?_) rfl (by kernel_rfl) (by kernel_rfl) (by kernel_rfl) (fun _ _ _ h => h) (Or.inl ⟨by rfl, ?_⟩) hHeld ?_
  rotate_left 1
  · (intro w hSw; have h3 := heq w; go_simp; try with_reducible rfl)
  try simp only [Act.put, List.setIfInBounds_toArray, List.set_cons_zero, List.set_cons_succ]
  refine takeL 24 (v := ?_) rfl (by kernel_rfl) (by kernel_rfl) (by kernel_rfl) (fun _ _ _ h => h) (Or.inl ⟨by rfl, ?_⟩) hHeld ?_
  rotate_left 1
  · (intro w hSw; go_simp; try with_reducible rfl)
  try simp only [Act.put, List.setIfInBounds_toArray, List.set_cons_zero, List.set_cons_succ]
  refine takeL 25 (v := ?_) rfl (by kernel_rfl) (by kernel_rfl) (by kernel_rfl) (fun _ _ _ h => h) (Or.inl ⟨by rfl, ?_⟩) hHeld ?_
  rotate_left 1
  · (intro w hSw; go_simp; try with_reducible rfl)
  try simp only [Act.put, List.setIfInBounds_toArray, List.set_cons_zero, List.set_cons_succ]
  refine takeL 26 (v := ?_) rfl (by kernel_rfl) (by kernel_rfl) (by kernel_rfl) (fun _ _ _ h => h) (Or.inl ⟨by rfl, ?_⟩) hHeld ?_
  rotate_left 1
  · (intro w hSw; go_simp; try with_reducible rfl)
  try simp only [Act.put, List.setIfInBounds_toArray, List.set_cons_zero, List.set_cons_succ]
  refine takeL 28 (v := ?_) rfl (by kernel_rfl) (by kernel_rfl) (by kernel_rfl) (fun _ _ _ h => h) (Or.inl ⟨by rfl, ?_⟩) hHeld ?_
  rotate_left 1
  · (intro w hSw; go_simp; try with_reducible rfl)
  try simp only [Act.put, List.setIfInBounds_toArray, List.set_cons_zero, List.set_cons_succ]
  refine stepL 27 (by kernel_rfl) rfl (fun K hK => ?_)
  go_simp
  refine (HV3.out V3 R3.out.h).mono ?_
  rintro e V4 ⟨rfl, hb⟩
  show K _ _
  have R4 := Bx.mk (R3.out.later hb)
  clear hb R3
  refine hK.out _ _ (row_rng8 (l := [.int .i64 (na : Int), .int .i64 (nb : Int), .int .i64 (nc : Int), .int .i64 (nd : Int)]) (R4.out.k.rows _ (.tail _ (.head _)))) (fun hHeld => ?_)
  clear hK K
  try simp only [Act.put, List.setIfInBounds_toArray, List.set_cons_zero, List.set_cons_succ]
  refine stepL 29 (by kernel_rfl) rfl (fun K hK => ?_)
  go_simp
  refine (HV.out V4 R4.out.s).mono ?_
  rintro e V5 ⟨rfl, hb⟩
  show K _ _
  have R5 := Bx.mk (R4.out.later hb)
  clear hb R4
  refine hK.out _ _ (row_rng8 (l := [.int .i64 (na : Int), .int .i64 (nb : Int), .int .i64 (nc : Int), .int .i64 (nd : Int)]) (R5.out.k.rows _ (.tail _ (.head _)))) (fun hHeld => ?_)
  clear hK K
  try simp only [Act.put, List.setIfInBounds_toArray, List.set_cons_zero, List.set_cons_succ]
  refine takeL 30 (v := ?_) rfl (by kernel_rfl) (by kernel_rfl) (by kernel_rfl) (fun _ _ _ h => h) (Or.inl ⟨by rfl, ?_⟩) hHeld ?_
  rotate_left 1
  · (intro w hSw; have h3 := hvs (la : Int) (lb : Int) (lc : Int) (ld : Int) w; go_simp; try with_reducible rfl)
  try simp only [Act.put, List.setIfInBounds_toArray, List.set_cons_zero, List.set_cons_succ]
  refine takeL 31 (v := ?_) rfl (by kernel_rfl) (by kernel_rfl) (by kernel_rfl) (fun _ _ _ h => h) (Or.inl ⟨by rfl, ?_⟩) hHeld ?_
  rotate_left 1
  · (intro w hSw; go_simp; try with_reducible rfl)
  try simp only [Act.put, List.setIfInBounds_toArray, List.set_cons_zero, List.set_cons_succ]
  refine takeL 32 (v := ?_) rfl (by kernel_rfl) (by kernel_rfl) (by kernel_rfl) (fun _ _ _ h => h) (Or.inl ⟨by rfl, ?_⟩) hHeld ?_
  rotate_left 1
  · (intro w hSw; go_simp; try with_reducible rfl)
  try simp only [Act.put, List.setIfInBounds_toArray, List.set_cons_zero, List.set_cons_succ]
  refine takeL 33 (v := ?_) rfl (by kernel_rfl) (by kernel_rfl) (by kernel_rfl) (fun _ _ _ h => h) (Or.inl ⟨by rfl, ?_⟩) hHeld ?_
  rotate_left 1
  · (intro w hSw; go_simp; try with_reducible rfl)
  try simp only [Act.put, List.setIfInBounds_toArray, List.set_cons_zero, List.set_cons_succ]
  refine takeL 35 rfl (by kernel_rfl) (by kernel_rfl) (by kernel_rfl) (fun _ _ _ h => h) (yieldsIf_load_mid (by rfl) _ _ rfl _ _ rfl _ _ (fun w hSw => hSw) Tryd.underlying31 rfl (by kernel_rfl)) hHeld ?_
  try simp only [Act.put, List.setIfInBounds_toArray, List.set_cons_zero, List.set_cons_succ]
  refine stepL 34 (by kernel_rfl) rfl (fun K hK => ?_)
  go_simp
  refine (HV.out V5 R5.out.s).mono ?_
  rintro e V6 ⟨rfl, hb⟩
  show K _ _
  have R6 := Bx.mk (R5.out.later hb)
  clear hb R5
  refine hK.out _ _ (row_rng8 (l := [.int .i64 (na : Int), .int .i64 (nb : Int), .int .i64 (nc : Int), .int .i64 (nd : Int)]) (R6.out.k.rows _ (.tail _ (.head _)))) (fun hHeld => ?_)
  clear hK K
  try simp only [Act.put, List.setIfInBounds_toArray, List.set_cons_zero, List.set_cons_succ]
  refine stepL 36 (by kernel_rfl) rfl (fun K hK => ?_)
  go_simp
  refine (HCv.out V6).mono ?_
  rintro e V7 ⟨rfl, hb⟩
  show K _ _
  have R7 := Bx.mk (R6.out.later hb)
  clear hb R6
  refine hK.out _ _ (row_rng8 (l := [.int .i64 (na : Int), .int .i64 (nb : Int), .int .i64 (nc : Int), .int .i64 (nd : Int)]) (R7.out.k.rows _ (.tail _ (.head _)))) (fun hHeld => ?_)
  clear hK K
  try simp only [Act.put, List.setIfInBounds_toArray, List.set_cons_zero, List.set_cons_succ]
  refine takeL 37 (v := ?_) rfl (by kernel_rfl) (by kernel_rfl) (by kernel_rfl) (fun _ _ _ h => h) (Or.inl ⟨by rfl, ?_⟩) hHeld ?_
  rotate_left 1
  · (intro w hSw; go_simp; try with_reducible rfl)
  try simp only [Act.put, List.setIfInBounds_toArray, List.set_cons_zero, List.set_cons_succ]
  refine takeL 38 (v := ?_) rfl (by kernel_rfl) (by kernel_rfl) (by kernel_rfl) (fun _ _ _ h => h) (Or.inl ⟨by rfl, ?_⟩) hHeld ?_
  rotate_left 1
  · (intro w hSw; go_simp; try with_reducible rfl)
  try simp only [Act.put, List.setIfInBounds_toArray, List.set_cons_zero, List.set_cons_succ]
  refine wpAnyH_done (by kernel_rfl) ?_ _
  refine NoPanic.normal ?_
  clear hHeld
  go_wp2
  go_ret
  exact ⟨rfl, R7.out.k.below⟩
end Go.Proofs.YtmfhdhggpepbbaaDoor
