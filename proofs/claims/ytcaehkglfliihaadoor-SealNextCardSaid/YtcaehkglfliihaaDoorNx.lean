/-
  The walk of the statement on a sealer.
-/
import Derived.Test.YtcaehkglfliihaaDoorSj
namespace Go.Proofs.YtcaehkglfliihaaDoor
open Go Go.RowKit
set_option maxRecDepth 100000 in
theorem open117 {a : Act} (h : Fr 117 a) : ∃ x : Nat → Value, a = ⟨List.toArray (x 0 :: x 1 :: x 2 :: x 3 :: x 4 :: x 5 :: x 6 :: x 7 :: x 8 :: x 9 :: x 10 :: x 11 :: x 12 :: x 13 :: x 14 :: x 15 :: x 16 :: x 17 :: x 18 :: x 19 :: x 20 :: x 21 :: x 22 :: x 23 :: x 24 :: x 25 :: x 26 :: x 27 :: x 28 :: x 29 :: x 30 :: x 31 :: x 32 :: x 33 :: x 34 :: x 35 :: x 36 :: x 37 :: x 38 :: x 39 :: x 40 :: x 41 :: x 42 :: x 43 :: x 44 :: x 45 :: x 46 :: x 47 :: x 48 :: x 49 :: x 50 :: x 51 :: x 52 :: x 53 :: x 54 :: x 55 :: x 56 :: x 57 :: x 58 :: x 59 :: x 60 :: x 61 :: x 62 :: x 63 :: x 64 :: x 65 :: x 66 :: x 67 :: x 68 :: x 69 :: x 70 :: x 71 :: x 72 :: x 73 :: x 74 :: x 75 :: x 76 :: x 77 :: x 78 :: x 79 :: x 80 :: x 81 :: x 82 :: x 83 :: x 84 :: x 85 :: x 86 :: x 87 :: x 88 :: x 89 :: x 90 :: x 91 :: x 92 :: x 93 :: x 94 :: x 95 :: x 96 :: x 97 :: x 98 :: x 99 :: x 100 :: x 101 :: x 102 :: x 103 :: x 104 :: x 105 :: x 106 :: x 107 :: x 108 :: x 109 :: x 110 :: x 111 :: x 112 :: x 113 :: x 114 :: x 115 :: x 116 :: []), []⟩ ∧ ∀ i, a.eval (.tmp i) = x i := ⟨fun i => a.tmps.getD i undef, h.form, fun _ => rfl⟩
theorem eight_cells (i : Nat) (h : i < 6) : u8s (eightB i) = #[.int .u8 0, .int .u8 0, .int .u8 0, .int .u8 0, .int .u8 0, .int .u8 0, .int .u8 0, .int .u8 (i : Int)] := by
  match i, h with
  | 0, _ => rfl
  | 1, _ => rfl
  | 2, _ => rfl
  | 3, _ => rfl
  | 4, _ => rfl
  | 5, _ => rfl
theorem same_same (l : List UInt8) (va vb : Value) (w : World) (ha : Bytes w va l) (hb : Bytes w vb l) (hl : l.length ≤ 140737488355328) : Calls Tryd.prog 16 #[va, vb] w fun e w' => e = .returned (.bool true) ∧ Below w.heap.size w w' :=
  (same_any l l va vb w ha hb hl hl).mono fun _ _ ⟨he, n, hw⟩ => ⟨by rw [he, decide_eq_true rfl], by rw [hw]; exact below_drewN (Below.refl _ _) _⟩
/-- What stays in the frame. -/
structure NF (v1 v2 v7 v8 : Value) (a : Act) : Prop where
  fr : Fr 117 a
  s1 : a.eval (.tmp 1) = v1
  s2 : a.eval (.tmp 2) = v2
  s7 : a.eval (.tmp 7) = v7
  s8 : a.eval (.tmp 8) = v8
/-- What stays in memory. -/
structure NS (w : World) (pk p : Nat) (al ad : Option Addr) (nl cl nd cd : Nat) (key bd : List UInt8) (pss : List (List UInt8)) (c : Nat) (W : World) : Prop where
  below : Below w.heap.size w W
  tab : Tab W
  kk : IsKey W (.pointer (some ⟨pk, 0, none⟩)) key
  sl : IsSealer W p (hideK key) (bindK key) c
  le : w.heap.size ≤ p
  parts : Parts W (.slice al nl cl) pss
  bound : Bytes W (.slice ad nd cd) bd
theorem NS.later {w : World} {pk p : Nat} {al ad : Option Addr} {nl cl nd cd : Nat} {key bd : List UInt8} {pss : List (List UInt8)} {c : Nat} {W W1 : World} (hg : 0 < w.heap.size) (h : NS w pk p al ad nl cl nd cd key bd pss c W) (hb : Below W.heap.size W W1) : NS w pk p al ad nl cl nd cd key bd pss c W1 :=
  ⟨h.below.trans (hb.mono h.below.size), h.tab.later hb (Nat.lt_of_lt_of_le hg h.below.size), h.kk.later hb, h.sl.later hb, h.le, h.parts.later hb, h.bound.later hb⟩
theorem NS.next {w : World} {pk p : Nat} {al ad : Option Addr} {nl cl nd cd : Nat} {key bd : List UInt8} {pss : List (List UInt8)} {c : Nat} {W W1 : World} (h : NS w pk p al ad nl cl nd cd key bd pss c W) (hk : W.grownBy W1 (some p)) (hs : IsSealer W1 p (hideK key) (bindK key) (c + 1)) : NS w pk p al ad nl cl nd cd key bd pss (c + 1) W1 := by
  obtain ⟨q, hr, -⟩ := h.sl
  exact ⟨below_kb h.below h.below.size hk h.le, h.tab.aside hr hk, h.kk.aside hr hk, hs, h.le, h.parts.aside hr hk, h.bound.aside hr hk⟩
structure INx (w : World) (pk p : Nat) (al ad : Option Addr) (nl cl nd cd : Nat) (key bd : List UInt8) (pss : List (List UInt8)) (k : Nat) (a : Act) (wr : World) : Prop where
  kf : NF (.slice al nl cl) (.slice ad nd cd) (.pointer (some ⟨pk, 0, none⟩)) (.pointer (some ⟨p, 0, none⟩)) a
  s9 : a.eval (.tmp 9) = .int .i64 (k : Int)
  st : NS w pk p al ad nl cl nd cd key bd pss k wr
set_option maxRecDepth 100000 in
set_option maxHeartbeats 2000000 in
theorem roundNx (w : World) (pk p : Nat) (al ad : Option Addr) (nl cl nd cd : Nat) (key bd : List UInt8) (pss : List (List UInt8)) (hg : 0 < w.heap.size) (hkl : key.length ≤ 60) (hbl : bd.length ≤ 60) (hnl : pss.length = nl) (hp : ∀ q ∈ pss, q.length ≤ 9223372036854775807) (hn9 : nl ≤ 9223372036854775807)
    (Q : Exit → Act → World → Prop) (k : Nat) (a : Act) (wr : World) (hk : k < nl) (hk6 : k < 6) (h : INx w pk p al ad nl cl nd cd key bd pss k a wr) :
    Code.wp Tryd.prog (loopAt Tryd.f7.body 0) (Exit.then (fun a' w' => INx w pk p al ad nl cl nd cd key bd pss (k + 1) a' w') Q) a wr := by
  have HS := Bx.mk h.st
  have HL := Bx.mk (And.intro hkl hbl)
  obtain ⟨a', cap', hv', hr'⟩ := h.st.parts
  injection hv' with p1 p2 p3
  obtain ⟨g, o, ha, hcell⟩ := hr' (by omega)
  subst p1
  subst ha
  obtain ⟨xv, hxc, hxb⟩ := hcell k (by omega)
  have HX := Bx.mk hxb
  have HXl : Bx ((pss.getD k []).length ≤ 9223372036854775807) := Bx.mk (by
    have hm : pss.getD k [] ∈ pss := by
      have h : k < pss.length := by omega
      rw [List.getD_eq_getElem?_getD, List.getElem?_eq_getElem h]
      exact List.getElem_mem h
    exact hp _ hm)
  obtain ⟨x, rfl, hx⟩ := open117 h.kf.fr
  have e1 := (hx 1).symm.trans h.kf.s1
  have e2 := (hx 2).symm.trans h.kf.s2
  have e7 := (hx 7).symm.trans h.kf.s7
  have e8 := (hx 8).symm.trans h.kf.s8
  have e9 := (hx 9).symm.trans h.s9
  clear h hx hr' hcell hxb hp hkl hbl hnl p2 p3
  rw [e1, e2, e7, e8, e9]
  clear e1 e2 e7 e8 e9
  have hk1 : (k : Int) < (nl : Int) := by omega
  have hk2 : (k : Int) < 6 := by omega
  have hn1 : (nl : Int) ≤ 9223372036854775807 := by omega
  generalize pss.getD k [] = pj at *
  conv => arg 2; whnf
  go_wp2_with fail
  refine (cut3_any pj 100 xv wr HX.out HXl.out (by omega)).mono ?_
  rintro e w1 ⟨vb, rfl, hb1, rfl⟩
  have HB : Bx (Bytes w1 vb (pj.take 100) ∧ (pj.take 100).length ≤ 100) := Bx.mk ⟨hb1, by rw [List.length_take]; omega⟩
  obtain ⟨ab, cb, hvb, -⟩ := hb1
  obtain ⟨nb, hnb⟩ : ∃ n, (pj.take 100).length = n := ⟨_, rfl⟩
  rw [hnb] at hvb
  subst hvb
  clear hnb hxc HX HXl
  generalize pj.take 100 = b at *
  go_wp2_with fail
  refine (sseal_ok (hideK key) (bindK key) bd b k p _ _ w1 HS.out.sl (by omega) HS.out.bound HB.out.1 (by have := HL.out; omega) (by have := HB.out; omega) (by rw [show (hideK key).length = 32 from hmac_length _ _]; omega) (by rw [show (bindK key).length = 32 from hmac_length _ _]; omega) HS.out.tab (Nat.lt_of_lt_of_le hg HS.out.below.size)).mono ?_
  rintro e w2 ⟨v1, v2, rfl, hy1, hy2, hs2, hg2⟩
  have H2 : Bx (NS w pk p (some ⟨g, o, none⟩) ad nl cl nd cd key bd pss (k + 1) w2 ∧ Bytes w2 v1 (eightB k) ∧ Bytes w2 v2 (sealB key (eightB k) bd b) ∧ Bytes w2 (.slice ab nb cb) b) := Bx.mk (by
    obtain ⟨q, hr, -⟩ := HS.out.sl
    exact ⟨HS.out.next hg2 hs2, hy1, hy2, HB.out.1.aside hr hg2⟩)
  obtain ⟨a1, c1, hv1, -⟩ := hy1
  obtain ⟨a2, c2, hv2, -⟩ := hy2
  rw [show (eightB k).length = 8 from rfl] at hv1
  obtain ⟨n2, hn2⟩ : ∃ n, (sealB key (eightB k) bd b).length = n := ⟨_, rfl⟩
  rw [show (trnd (hideK key) (eightB k) b ++ tagB (bindK key) (eightB k) bd (trnd (hideK key) (eightB k) b)).length = n2 from hn2] at hv2
  subst hv1
  subst hv2
  clear hs2 hg2 HS hn2
  go_wp2_with fail
  refine (open_sealed key (eightB k) bd b _ _ _ _ w2 H2.out.1.kk H2.out.2.1 H2.out.1.bound H2.out.2.2.1 (by have := HL.out; omega) (by show 8 ≤ 32; omega) (by have := HL.out; omega) (by have := HB.out; omega) H2.out.1.tab (Nat.lt_of_lt_of_le hg H2.out.1.below.size)).mono ?_
  rintro e w3 ⟨v3, rfl, ho3, hb3⟩
  have H3 : Bx (NS w pk p (some ⟨g, o, none⟩) ad nl cl nd cd key bd pss (k + 1) w3 ∧ Bytes w3 (.slice a1 8 c1) (eightB k) ∧ Bytes w3 v3 b ∧ Bytes w3 (.slice ab nb cb) b) := Bx.mk ⟨H2.out.1.later hg hb3, H2.out.2.1.later hb3, ho3.bytes, H2.out.2.2.2.later hb3⟩
  obtain ⟨a3, c3, hv3, -⟩ := ho3.bytes
  obtain ⟨n3, hn3⟩ : ∃ n, b.length = n := ⟨_, rfl⟩
  rw [hn3] at hv3
  subst hv3
  clear ho3 hb3 H2 hn3
  go_wp2_with fail
  refine (same_same b _ _ w3 H3.out.2.2.1 H3.out.2.2.2 (by have := HB.out; omega)).mono ?_
  rintro e w4 ⟨rfl, hb4⟩
  have H4 : Bx (NS w pk p (some ⟨g, o, none⟩) ad nl cl nd cd key bd pss (k + 1) w4 ∧ Bytes w4 (.slice a1 8 c1) (eightB k)) := Bx.mk ⟨H3.out.1.later hg hb4, H3.out.2.1.later hb4⟩
  clear hb4 H3
  go_wp2_with fail
  have H5 : Bx (NS w pk p (some ⟨g, o, none⟩) ad nl cl nd cd key bd pss (k + 1) (w4.alloc (.cells #[.int .u8 0, .int .u8 0, .int .u8 0, .int .u8 0, .int .u8 0, .int .u8 0, .int .u8 0, .int .u8 (k : Int)] 5)) ∧ Bytes (w4.alloc (.cells #[.int .u8 0, .int .u8 0, .int .u8 0, .int .u8 0, .int .u8 0, .int .u8 0, .int .u8 0, .int .u8 (k : Int)] 5)) (.slice a1 8 c1) (eightB k) ∧ Bytes (w4.alloc (.cells #[.int .u8 0, .int .u8 0, .int .u8 0, .int .u8 0, .int .u8 0, .int .u8 0, .int .u8 0, .int .u8 (k : Int)] 5)) (.slice (some ⟨w4.heap.size, 0, none⟩) 8 8) (eightB k)) := Bx.mk ⟨H4.out.1.later hg (below_a _), H4.out.2.later (below_a _), by
    have h := built w4 (eightB k)
    rw [eight_cells k hk6] at h
    exact h⟩
  generalize w4.alloc (.cells #[.int .u8 0, .int .u8 0, .int .u8 0, .int .u8 0, .int .u8 0, .int .u8 0, .int .u8 0, .int .u8 (k : Int)] 5) = w5 at *
  generalize w4.heap.size = D4 at *
  clear H4
  refine (same_same (eightB k) _ _ w5 H5.out.2.1 H5.out.2.2 (by show 8 ≤ _; omega)).mono ?_
  rintro e w6 ⟨rfl, hb6⟩
  have H6 : Bx (NS w pk p (some ⟨g, o, none⟩) ad nl cl nd cd key bd pss (k + 1) w6) := Bx.mk (H5.out.1.later hg hb6)
  clear hb6 H5
  go_wp2_with fail
  refine (count_any (hideK key) (bindK key) (k + 1) p w6 H6.out.sl).mono ?_
  rintro e w7 ⟨rfl, rfl⟩
  have hc1 : ((k + 1 : Nat) : Int) = (k : Int) + 1 := by omega
  rw [hc1]
  go_wp2
  exact ⟨⟨⟨rfl, rfl⟩, rfl, rfl, rfl, rfl⟩, by first | rfl | go_num, H6.out⟩
set_option maxRecDepth 100000 in
set_option maxHeartbeats 1000000 in
theorem lastNx (w : World) (pk p : Nat) (al ad : Option Addr) (nl cl nd cd : Nat) (key bd : List UInt8) (pss : List (List UInt8)) (hn9 : nl ≤ 9223372036854775807)
    (Q : Exit → Act → World → Prop) (N : Act → World → Prop) (k : Nat) (hk : ¬ (k < nl ∧ k < 6)) (hk6 : k ≤ 6)
    (hq : ∀ a' w', NF (.slice al nl cl) (.slice ad nd cd) (.pointer (some ⟨pk, 0, none⟩)) (.pointer (some ⟨p, 0, none⟩)) a' → NS w pk p al ad nl cl nd cd key bd pss k w' → Q (.exit 0) a' w') (a : Act) (wr : World) (h : INx w pk p al ad nl cl nd cd key bd pss k a wr) :
    Code.wp Tryd.prog (loopAt Tryd.f7.body 0) (Exit.then N Q) a wr := by
  have HS := Bx.mk h.st
  have HQ := Bx.mk hq
  obtain ⟨x, rfl, hx⟩ := open117 h.kf.fr
  have e1 := (hx 1).symm.trans h.kf.s1
  have e2 := (hx 2).symm.trans h.kf.s2
  have e7 := (hx 7).symm.trans h.kf.s7
  have e8 := (hx 8).symm.trans h.kf.s8
  have e9 := (hx 9).symm.trans h.s9
  clear h hx hq
  rw [e1, e2, e7, e8, e9]
  clear e1 e2 e7 e8 e9
  have hn1 : (nl : Int) ≤ 9223372036854775807 := by omega
  have hk1 : (k : Int) ≤ 6 := by omega
  by_cases hlt : k < nl
  · have t1 : (k : Int) < (nl : Int) := by omega
    have t2 : ¬ (k : Int) < 6 := by omega
    conv => arg 2; whnf
    go_wp2
    exact HQ.out _ _ ⟨⟨rfl, rfl⟩, rfl, rfl, rfl, rfl⟩ HS.out
  · have t1 : ¬ (k : Int) < (nl : Int) := by omega
    conv => arg 2; whnf
    go_wp2
    exact HQ.out _ _ ⟨⟨rfl, rfl⟩, rfl, rfl, rfl, rfl⟩ HS.out
theorem loopNx (w : World) (pk p : Nat) (al ad : Option Addr) (nl cl nd cd : Nat) (key bd : List UInt8) (pss : List (List UInt8)) (hg : 0 < w.heap.size) (hkl : key.length ≤ 60) (hbl : bd.length ≤ 60) (hnl : pss.length = nl) (hp : ∀ q ∈ pss, q.length ≤ 9223372036854775807) (hn9 : nl ≤ 9223372036854775807)
    (Q : Exit → Act → World → Prop) (a : Act) (wr : World) (h : INx w pk p al ad nl cl nd cd key bd pss 0 a wr) (hq : ∀ k a' w', NF (.slice al nl cl) (.slice ad nd cd) (.pointer (some ⟨pk, 0, none⟩)) (.pointer (some ⟨p, 0, none⟩)) a' → NS w pk p al ad nl cl nd cd key bd pss k w' → Q (.exit 0) a' w') :
    Code.wp Tryd.prog (.loop (loopAt Tryd.f7.body 0)) Q a wr :=
  wp_count (min nl 6) (fun k a w' => INx w pk p al ad nl cl nd cd key bd pss k a w') 0 (Nat.zero_le _) h (fun k a w' hk hI => roundNx w pk p al ad nl cl nd cd key bd pss hg hkl hbl hnl hp hn9 Q k a w' (by omega) (by omega) hI) (fun a w' hI => lastNx w pk p al ad nl cl nd cd key bd pss hn9 Q _ (min nl 6) (by omega) (by omega) (fun a' w'' h1 h2 => hq _ a' w'' h1 h2) a w' hI)
set_option maxRecDepth 100000 in
set_option maxHeartbeats 2000000 in
theorem next_any (key bd : List UInt8) (pss : List (List UInt8)) (v vl vd : Value) (w : World) (hv : Bytes w v key) (hp : Parts w vl pss) (hd : Bytes w vd bd) (hl : key.length ≤ 9223372036854775807) (hn : pss.length ≤ 9223372036854775807) (hpl : ∀ p ∈ pss, p.length ≤ 9223372036854775807) (hdl : bd.length ≤ 9223372036854775807) (hTab : Tab w) (hg : 0 < w.heap.size) :
    Calls Tryd.prog 7 #[v, vl, vd] w fun e w' => e = .returned (.bool true) ∧ Below w.heap.size w w' := by
  have HV := Bx.mk (And.intro hv (And.intro hp hd))
  have HL := Bx.mk (And.intro hl (And.intro hn (And.intro hpl hdl)))
  have HA := Bx.mk hTab
  obtain ⟨a0, c0, rfl, -⟩ := hv
  obtain ⟨al, cl, rfl, -⟩ := hp
  obtain ⟨ad0, cd0, rfl, -⟩ := hd
  obtain ⟨n0, hn0⟩ : ∃ n, key.length = n := ⟨_, rfl⟩
  obtain ⟨nl, hnl⟩ : ∃ n, pss.length = n := ⟨_, rfl⟩
  obtain ⟨nd0, hnd0⟩ : ∃ n, bd.length = n := ⟨_, rfl⟩
  have HNl := Bx.mk hnl
  rw [hn0, hnl, hnd0] at HV ⊢
  clear hn0 hnl hnd0 hl hn hpl hdl hTab
  go_enter Tryd.func7, Tryd.ntmps7
  go_wp2_with fail
  refine (cut3_any key 60 _ w HV.out.1 HL.out.1 (by omega)).mono ?_
  rintro e w1 ⟨vk, rfl, hk1, rfl⟩
  have HK1 : Bx (Bytes w1 vk (key.take 60) ∧ (key.take 60).length ≤ 60) := Bx.mk ⟨hk1, by rw [List.length_take]; omega⟩
  obtain ⟨a1, c1, hvk, -⟩ := hk1
  obtain ⟨n1, hn1⟩ : ∃ n, (key.take 60).length = n := ⟨_, rfl⟩
  rw [hn1] at hvk
  subst hvk
  clear hn1
  generalize key.take 60 = ky at *
  go_wp2_with fail
  refine (cut3_any bd 60 _ w1 HV.out.2.2 HL.out.2.2.2 (by omega)).mono ?_
  rintro e w2 ⟨vd2, rfl, hd2, rfl⟩
  have HD1 : Bx (Bytes w2 vd2 (bd.take 60) ∧ (bd.take 60).length ≤ 60) := Bx.mk ⟨hd2, by rw [List.length_take]; omega⟩
  obtain ⟨ad, cd, hvd, -⟩ := hd2
  obtain ⟨nd, hnd⟩ : ∃ n, (bd.take 60).length = n := ⟨_, rfl⟩
  rw [hnd] at hvd
  subst hvd
  clear hnd
  generalize bd.take 60 = bo at *
  go_wp2_with fail
  refine (new_any ky _ w2 HK1.out.1 (by have := HK1.out; omega)).mono ?_
  rintro e w3 ⟨vk3, rfl, hk3, hb3⟩
  have H3 : Bx (IsKey w3 vk3 ky ∧ Below w2.heap.size w2 w3) := Bx.mk ⟨hk3.key, hb3⟩
  obtain ⟨pk, rfl⟩ := hk3.key.form
  clear hk3 hb3
  go_wp2_with fail
  refine (snew_any ky _ w3 H3.out.1 (by have := HK1.out; omega) (HA.out.later H3.out.2 hg) (Nat.lt_of_lt_of_le hg H3.out.2.size)).mono ?_
  rintro e w4 ⟨p, rfl, hp4, hs4, hb4⟩
  have H4 : Bx (NS w2 pk p al ad nl cl nd cd ky bo pss 0 w4) := Bx.mk ⟨H3.out.2.trans (hb4.mono H3.out.2.size), HA.out.later (H3.out.2.trans (hb4.mono H3.out.2.size)) hg, H3.out.1.later hb4, hs4, by have := H3.out.2.size; omega, (HV.out.2.1.later H3.out.2).later hb4, (HD1.out.1.later H3.out.2).later hb4⟩
  clear hp4 hs4 hb4 H3
  go_wp2
  refine loopNx w2 pk p al ad nl cl nd cd ky bo pss hg HK1.out.2 HD1.out.2 HNl.out HL.out.2.2.1 (by have h1 := HNl.out; have h2 := HL.out.2.1; omega) _ _ _ ⟨⟨⟨rfl, rfl⟩, rfl, rfl, rfl, rfl⟩, rfl, H4.out⟩ ?_
  intro k a' w5 hNF hNS
  have H5 := Bx.mk hNS
  clear H4 hNS
  obtain ⟨x, rfl, hx⟩ := open117 hNF.fr
  have e1 := (hx 1).symm.trans hNF.s1
  have e2 := (hx 2).symm.trans hNF.s2
  have e7 := (hx 7).symm.trans hNF.s7
  have e8 := (hx 8).symm.trans hNF.s8
  clear hNF hx
  rw [e1, e2, e7, e8]
  clear e1 e2 e7 e8
  go_wp2_with fail
  refine (sseal_nil _ _ w5).mono ?_
  rintro e w6 ⟨rfl, rfl⟩
  go_wp2_with fail
  refine (snew_nil w6).mono ?_
  rintro e w7 ⟨rfl, hr7, hb7⟩
  have H7 : Bx (Below w2.heap.size w2 w7 ∧ Tab w7 ∧ w7.heap[w6.heap.size]? = some (.cells #[.pointer none, .int .i64 0] 85 (0, 0))) := Bx.mk ⟨H5.out.below.trans (hb7.mono H5.out.below.size), H5.out.tab.later hb7 (Nat.lt_of_lt_of_le hg H5.out.below.size), hr7⟩
  clear hr7 hb7 H5
  generalize w6.heap.size = D6 at *
  go_wp2_with fail
  refine (sseal_none D6 _ _ w7 H7.out.2.2).mono ?_
  rintro e w8 ⟨rfl, hb8⟩
  have H8 : Bx (Below w2.heap.size w2 w8 ∧ Tab w8) := Bx.mk ⟨H7.out.1.trans (hb8.mono H7.out.1.size), H7.out.2.1.later hb8 (Nat.lt_of_lt_of_le hg H7.out.1.size)⟩
  clear hb8 H7
  go_wp2_with fail
  refine (known3_any w8 H8.out.2 (Nat.lt_of_lt_of_le hg H8.out.1.size)).mono ?_
  rintro e w9 ⟨rfl, hb9⟩
  have H9 : Bx (Below w2.heap.size w2 w9) := Bx.mk (H8.out.1.trans (hb9.mono H8.out.1.size))
  clear hb9 H8
  go_wp2_with fail
  refine (count_nil w9).mono ?_
  rintro e w10 ⟨rfl, rfl⟩
  go_wp2
  go_ret
  exact ⟨rfl, H9.out⟩
end Go.Proofs.YtcaehkglfliihaaDoor
