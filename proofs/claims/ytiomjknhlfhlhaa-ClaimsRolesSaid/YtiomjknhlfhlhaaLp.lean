/-
  The walk of ClaimsRoles, in pieces.
-/
import Derived.Test.YtiomjknhlfhlhaaCk
import Derived.Test.YtiomjknhlfhlhaaCb
namespace Go.Proofs.Ytiomjknhlfhlhaa
open Go Go.RowKit
set_option maxRecDepth 100000 in
theorem open195 {a : Act} (h : Fr 195 a) : ∃ x : Nat → Value, a = ⟨List.toArray (x 0 :: x 1 :: x 2 :: x 3 :: x 4 :: x 5 :: x 6 :: x 7 :: x 8 :: x 9 :: x 10 :: x 11 :: x 12 :: x 13 :: x 14 :: x 15 :: x 16 :: x 17 :: x 18 :: x 19 :: x 20 :: x 21 :: x 22 :: x 23 :: x 24 :: x 25 :: x 26 :: x 27 :: x 28 :: x 29 :: x 30 :: x 31 :: x 32 :: x 33 :: x 34 :: x 35 :: x 36 :: x 37 :: x 38 :: x 39 :: x 40 :: x 41 :: x 42 :: x 43 :: x 44 :: x 45 :: x 46 :: x 47 :: x 48 :: x 49 :: x 50 :: x 51 :: x 52 :: x 53 :: x 54 :: x 55 :: x 56 :: x 57 :: x 58 :: x 59 :: x 60 :: x 61 :: x 62 :: x 63 :: x 64 :: x 65 :: x 66 :: x 67 :: x 68 :: x 69 :: x 70 :: x 71 :: x 72 :: x 73 :: x 74 :: x 75 :: x 76 :: x 77 :: x 78 :: x 79 :: x 80 :: x 81 :: x 82 :: x 83 :: x 84 :: x 85 :: x 86 :: x 87 :: x 88 :: x 89 :: x 90 :: x 91 :: x 92 :: x 93 :: x 94 :: x 95 :: x 96 :: x 97 :: x 98 :: x 99 :: x 100 :: x 101 :: x 102 :: x 103 :: x 104 :: x 105 :: x 106 :: x 107 :: x 108 :: x 109 :: x 110 :: x 111 :: x 112 :: x 113 :: x 114 :: x 115 :: x 116 :: x 117 :: x 118 :: x 119 :: x 120 :: x 121 :: x 122 :: x 123 :: x 124 :: x 125 :: x 126 :: x 127 :: x 128 :: x 129 :: x 130 :: x 131 :: x 132 :: x 133 :: x 134 :: x 135 :: x 136 :: x 137 :: x 138 :: x 139 :: x 140 :: x 141 :: x 142 :: x 143 :: x 144 :: x 145 :: x 146 :: x 147 :: x 148 :: x 149 :: x 150 :: x 151 :: x 152 :: x 153 :: x 154 :: x 155 :: x 156 :: x 157 :: x 158 :: x 159 :: x 160 :: x 161 :: x 162 :: x 163 :: x 164 :: x 165 :: x 166 :: x 167 :: x 168 :: x 169 :: x 170 :: x 171 :: x 172 :: x 173 :: x 174 :: x 175 :: x 176 :: x 177 :: x 178 :: x 179 :: x 180 :: x 181 :: x 182 :: x 183 :: x 184 :: x 185 :: x 186 :: x 187 :: x 188 :: x 189 :: x 190 :: x 191 :: x 192 :: x 193 :: x 194 :: []), []⟩ ∧ ∀ i, a.eval (.tmp i) = x i := ⟨fun i => a.tmps.getD i undef, h.form, fun _ => rfl⟩
theorem take_all (ns : List Int) (f : Int → Bool) (k : Nat) (hk : k < ns.length) : (ns.take (k + 1)).all f = ((ns.take k).all f && f (ns.getD k 0)) := by
  rw [List.take_add_one, List.all_append, List.getElem?_eq_getElem hk, List.getD_eq_getElem?_getD, List.getElem?_eq_getElem hk]
  simp
theorem take_any (ns : List Int) (f : Int → Bool) (k : Nat) (hk : k < ns.length) : (ns.take (k + 1)).any f = ((ns.take k).any f || f (ns.getD k 0)) := by
  rw [List.take_add_one, List.any_append, List.getElem?_eq_getElem hk, List.getD_eq_getElem?_getD, List.getElem?_eq_getElem hk]
  simp
theorem Ints.at_ {w : World} {a : Option Addr} {n cap : Nat} {ns : List Int} (h : Ints w (.slice a n cap) ns) (k : Nat) (hk : k < n) : ns.length = n ∧ ∃ g o, a = some ⟨g, o, none⟩ ∧ w.cell? ⟨g, o + k, none⟩ = some (.int .i64 (ns.getD k 0)) := by
  obtain ⟨a', cap', hv, hc, hn, hr⟩ := h
  injection hv with e1 e2 e3
  obtain ⟨g, o, ha, hf⟩ := hr (by omega)
  exact ⟨e2.symm, g, o, by rw [e1]; exact ha, hf k (by omega)⟩
structure I1 (v0 v9 v10 : Value) (al : Option Addr) (n cl x y : Nat) (ns : List Int) (W : World) (k : Nat) (a : Act) (wr : World) : Prop where
  fr : Fr 195 a
  s0 : a.eval (.tmp 0) = v0
  s2 : a.eval (.tmp 2) = (.slice al n cl)
  s7 : a.eval (.tmp 7) = .int .i64 (x : Int)
  s8 : a.eval (.tmp 8) = .int .i64 (y : Int)
  s9 : a.eval (.tmp 9) = v9
  s10 : a.eval (.tmp 10) = v10
  s11 : a.eval (.tmp 11) = .bool ((ns.take k).all isR)
  s12 : a.eval (.tmp 12) = .bool (hasL x (ns.take k))
  s13 : a.eval (.tmp 13) = .int .i64 (k : Int)
  w : wr = W
set_option maxRecDepth 100000 in
set_option maxHeartbeats 2000000 in
theorem round1 (v0 v9 v10 : Value) (al : Option Addr) (n cl x y : Nat) (ns : List Int) (W : World) (hx : x < 256) (hn : n ≤ 10) (hv : Ints W (.slice al n cl) ns)
    (Q : Exit → Act → World → Prop) (k : Nat) (a : Act) (wr : World) (hk : k < n) (h : I1 v0 v9 v10 al n cl x y ns W k a wr) :
    Code.wp Try.prog (loopAt Try.f5.body 0) (Exit.then (fun a' w' => I1 v0 v9 v10 al n cl x y ns W (k + 1) a' w') Q) a wr := by
  obtain ⟨hlen, g, o, rfl, hcell⟩ := hv.at_ k hk
  have HR0 := Bx.mk (take_all ns isR k (by omega))
  have HH0 : Bx (hasL x (ns.take (k + 1)) = (hasL x (ns.take k) && (isR (ns.getD k 0) && bitN x (ns.getD k 0).toNat))) := Bx.mk (take_all ns _ k (by omega))
  have HX := Bx.mk hx
  obtain ⟨xx, rfl, hxx⟩ := open195 h.fr
  have e0 := (hxx 0).symm.trans h.s0
  have e2 := (hxx 2).symm.trans h.s2
  have e7 := (hxx 7).symm.trans h.s7
  have e8 := (hxx 8).symm.trans h.s8
  have e9 := (hxx 9).symm.trans h.s9
  have e10 := (hxx 10).symm.trans h.s10
  have e11 := (hxx 11).symm.trans h.s11
  have e12 := (hxx 12).symm.trans h.s12
  have e13 := (hxx 13).symm.trans h.s13
  have ew := h.w
  subst ew
  clear h hxx hx
  rw [e0, e2, e7, e8, e9, e10, e11, e12, e13]
  clear e0 e2 e7 e8 e9 e10 e11 e12 e13
  conv => arg 2; whnf
  obtain ⟨R, hR⟩ : ∃ R, (ns.take k).all isR = R := ⟨_, rfl⟩
  obtain ⟨H, hH⟩ : ∃ H, hasL x (ns.take k) = H := ⟨_, rfl⟩
  obtain ⟨r, hr⟩ : ∃ r, ns.getD k 0 = r := ⟨_, rfl⟩
  rw [hR, hr] at HR0
  rw [hH, hr] at HH0
  rw [hr] at hcell
  rw [hR, hH]
  clear hR hH hr hv
  have hk1 : (k : Int) < (n : Int) := by omega
  have hn1 : (n : Int) ≤ 10 := by omega
  by_cases h0 : r < 0
  · have hin : isR r = false := by simp [isR]; omega
    have HR : Bx ((ns.take (k + 1)).all isR = false) := Bx.mk (by rw [HR0.out, hin]; simp)
    have HH : Bx (hasL x (ns.take (k + 1)) = false) := Bx.mk (by rw [HH0.out, hin]; simp)
    clear HR0 HH0 hin
    rcases R with _ | _ <;> rcases H with _ | _
    all_goals go_wp2
    all_goals exact ⟨⟨rfl, rfl⟩, rfl, rfl, rfl, rfl, rfl, rfl, by rw [HR.out]; rfl, by rw [HH.out]; rfl, by first | rfl | go_num, rfl⟩
  · by_cases h8 : 8 ≤ r
    · have hin : isR r = false := by simp [isR]; omega
      have h9 : ¬ r < 8 := by omega
      clear h8
      have HR : Bx ((ns.take (k + 1)).all isR = false) := Bx.mk (by rw [HR0.out, hin]; simp)
      have HH : Bx (hasL x (ns.take (k + 1)) = false) := Bx.mk (by rw [HH0.out, hin]; simp)
      clear HR0 HH0 hin
      rcases R with _ | _ <;> rcases H with _ | _
      all_goals go_wp2
      all_goals exact ⟨⟨rfl, rfl⟩, rfl, rfl, rfl, rfl, rfl, rfl, by rw [HR.out]; rfl, by rw [HH.out]; rfl, by first | rfl | go_num, rfl⟩
    · have hin : isR r = true := by simp [isR]; omega
      obtain ⟨q, rfl⟩ : ∃ q : Nat, r = (q : Int) := ⟨r.toNat, by omega⟩
      have HR : Bx ((ns.take (k + 1)).all isR = R) := Bx.mk (by rw [HR0.out, hin]; simp)
      have HH : Bx (hasL x (ns.take (k + 1)) = (H && bitN x q)) := Bx.mk (by rw [HH0.out, hin]; simp)
      have hq8 : q < 8 := by omega
      clear HR0 HH0 hin
      rcases H with _ | _
      · rcases R with _ | _
        all_goals go_wp2
        all_goals exact ⟨⟨rfl, rfl⟩, rfl, rfl, rfl, rfl, rfl, rfl, by rw [HR.out]; rfl, by rw [HH.out]; rfl, by first | rfl | go_num, rfl⟩
      · rcases R with _ | _
        all_goals
          go_wp2_with fail
          refine (bit_any x q _ HX.out hq8).mono ?_
          rintro e w1 ⟨rfl, hw⟩
          rw [hw]
          clear hw w1
          go_wp2
          exact ⟨⟨rfl, rfl⟩, rfl, rfl, rfl, rfl, rfl, rfl, by rw [HR.out]; rfl, by rw [HH.out]; rfl, by first | rfl | go_num, rfl⟩
set_option maxRecDepth 100000 in
set_option maxHeartbeats 2000000 in
theorem last1 (v0 v9 v10 : Value) (al : Option Addr) (n cl x y : Nat) (ns : List Int) (W : World) (hn : n ≤ 10)
    (Q : Exit → Act → World → Prop) (N : Act → World → Prop) (hq : ∀ a' w', I1 v0 v9 v10 al n cl x y ns W n a' w' → Q (.exit 0) a' w') (a : Act) (wr : World) (h : I1 v0 v9 v10 al n cl x y ns W n a wr) :
    Code.wp Try.prog (loopAt Try.f5.body 0) (Exit.then N Q) a wr := by
  have HQ := Bx.mk hq
  clear hq
  obtain ⟨xx, rfl, hxx⟩ := open195 h.fr
  have e0 := (hxx 0).symm.trans h.s0
  have e2 := (hxx 2).symm.trans h.s2
  have e7 := (hxx 7).symm.trans h.s7
  have e8 := (hxx 8).symm.trans h.s8
  have e9 := (hxx 9).symm.trans h.s9
  have e10 := (hxx 10).symm.trans h.s10
  have e11 := (hxx 11).symm.trans h.s11
  have e12 := (hxx 12).symm.trans h.s12
  have e13 := (hxx 13).symm.trans h.s13
  have ew := h.w
  subst ew
  clear h hxx
  rw [e0, e2, e7, e8, e9, e10, e11, e12, e13]
  clear e0 e2 e7 e8 e9 e10 e11 e12 e13
  conv => arg 2; whnf
  have hn1 : (n : Int) ≤ 10 := by omega
  go_wp2
  exact HQ.out _ _ ⟨⟨rfl, rfl⟩, rfl, rfl, rfl, rfl, rfl, rfl, rfl, rfl, rfl, rfl⟩
theorem loop1 (v0 v9 v10 : Value) (al : Option Addr) (n cl x y : Nat) (ns : List Int) (W : World) (hx : x < 256) (hn : n ≤ 10) (hv : Ints W (.slice al n cl) ns)
    (Q : Exit → Act → World → Prop) (a : Act) (wr : World) (h : I1 v0 v9 v10 al n cl x y ns W 0 a wr) (hq : ∀ a' w', I1 v0 v9 v10 al n cl x y ns W n a' w' → Q (.exit 0) a' w') :
    Code.wp Try.prog (.loop (loopAt Try.f5.body 0)) Q a wr :=
  wp_count n (fun k a w' => I1 v0 v9 v10 al n cl x y ns W k a w') 0 (Nat.zero_le _) h (fun k a w' hk hI => round1 v0 v9 v10 al n cl x y ns W hx hn hv Q k a w' hk hI) (fun a w' hI => last1 v0 v9 v10 al n cl x y ns W hn Q _ hq a w' hI)
structure I2 (v0 v9 v11 : Value) (al : Option Addr) (n cl x : Nat) (ar : Option Addr) (nr cr : Nat) (W : World) (k : Nat) (a : Act) (wr : World) : Prop where
  fr : Fr 195 a
  s0 : a.eval (.tmp 0) = v0
  s2 : a.eval (.tmp 2) = (.slice al n cl)
  s7 : a.eval (.tmp 7) = .int .i64 (x : Int)
  s9 : a.eval (.tmp 9) = v9
  s11 : a.eval (.tmp 11) = v11
  s15 : a.eval (.tmp 15) = (.slice ar nr cr)
  s16 : a.eval (.tmp 16) = .int .i64 ((rolesK x k).length : Int)
  s17 : a.eval (.tmp 17) = .int .i64 (k : Int)
  w : wr = W
set_option maxRecDepth 100000 in
set_option maxHeartbeats 2000000 in
theorem round2 (v0 v9 v11 : Value) (al : Option Addr) (n cl x : Nat) (ar : Option Addr) (nr cr : Nat) (W : World) (hx : x < 256) (hv : Ints W (.slice ar nr cr) (rolesK x 8))
    (Q : Exit → Act → World → Prop) (k : Nat) (a : Act) (wr : World) (hk : k < 8) (h : I2 v0 v9 v11 al n cl x ar nr cr W k a wr) :
    Code.wp Try.prog (loopAt Try.f5.body 1) (Exit.then (fun a' w' => I2 v0 v9 v11 al n cl x ar nr cr W (k + 1) a' w') Q) a wr := by
  have HL := Bx.mk (rolesK_bit x k)
  have HA := Bx.mk (roles_at x hx k hk)
  have HX := Bx.mk hx
  have HV := Bx.mk hv
  have HN : Bx ((rolesK x 8).length ≤ 8 ∧ (rolesK x k).length ≤ k) := Bx.mk ⟨rolesK_length x 8, rolesK_length x k⟩
  obtain ⟨xx, rfl, hxx⟩ := open195 h.fr
  have e0 := (hxx 0).symm.trans h.s0
  have e2 := (hxx 2).symm.trans h.s2
  have e7 := (hxx 7).symm.trans h.s7
  have e9 := (hxx 9).symm.trans h.s9
  have e11 := (hxx 11).symm.trans h.s11
  have e15 := (hxx 15).symm.trans h.s15
  have e16 := (hxx 16).symm.trans h.s16
  have e17 := (hxx 17).symm.trans h.s17
  have ew := h.w
  subst ew
  clear h hxx hx hv
  rw [e0, e2, e7, e9, e11, e15, e16, e17]
  clear e0 e2 e7 e9 e11 e15 e16 e17
  conv => arg 2; whnf
  have hk1 : (k : Int) < 8 := by omega
  obtain ⟨j, hj⟩ : ∃ j, (rolesK x k).length = j := ⟨_, rfl⟩
  rw [hj] at HL HA HN ⊢
  clear hj
  have hj1 : (j : Int) ≤ 8 := by have := HN.out; omega
  go_wp2_with fail
  refine (bit_any x k _ HX.out hk).mono ?_
  rintro e w1 ⟨rfl, hw⟩
  rw [hw]
  clear hw w1
  obtain ⟨p, hp⟩ : ∃ p, bitN x k = p := ⟨_, rfl⟩
  rw [hp] at HL HA ⊢
  clear hp
  rcases p with _ | _
  · have HJ : Bx ((rolesK x (k + 1)).length = j) := Bx.mk (by rw [HL.out]; simp)
    clear HL HA HV HN
    go_wp2
    exact ⟨⟨rfl, rfl⟩, rfl, rfl, rfl, rfl, rfl, rfl, by rw [HJ.out]; rfl, by first | rfl | go_num, rfl⟩
  · have HJ : Bx ((rolesK x (k + 1)).length = j + 1) := Bx.mk (by rw [HL.out]; simp)
    obtain ⟨h1, h2⟩ := HA.out rfl
    obtain ⟨hlen, g, o, rfl, hcell⟩ := HV.out.at_ j (by obtain ⟨a', cap', hv, -⟩ := HV.out; injection hv with e1 e2 e3; omega)
    rw [h1] at hcell
    have hj2 : (j : Int) < (nr : Int) := by omega
    clear HL HA HV HN h1 h2 hlen
    go_wp2
    exact ⟨⟨rfl, rfl⟩, rfl, rfl, rfl, rfl, rfl, rfl, by rw [HJ.out]; first | rfl | go_num, by first | rfl | go_num, rfl⟩
set_option maxRecDepth 100000 in
set_option maxHeartbeats 2000000 in
theorem last2 (v0 v9 v11 : Value) (al : Option Addr) (n cl x : Nat) (ar : Option Addr) (nr cr : Nat) (W : World)
    (Q : Exit → Act → World → Prop) (N : Act → World → Prop) (hq : ∀ a' w', I2 v0 v9 v11 al n cl x ar nr cr W 8 a' w' → Q (.exit 2) a' w') (a : Act) (wr : World) (h : I2 v0 v9 v11 al n cl x ar nr cr W 8 a wr) :
    Code.wp Try.prog (loopAt Try.f5.body 1) (Exit.then N Q) a wr := by
  have HQ := Bx.mk hq
  clear hq
  obtain ⟨xx, rfl, hxx⟩ := open195 h.fr
  have e0 := (hxx 0).symm.trans h.s0
  have e2 := (hxx 2).symm.trans h.s2
  have e7 := (hxx 7).symm.trans h.s7
  have e9 := (hxx 9).symm.trans h.s9
  have e11 := (hxx 11).symm.trans h.s11
  have e15 := (hxx 15).symm.trans h.s15
  have e16 := (hxx 16).symm.trans h.s16
  have e17 := (hxx 17).symm.trans h.s17
  have ew := h.w
  subst ew
  clear h hxx
  rw [e0, e2, e7, e9, e11, e15, e16, e17]
  clear e0 e2 e7 e9 e11 e15 e16 e17
  conv => arg 2; whnf
  go_wp2
  refine HQ.out _ _ ?_
  exact ⟨⟨rfl, rfl⟩, rfl, rfl, rfl, rfl, rfl, rfl, rfl, rfl, rfl⟩
theorem loop2 (v0 v9 v11 : Value) (al : Option Addr) (n cl x : Nat) (ar : Option Addr) (nr cr : Nat) (W : World) (hx : x < 256) (hv : Ints W (.slice ar nr cr) (rolesK x 8))
    (Q : Exit → Act → World → Prop) (a : Act) (wr : World) (h : I2 v0 v9 v11 al n cl x ar nr cr W 0 a wr) (hq : ∀ a' w', I2 v0 v9 v11 al n cl x ar nr cr W 8 a' w' → Q (.exit 2) a' w') :
    Code.wp Try.prog (.loop (loopAt Try.f5.body 1)) Q a wr :=
  wp_count 8 (fun k a w' => I2 v0 v9 v11 al n cl x ar nr cr W k a w') 0 (Nat.zero_le _) h (fun k a w' hk hI => round2 v0 v9 v11 al n cl x ar nr cr W hx hv Q k a w' hk hI) (fun a w' hI => last2 v0 v9 v11 al n cl x ar nr cr W Q _ hq a w' hI)
structure I4 (v0 v9 v15 v16 v18 v19 : Value) (al : Option Addr) (n cl x : Nat) (ns : List Int) (r : Nat) (W : World) (k : Nat) (a : Act) (wr : World) : Prop where
  fr : Fr 195 a
  s0 : a.eval (.tmp 0) = v0
  s2 : a.eval (.tmp 2) = (.slice al n cl)
  s7 : a.eval (.tmp 7) = .int .i64 (x : Int)
  s9 : a.eval (.tmp 9) = v9
  s11 : a.eval (.tmp 11) = .bool true
  s15 : a.eval (.tmp 15) = v15
  s16 : a.eval (.tmp 16) = v16
  s18 : a.eval (.tmp 18) = v18
  s19 : a.eval (.tmp 19) = v19
  s20 : a.eval (.tmp 20) = .int .i64 (r : Int)
  s21 : a.eval (.tmp 21) = .bool ((ns.take k).any fun z => decide (z = (r : Int)))
  s22 : a.eval (.tmp 22) = .int .i64 (k : Int)
  w : wr = W
set_option maxRecDepth 100000 in
set_option maxHeartbeats 2000000 in
theorem round4 (v0 v9 v15 v16 v18 v19 : Value) (al : Option Addr) (n cl x : Nat) (ns : List Int) (r : Nat) (W : World) (hn : n ≤ 10) (hv : Ints W (.slice al n cl) ns)
    (Q : Exit → Act → World → Prop) (k : Nat) (a : Act) (wr : World) (hk : k < n) (h : I4 v0 v9 v15 v16 v18 v19 al n cl x ns r W k a wr) :
    Code.wp Try.prog (loopAt Try.f5.body 3) (Exit.then (fun a' w' => I4 v0 v9 v15 v16 v18 v19 al n cl x ns r W (k + 1) a' w') Q) a wr := by
  obtain ⟨hlen, g, o, rfl, hcell⟩ := hv.at_ k hk
  have HT := Bx.mk (take_any ns (fun z => decide (z = (r : Int))) k (by omega))
  obtain ⟨xx, rfl, hxx⟩ := open195 h.fr
  have e0 := (hxx 0).symm.trans h.s0
  have e2 := (hxx 2).symm.trans h.s2
  have e7 := (hxx 7).symm.trans h.s7
  have e9 := (hxx 9).symm.trans h.s9
  have e11 := (hxx 11).symm.trans h.s11
  have e15 := (hxx 15).symm.trans h.s15
  have e16 := (hxx 16).symm.trans h.s16
  have e18 := (hxx 18).symm.trans h.s18
  have e19 := (hxx 19).symm.trans h.s19
  have e20 := (hxx 20).symm.trans h.s20
  have e21 := (hxx 21).symm.trans h.s21
  have e22 := (hxx 22).symm.trans h.s22
  have ew := h.w
  subst ew
  clear h hxx
  rw [e0, e2, e7, e9, e11, e15, e16, e18, e19, e20, e21, e22]
  clear e0 e2 e7 e9 e11 e15 e16 e18 e19 e20 e21 e22
  conv => arg 2; whnf
  obtain ⟨b, hb⟩ : ∃ b, ((ns.take k).any fun z => decide (z = (r : Int))) = b := ⟨_, rfl⟩
  obtain ⟨z, hz⟩ : ∃ z, ns.getD k 0 = z := ⟨_, rfl⟩
  rw [hb, hz] at HT
  rw [hz] at hcell
  rw [hb]
  clear hb hz hv
  have hk1 : (k : Int) < (n : Int) := by omega
  have hn1 : (n : Int) ≤ 10 := by omega
  have hzr : (z == (r : Int)) = decide (z = (r : Int)) := by rw [Bool.eq_iff_iff]; simp
  rcases b with _ | _
  · go_wp2
    exact ⟨⟨rfl, rfl⟩, rfl, rfl, rfl, rfl, rfl, rfl, rfl, rfl, rfl, rfl, by rw [HT.out, Bool.false_or, ← hzr]; rfl, by first | rfl | go_num, rfl⟩
  · go_wp2
    exact ⟨⟨rfl, rfl⟩, rfl, rfl, rfl, rfl, rfl, rfl, rfl, rfl, rfl, rfl, by rw [HT.out, Bool.true_or]; rfl, by first | rfl | go_num, rfl⟩
set_option maxRecDepth 100000 in
set_option maxHeartbeats 2000000 in
theorem last4 (v0 v9 v15 v16 v18 v19 : Value) (al : Option Addr) (n cl x : Nat) (ns : List Int) (r : Nat) (W : World) (hn : n ≤ 10)
    (Q : Exit → Act → World → Prop) (N : Act → World → Prop) (hq : ∀ a' w', I4 v0 v9 v15 v16 v18 v19 al n cl x ns r W n a' w' → Q (.exit 6) a' w') (a : Act) (wr : World) (h : I4 v0 v9 v15 v16 v18 v19 al n cl x ns r W n a wr) :
    Code.wp Try.prog (loopAt Try.f5.body 3) (Exit.then N Q) a wr := by
  have HQ := Bx.mk hq
  clear hq
  obtain ⟨xx, rfl, hxx⟩ := open195 h.fr
  have e0 := (hxx 0).symm.trans h.s0
  have e2 := (hxx 2).symm.trans h.s2
  have e7 := (hxx 7).symm.trans h.s7
  have e9 := (hxx 9).symm.trans h.s9
  have e11 := (hxx 11).symm.trans h.s11
  have e15 := (hxx 15).symm.trans h.s15
  have e16 := (hxx 16).symm.trans h.s16
  have e18 := (hxx 18).symm.trans h.s18
  have e19 := (hxx 19).symm.trans h.s19
  have e20 := (hxx 20).symm.trans h.s20
  have e21 := (hxx 21).symm.trans h.s21
  have e22 := (hxx 22).symm.trans h.s22
  have ew := h.w
  subst ew
  clear h hxx
  rw [e0, e2, e7, e9, e11, e15, e16, e18, e19, e20, e21, e22]
  clear e0 e2 e7 e9 e11 e15 e16 e18 e19 e20 e21 e22
  conv => arg 2; whnf
  have hn1 : (n : Int) ≤ 10 := by omega
  go_wp2
  refine HQ.out _ _ ?_
  exact ⟨⟨rfl, rfl⟩, rfl, rfl, rfl, rfl, rfl, rfl, rfl, rfl, rfl, rfl, rfl, rfl, rfl⟩
theorem loop4 (v0 v9 v15 v16 v18 v19 : Value) (al : Option Addr) (n cl x : Nat) (ns : List Int) (r : Nat) (W : World) (hn : n ≤ 10) (hv : Ints W (.slice al n cl) ns)
    (Q : Exit → Act → World → Prop) (a : Act) (wr : World) (h : I4 v0 v9 v15 v16 v18 v19 al n cl x ns r W 0 a wr) (hq : ∀ a' w', I4 v0 v9 v15 v16 v18 v19 al n cl x ns r W n a' w' → Q (.exit 6) a' w') :
    Code.wp Try.prog (.loop (loopAt Try.f5.body 3)) Q a wr :=
  wp_count n (fun k a w' => I4 v0 v9 v15 v16 v18 v19 al n cl x ns r W k a w') 0 (Nat.zero_le _) h (fun k a w' hk hI => round4 v0 v9 v15 v16 v18 v19 al n cl x ns r W hn hv Q k a w' hk hI) (fun a w' hI => last4 v0 v9 v15 v16 v18 v19 al n cl x ns r W hn Q _ hq a w' hI)
structure I3 (v0 v15 v16 v18 v19 : Value) (al : Option Addr) (n cl x : Nat) (ns : List Int) (W : World) (k : Nat) (a : Act) (wr : World) : Prop where
  fr : Fr 195 a
  s0 : a.eval (.tmp 0) = v0
  s2 : a.eval (.tmp 2) = (.slice al n cl)
  s7 : a.eval (.tmp 7) = .int .i64 (x : Int)
  s9 : a.eval (.tmp 9) = .int .i64 (mkN ns : Int)
  s11 : a.eval (.tmp 11) = .bool true
  s15 : a.eval (.tmp 15) = v15
  s16 : a.eval (.tmp 16) = v16
  s18 : a.eval (.tmp 18) = v18
  s19 : a.eval (.tmp 19) = v19
  s20 : a.eval (.tmp 20) = .int .i64 (k : Int)
  w : wr = W
set_option maxRecDepth 100000 in
set_option maxHeartbeats 2000000 in
theorem round3 (v0 v15 v16 v18 v19 : Value) (al : Option Addr) (n cl x : Nat) (ns : List Int) (W : World) (hn : n ≤ 10) (hv : Ints W (.slice al n cl) ns) (hR : ns.all isR = true)
    (Q : Exit → Act → World → Prop) (k : Nat) (a : Act) (wr : World) (hk : k < 8) (h : I3 v0 v15 v16 v18 v19 al n cl x ns W k a wr) :
    Code.wp Try.prog (loopAt Try.f5.body 2) (Exit.then (fun a' w' => I3 v0 v15 v16 v18 v19 al n cl x ns W (k + 1) a' w') Q) a wr := by
  have HB := Bx.mk (mk_bits ns hR k)
  have HM := Bx.mk (mkN_lt ns hR)
  have HV := Bx.mk hv
  have HN := Bx.mk hn
  obtain ⟨xx, rfl, hxx⟩ := open195 h.fr
  have e0 := (hxx 0).symm.trans h.s0
  have e2 := (hxx 2).symm.trans h.s2
  have e7 := (hxx 7).symm.trans h.s7
  have e9 := (hxx 9).symm.trans h.s9
  have e11 := (hxx 11).symm.trans h.s11
  have e15 := (hxx 15).symm.trans h.s15
  have e16 := (hxx 16).symm.trans h.s16
  have e18 := (hxx 18).symm.trans h.s18
  have e19 := (hxx 19).symm.trans h.s19
  have e20 := (hxx 20).symm.trans h.s20
  have ew := h.w
  subst ew
  clear h hxx hv hR
  rw [e0, e2, e7, e9, e11, e15, e16, e18, e19, e20]
  clear e0 e2 e7 e9 e11 e15 e16 e18 e19 e20
  conv => arg 2; whnf
  have hk1 : (k : Int) < 8 := by omega
  go_wp2
  refine loop4 v0 (.int .i64 (mkN ns : Int)) v15 v16 v18 v19 al n cl x ns k wr HN.out HV.out _ _ _ ⟨⟨rfl, rfl⟩, rfl, rfl, rfl, rfl, rfl, rfl, rfl, rfl, rfl, rfl, rfl, rfl, rfl⟩ ?_
  intro a' w' h
  obtain ⟨xx, rfl, hxx⟩ := open195 h.fr
  have e0 := (hxx 0).symm.trans h.s0
  have e2 := (hxx 2).symm.trans h.s2
  have e7 := (hxx 7).symm.trans h.s7
  have e9 := (hxx 9).symm.trans h.s9
  have e11 := (hxx 11).symm.trans h.s11
  have e15 := (hxx 15).symm.trans h.s15
  have e16 := (hxx 16).symm.trans h.s16
  have e18 := (hxx 18).symm.trans h.s18
  have e19 := (hxx 19).symm.trans h.s19
  have e20 := (hxx 20).symm.trans h.s20
  have e21 := (hxx 21).symm.trans h.s21
  have e22 := (hxx 22).symm.trans h.s22
  have ew := h.w
  subst ew
  clear h hxx
  rw [e0, e2, e7, e9, e11, e15, e16, e18, e19, e20, e21, e22]
  clear e0 e2 e7 e9 e11 e15 e16 e18 e19 e20 e21 e22
  have HT : Bx ((ns.take n).any (fun z => decide (z = (k : Int))) = bitN (mkN ns) k) := Bx.mk (by
    obtain ⟨a', cap', hvv, -⟩ := HV.out
    injection hvv with e1 e2 e3
    rw [HB.out, List.take_of_length_le (by omega)])
  rw [HT.out]
  clear HT HB HV HN
  go_wp2_with fail
  refine (bit_any (mkN ns) k _ HM.out hk).mono ?_
  rintro e w1 ⟨rfl, hw⟩
  rw [hw]
  clear hw w1
  go_wp2
  exact ⟨⟨rfl, rfl⟩, rfl, rfl, rfl, rfl, rfl, rfl, rfl, rfl, rfl, by first | rfl | go_num, rfl⟩
set_option maxRecDepth 100000 in
set_option maxHeartbeats 2000000 in
theorem last3 (v0 v15 v16 v18 v19 : Value) (al : Option Addr) (n cl x : Nat) (ns : List Int) (W : World)
    (Q : Exit → Act → World → Prop) (N : Act → World → Prop) (hq : ∀ a' w', I3 v0 v15 v16 v18 v19 al n cl x ns W 8 a' w' → Q (.exit 4) a' w') (a : Act) (wr : World) (h : I3 v0 v15 v16 v18 v19 al n cl x ns W 8 a wr) :
    Code.wp Try.prog (loopAt Try.f5.body 2) (Exit.then N Q) a wr := by
  have HQ := Bx.mk hq
  clear hq
  obtain ⟨xx, rfl, hxx⟩ := open195 h.fr
  have e0 := (hxx 0).symm.trans h.s0
  have e2 := (hxx 2).symm.trans h.s2
  have e7 := (hxx 7).symm.trans h.s7
  have e9 := (hxx 9).symm.trans h.s9
  have e11 := (hxx 11).symm.trans h.s11
  have e15 := (hxx 15).symm.trans h.s15
  have e16 := (hxx 16).symm.trans h.s16
  have e18 := (hxx 18).symm.trans h.s18
  have e19 := (hxx 19).symm.trans h.s19
  have e20 := (hxx 20).symm.trans h.s20
  have ew := h.w
  subst ew
  clear h hxx
  rw [e0, e2, e7, e9, e11, e15, e16, e18, e19, e20]
  clear e0 e2 e7 e9 e11 e15 e16 e18 e19 e20
  conv => arg 2; whnf
  go_wp2
  refine HQ.out _ _ ?_
  exact ⟨⟨rfl, rfl⟩, rfl, rfl, rfl, rfl, rfl, rfl, rfl, rfl, rfl, rfl, rfl⟩
theorem loop3 (v0 v15 v16 v18 v19 : Value) (al : Option Addr) (n cl x : Nat) (ns : List Int) (W : World) (hn : n ≤ 10) (hv : Ints W (.slice al n cl) ns) (hR : ns.all isR = true)
    (Q : Exit → Act → World → Prop) (a : Act) (wr : World) (h : I3 v0 v15 v16 v18 v19 al n cl x ns W 0 a wr) (hq : ∀ a' w', I3 v0 v15 v16 v18 v19 al n cl x ns W 8 a' w' → Q (.exit 4) a' w') :
    Code.wp Try.prog (.loop (loopAt Try.f5.body 2)) Q a wr :=
  wp_count 8 (fun k a w' => I3 v0 v15 v16 v18 v19 al n cl x ns W k a w') 0 (Nat.zero_le _) h (fun k a w' hk hI => round3 v0 v15 v16 v18 v19 al n cl x ns W hn hv hR Q k a w' hk hI) (fun a w' hI => last3 v0 v15 v16 v18 v19 al n cl x ns W Q _ hq a w' hI)
end Go.Proofs.Ytiomjknhlfhlhaa
