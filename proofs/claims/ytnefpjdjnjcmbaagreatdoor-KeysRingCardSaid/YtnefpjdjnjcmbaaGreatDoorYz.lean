/-
  The document's side and the ring's, beside one another.
-/
import Derived.Test.YtnefpjdjnjcmbaaGreatDoorYx
namespace Go.Proofs.YtnefpjdjnjcmbaaGreatDoor
open Go Go.RowKit
theorem KP.cell {R L B : Nat} {W W1 : World} (k : KP R L B W W1) {g i : Nat} {u : Value} (h : W.cell? ⟨g, i, none⟩ = some u) (hR : g ≠ R) (hL : g ≠ L) : W1.cell? ⟨g, i, none⟩ = some u := by
  unfold World.cell? at h ⊢
  simp only at h ⊢
  cases hg : W.heap[g]? with
  | none => rw [hg] at h; cases h
  | some o =>
    rw [hg] at h
    cases o with
    | cells c t f => rw [k.block g _ hg hR hL (.inr rfl)]; exact h
    | _ => cases h
/-- Bytes apart from two blocks. -/
def FB (R L : Nat) (W : World) (v : Value) (bs : List UInt8) : Prop := Bytes W v bs ∧ ∀ ad n cap, v = .slice (some ad) n cap → 0 < n → ad.block ≠ R ∧ ad.block ≠ L
theorem FB.keep {R L B : Nat} {W W1 : World} {v : Value} {bs : List UInt8} (h : FB R L W v bs) (k : KP R L B W W1) : FB R L W1 v bs := by
  refine ⟨?_, h.2⟩
  obtain ⟨a, cap, hv, hc, hn, hr⟩ := h.1
  refine ⟨a, cap, hv, hc, hn, fun hp => ?_⟩
  obtain ⟨c, o, ha, hi⟩ := hr hp
  have hq := h.2 ⟨c, o, none⟩ _ _ (by rw [hv, ha]) hp
  exact ⟨c, o, ha, fun j hj => k.cell (hi j hj) hq.1 hq.2⟩
theorem atC_app {l r : List (Cl × Nat)} {c : Cl} {p : Nat} (h : atC l c = some p) : atC (l ++ r) c = some p := by
  unfold atC at h ⊢
  rw [Option.map_eq_some_iff] at h ⊢
  obtain ⟨x, hx, h2⟩ := h
  exact ⟨x, by rw [List.find?_append, hx]; rfl, h2⟩
theorem atC_filter (l : List (Cl × Nat)) {c d : Cl} (h : d ≠ c) : atC (l.filter fun y => decide (y.1 ≠ c)) d = atC l d := by
  unfold atC
  congr 1
  induction l with
  | nil => rfl
  | cons y l ih =>
    by_cases hy : y.1 = c
    · rw [List.filter_cons_of_neg (by simpa using hy), ih, List.find?_cons_of_neg]
      simp only [decide_eq_true_eq]
      exact fun e => h (e.symm.trans hy)
    · rw [List.filter_cons_of_pos (by simpa using hy)]
      by_cases hd : y.1 = d
      · rw [List.find?_cons_of_pos (by simpa using hd), List.find?_cons_of_pos (by simpa using hd)]
      · rw [List.find?_cons_of_neg (by simpa using hd), List.find?_cons_of_neg (by simpa using hd), ih]
theorem MapV.nd {W : World} {B : Nat} {mv : Value} {l : List (Cl × Nat)} (h : MapV W B mv l) : l.Pairwise (fun x y => x.1 ≠ y.1) := by
  rcases h with ⟨_, rfl⟩ | ⟨M, _, _, h⟩
  · exact List.Pairwise.nil
  · exact h.nd
/-- The two sides between two rounds. -/
structure RSt (R L B : Nat) (tk : List Value) (mv : Value) (lb : List Value) (l : List (Cl × Nat)) (vm : Value) (m : List (Cl × Value)) (ls : List Value) (W : World) : Prop where
  ring : RingAt W R tk mv lb
  map : MapV W B mv l
  low : R < B ∧ L < B ∧ R ≠ L ∧ B ≤ W.heap.size
  own : OwnE W B vm m
  srt : m.map (·.1) = sortC (l.map (·.1))
  few : m.length ≤ 16
  keys : ∀ y ∈ m, ∃ p bs, atC l y.1 = some p ∧ KeyO W B (ptr p) bs ∧ FB R L W y.2 bs ∧ bs.length ≤ 40
  row : W.heap[L]? = some (.cells ls.toArray 38 (0, 0)) ∧ ls.length = 8
  labs : ∀ r, r < 8 → (lb.getD r undef = .pointer none ∧ ls.getD r undef = .slice none 0 0) ∨ ∃ p bs, lb.getD r undef = ptr p ∧ KeyO W B (ptr p) bs ∧ FB R L W (ls.getD r undef) (1 :: bs) ∧ bs.length ≤ 40
theorem RSt.later {R L B : Nat} {tk : List Value} {mv : Value} {lb : List Value} {l : List (Cl × Nat)} {vm : Value} {m : List (Cl × Value)} {ls : List Value} {W W1 : World} (h : RSt R L B tk mv lb l vm m ls W) (hb : Below W.heap.size W W1) : RSt R L B tk mv lb l vm m ls W1 where
  ring := h.ring.later (hb.block R h.ring.lt)
  map := h.map.later hb
  low := ⟨h.low.1, h.low.2.1, h.low.2.2.1, Nat.le_trans h.low.2.2.2 hb.size⟩
  own := h.own.later hb
  srt := h.srt
  few := h.few
  keys y hy := by
    obtain ⟨p, bs, h1, h2, h3, h4⟩ := h.keys y hy
    exact ⟨p, bs, h1, h2.later hb, h3.keep (B := B) (KP.below hb), h4⟩
  row := ⟨by rw [hb.block L (Array.getElem?_eq_some_iff.1 h.row.1).1]; exact h.row.1, h.row.2⟩
  labs r hr := by
    rcases h.labs r hr with h0 | ⟨p, bs, h1, h2, h3, h4⟩
    · exact .inl h0
    · exact .inr ⟨p, bs, h1, h2.later hb, h3.keep (B := B) (KP.below hb), h4⟩
/-- A key is added, on both sides. -/
theorem RSt.add {R L B : Nat} {tk : List Value} {mv : Value} {lb : List Value} {l : List (Cl × Nat)} {vm : Value} {m : List (Cl × Value)} {ls : List Value} {W W1 W2 : World} (h : RSt R L B tk mv lb l vm m ls W)
    {c : Cl} {kv v' : Value} {bs : List UInt8} (hk : Kept R B tk lb l c bs W W1) (hb : Below W1.heap.size W1 W2) (ho : OwnE W2 W1.heap.size v' (insE (c, kv) m)) (hf : FB R L W kv bs) (hbl : bs.length ≤ 40) (hl : m.length < 16) :
    ∃ mv' l', RSt R L B tk mv' lb l' v' (insE (c, kv) m) ls W2 := by
  obtain ⟨M, p, hr, hM, hm, hko, kp⟩ := hk
  have kp2 : KP R L B W W2 := kp.weaken.trans (KP.below hb)
  have hm2 : MapL W2 M (l ++ [(c, p)]) := hm.later (hb.block M hm.lt)
  have hw1 : B ≤ W1.heap.size := Nat.le_trans h.low.2.2.2 kp.size
  refine ⟨.map (some M), l ++ [(c, p)], ?_⟩
  refine { ring := hr.later (hb.block R hr.lt), map := .inr ⟨M, rfl, hM, hm2⟩, low := ⟨h.low.1, h.low.2.1, h.low.2.2.1, Nat.le_trans hw1 hb.size⟩, own := ho.weak hw1, srt := ?_, few := ?_, keys := fun y hy => ?_, row := ⟨?_, h.row.2⟩, labs := fun r hr8 => ?_ }
  · rw [sort_ins h.srt (c, kv), List.map_append]; rfl
  · rw [insE_length]; omega
  · rcases List.mem_cons.1 ((insE_perm (c, kv) m).subset hy) with rfl | hy
    · refine ⟨p, bs, atC_some (x := (c, p)) hm2.nd (by simp), (hko.later hb).weak h.low.2.2.2, hf.keep kp2, hbl⟩
    · obtain ⟨q, b2, h1, h2, h3, h4⟩ := h.keys y hy
      exact ⟨q, b2, atC_app h1, h2.keep kp2 h.low.1 h.low.2.1, h3.keep kp2, h4⟩
  · rw [hb.block L (Nat.lt_of_lt_of_le (Array.getElem?_eq_some_iff.1 h.row.1).1 kp.size)]
    exact kp.block L _ h.row.1 (Ne.symm h.low.2.2.1) (Ne.symm h.low.2.2.1) (.inr rfl)
  · rcases h.labs r hr8 with h0 | ⟨q, b2, h1, h2, h3, h4⟩
    · exact .inl h0
    · exact .inr ⟨q, b2, h1, h2.keep kp2 h.low.1 h.low.2.1, h3.keep kp2, h4⟩
/-- A key is dropped, on both sides. -/
theorem RSt.drop {R L B : Nat} {tk : List Value} {mv : Value} {lb : List Value} {l : List (Cl × Nat)} {vm : Value} {m : List (Cl × Value)} {ls : List Value} {W W1 W2 : World} (h : RSt R L B tk mv lb l vm m ls W)
    {k : Nat} {v' : Value} (hk : k < m.length) (h3 : Ring3 R B tk mv lb (l.filter fun y => decide (y.1 ≠ (m.getD k e0).1)) W W1) (hb : Below W1.heap.size W1 W2) (ho : OwnE W2 W1.heap.size v' (m.eraseIdx k)) :
    RSt R L B tk mv lb (l.filter fun y => decide (y.1 ≠ (m.getD k e0).1)) v' (m.eraseIdx k) ls W2 := by
  obtain ⟨hr, hm, kp⟩ := h3
  have kp2 : KP R L B W W2 := kp.weaken.trans (KP.below hb)
  have hw1 : B ≤ W1.heap.size := Nat.le_trans h.low.2.2.2 kp.size
  have hs := sort_erase h.map.nd h.srt hk
  refine { ring := hr.later (hb.block R hr.lt), map := hm.later hb, low := ⟨h.low.1, h.low.2.1, h.low.2.2.1, Nat.le_trans hw1 hb.size⟩, own := ho.weak hw1, srt := hs, few := ?_, keys := fun y hy => ?_, row := ⟨?_, h.row.2⟩, labs := fun r hr8 => ?_ }
  · have := h.few
    have := (List.eraseIdx_sublist m k).length_le
    omega
  · obtain ⟨q, b2, h1, h2, h3, h4⟩ := h.keys y (List.mem_of_mem_eraseIdx hy)
    refine ⟨q, b2, ?_, h2.keep kp2 h.low.1 h.low.2.1, h3.keep kp2, h4⟩
    have hne : y.1 ≠ (m.getD k e0).1 := by
      have h5 : y.1 ∈ (m.eraseIdx k).map (·.1) := List.mem_map.2 ⟨y, hy, rfl⟩
      rw [hs] at h5
      obtain ⟨z, hz, h6⟩ := List.mem_map.1 ((sortC_perm _).mem_iff.1 h5)
      have h7 := (List.mem_filter.1 hz).2
      rw [← h6]
      simpa using h7
    rw [atC_filter l hne]
    exact h1
  · rw [hb.block L (Nat.lt_of_lt_of_le (Array.getElem?_eq_some_iff.1 h.row.1).1 kp.size)]
    exact kp.block L _ h.row.1 (Ne.symm h.low.2.2.1) (Ne.symm h.low.2.2.1) (.inr rfl)
  · rcases h.labs r hr8 with h0 | ⟨q, b2, h1, h2, h3, h4⟩
    · exact .inl h0
    · exact .inr ⟨q, b2, h1, h2.keep kp2 h.low.1 h.low.2.1, h3.keep kp2, h4⟩
theorem MapV.grown {W W1 : World} {B j : Nat} {mv : Value} {l : List (Cl × Nat)} (h : MapV W B mv l) (hg : W.grownBy W1 (some j)) (hj : j < B) : MapV W1 B mv l := by
  rcases h with h | ⟨M, h1, h2, h3⟩
  · exact .inl h
  · exact .inr ⟨M, h1, h2, h3.later (hg.block M h3.lt (fun e => by injection e with e; omega))⟩
/-- A role's key is learnt, on both sides. -/
theorem RSt.learn {R L B : Nat} {tk : List Value} {mv : Value} {lb : List Value} {l : List (Cl × Nat)} {vm : Value} {m : List (Cl × Value)} {ls : List Value} {W W1 Wa W2 : World} (h : RSt R L B tk mv lb l vm m ls W)
    {r : Nat} {bs : List UInt8} {lv : Value} (hr8 : r < 8) (hl : Learnt R tk mv lb r bs W W1) (hb : Below W1.heap.size W1 Wa) (hg : Wa.grownBy W2 (some L)) (hrow : W2.heap[L]? = some (.cells (ls.set r lv).toArray 38 (0, 0))) (hf : FB R L W2 lv (1 :: bs)) (hbl : bs.length ≤ 40) :
    ∃ lb', RSt R L B tk mv lb' l vm m (ls.set r lv) W2 := by
  obtain ⟨p, hr, hko, Wx, hx, hgx⟩ := hl
  have kp1 : KP R L B W W1 := (KP.below hx).trans (KP.by_ hgx (.inl rfl))
  have kp2 : KP R L B W1 W2 := (KP.below hb).trans (KP.by_ hg (.inr (.inl rfl)))
  have kp3 : KP R L B W W2 := kp1.trans kp2
  have hR2 : W2.heap[R]? = W1.heap[R]? := by
    rw [hg.block R (Nat.lt_of_lt_of_le hr.lt hb.size) (fun e => h.low.2.2.1 (by injection e)), hb.block R hr.lt]
  refine ⟨lb.set r (ptr p), ?_⟩
  refine { ring := hr.later hR2, map := (((h.map.later hx).grown hgx h.low.1).later hb).grown hg h.low.2.1, low := ⟨h.low.1, h.low.2.1, h.low.2.2.1, Nat.le_trans h.low.2.2.2 kp3.size⟩, own := h.own.keep kp3 h.low.1 h.low.2.1, srt := h.srt, few := h.few, keys := fun y hy => ?_, row := ⟨hrow, by rw [List.length_set]; exact h.row.2⟩, labs := fun z hz => ?_ }
  · obtain ⟨q, b2, h1, h2, h3, h4⟩ := h.keys y hy
    exact ⟨q, b2, h1, h2.keep kp3 h.low.1 h.low.2.1, h3.keep kp3, h4⟩
  · by_cases hzr : z = r
    · subst hzr
      refine .inr ⟨p, bs, ?_, (hko.weak h.low.2.2.2).keep kp2 h.low.1 h.low.2.1, ?_, hbl⟩
      · have := h.ring.lbl
        simp [show z < lb.length by omega]
      · have := h.row.2
        have e : (ls.set z lv).getD z undef = lv := by simp [show z < ls.length by omega]
        rw [e]
        exact hf
    · have e1 : (lb.set r (ptr p)).getD z undef = lb.getD z undef := by simp [List.getD_eq_getElem?_getD, List.getElem?_set_ne (Ne.symm hzr)]
      have e2 : (ls.set r lv).getD z undef = ls.getD z undef := by simp [List.getD_eq_getElem?_getD, List.getElem?_set_ne (Ne.symm hzr)]
      rw [e1, e2]
      rcases h.labs z hz with h0 | ⟨q, b2, h1, h2, h3, h4⟩
      · exact .inl h0
      · exact .inr ⟨q, b2, h1, h2.keep kp3 h.low.1 h.low.2.1, h3.keep kp3, h4⟩
end Go.Proofs.YtnefpjdjnjcmbaaGreatDoor
namespace Go.Proofs.YtnefpjdjnjcmbaaGreatDoor
open Go Go.RowKit
/-- Calls behind a slice, apart from two blocks. -/
def ActsF (R L : Nat) (w : World) (v : Value) (acs : List Ac) : Prop :=
  ∃ a cap, v = .slice a acs.length cap ∧ (0 < acs.length → ∃ b o, a = some ⟨b, o, none⟩ ∧ b ≠ R ∧ b ≠ L ∧ ∀ i, i < acs.length → ∃ vb, w.rangeAt b (o + i * 7) [.int .i64 (acs.getD i Ac.zero).kd, .int .i64 (acs.getD i Ac.zero).ro, .int .i64 (acs.getD i Ac.zero).c.id, .int .i64 (acs.getD i Ac.zero).c.ro, .int .i64 (acs.getD i Ac.zero).c.ex, .int .i64 (acs.getD i Ac.zero).c.se, vb] ∧ FB R L w vb (acs.getD i Ac.zero).k ∧ (acs.getD i Ac.zero).fit)
theorem ActsF.keep {R L B : Nat} {w w1 : World} {v : Value} {acs : List Ac} (h : ActsF R L w v acs) (k : KP R L B w w1) : ActsF R L w1 v acs := by
  obtain ⟨a, cap, hv, hr⟩ := h
  refine ⟨a, cap, hv, fun hp => ?_⟩
  obtain ⟨b, o, ha, hR, hL, hi⟩ := hr hp
  refine ⟨b, o, ha, hR, hL, fun i hil => ?_⟩
  obtain ⟨vb, h1, h2, h3⟩ := hi i hil
  exact ⟨vb, fun j u hj => k.cell (h1 j u hj) hR hL, h2.keep k, h3⟩
theorem FB.of {R L : Nat} {w W : World} {v : Value} {bs : List UInt8} (h : Bytes w v bs) (hb : Below w.heap.size w W) (hR : w.heap.size ≤ R) (hL : w.heap.size ≤ L) : FB R L W v bs := by
  refine ⟨h.later hb, fun ad n cap hv hn => ?_⟩
  obtain ⟨a, cap', hv', -, -, hr⟩ := h
  rw [hv'] at hv
  injection hv with p1 p2 p3
  obtain ⟨c, o, ha, hi⟩ := hr (by omega)
  rw [ha] at p1
  injection p1 with p1
  have h1 := World.block_lt_of_cell? _ _ (hi 0 (by omega))
  rw [← p1]
  simp only at h1 ⊢
  omega
theorem Acts.apart {R L : Nat} {w W : World} {v : Value} {acs : List Ac} (h : Acts w v acs) (hb : Below w.heap.size w W) (hR : w.heap.size ≤ R) (hL : w.heap.size ≤ L) : ActsF R L W v acs := by
  obtain ⟨a, cap, hv, -, -, hr⟩ := h
  refine ⟨a, cap, hv, fun hp => ?_⟩
  obtain ⟨b, o, ha, hi⟩ := hr hp
  have hlt : b < w.heap.size := by
    obtain ⟨vb, h1, -⟩ := hi 0 hp
    exact World.block_lt_of_cell? _ _ (h1 0 _ rfl)
  refine ⟨b, o, ha, by omega, by omega, fun i hil => ?_⟩
  obtain ⟨vb, h1, h2, h3⟩ := hi i hil
  exact ⟨vb, range_acts h1 hb, FB.of h2 hb hR hL, h3⟩
end Go.Proofs.YtnefpjdjnjcmbaaGreatDoor
namespace Go.Proofs.YtnefpjdjnjcmbaaGreatDoor
open Go Go.RowKit
set_option maxRecDepth 100000 in
theorem open351 {a : Act} (h : Fr 351 a) : ∃ x : Nat → Value, a = ⟨List.toArray (x 0 :: x 1 :: x 2 :: x 3 :: x 4 :: x 5 :: x 6 :: x 7 :: x 8 :: x 9 :: x 10 :: x 11 :: x 12 :: x 13 :: x 14 :: x 15 :: x 16 :: x 17 :: x 18 :: x 19 :: x 20 :: x 21 :: x 22 :: x 23 :: x 24 :: x 25 :: x 26 :: x 27 :: x 28 :: x 29 :: x 30 :: x 31 :: x 32 :: x 33 :: x 34 :: x 35 :: x 36 :: x 37 :: x 38 :: x 39 :: x 40 :: x 41 :: x 42 :: x 43 :: x 44 :: x 45 :: x 46 :: x 47 :: x 48 :: x 49 :: x 50 :: x 51 :: x 52 :: x 53 :: x 54 :: x 55 :: x 56 :: x 57 :: x 58 :: x 59 :: x 60 :: x 61 :: x 62 :: x 63 :: x 64 :: x 65 :: x 66 :: x 67 :: x 68 :: x 69 :: x 70 :: x 71 :: x 72 :: x 73 :: x 74 :: x 75 :: x 76 :: x 77 :: x 78 :: x 79 :: x 80 :: x 81 :: x 82 :: x 83 :: x 84 :: x 85 :: x 86 :: x 87 :: x 88 :: x 89 :: x 90 :: x 91 :: x 92 :: x 93 :: x 94 :: x 95 :: x 96 :: x 97 :: x 98 :: x 99 :: x 100 :: x 101 :: x 102 :: x 103 :: x 104 :: x 105 :: x 106 :: x 107 :: x 108 :: x 109 :: x 110 :: x 111 :: x 112 :: x 113 :: x 114 :: x 115 :: x 116 :: x 117 :: x 118 :: x 119 :: x 120 :: x 121 :: x 122 :: x 123 :: x 124 :: x 125 :: x 126 :: x 127 :: x 128 :: x 129 :: x 130 :: x 131 :: x 132 :: x 133 :: x 134 :: x 135 :: x 136 :: x 137 :: x 138 :: x 139 :: x 140 :: x 141 :: x 142 :: x 143 :: x 144 :: x 145 :: x 146 :: x 147 :: x 148 :: x 149 :: x 150 :: x 151 :: x 152 :: x 153 :: x 154 :: x 155 :: x 156 :: x 157 :: x 158 :: x 159 :: x 160 :: x 161 :: x 162 :: x 163 :: x 164 :: x 165 :: x 166 :: x 167 :: x 168 :: x 169 :: x 170 :: x 171 :: x 172 :: x 173 :: x 174 :: x 175 :: x 176 :: x 177 :: x 178 :: x 179 :: x 180 :: x 181 :: x 182 :: x 183 :: x 184 :: x 185 :: x 186 :: x 187 :: x 188 :: x 189 :: x 190 :: x 191 :: x 192 :: x 193 :: x 194 :: x 195 :: x 196 :: x 197 :: x 198 :: x 199 :: x 200 :: x 201 :: x 202 :: x 203 :: x 204 :: x 205 :: x 206 :: x 207 :: x 208 :: x 209 :: x 210 :: x 211 :: x 212 :: x 213 :: x 214 :: x 215 :: x 216 :: x 217 :: x 218 :: x 219 :: x 220 :: x 221 :: x 222 :: x 223 :: x 224 :: x 225 :: x 226 :: x 227 :: x 228 :: x 229 :: x 230 :: x 231 :: x 232 :: x 233 :: x 234 :: x 235 :: x 236 :: x 237 :: x 238 :: x 239 :: x 240 :: x 241 :: x 242 :: x 243 :: x 244 :: x 245 :: x 246 :: x 247 :: x 248 :: x 249 :: x 250 :: x 251 :: x 252 :: x 253 :: x 254 :: x 255 :: x 256 :: x 257 :: x 258 :: x 259 :: x 260 :: x 261 :: x 262 :: x 263 :: x 264 :: x 265 :: x 266 :: x 267 :: x 268 :: x 269 :: x 270 :: x 271 :: x 272 :: x 273 :: x 274 :: x 275 :: x 276 :: x 277 :: x 278 :: x 279 :: x 280 :: x 281 :: x 282 :: x 283 :: x 284 :: x 285 :: x 286 :: x 287 :: x 288 :: x 289 :: x 290 :: x 291 :: x 292 :: x 293 :: x 294 :: x 295 :: x 296 :: x 297 :: x 298 :: x 299 :: x 300 :: x 301 :: x 302 :: x 303 :: x 304 :: x 305 :: x 306 :: x 307 :: x 308 :: x 309 :: x 310 :: x 311 :: x 312 :: x 313 :: x 314 :: x 315 :: x 316 :: x 317 :: x 318 :: x 319 :: x 320 :: x 321 :: x 322 :: x 323 :: x 324 :: x 325 :: x 326 :: x 327 :: x 328 :: x 329 :: x 330 :: x 331 :: x 332 :: x 333 :: x 334 :: x 335 :: x 336 :: x 337 :: x 338 :: x 339 :: x 340 :: x 341 :: x 342 :: x 343 :: x 344 :: x 345 :: x 346 :: x 347 :: x 348 :: x 349 :: x 350 :: []), []⟩ ∧ ∀ i, a.eval (.tmp i) = x i := ⟨fun i => a.tmps.getD i undef, h.form, fun _ => rfl⟩
/-- What the inner loop leaves alone. -/
structure RF (v2 v3 v4 v11 v12 v14 v15 v16 v30 : Value) (a : Act) : Prop where
  fr : Fr 351 a
  s2 : a.eval (.tmp 2) = v2
  s3 : a.eval (.tmp 3) = v3
  s4 : a.eval (.tmp 4) = v4
  s11 : a.eval (.tmp 11) = v11
  s12 : a.eval (.tmp 12) = v12
  s14 : a.eval (.tmp 14) = v14
  s15 : a.eval (.tmp 15) = v15
  s16 : a.eval (.tmp 16) = v16
  s30 : a.eval (.tmp 30) = v30
set_option maxRecDepth 100000 in
set_option maxHeartbeats 4000000 in
theorem roundK (w : World) (B : Nat) (m : List (Cl × Value)) (va vb : Option Addr) (n n1 c1 c2 : Nat) (v2 v3 v4 v11 v12 v15 v16 : Value) (hm : OwnE w B (.slice va n c1) m) (hr : RowC w (.slice vb n1 c2) (m.map (·.1))) (hn : m.length = n) (hnl : n ≤ 16)
    (Q : Exit → Act → World → Prop) (k : Nat) (a : Act) (wr : World) (hk : k < n) (h : RF v2 v3 v4 v11 v12 (.slice va n c1) v15 v16 (.slice vb n1 c2) a) (h31 : a.eval (.tmp 31) = .int .i64 (k : Int)) (hb : Below w.heap.size w wr) :
    Code.wp Tryz.prog (loopAt (Tryz.f3.body) 1) (Exit.then (fun a' w' => RF v2 v3 v4 v11 v12 (.slice va n c1) v15 v16 (.slice vb n1 c2) a' ∧ a'.eval (.tmp 31) = .int .i64 ((k + 1 : Nat) : Int) ∧ Below w.heap.size w w') Q) a wr := by
  obtain ⟨g, cap, hv, hcap, hg⟩ := (hm.later hb).at_ k (by omega)
  rw [hn] at hv
  injection hv with p1 p2 p3
  subst p1 p3
  obtain ⟨⟨⟨yi, yr, yx, yq⟩, yv⟩, hy⟩ : ∃ y, m.getD k e0 = y := ⟨_, rfl⟩
  rw [hy] at hg
  have hmk : (m.map (·.1)).getD k c0 = ⟨yi, yr, yx, yq⟩ := by
    have h1 : k < m.length := by omega
    have h2 : (m.map (·.1)).getD k c0 = (m.getD k e0).1 := by simp only [List.getD_eq_getElem?_getD, List.getElem?_map, List.getElem?_eq_getElem h1, Option.map_some, Option.getD_some]
    rw [h2, hy]
  rcases hr.later hb with ⟨h0, -⟩ | ⟨g2, cap2, hv2, hrow⟩
  · have := congrArg List.length h0
    rw [List.length_map] at this
    simp only [List.length_nil] at this
    omega
  injection hv2 with p4 p5 p6
  have hlm : (m.map (·.1)).length = n := by rw [List.length_map, hn]
  rw [hlm] at p5
  subst p4
  subst n1
  subst p6
  have hg2 := hrow k (by omega)
  rw [hmk] at hg2
  have hR : wr.rangeAt g2 (k * 4) [.int .i64 yi, .int .i64 yr, .int .i64 yx, .int .i64 yq] := hg2
  have hE : wr.rangeAt g (k * 5) [.int .i64 yi, .int .i64 yr, .int .i64 yx, .int .i64 yq] := range4 hg
  have HK : Bx (∀ W, Below wr.heap.size wr W → W.rangeAt g2 (k * 4) [.int .i64 yi, .int .i64 yr, .int .i64 yx, .int .i64 yq] ∧ W.rangeAt g (k * 5) [.int .i64 yi, .int .i64 yr, .int .i64 yx, .int .i64 yq]) := Bx.mk fun W hb => ⟨range_acts hR hb, range_acts hE hb⟩
  have HW := Bx.mk hb
  have HOf := Bx.mk fun (W : World) => cof_any ⟨yi, yr, yx, yq⟩ W
  unfold clV at HOf
  simp only at HOf
  have hself := fun W : World => self_cl_neq 24 (.inr rfl) ⟨yi, yr, yx, yq⟩ W
  unfold clC at hself
  simp only at hself
  have hk1 : (k : Int) < (n : Int) := by omega
  have hk0 : (0 : Int) ≤ (k : Int) := by omega
  have hn1 : (n : Int) ≤ 16 := by omega
  obtain ⟨x, rfl, hx⟩ := open351 h.fr
  have e31 := (hx 31).symm.trans h31
  have e2 := (hx 2).symm.trans h.s2
  have e3 := (hx 3).symm.trans h.s3
  have e4 := (hx 4).symm.trans h.s4
  have e11 := (hx 11).symm.trans h.s11
  have e12 := (hx 12).symm.trans h.s12
  have e14 := (hx 14).symm.trans h.s14
  have e15 := (hx 15).symm.trans h.s15
  have e16 := (hx 16).symm.trans h.s16
  have e30 := (hx 30).symm.trans h.s30
  clear h hx h31 hg hrow hg2 hR hE hmk hlm hy hr hm p2 hb hcap hn
  rw [e2, e3, e4, e11, e12, e14, e15, e16, e30, e31]
  clear e2 e3 e4 e11 e12 e14 e15 e16 e30 e31
  conv => arg 2; whnf
  go_upto_region 65 with fail
  refine wp_region_noPanic ?_
  refine wp_region_held_drew (S := fun W => W.rangeAt g2 (k * 4) [.int .i64 yi, .int .i64 yr, .int .i64 yx, .int .i64 yq] ∧ W.rangeAt g (k * 5) [.int .i64 yi, .int .i64 yr, .int .i64 yx, .int .i64 yq]) (by kernel_rfl) (HK.out _ (Below.refl _ _).drew) (fun hHeld => ?_)
  have R0 := Bx.mk ((Below.refl wr.heap.size wr).drew)
  generalize wr.drew = W0 at *
  refine takeL 0 (v := ?_) rfl (by kernel_rfl) (by kernel_rfl) (by kernel_rfl) (fun _ _ _ h => h) (Or.inl ⟨by rfl, ?_⟩) hHeld ?_
  rotate_left 1
  · (intro w hSw; go_simp; try with_reducible rfl)
  try simp only [Act.put, List.setIfInBounds_toArray, List.set_cons_zero, List.set_cons_succ]
  refine takeL 1 (v := ?_) rfl (by kernel_rfl) (by kernel_rfl) (by kernel_rfl) (fun _ _ _ h => h) (Or.inl ⟨by rfl, ?_⟩) hHeld ?_
  rotate_left 1
  · (intro w hSw; go_simp; try with_reducible rfl)
  try simp only [Act.put, List.setIfInBounds_toArray, List.set_cons_zero, List.set_cons_succ]
  refine takeL 2 (v := ?_) rfl (by kernel_rfl) (by kernel_rfl) (by kernel_rfl) (fun _ _ _ h => h) (Or.inl ⟨by rfl, ?_⟩) hHeld ?_
  rotate_left 1
  · (intro w hSw; go_simp; try with_reducible rfl)
  try simp only [Act.put, List.setIfInBounds_toArray, List.set_cons_zero, List.set_cons_succ]
  refine takeL 3 rfl (by kernel_rfl) (by kernel_rfl) (by kernel_rfl) (fun _ _ _ h => h) (yieldsIf_load_mid (by rfl) _ _ rfl _ _ rfl _ _ (fun w hSw => hSw.1) Tryz.underlying26 rfl (by kernel_rfl)) hHeld ?_
  try simp only [Act.put, List.setIfInBounds_toArray, List.set_cons_zero, List.set_cons_succ]
  refine takeL 5 (v := ?_) rfl (by kernel_rfl) (by kernel_rfl) (by kernel_rfl) (fun _ _ _ h => h) (Or.inl ⟨by rfl, ?_⟩) hHeld ?_
  rotate_left 1
  · (intro w hSw; go_simp; try with_reducible rfl)
  try simp only [Act.put, List.setIfInBounds_toArray, List.set_cons_zero, List.set_cons_succ]
  refine takeL 6 (v := ?_) rfl (by kernel_rfl) (by kernel_rfl) (by kernel_rfl) (fun _ _ _ h => h) (Or.inl ⟨by rfl, ?_⟩) hHeld ?_
  rotate_left 1
  · (intro w hSw; go_simp; try with_reducible rfl)
  try simp only [Act.put, List.setIfInBounds_toArray, List.set_cons_zero, List.set_cons_succ]
  refine takeL 7 (v := ?_) rfl (by kernel_rfl) (by kernel_rfl) (by kernel_rfl) (fun _ _ _ h => h) (Or.inl ⟨by rfl, ?_⟩) hHeld ?_
  rotate_left 1
  · (intro w hSw; go_simp; try with_reducible rfl)
  try simp only [Act.put, List.setIfInBounds_toArray, List.set_cons_zero, List.set_cons_succ]
  refine takeL 8 (v := ?_) rfl (by kernel_rfl) (by kernel_rfl) (by kernel_rfl) (fun _ _ _ h => h) (Or.inl ⟨by rfl, ?_⟩) hHeld ?_
  rotate_left 1
  · (intro w hSw; go_simp; try with_reducible rfl)
  try simp only [Act.put, List.setIfInBounds_toArray, List.set_cons_zero, List.set_cons_succ]
  refine takeL 9 rfl (by kernel_rfl) (by kernel_rfl) (by kernel_rfl) (fun _ _ _ h => h) (yieldsIf_load_mid (by rfl) _ _ rfl _ _ rfl _ _ (fun w hSw => hSw.2) Tryz.underlying24 rfl (by kernel_rfl)) hHeld ?_
  try simp only [Act.put, List.setIfInBounds_toArray, List.set_cons_zero, List.set_cons_succ]
  refine stepL 4 (by kernel_rfl) rfl (fun K hK => ?_)
  go_simp
  refine (HOf.out W0).mono ?_
  rintro e W1 ⟨rfl, hb⟩
  show K _ _
  have R1 := Bx.mk (R0.out.trans (hb.mono R0.out.size))
  clear hb R0
  refine hK.out _ _ (HK.out _ R1.out) (fun hHeld => ?_)
  clear hK K
  try simp only [Act.put, List.setIfInBounds_toArray, List.set_cons_zero, List.set_cons_succ]
  refine takeL 10 (v := ?_) rfl (by kernel_rfl) (by kernel_rfl) (by kernel_rfl) (fun _ _ _ h => h) (Or.inl ⟨by rfl, ?_⟩) hHeld ?_
  rotate_left 1
  · (intro w hSw; have h3 := hself w; go_simp; try with_reducible rfl)
  try simp only [Act.put, List.setIfInBounds_toArray, List.set_cons_zero, List.set_cons_succ]
  refine wpAnyH_done (by kernel_rfl) ?_ _
  refine NoPanic.normal ?_
  clear hHeld
  have B1 := Bx.mk (HW.out.trans (R1.out.mono HW.out.size))
  go_wp2
  exact ⟨⟨⟨rfl, rfl⟩, rfl, rfl, rfl, rfl, rfl, rfl, rfl, rfl, rfl⟩, by first | rfl | go_num, B1.out⟩
set_option maxRecDepth 100000 in
set_option maxHeartbeats 4000000 in
theorem lastK (w : World) (va vb : Option Addr) (n n1 c1 c2 : Nat) (v2 v3 v4 v11 v12 v15 v16 : Value) (hnl : n ≤ 16)
    (Q : Exit → Act → World → Prop) (N : Act → World → Prop) (a : Act) (wr : World) (h : RF v2 v3 v4 v11 v12 (.slice va n c1) v15 v16 (.slice vb n1 c2) a) (h31 : a.eval (.tmp 31) = .int .i64 (n : Int)) (hb : Below w.heap.size w wr)
    (hq : ∀ a' w', RF v2 v3 v4 v11 v12 (.slice va n c1) v15 v16 (.slice vb n1 c2) a' → Below w.heap.size w w' → Q (.exit 3) a' w') :
    Code.wp Tryz.prog (loopAt (Tryz.f3.body) 1) (Exit.then N Q) a wr := by
  have HQ := Bx.mk hq
  have HW := Bx.mk hb
  have hn1 : (n : Int) ≤ 16 := by omega
  obtain ⟨x, rfl, hx⟩ := open351 h.fr
  have e31 := (hx 31).symm.trans h31
  have e2 := (hx 2).symm.trans h.s2
  have e3 := (hx 3).symm.trans h.s3
  have e4 := (hx 4).symm.trans h.s4
  have e11 := (hx 11).symm.trans h.s11
  have e12 := (hx 12).symm.trans h.s12
  have e14 := (hx 14).symm.trans h.s14
  have e15 := (hx 15).symm.trans h.s15
  have e16 := (hx 16).symm.trans h.s16
  have e30 := (hx 30).symm.trans h.s30
  clear h hx h31 hb hq
  rw [e2, e3, e4, e11, e12, e14, e15, e16, e30, e31]
  clear e2 e3 e4 e11 e12 e14 e15 e16 e30 e31
  conv => arg 2; whnf
  go_wp2
  exact HQ.out _ _ ⟨⟨rfl, rfl⟩, rfl, rfl, rfl, rfl, rfl, rfl, rfl, rfl, rfl⟩ HW.out
theorem loopK (w : World) (B : Nat) (m : List (Cl × Value)) (va vb : Option Addr) (n n1 c1 c2 : Nat) (v2 v3 v4 v11 v12 v15 v16 : Value) (hm : OwnE w B (.slice va n c1) m) (hr : RowC w (.slice vb n1 c2) (m.map (·.1))) (hn : m.length = n) (hnl : n ≤ 16)
    (Q : Exit → Act → World → Prop) (a : Act) (h : RF v2 v3 v4 v11 v12 (.slice va n c1) v15 v16 (.slice vb n1 c2) a) (h31 : a.eval (.tmp 31) = .int .i64 0)
    (hq : ∀ a' w', RF v2 v3 v4 v11 v12 (.slice va n c1) v15 v16 (.slice vb n1 c2) a' → Below w.heap.size w w' → Q (.exit 3) a' w') :
    Code.wp Tryz.prog (.loop (loopAt (Tryz.f3.body) 1)) Q a w :=
  wp_count n (fun k a' w' => RF v2 v3 v4 v11 v12 (.slice va n c1) v15 v16 (.slice vb n1 c2) a' ∧ a'.eval (.tmp 31) = .int .i64 (k : Int) ∧ Below w.heap.size w w') 0 (Nat.zero_le _) ⟨h, h31, Below.refl _ _⟩
    (fun k a' w' hk hI => roundK w B m va vb n n1 c1 c2 v2 v3 v4 v11 v12 v15 v16 hm hr hn hnl Q k a' w' hk hI.1 hI.2.1 hI.2.2)
    (fun a' w' hI => lastK w va vb n n1 c1 c2 v2 v3 v4 v11 v12 v15 v16 hnl Q _ a' w' hI.1 hI.2.1 hI.2.2 hq)
end Go.Proofs.YtnefpjdjnjcmbaaGreatDoor
