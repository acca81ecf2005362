/-
  The walk of the digest of the document.
  Parts, and what stays while a digest runs.
-/
import Derived.Test.YtaoekfomffebhaaDoorAc
import Derived.Control
import Derived.WalkKit
import Derived.Deep.LoopGhost
import Derived.StillTailTactics
import Derived.Stop.BytesEq
import Derived.Deep.RegionHeld3
namespace Go.Proofs.YtaoekfomffebhaaDoor
open Go
/-- One byte more in a word. -/
theorem byte_more (x : BitVec 32) (b : UInt8) : ((256 : Int) * uv x + ub b) % (4294967296 : Int) = uv (x <<< 8 + wide b) := by
  rw [ub_wide, ← uv_add]
  have h := uv_shl x 8
  simp only [Int.reducePow] at h
  rw [← h]
  omega
/-- A word of k bytes. -/
def wk (m : List UInt8) (o : Nat) : Nat → BitVec 32
  | 0 => 0
  | k + 1 => wk m o k <<< 8 + wide (m.getD (o + k) 0)
theorem shl_add (x : BitVec 32) (b : UInt8) : x <<< 8 + wide b = x <<< 8 ||| wide b := by
  refine BitVec.add_eq_or_of_and_eq_zero _ _ ?_
  ext i hi
  simp only [BitVec.getElem_and, BitVec.getElem_zero]
  by_cases h : i < 8
  · rw [BitVec.getElem_shiftLeft]; simp [h]
  · unfold wide
    rw [BitVec.getElem_setWidth]
    have hb : b.toBitVec.getLsbD i = false := BitVec.getLsbD_of_ge _ _ (by omega)
    simp [hb]
theorem be32_is (a b c d : UInt8) : ((((0 : BitVec 32) <<< 8 + wide a) <<< 8 + wide b) <<< 8 + wide c) <<< 8 + wide d = be32 a b c d := by
  rw [shl_add, shl_add, shl_add, shl_add]
  unfold be32
  simp only [BitVec.shiftLeft_or_distrib, ← BitVec.shiftLeft_add]
  simp
theorem wk_four (m : List UInt8) (o : Nat) : wk m o 4 = be32 (m.getD o 0) (m.getD (o + 1) 0) (m.getD (o + 2) 0) (m.getD (o + 3) 0) := be32_is _ _ _ _
/-- The 64 places when j words are made. -/
def stW (bl : List UInt8) : Nat → List (BitVec 32)
  | 0 => List.replicate 64 0
  | j + 1 => if j < 16 then (stW bl j).set j (blockWord bl j) else (stW bl j).set j (nextWord (stW bl j) j)
theorem stW_length (bl : List UInt8) (j : Nat) : (stW bl j).length = 64 := by
  induction j with
  | zero => rfl
  | succ j ih => rw [stW]; split <;> rw [List.length_set, ih]
theorem stW_fill (bl : List UInt8) (j : Nat) (h : j ≤ 16) : stW bl j = fillW bl j := by
  induction j with
  | zero => rfl
  | succ j ih => rw [stW, if_pos (by omega), ih (by omega)]; rfl
theorem stW_more (bl : List UInt8) (i : Nat) : stW bl (16 + i) = moreW bl i := by
  induction i with
  | zero => exact stW_fill bl 16 (by omega)
  | succ i ih => rw [← Nat.add_assoc, stW, if_neg (by omega), ih]; rfl
theorem stW_words (bl : List UInt8) : stW bl 64 = words bl := stW_more bl 48
theorem stW_zero (bl : List UInt8) (j i : Nat) (h : j ≤ i) : (stW bl j).getD i 0 = 0 := by
  induction j with
  | zero =>
    show (List.replicate 64 (0 : BitVec 32)).getD i 0 = 0
    rw [List.getD_eq_getElem?_getD, List.getElem?_replicate]; split <;> rfl
  | succ j ih =>
    have ih' := ih (by omega)
    rw [stW]
    rw [List.getD_eq_getElem?_getD] at ih' ⊢
    split <;> rw [List.getElem?_set_ne (by omega)] <;> exact ih'
theorem blk_word (m : List UInt8) (k j : Nat) (hj : j < 16) : blockWord (blk k m) j = wk m (64 * k + 4 * j) 4 := by
  have e : ∀ i, i < 64 → (blk k m).getD i 0 = m.getD (64 * k + i) 0 := fun i hi => by
    unfold blk
    rw [List.getD_eq_getElem?_getD, List.getD_eq_getElem?_getD, List.getElem?_take, if_pos hi, List.getElem?_drop]
  rw [wk_four]
  unfold blockWord
  rw [e _ (by omega), e _ (by omega), e _ (by omega), e _ (by omega)]
  rfl
theorem set_same (l : List (BitVec 32)) (i : Nat) (h : l.getD i 0 = 0) : l.set i 0 = l := by
  apply List.ext_getElem?
  intro n
  by_cases hn : i = n
  · subst hn
    rw [List.getElem?_set]
    by_cases hl : i < l.length
    · rw [if_pos rfl, if_pos hl]
      have : l[i] = 0 := by simpa [hl] using h
      rw [List.getElem?_eq_getElem hl, this]
    · rw [if_pos rfl, if_neg hl, List.getElem?_eq_none (by omega)]
  · rw [List.getElem?_set_ne hn]
theorem sig_uv (x : BitVec 32) : bits BinOp.xor IntKind.u32 (bits BinOp.xor IntKind.u32 (uv (x.rotateRight 7)) (uv (x.rotateRight 18))) (uv x / (8 : Int)) = uv (sig x 7 18 3) := by
  have h := uv_shr x 3
  simp only [Int.reducePow] at h
  rw [h, uv_xor, uv_xor]; rfl
theorem sig_uw (x : BitVec 32) : bits BinOp.xor IntKind.u32 (bits BinOp.xor IntKind.u32 (uv (x.rotateRight 17)) (uv (x.rotateRight 19))) (uv x / (1024 : Int)) = uv (sig x 17 19 10) := by
  have h := uv_shr x 10
  simp only [Int.reducePow] at h
  rw [h, uv_xor, uv_xor]; rfl
theorem tur_uv (x : BitVec 32) (a b c : Nat) : bits BinOp.xor IntKind.u32 (bits BinOp.xor IntKind.u32 (uv (x.rotateRight a)) (uv (x.rotateRight b))) (uv (x.rotateRight c)) = uv (tur x a b c) := by
  rw [uv_xor, uv_xor]; rfl
theorem four_sum (a b c d : BitVec 32) : (uv a + uv b + uv c + uv d) % (4294967296 : Int) = uv (a + b + c + d) := by
  rw [← uv_add, ← uv_add, ← uv_add]; omega
/-- The eight words of a round, as the document's answer has them. -/
theorem low_or (s : Eight) (x k : BitVec 32) : s.h + tur s.e 6 11 25 + ((s.e &&& s.f) ||| (~~~ s.e &&& s.g)) + k + x = low s x k := by
  rw [choose_or]
  unfold low
  generalize tur s.e 6 11 25 = a
  generalize (s.e &&& s.f) ^^^ (~~~ s.e &&& s.g) = b
  generalize s.h = h
  ac_rfl
theorem high_or (s : Eight) : tur s.a 2 13 22 + (((s.a &&& s.b) ||| (s.a &&& s.c)) ||| (s.b &&& s.c)) = high s := by
  rw [most_or]
  rfl
end Go.Proofs.YtaoekfomffebhaaDoor
namespace Go.Proofs.YtaoekfomffebhaaDoor
open Go Go.RowKit
end Go.Proofs.YtaoekfomffebhaaDoor
namespace Go.Proofs.YtaoekfomffebhaaDoor
open Go Go.RowKit
/-- The eight bytes of how many bits there were. -/
def eight (t : Nat) : List UInt8 := four (BitVec.ofNat 32 (8 * t / 4294967296)) ++ four (BitVec.ofNat 32 (8 * t))
theorem pad_is (t : Nat) : padOf t = 128 :: (List.replicate (zerosOf t) 0 ++ eight t) := rfl
theorem one_128 (W : World) : Bytes (W.alloc (.cells #[.int .u8 128] 5)) (.slice (some ⟨W.heap.size, 0, none⟩) 1 1) [128] := built W [128]
theorem one_0 (W : World) : Bytes (W.alloc (.cells #[.int .u8 0] 5)) (.slice (some ⟨W.heap.size, 0, none⟩) 1 1) [0] := built W [0]
theorem eight_length (t : Nat) : (eight t).length = 8 := rfl
theorem eight_at (t i : Nat) (hi : i < 8) : 8 * t / 2 ^ (56 - 8 * i) % 256 = ((eight t).getD i 0).toNat := by
  match i, hi with
  | 0, _ => show 8 * t / 2 ^ 56 % 256 = (byteOf (BitVec.ofNat 32 (8 * t / 4294967296)) 3).toNat; rw [byteOf_toNat, BitVec.toNat_ofNat]; omega
  | 1, _ => show 8 * t / 2 ^ 48 % 256 = (byteOf (BitVec.ofNat 32 (8 * t / 4294967296)) 2).toNat; rw [byteOf_toNat, BitVec.toNat_ofNat]; omega
  | 2, _ => show 8 * t / 2 ^ 40 % 256 = (byteOf (BitVec.ofNat 32 (8 * t / 4294967296)) 1).toNat; rw [byteOf_toNat, BitVec.toNat_ofNat]; omega
  | 3, _ => show 8 * t / 2 ^ 32 % 256 = (byteOf (BitVec.ofNat 32 (8 * t / 4294967296)) 0).toNat; rw [byteOf_toNat, BitVec.toNat_ofNat]; omega
  | 4, _ => show 8 * t / 2 ^ 24 % 256 = (byteOf (BitVec.ofNat 32 (8 * t)) 3).toNat; rw [byteOf_toNat, BitVec.toNat_ofNat]; omega
  | 5, _ => show 8 * t / 2 ^ 16 % 256 = (byteOf (BitVec.ofNat 32 (8 * t)) 2).toNat; rw [byteOf_toNat, BitVec.toNat_ofNat]; omega
  | 6, _ => show 8 * t / 2 ^ 8 % 256 = (byteOf (BitVec.ofNat 32 (8 * t)) 1).toNat; rw [byteOf_toNat, BitVec.toNat_ofNat]; omega
  | 7, _ => show 8 * t / 2 ^ 0 % 256 = (byteOf (BitVec.ofNat 32 (8 * t)) 0).toNat; rw [byteOf_toNat, BitVec.toNat_ofNat]; omega
theorem eight_succ (t i : Nat) (hi : i < 8) : (eight t).take (i + 1) = (eight t).take i ++ [(eight t).getD i 0] := by
  have h : i < (eight t).length := hi
  rw [List.take_succ_eq_append_getElem h]
  simp [h]
/-- The memory of the document's digest: the table, the result's place, and the bytes with their padding. -/
structure RS (w : World) (tb : Array Value) (l : List UInt8) (v : Value) (wr : World) : Prop where
  below : Below w.heap.size w wr
  size : w.heap.size + 2 ≤ wr.heap.size
  tab : wr.heap[w.heap.size]? = some (.cells tb 45 (0, 0))
  res : wr.heap[w.heap.size + 1]? = some (.cells (u8s (List.replicate 32 0)) 27 (0, 0))
  own : OwnB wr (w.heap.size + 2) v l
theorem RS.alloc {w wr : World} {tb : Array Value} {l : List UInt8} {v : Value} (h : RS w tb l v wr) (o : Obj) : RS w tb l v (wr.alloc o) :=
  ⟨h.below.alloc h.below.size _, by have := h.size; simp; omega, by rw [hold _ _ _ (by have := h.size; omega)]; exact h.tab, by rw [hold _ _ _ (by have := h.size; omega)]; exact h.res, own_a h.own _⟩
theorem RS.drewN {w wr : World} {tb : Array Value} {l : List UInt8} {v : Value} (h : RS w tb l v wr) (n : Nat) : RS w tb l v (wr.drewN n) :=
  ⟨below_drewN h.below n, h.size, h.tab, h.res, h.own⟩
theorem RS.ap {w wr w1 : World} {tb : Array Value} {l l1 : List UInt8} {v v1 : Value} (h : RS w tb l v wr) (h1 : OwnB w1 (w.heap.size + 2) v1 l1) (hg : wr.grownBy w1 v.ownBlock) : RS w tb l1 v1 w1 := by
  have hb := own_below h.own hg h.size
  exact ⟨h.below.trans (hb.mono (by omega)), Nat.le_trans h.size hg.size, by rw [hb.block _ (by omega)]; exact h.tab, by rw [hb.block _ (by omega)]; exact h.res, h1⟩
/-- A store into a block that came behind the bytes. -/
theorem RS.set {w wr : World} {tb : Array Value} {l : List UInt8} {v : Value} (h : RS w tb l v wr) (g i : Nat) (x : Value) (hg : w.heap.size + 2 ≤ g) (hne : v.ownBlock ≠ some g) : RS w tb l v (wr.setCell ⟨g, i, none⟩ x) := by
  refine ⟨h.below.setCell (by simp only []; omega) _, by simpa using h.size, by rw [heap_setCell_other _ _ _ _ (by simp only []; omega)]; exact h.tab, by rw [heap_setCell_other _ _ _ _ (by simp only []; omega)]; exact h.res, h.own.1, ?_⟩
  rcases h.own.2 with h0 | ⟨g', cap, cur, hv, hb', hg', hr⟩
  · exact .inl h0
  · refine .inr ⟨g', cap, cur, hv, hb', ?_, hr⟩
    rw [heap_setCell_other _ _ _ _ (fun e => hne (by rw [hv]; show some g' = some g; rw [e]))]
    exact hg'
theorem RS.sets {w : World} {tb : Array Value} {l : List UInt8} {v : Value} (g : Nat) (hg : w.heap.size + 2 ≤ g) (hne : v.ownBlock ≠ some g) : ∀ (vs : List Value) (o : Nat) (wr : World), RS w tb l v wr → RS w tb l v (wr.setCells g o vs)
  | [], _, _, h => h
  | x :: vs, o, wr, h => RS.sets g hg hne vs (o + 1) (wr.setCell ⟨g, o, none⟩ x) (h.set g o x hg hne)
/-- .. and the words so far, in block Hb. -/
structure RE (w : World) (tb : Array Value) (m : List UInt8) (G L C Hb : Nat) (hl : List (BitVec 32)) (wr : World) : Prop where
  rs : RS w tb m (.slice (some ⟨G, 0, none⟩) L C) wr
  hb : w.heap.size + 2 ≤ Hb
  ne : G ≠ Hb
  lt : Hb < wr.heap.size
  row : wr.heap[Hb]? = some (.cells (u32s hl) 43 (0, 0))
theorem RE.alloc {w wr : World} {tb : Array Value} {m : List UInt8} {G L C Hb : Nat} {hl : List (BitVec 32)} (h : RE w tb m G L C Hb hl wr) (o : Obj) : RE w tb m G L C Hb hl (wr.alloc o) :=
  ⟨h.rs.alloc o, h.hb, h.ne, by have := h.lt; simp; omega, by rw [hold _ _ _ h.lt]; exact h.row⟩
theorem RE.drewN {w wr : World} {tb : Array Value} {m : List UInt8} {G L C Hb : Nat} {hl : List (BitVec 32)} (h : RE w tb m G L C Hb hl wr) (n : Nat) : RE w tb m G L C Hb hl (wr.drewN n) :=
  ⟨h.rs.drewN n, h.hb, h.ne, h.lt, h.row⟩
theorem RE.set {w wr : World} {tb : Array Value} {m : List UInt8} {G L C Hb : Nat} {hl : List (BitVec 32)} (h : RE w tb m G L C Hb hl wr) (g i : Nat) (x : Value) (hg : w.heap.size + 2 ≤ g) (h1 : G ≠ g) (h2 : Hb ≠ g) : RE w tb m G L C Hb hl (wr.setCell ⟨g, i, none⟩ x) :=
  ⟨h.rs.set g i x hg (by intro e; injection e with e; exact h1 e), h.hb, h.ne, by have := h.lt; simpa using this, by rw [heap_setCell_other _ _ _ _ h2]; exact h.row⟩
theorem RE.sets {w : World} {tb : Array Value} {m : List UInt8} {G L C Hb : Nat} {hl : List (BitVec 32)} (g : Nat) (hg : w.heap.size + 2 ≤ g) (h1 : G ≠ g) (h2 : Hb ≠ g) : ∀ (vs : List Value) (o : Nat) (wr : World), RE w tb m G L C Hb hl wr → RE w tb m G L C Hb hl (wr.setCells g o vs)
  | [], _, _, h => h
  | x :: vs, o, wr, h => RE.sets g hg h1 h2 vs (o + 1) (wr.setCell ⟨g, o, none⟩ x) (h.set g o x hg h1 h2)
theorem tab_range {w : World} {b : Nat} {t : TypeId} {tb : Array Value} (h : w.heap[b]? = some (.cells tb t (0, 0))) (ht : u32s (kTab ++ hTab) = tb) : w.rangeAt b 64 (u32s hTab).toList := fun j v hv => by
  have hj : j < 8 := by have := (List.getElem?_eq_some_iff.1 hv).1; rw [Array.length_toList, u32s_size] at this; exact this
  rw [cell_of_row _ _ _ _ _ _ h, ← ht, u32s_get _ _ (by show 64 + j < 72; omega)]
  rw [Array.getElem?_toList, u32s_get _ _ (show j < hTab.length from hj)] at hv
  rw [← hv]
  congr 3
  have : (kTab ++ hTab).getD (64 + j) 0 = hTab.getD j 0 := by
    rw [List.getD_eq_getElem?_getD, List.getElem?_append_right (by show 64 ≤ 64 + j; omega), List.getD_eq_getElem?_getD]
    congr 2
    show 64 + j - 64 = j
    omega
  rw [this]
/-- .. and a block's words, in block Wb. -/
structure RW (w : World) (tb : Array Value) (m : List UInt8) (G L C Hb : Nat) (hl : List (BitVec 32)) (Wb : Nat) (l : List (BitVec 32)) (wr : World) : Prop where
  re : RE w tb m G L C Hb hl wr
  wb : w.heap.size + 2 ≤ Wb
  g : G ≠ Wb
  h : Hb ≠ Wb
  row : wr.heap[Wb]? = some (.cells (u32s l) 42 (0, 0))
theorem RW.drewN {w wr : World} {tb : Array Value} {m : List UInt8} {G L C Hb Wb : Nat} {hl l : List (BitVec 32)} (h : RW w tb m G L C Hb hl Wb l wr) (n : Nat) : RW w tb m G L C Hb hl Wb l (wr.drewN n) :=
  ⟨h.re.drewN n, h.wb, h.g, h.h, h.row⟩
theorem RW.set {w wr : World} {tb : Array Value} {m : List UInt8} {G L C Hb Wb : Nat} {hl l : List (BitVec 32)} (h : RW w tb m G L C Hb hl Wb l wr) (i : Nat) (x : BitVec 32) : RW w tb m G L C Hb hl Wb (l.set i x) (wr.setCell ⟨Wb, i, none⟩ (.int .u32 (uv x))) :=
  ⟨h.re.set Wb i _ h.wb h.g h.h, h.wb, h.g, h.h, by rw [heap_setCell_same wr _ _ _ _ _ h.row, u32s_set]⟩
theorem RW.cell {w wr : World} {tb : Array Value} {m : List UInt8} {G L C Hb Wb : Nat} {hl l : List (BitVec 32)} (h : RW w tb m G L C Hb hl Wb l wr) (i : Nat) (hi : i < l.length) : wr.cell? ⟨Wb, i, none⟩ = some (.int .u32 (uv (l.getD i 0))) := by
  rw [cell_of_row _ _ _ _ _ _ h.row]; exact u32s_get _ _ hi
theorem RW.frozen {w wr : World} {tb : Array Value} {m : List UInt8} {G L C Hb Wb : Nat} {hl l : List (BitVec 32)} (h : RW w tb m G L C Hb hl Wb l wr) (i : Nat) : wr.frozen? ⟨Wb, i, none⟩ = false := frozen_of_row _ _ _ _ _ h.row
end Go.Proofs.YtaoekfomffebhaaDoor
namespace Go.Proofs.YtaoekfomffebhaaDoor
open Go Go.RowKit


set_option maxRecDepth 100000 in
theorem open266 {a : Act} (h : Fr 266 a) : ∃ x : Nat → Value, a = ⟨List.toArray (x 0 :: x 1 :: x 2 :: x 3 :: x 4 :: x 5 :: x 6 :: x 7 :: x 8 :: x 9 :: x 10 :: x 11 :: x 12 :: x 13 :: x 14 :: x 15 :: x 16 :: x 17 :: x 18 :: x 19 :: x 20 :: x 21 :: x 22 :: x 23 :: x 24 :: x 25 :: x 26 :: x 27 :: x 28 :: x 29 :: x 30 :: x 31 :: x 32 :: x 33 :: x 34 :: x 35 :: x 36 :: x 37 :: x 38 :: x 39 :: x 40 :: x 41 :: x 42 :: x 43 :: x 44 :: x 45 :: x 46 :: x 47 :: x 48 :: x 49 :: x 50 :: x 51 :: x 52 :: x 53 :: x 54 :: x 55 :: x 56 :: x 57 :: x 58 :: x 59 :: x 60 :: x 61 :: x 62 :: x 63 :: x 64 :: x 65 :: x 66 :: x 67 :: x 68 :: x 69 :: x 70 :: x 71 :: x 72 :: x 73 :: x 74 :: x 75 :: x 76 :: x 77 :: x 78 :: x 79 :: x 80 :: x 81 :: x 82 :: x 83 :: x 84 :: x 85 :: x 86 :: x 87 :: x 88 :: x 89 :: x 90 :: x 91 :: x 92 :: x 93 :: x 94 :: x 95 :: x 96 :: x 97 :: x 98 :: x 99 :: x 100 :: x 101 :: x 102 :: x 103 :: x 104 :: x 105 :: x 106 :: x 107 :: x 108 :: x 109 :: x 110 :: x 111 :: x 112 :: x 113 :: x 114 :: x 115 :: x 116 :: x 117 :: x 118 :: x 119 :: x 120 :: x 121 :: x 122 :: x 123 :: x 124 :: x 125 :: x 126 :: x 127 :: x 128 :: x 129 :: x 130 :: x 131 :: x 132 :: x 133 :: x 134 :: x 135 :: x 136 :: x 137 :: x 138 :: x 139 :: x 140 :: x 141 :: x 142 :: x 143 :: x 144 :: x 145 :: x 146 :: x 147 :: x 148 :: x 149 :: x 150 :: x 151 :: x 152 :: x 153 :: x 154 :: x 155 :: x 156 :: x 157 :: x 158 :: x 159 :: x 160 :: x 161 :: x 162 :: x 163 :: x 164 :: x 165 :: x 166 :: x 167 :: x 168 :: x 169 :: x 170 :: x 171 :: x 172 :: x 173 :: x 174 :: x 175 :: x 176 :: x 177 :: x 178 :: x 179 :: x 180 :: x 181 :: x 182 :: x 183 :: x 184 :: x 185 :: x 186 :: x 187 :: x 188 :: x 189 :: x 190 :: x 191 :: x 192 :: x 193 :: x 194 :: x 195 :: x 196 :: x 197 :: x 198 :: x 199 :: x 200 :: x 201 :: x 202 :: x 203 :: x 204 :: x 205 :: x 206 :: x 207 :: x 208 :: x 209 :: x 210 :: x 211 :: x 212 :: x 213 :: x 214 :: x 215 :: x 216 :: x 217 :: x 218 :: x 219 :: x 220 :: x 221 :: x 222 :: x 223 :: x 224 :: x 225 :: x 226 :: x 227 :: x 228 :: x 229 :: x 230 :: x 231 :: x 232 :: x 233 :: x 234 :: x 235 :: x 236 :: x 237 :: x 238 :: x 239 :: x 240 :: x 241 :: x 242 :: x 243 :: x 244 :: x 245 :: x 246 :: x 247 :: x 248 :: x 249 :: x 250 :: x 251 :: x 252 :: x 253 :: x 254 :: x 255 :: x 256 :: x 257 :: x 258 :: x 259 :: x 260 :: x 261 :: x 262 :: x 263 :: x 264 :: x 265 :: []), []⟩ ∧ ∀ i, a.eval (.tmp i) = x i := ⟨fun i => a.tmps.getD i undef, h.form, fun _ => rfl⟩
/-- What the loops of a block leave alone. -/
structure Lv (v2 v4 v5 v8 v9 : Value) (a : Act) : Prop where
  fr : Fr 266 a
  s2 : a.eval (.tmp 2) = v2
  s4 : a.eval (.tmp 4) = v4
  s5 : a.eval (.tmp 5) = v5
  s8 : a.eval (.tmp 8) = v8
  s9 : a.eval (.tmp 9) = v9

theorem cell_u32 {w : World} {b : Nat} {l : List (BitVec 32)} {t : TypeId} (h : w.heap[b]? = some (.cells (u32s l) t (0, 0))) (i : Nat) (hi : i < l.length) : w.cell? ⟨b, i, none⟩ = some (.int .u32 (uv (l.getD i 0))) := by
  rw [cell_of_row _ _ _ _ _ _ h]; exact u32s_get _ _ hi
theorem eight_len (s : Eight) : s.list.length = 8 := rfl
/-- A turn by a number that stands in the text. -/
theorem right_int (x : BitVec 32) (q : Int) (w : World) (h0 : 0 < q) (h1 : q < 32) : Calls Tryd.prog 76 #[.int .u32 (uv x), .int .i64 q] w fun e w' => e = .returned (.int .u32 (uv (x.rotateRight q.toNat))) ∧ ∃ n, w' = w.drewN n := by
  have h := right_any x q.toNat w (by omega) (by omega)
  rwa [show ((q.toNat : Nat) : Int) = q by omega] at h
theorem low_doc (r : Eight) (x y : BitVec 32) : (((uv r.h + bits BinOp.xor IntKind.u32 (bits BinOp.xor IntKind.u32 (uv (r.e.rotateRight 6)) (uv (r.e.rotateRight 11))) (uv (r.e.rotateRight 25)) +
    bits BinOp.or IntKind.u32 (bits BinOp.and IntKind.u32 (uv r.e) (uv r.f)) (bits BinOp.and IntKind.u32 (bits BinOp.xor IntKind.u32 (uv r.e) 4294967295) (uv r.g)) + uv y) % 4294967296 + uv x) % 4294967296) = uv (low r x y) := by
  rw [tur_uv, uv_not, uv_and, uv_and, uv_or, ← low_or, ← uv_add, ← uv_add, ← uv_add, ← uv_add]
  omega
theorem high_doc (r : Eight) : (bits BinOp.xor IntKind.u32 (bits BinOp.xor IntKind.u32 (uv (r.a.rotateRight 2)) (uv (r.a.rotateRight 13))) (uv (r.a.rotateRight 22)) +
    bits BinOp.or IntKind.u32 (bits BinOp.or IntKind.u32 (bits BinOp.and IntKind.u32 (uv r.a) (uv r.b)) (bits BinOp.and IntKind.u32 (uv r.a) (uv r.c))) (bits BinOp.and IntKind.u32 (uv r.b) (uv r.c))) % 4294967296 = uv (high r) := by
  rw [tur_uv, uv_and, uv_and, uv_and, uv_or, uv_or, uv_add, high_or]
theorem agg8 (r : Eight) (x y : BitVec 32) (a b : Int) (h1 : a = uv (low r x y + high r)) (h2 : b = uv (r.d + low r x y)) :
    Value.agg #[.int .u32 a, .int .u32 (uv r.a), .int .u32 (uv r.b), .int .u32 (uv r.c), .int .u32 b, .int .u32 (uv r.e), .int .u32 (uv r.f), .int .u32 (uv r.g)] = .agg (u32s (step r x y).list) := by
  rw [h1, h2]; rfl
end Go.Proofs.YtaoekfomffebhaaDoor
namespace Go.Proofs.YtaoekfomffebhaaDoor
open Go Go.RowKit
/-- What holds at the head of each of the 64 rounds. -/
structure I6 (v2 v4 v5 v8 v9 : Value) (Wb Vb : Nat) (W0 : World) (bl : List UInt8) (s : Eight) (k : Nat) (a : Act) (wr : World) : Prop where
  lv : Lv v2 v4 v5 v8 v9 a
  s10 : a.eval (.tmp 10) = .pointer (some ⟨Wb, 0, none⟩)
  s15 : a.eval (.tmp 15) = .pointer (some ⟨Vb, 0, none⟩)
  s16 : a.eval (.tmp 16) = .int .i64 (k : Int)
  row : wr.heap[Vb]? = some (.cells (u32s (rnds bl s k).list) 43 (0, 0))
  kept : W0.grownBy wr (some Vb)
set_option maxRecDepth 100000 in
set_option maxHeartbeats 1000000 in
theorem round6 (v4 v5 v8 v9 : Value) (Tb Wb Vb : Nat) (W0 : World) (bl : List UInt8) (s : Eight) (Q : Exit → Act → World → Prop)
    (hT : ∀ i, i < 64 → W0.cell? ⟨Tb, i, none⟩ = some (.int .u32 (uv (kTab.getD i 0)))) (hW : ∀ i, i < 64 → W0.cell? ⟨Wb, i, none⟩ = some (.int .u32 (uv ((words bl).getD i 0)))) (ht : Tb ≠ Vb) (hw : Wb ≠ Vb)
    (k : Nat) (hk : k < 64) (a : Act) (wr : World) (h : I6 (.pointer (some ⟨Tb, 0, none⟩)) v4 v5 v8 v9 Wb Vb W0 bl s k a wr) :
    Code.wp Tryd.prog (loopAt Tryd.f51.body 5) (Exit.then (fun a' w' => I6 (.pointer (some ⟨Tb, 0, none⟩)) v4 v5 v8 v9 Wb Vb W0 bl s (k + 1) a' w') Q) a wr := by
  have ct := h.kept.cell (hT k hk) (by simpa using ht)
  have cw := h.kept.cell (hW k hk) (by simpa using hw)
  have c0 := cell_u32 h.row 0 (by rw [eight_len]; omega)
  have c1 := cell_u32 h.row 1 (by rw [eight_len]; omega)
  have c2 := cell_u32 h.row 2 (by rw [eight_len]; omega)
  have c3 := cell_u32 h.row 3 (by rw [eight_len]; omega)
  have c4 := cell_u32 h.row 4 (by rw [eight_len]; omega)
  have c5 := cell_u32 h.row 5 (by rw [eight_len]; omega)
  have c6 := cell_u32 h.row 6 (by rw [eight_len]; omega)
  have c7 := cell_u32 h.row 7 (by rw [eight_len]; omega)
  have HN : Bx (rnds bl s (k + 1) = step (rnds bl s k) ((words bl).getD k 0) (kTab.getD k 0)) := Bx.mk rfl
  generalize (words bl).getD k 0 = x0 at *
  generalize kTab.getD k 0 = y0 at *
  have HR := Bx.mk h.row
  have HK := Bx.mk h.kept
  obtain ⟨x, rfl, hx⟩ := open266 h.lv.fr
  have e2 := (hx 2).symm.trans h.lv.s2
  have e4 := (hx 4).symm.trans h.lv.s4
  have e5 := (hx 5).symm.trans h.lv.s5
  have e8 := (hx 8).symm.trans h.lv.s8
  have e9 := (hx 9).symm.trans h.lv.s9
  have e10 := (hx 10).symm.trans h.s10
  have e15 := (hx 15).symm.trans h.s15
  have e16 := (hx 16).symm.trans h.s16
  clear h hx hT hW ht hw
  rw [e2, e4, e5, e8, e9, e10, e15, e16]
  clear e2 e4 e5 e8 e9 e10 e15 e16
  generalize rnds bl s k = r at *
  change _ = some (Value.int .u32 (uv r.a)) at c0
  change _ = some (Value.int .u32 (uv r.b)) at c1
  change _ = some (Value.int .u32 (uv r.c)) at c2
  change _ = some (Value.int .u32 (uv r.d)) at c3
  change _ = some (Value.int .u32 (uv r.e)) at c4
  change _ = some (Value.int .u32 (uv r.f)) at c5
  change _ = some (Value.int .u32 (uv r.g)) at c6
  change _ = some (Value.int .u32 (uv r.h)) at c7
  have hk1 : (k : Int) < 64 := by omega
  conv => arg 2; whnf
  go_wp2
  go_big_quiet ((go_at_call 76; with_reducible exact Calls.quiet_of (right_int _ _ _ (by decide) (by decide))))
  go_wp2
  go_big_quiet (fail)
  go_wp2
  go_big_quiet ((go_at_call 76; with_reducible exact qz (right_int _ _ _ (by decide) (by decide))))
  go_upto_region 35 with (fail)
  rw [low_doc, high_doc]
  have HI : Bx ((Tryd.prog.info? 43).map (·.size) = some (u32s (step r x0 y0).list).size) := Bx.mk (by rw [u32s_size]; kernel_rfl)
  have HZ : Bx ((u32s (step r x0 y0).list).size = (u32s r.list).size) := Bx.mk (by rw [u32s_size, u32s_size]; rfl)
  go_wp2_with (refine wpList_store_new rfl 43 _ _ rfl Vb (u32s (step r x0 y0).list) _ _ (by rfl) (agg8 r x0 y0 _ _ (uv_add _ _) (uv_add _ _)) HR.out HZ.out HI.out (one_u32s _) ?_; intro w5 hw5 hr5; have H5 : Bx (W0.grownBy w5 (some Vb)) := Bx.mk (by rw [hw5]; exact kb_trans (kb_trans HK.out (kb_drewN _ _ _)) (kb_setCells _ _ _)); have H6 := Bx.mk hr5; clear hw5 hr5)
  exact ⟨⟨⟨rfl, rfl⟩, rfl, rfl, rfl, rfl, rfl⟩, rfl, rfl, by go_num, by rw [HN.out]; exact H6.out, H5.out⟩
set_option maxRecDepth 100000 in
set_option maxHeartbeats 1000000 in
theorem last6 (v2 v4 v5 v8 v9 : Value) (Wb Vb : Nat) (W0 : World) (bl : List UInt8) (s : Eight) (Q : Exit → Act → World → Prop)
    (a : Act) (wr : World) (h : I6 v2 v4 v5 v8 v9 Wb Vb W0 bl s 64 a wr) (hq : ∀ a' w', I6 v2 v4 v5 v8 v9 Wb Vb W0 bl s 64 a' w' → Q (.exit 10) a' w') (N : Act → World → Prop) :
    Code.wp Tryd.prog (loopAt Tryd.f51.body 5) (Exit.then N Q) a wr := by
  have HR := Bx.mk h.row
  have HK := Bx.mk h.kept
  obtain ⟨x, rfl, hx⟩ := open266 h.lv.fr
  have e2 := (hx 2).symm.trans h.lv.s2
  have e4 := (hx 4).symm.trans h.lv.s4
  have e5 := (hx 5).symm.trans h.lv.s5
  have e8 := (hx 8).symm.trans h.lv.s8
  have e9 := (hx 9).symm.trans h.lv.s9
  have e10 := (hx 10).symm.trans h.s10
  have e15 := (hx 15).symm.trans h.s15
  have e16 : x 16 = .int .i64 64 := (hx 16).symm.trans h.s16
  clear h hx
  rw [e2, e4, e5, e8, e9, e10, e15, e16]
  clear e2 e4 e5 e8 e9 e10 e15 e16
  conv => arg 2; whnf
  have HQ := Bx.mk hq
  clear hq
  go_wp2
  exact HQ.out _ _ ⟨⟨⟨rfl, rfl⟩, rfl, rfl, rfl, rfl, rfl⟩, rfl, rfl, rfl, HR.out, HK.out⟩
/-- The 64 rounds. -/
theorem loop6 (v4 v5 v8 v9 : Value) (Tb Wb Vb : Nat) (W0 : World) (bl : List UInt8) (s : Eight) (Q : Exit → Act → World → Prop)
    (hT : ∀ i, i < 64 → W0.cell? ⟨Tb, i, none⟩ = some (.int .u32 (uv (kTab.getD i 0)))) (hW : ∀ i, i < 64 → W0.cell? ⟨Wb, i, none⟩ = some (.int .u32 (uv ((words bl).getD i 0)))) (ht : Tb ≠ Vb) (hw : Wb ≠ Vb)
    (a : Act) (wr : World) (h : I6 (.pointer (some ⟨Tb, 0, none⟩)) v4 v5 v8 v9 Wb Vb W0 bl s 0 a wr)
    (hq : ∀ a' w', I6 (.pointer (some ⟨Tb, 0, none⟩)) v4 v5 v8 v9 Wb Vb W0 bl s 64 a' w' → Q (.exit 10) a' w') :
    Code.wp Tryd.prog (.loop (loopAt Tryd.f51.body 5)) Q a wr := by
  refine wp_loop (fun a w => ∃ k, k ≤ 64 ∧ I6 (.pointer (some ⟨Tb, 0, none⟩)) v4 v5 v8 v9 Wb Vb W0 bl s k a w) (fun a _ => 64 - (intOf (a.eval (.tmp 16))).toNat) ⟨0, by omega, h⟩ ?_
  rintro a w ⟨k, hk, hI⟩
  by_cases hlt : k < 64
  · refine wp_mono (round6 v4 v5 v8 v9 Tb Wb Vb W0 bl s Q hT hW ht hw k hlt a w hI) ?_
    rintro (_ | _ | _ | _ | _ | _) a' w' hq'
    case normal => exact ⟨⟨k + 1, by omega, hq'⟩, by rw [hI.s16, I6.s16 hq']; simp only [intOf]; omega⟩
    all_goals exact hq'
  · have e : k = 64 := by omega
    subst e
    exact last6 _ _ _ _ _ _ _ _ _ _ _ a w hI hq _
end Go.Proofs.YtaoekfomffebhaaDoor
namespace Go.Proofs.YtaoekfomffebhaaDoor
open Go Go.RowKit
/-- What holds at the head of each byte of a word. -/
structure I5 (v2 v4 v5 v8 v9 : Value) (Wb : Nat) (W0 : World) (m : List UInt8) (o : Nat) (sl : List (BitVec 32)) (j q : Nat) (a : Act) (wr : World) : Prop where
  lv : Lv v2 v4 v5 v8 v9 a
  s10 : a.eval (.tmp 10) = .pointer (some ⟨Wb, 0, none⟩)
  s11 : a.eval (.tmp 11) = .int .i64 (j : Int)
  s12 : a.eval (.tmp 12) = .int .i64 (q : Int)
  row : wr.heap[Wb]? = some (.cells (u32s (sl.set j (wk m (o + 4 * j) q))) 42 (0, 0))
  kept : W0.grownBy wr (some Wb)
set_option maxRecDepth 100000 in
set_option maxHeartbeats 1000000 in
theorem round5 (v2 v4 v8 : Value) (G L C Wb : Nat) (W0 : World) (m : List UInt8) (o : Nat) (sl : List (BitVec 32)) (j : Nat) (Q : Exit → Act → World → Prop)
    (hB : ∀ i, i < 64 → W0.cell? ⟨G, o + i, none⟩ = some (.int .u8 (ub (m.getD (o + i) 0)))) (hg : G ≠ Wb) (hL : o + 64 ≤ L) (hL1 : L ≤ 1099511628000) (hsl : sl.length = 64) (hj : j < 16)
    (q : Nat) (hq : q < 4) (a : Act) (wr : World) (h : I5 v2 v4 (.slice (some ⟨G, 0, none⟩) L C) v8 (.int .i64 (o : Int)) Wb W0 m o sl j q a wr) :
    Code.wp Tryd.prog (loopAt Tryd.f51.body 4) (Exit.then (fun a' w' => I5 v2 v4 (.slice (some ⟨G, 0, none⟩) L C) v8 (.int .i64 (o : Int)) Wb W0 m o sl j (q + 1) a' w') Q) a wr := by
  have c1 := cell_u32 h.row j (by rw [List.length_set]; omega)
  have f1 := frozen_of_row wr Wb j _ _ h.row
  have c2 := h.kept.cell (hB (4 * j + q) (by omega)) (by simpa using hg)
  rw [← Nat.add_assoc] at c2
  have HS : Bx (∀ n, ((wr.drewN n).setCell ⟨Wb, j, none⟩ (.int .u32 (uv (wk m (o + 4 * j) q <<< 8 + wide (m.getD (o + 4 * j + q) 0))))).heap[Wb]? = some (.cells (u32s (sl.set j (wk m (o + 4 * j) (q + 1)))) 42 (0, 0))) := Bx.mk (fun n => by
    rw [heap_setCell_same (wr.drewN n) _ _ _ _ _ h.row, u32s_set, List.set_set]; rfl)
  have ex : (sl.set j (wk m (o + 4 * j) q)).getD j 0 = wk m (o + 4 * j) q := by
    have h : j < sl.length := by omega
    simp [h]
  rw [ex] at c1
  have HK := Bx.mk h.kept
  obtain ⟨x, rfl, hx⟩ := open266 h.lv.fr
  have e2 := (hx 2).symm.trans h.lv.s2
  have e4 := (hx 4).symm.trans h.lv.s4
  have e5 := (hx 5).symm.trans h.lv.s5
  have e8 := (hx 8).symm.trans h.lv.s8
  have e9 := (hx 9).symm.trans h.lv.s9
  have e10 := (hx 10).symm.trans h.s10
  have e11 := (hx 11).symm.trans h.s11
  have e12 := (hx 12).symm.trans h.s12
  clear h hx hB hg hsl ex
  rw [e2, e4, e5, e8, e9, e10, e11, e12]
  clear e2 e4 e5 e8 e9 e10 e11 e12
  obtain ⟨x0, hx0⟩ : ∃ x, wk m (o + 4 * j) q = x := ⟨_, rfl⟩
  obtain ⟨y0, hy0⟩ : ∃ y, m.getD (o + 4 * j + q) 0 = y := ⟨_, rfl⟩
  rw [hx0] at c1 HS
  rw [hy0] at c2 HS
  clear hx0 hy0
  have hb1 : (o : Int) + 4 * (j : Int) + (q : Int) < (L : Int) := by omega
  have hj1 : (j : Int) < 64 := by omega
  have hq1 : (q : Int) < 4 := by omega
  have hL2 : (L : Int) ≤ 1099511628000 := by omega
  have HL := Bx.mk hL
  have w1' : IntKind.i64.wrap (4 * (j : Int)) = 4 * (j : Int) := IntWalk.i64_in _ (by omega)
  have w2' : IntKind.i64.wrap ((o : Int) + 4 * (j : Int)) = (o : Int) + 4 * (j : Int) := IntWalk.i64_in _ (by omega)
  have w3' : IntKind.i64.wrap ((o : Int) + 4 * (j : Int) + (q : Int)) = (o : Int) + 4 * (j : Int) + (q : Int) := IntWalk.i64_in _ (by omega)
  have hb0 : 0 ≤ (o : Int) + 4 * (j : Int) + (q : Int) := by omega
  have tn : ((o : Int) + 4 * (j : Int) + (q : Int)).toNat = o + 4 * j + q := by omega
  conv => arg 2; whnf
  go_wp2
  go_still_tail 17, (by kernel_rfl)
  change wpList _ _ _ _ _ (wr.drewN 1)
  clear w1' w2' w3' tn hb0
  have H1 := HS.out 1
  go_wp2
  exact ⟨⟨⟨rfl, rfl⟩, rfl, rfl, rfl, rfl, rfl⟩, rfl, rfl, by go_num, by rw [byte_more]; exact HS.out 1, kb_trans (kb_trans HK.out (kb_drewN _ _ 1)) (kb_setCell _ _ _)⟩
set_option maxRecDepth 100000 in
theorem last5 (v2 v4 v5 v8 v9 : Value) (Wb : Nat) (W0 : World) (m : List UInt8) (o : Nat) (sl : List (BitVec 32)) (j : Nat) (Q : Exit → Act → World → Prop) (N : Act → World → Prop)
    (hq : ∀ a' w', I5 v2 v4 v5 v8 v9 Wb W0 m o sl j 4 a' w' → Q (.exit 8) a' w') (a : Act) (wr : World) (h : I5 v2 v4 v5 v8 v9 Wb W0 m o sl j 4 a wr) :
    Code.wp Tryd.prog (loopAt Tryd.f51.body 4) (Exit.then N Q) a wr := by
  have HR := Bx.mk h.row
  have HK := Bx.mk h.kept
  have HQ := Bx.mk hq
  clear hq
  obtain ⟨x, rfl, hx⟩ := open266 h.lv.fr
  have e2 := (hx 2).symm.trans h.lv.s2
  have e4 := (hx 4).symm.trans h.lv.s4
  have e5 := (hx 5).symm.trans h.lv.s5
  have e8 := (hx 8).symm.trans h.lv.s8
  have e9 := (hx 9).symm.trans h.lv.s9
  have e10 := (hx 10).symm.trans h.s10
  have e11 := (hx 11).symm.trans h.s11
  have e12 : x 12 = .int .i64 4 := (hx 12).symm.trans h.s12
  clear h hx 
  rw [e2, e4, e5, e8, e9, e10, e11, e12]
  clear e2 e4 e5 e8 e9 e10 e11 e12
  conv => arg 2; whnf
  go_wp2
  exact HQ.out _ _ ⟨⟨⟨rfl, rfl⟩, rfl, rfl, rfl, rfl, rfl⟩, rfl, rfl, rfl, HR.out, HK.out⟩
/-- The four bytes of a word. -/
theorem loop5 (v2 v4 v8 : Value) (G L C Wb : Nat) (W0 : World) (m : List UInt8) (o : Nat) (sl : List (BitVec 32)) (j : Nat) (Q : Exit → Act → World → Prop)
    (hB : ∀ i, i < 64 → W0.cell? ⟨G, o + i, none⟩ = some (.int .u8 (ub (m.getD (o + i) 0)))) (hg : G ≠ Wb) (hL : o + 64 ≤ L) (hL1 : L ≤ 1099511628000) (hsl : sl.length = 64) (hj : j < 16)
    (a : Act) (wr : World) (h : I5 v2 v4 (.slice (some ⟨G, 0, none⟩) L C) v8 (.int .i64 (o : Int)) Wb W0 m o sl j 0 a wr) (hq : ∀ a' w', I5 v2 v4 (.slice (some ⟨G, 0, none⟩) L C) v8 (.int .i64 (o : Int)) Wb W0 m o sl j 4 a' w' → Q (.exit 8) a' w') :
    Code.wp Tryd.prog (.loop (loopAt Tryd.f51.body 4)) Q a wr :=
  wp_count 4 (fun q => I5 v2 v4 (.slice (some ⟨G, 0, none⟩) L C) v8 (.int .i64 (o : Int)) Wb W0 m o sl j q) 0 (by omega) h (fun q a w hlt hI => round5 v2 v4 v8 G L C Wb W0 m o sl j Q hB hg hL hL1 hsl hj q hlt a w hI) (fun a w hI => last5 v2 v4 (.slice (some ⟨G, 0, none⟩) L C) v8 (.int .i64 (o : Int)) Wb W0 m o sl j Q _ hq a w hI)
/-- What holds at the head of each word. -/
structure I4 (v2 v4 v5 v8 v9 : Value) (Wb : Nat) (W0 : World) (bl : List UInt8) (j : Nat) (a : Act) (wr : World) : Prop where
  lv : Lv v2 v4 v5 v8 v9 a
  s10 : a.eval (.tmp 10) = .pointer (some ⟨Wb, 0, none⟩)
  s11 : a.eval (.tmp 11) = .int .i64 (j : Int)
  row : wr.heap[Wb]? = some (.cells (u32s (stW bl j)) 42 (0, 0))
  kept : W0.grownBy wr (some Wb)
set_option maxRecDepth 100000 in
set_option maxHeartbeats 1000000 in
theorem round4a (v2 v4 v8 : Value) (G L C Wb : Nat) (W0 : World) (m bl : List UInt8) (o : Nat) (Q : Exit → Act → World → Prop)
    (hB : ∀ i, i < 64 → W0.cell? ⟨G, o + i, none⟩ = some (.int .u8 (ub (m.getD (o + i) 0)))) (hbl : ∀ j, j < 16 → blockWord bl j = wk m (o + 4 * j) 4) (hg : G ≠ Wb) (hL : o + 64 ≤ L) (hL1 : L ≤ 1099511628000)
    (j : Nat) (hj : j < 16) (a : Act) (wr : World) (h : I4 v2 v4 (.slice (some ⟨G, 0, none⟩) L C) v8 (.int .i64 (o : Int)) Wb W0 bl j a wr) :
    Code.wp Tryd.prog (loopAt Tryd.f51.body 3) (Exit.then (fun a' w' => I4 v2 v4 (.slice (some ⟨G, 0, none⟩) L C) v8 (.int .i64 (o : Int)) Wb W0 bl (j + 1) a' w') Q) a wr := by
  have H0 : Bx (wr.heap[Wb]? = some (.cells (u32s ((stW bl j).set j (wk m (o + 4 * j) 0))) 42 (0, 0))) := Bx.mk (by
    rw [show wk m (o + 4 * j) 0 = 0 from rfl, set_same _ _ (stW_zero bl j j (Nat.le_refl _))]; exact h.row)
  have HK := Bx.mk h.kept
  have HNx : Bx (stW bl (j + 1) = (stW bl j).set j (wk m (o + 4 * j) 4)) := Bx.mk (by rw [stW, if_pos hj, hbl j hj])
  have HLj : Bx ((stW bl j).length = 64) := Bx.mk (stW_length bl j)
  have HB := Bx.mk hB
  have HG := Bx.mk (And.intro hg (And.intro hL hL1))
  obtain ⟨x, rfl, hx⟩ := open266 h.lv.fr
  have e2 := (hx 2).symm.trans h.lv.s2
  have e4 := (hx 4).symm.trans h.lv.s4
  have e5 := (hx 5).symm.trans h.lv.s5
  have e8 := (hx 8).symm.trans h.lv.s8
  have e9 := (hx 9).symm.trans h.lv.s9
  have e10 := (hx 10).symm.trans h.s10
  have e11 := (hx 11).symm.trans h.s11
  clear h hx hB hbl hg hL hL1
  rw [e2, e4, e5, e8, e9, e10, e11]
  clear e2 e4 e5 e8 e9 e10 e11
  generalize stW bl j = sl at *
  have HJ := Bx.mk hj
  have hj1 : (j : Int) < 64 := by omega
  have hj2 : (j : Int) < 16 := by omega
  conv => arg 2; whnf
  go_wp2
  refine loop5 v2 v4 v8 G L C Wb W0 m o sl j _ HB.out HG.out.1 HG.out.2.1 HG.out.2.2 HLj.out HJ.out _ _ ⟨⟨⟨rfl, rfl⟩, rfl, rfl, rfl, rfl, rfl⟩, rfl, rfl, rfl, H0.out, HK.out⟩ ?_
  intro a' w' h
  clear H0 HK
  have HK := Bx.mk h.kept
  have HR := Bx.mk h.row
  obtain ⟨x, rfl, hx⟩ := open266 h.lv.fr
  have e2 := (hx 2).symm.trans h.lv.s2
  have e4 := (hx 4).symm.trans h.lv.s4
  have e5 := (hx 5).symm.trans h.lv.s5
  have e8 := (hx 8).symm.trans h.lv.s8
  have e9 := (hx 9).symm.trans h.lv.s9
  have e10 := (hx 10).symm.trans h.s10
  have e11 := (hx 11).symm.trans h.s11
  clear h hx 
  rw [e2, e4, e5, e8, e9, e10, e11]
  clear e2 e4 e5 e8 e9 e10 e11
  go_wp2
  exact ⟨⟨⟨rfl, rfl⟩, rfl, rfl, rfl, rfl, rfl⟩, rfl, by go_num, by rw [HNx.out]; exact HR.out, HK.out⟩
set_option maxRecDepth 100000 in
set_option maxHeartbeats 1000000 in
theorem round4b (v2 v4 v5 v8 v9 : Value) (Wb : Nat) (W0 : World) (bl : List UInt8) (Q : Exit → Act → World → Prop)
    (j : Nat) (hj : ¬ j < 16) (hj64 : j < 64) (a : Act) (wr : World) (h : I4 v2 v4 v5 v8 v9 Wb W0 bl j a wr) :
    Code.wp Tryd.prog (loopAt Tryd.f51.body 3) (Exit.then (fun a' w' => I4 v2 v4 v5 v8 v9 Wb W0 bl (j + 1) a' w') Q) a wr := by
  have HLj : Bx ((stW bl j).length = 64) := Bx.mk (stW_length bl j)
  have c0 := cell_u32 h.row (j - 16) (by rw [HLj.out]; omega)
  have c1 := cell_u32 h.row (j - 15) (by rw [HLj.out]; omega)
  have c2 := cell_u32 h.row (j - 7) (by rw [HLj.out]; omega)
  have c3 := cell_u32 h.row (j - 2) (by rw [HLj.out]; omega)
  have c4 := cell_u32 h.row j (by rw [HLj.out]; omega)
  have f4 := frozen_of_row wr Wb j _ _ h.row
  have HS : Bx (∀ n, ((wr.drewN n).setCell ⟨Wb, j, none⟩ (.int .u32 (uv ((stW bl j).getD (j - 16) 0 + sig ((stW bl j).getD (j - 15) 0) 7 18 3 + (stW bl j).getD (j - 7) 0 + sig ((stW bl j).getD (j - 2) 0) 17 19 10)))).heap[Wb]? = some (.cells (u32s (stW bl (j + 1))) 42 (0, 0))) := Bx.mk (fun n => by
    rw [heap_setCell_same (wr.drewN n) _ _ _ _ _ h.row, u32s_set, stW, if_neg hj]; rfl)
  have HK := Bx.mk h.kept
  obtain ⟨x, rfl, hx⟩ := open266 h.lv.fr
  have e2 := (hx 2).symm.trans h.lv.s2
  have e4 := (hx 4).symm.trans h.lv.s4
  have e5 := (hx 5).symm.trans h.lv.s5
  have e8 := (hx 8).symm.trans h.lv.s8
  have e9 := (hx 9).symm.trans h.lv.s9
  have e10 := (hx 10).symm.trans h.s10
  have e11 := (hx 11).symm.trans h.s11
  clear h hx 
  rw [e2, e4, e5, e8, e9, e10, e11]
  clear e2 e4 e5 e8 e9 e10 e11
  generalize stW bl j = sl at *
  generalize sl.getD (j - 16) 0 = x0 at *
  generalize sl.getD (j - 15) 0 = x1 at *
  generalize sl.getD (j - 7) 0 = x2 at *
  generalize sl.getD (j - 2) 0 = x3 at *
  generalize sl.getD j 0 = x4 at *
  clear HLj
  have hj1 : (j : Int) < 64 := by omega
  have hj2 : ¬ (j : Int) < 16 := by omega
  have b16 : ((j - 16 : Nat) : Int) < 64 := by omega
  have b15 : ((j - 15 : Nat) : Int) < 64 := by omega
  have b7 : ((j - 7 : Nat) : Int) < 64 := by omega
  have b2 : ((j - 2 : Nat) : Int) < 64 := by omega
  have e16 : IntKind.i64.wrap ((j : Int) - 16) = ((j - 16 : Nat) : Int) := by rw [IntKind.wrap_i64]; omega
  have e15 : IntKind.i64.wrap ((j : Int) - 15) = ((j - 15 : Nat) : Int) := by rw [IntKind.wrap_i64]; omega
  have e7 : IntKind.i64.wrap ((j : Int) - 7) = ((j - 7 : Nat) : Int) := by rw [IntKind.wrap_i64]; omega
  have e2 : IntKind.i64.wrap ((j : Int) - 2) = ((j - 2 : Nat) : Int) := by rw [IntKind.wrap_i64]; omega
  have HJ := Bx.mk hj
  clear hj
  conv => arg 2; whnf
  go_wp2
  go_big_quiet ((go_at_call 76; with_reducible exact Calls.quiet_of (right_int _ _ _ (by decide) (by decide))))
  go_upto_region 23 with (fail)
  rename Nat => n1
  go_big_quiet ((go_at_call 76; with_reducible exact qz (right_int _ _ _ (by decide) (by decide))))
  go_upto_region 24 with (fail)
  rw [sig_uv, sig_uw, World.drewN_drewN]
  obtain ⟨w2, hw2⟩ : ∃ w2, wr.drewN (n1 + nq) = w2 := ⟨_, rfl⟩
  rw [hw2]
  have HS2 : Bx (∀ v, (w2.drewN 1).setCell ⟨Wb, j, none⟩ v = (wr.drewN (n1 + nq + 1)).setCell ⟨Wb, j, none⟩ v) := Bx.mk (fun v => by rw [← hw2, World.drewN_drewN])
  have d0 : w2.cell? ⟨Wb, j - 16, none⟩ = some (.int .u32 (uv x0)) := by rw [← hw2]; exact c0
  have d2 : w2.cell? ⟨Wb, j - 7, none⟩ = some (.int .u32 (uv x2)) := by rw [← hw2]; exact c2
  have d4 : w2.cell? ⟨Wb, j, none⟩ = some (.int .u32 (uv x4)) := by rw [← hw2]; exact c4
  have g4 : w2.frozen? ⟨Wb, j, none⟩ = false := by rw [← hw2]; exact f4
  clear hw2 c0 c1 c2 c3 c4 f4 e15 e2
  go_still_tail 15, (by kernel_rfl)
  change wpList _ _ _ _ _ (w2.drewN 1)
  clear d0 d2 e16 e7
  go_wp2
  rw [HS2.out]
  exact ⟨⟨⟨rfl, rfl⟩, rfl, rfl, rfl, rfl, rfl⟩, rfl, by go_num, by rw [four_sum]; exact HS.out _, kb_trans (kb_trans HK.out (kb_drewN _ _ _)) (kb_setCell _ _ _)⟩
set_option maxRecDepth 100000 in
theorem last4 (v2 v4 v5 v8 v9 : Value) (Wb : Nat) (W0 : World) (bl : List UInt8) (Q : Exit → Act → World → Prop) (N : Act → World → Prop)
    (hq : ∀ a' w', I4 v2 v4 v5 v8 v9 Wb W0 bl 64 a' w' → Q (.exit 6) a' w') (a : Act) (wr : World) (h : I4 v2 v4 v5 v8 v9 Wb W0 bl 64 a wr) :
    Code.wp Tryd.prog (loopAt Tryd.f51.body 3) (Exit.then N Q) a wr := by
  have HR := Bx.mk h.row
  have HK := Bx.mk h.kept
  have HQ := Bx.mk hq
  clear hq
  obtain ⟨x, rfl, hx⟩ := open266 h.lv.fr
  have e2 := (hx 2).symm.trans h.lv.s2
  have e4 := (hx 4).symm.trans h.lv.s4
  have e5 := (hx 5).symm.trans h.lv.s5
  have e8 := (hx 8).symm.trans h.lv.s8
  have e9 := (hx 9).symm.trans h.lv.s9
  have e10 := (hx 10).symm.trans h.s10
  have e11 : x 11 = .int .i64 64 := (hx 11).symm.trans h.s11
  clear h hx 
  rw [e2, e4, e5, e8, e9, e10, e11]
  clear e2 e4 e5 e8 e9 e10 e11
  conv => arg 2; whnf
  go_wp2
  exact HQ.out _ _ ⟨⟨⟨rfl, rfl⟩, rfl, rfl, rfl, rfl, rfl⟩, rfl, rfl, HR.out, HK.out⟩
/-- The 64 words of a block. -/
theorem loop4 (v2 v4 v8 : Value) (G L C Wb : Nat) (W0 : World) (m bl : List UInt8) (o : Nat) (Q : Exit → Act → World → Prop)
    (hB : ∀ i, i < 64 → W0.cell? ⟨G, o + i, none⟩ = some (.int .u8 (ub (m.getD (o + i) 0)))) (hbl : ∀ j, j < 16 → blockWord bl j = wk m (o + 4 * j) 4) (hg : G ≠ Wb) (hL : o + 64 ≤ L) (hL1 : L ≤ 1099511628000)
    (a : Act) (wr : World) (h : I4 v2 v4 (.slice (some ⟨G, 0, none⟩) L C) v8 (.int .i64 (o : Int)) Wb W0 bl 0 a wr) (hq : ∀ a' w', I4 v2 v4 (.slice (some ⟨G, 0, none⟩) L C) v8 (.int .i64 (o : Int)) Wb W0 bl 64 a' w' → Q (.exit 6) a' w') :
    Code.wp Tryd.prog (.loop (loopAt Tryd.f51.body 3)) Q a wr :=
  wp_count 64 (fun q => I4 v2 v4 (.slice (some ⟨G, 0, none⟩) L C) v8 (.int .i64 (o : Int)) Wb W0 bl q) 0 (by omega) h (fun q a w hlt hI => by
    by_cases h16 : q < 16
    · exact round4a v2 v4 v8 G L C Wb W0 m bl o Q hB hbl hg hL hL1 q h16 a w hI
    · exact round4b v2 v4 (.slice (some ⟨G, 0, none⟩) L C) v8 (.int .i64 (o : Int)) Wb W0 bl Q q h16 hlt a w hI) (fun a w hI => last4 v2 v4 (.slice (some ⟨G, 0, none⟩) L C) v8 (.int .i64 (o : Int)) Wb W0 bl Q _ hq a w hI)
end Go.Proofs.YtaoekfomffebhaaDoor
namespace Go.Proofs.YtaoekfomffebhaaDoor
open Go Go.RowKit
/-- What holds while a block's words are added. -/
structure I7 (v2 v4 v5 v9 : Value) (Hb Vb : Nat) (W0 : World) (hl rl : List (BitVec 32)) (k : Nat) (a : Act) (wr : World) : Prop where
  lv : Lv v2 v4 v5 (.pointer (some ⟨Hb, 0, none⟩)) v9 a
  s15 : a.eval (.tmp 15) = .pointer (some ⟨Vb, 0, none⟩)
  s23 : a.eval (.tmp 23) = .int .i64 (k : Int)
  row : wr.heap[Hb]? = some (.cells (u32s (addW hl rl k)) 43 (0, 0))
  kept : W0.grownBy wr (some Hb)
set_option maxRecDepth 100000 in
set_option maxHeartbeats 1000000 in
theorem round7 (v2 v4 v5 v9 : Value) (Hb Vb : Nat) (W0 : World) (hl rl : List (BitVec 32)) (Q : Exit → Act → World → Prop)
    (hV : ∀ i, i < 8 → W0.cell? ⟨Vb, i, none⟩ = some (.int .u32 (uv (rl.getD i 0)))) (hv : Vb ≠ Hb) (hh : hl.length = 8)
    (k : Nat) (hk : k < 8) (a : Act) (wr : World) (h : I7 v2 v4 v5 v9 Hb Vb W0 hl rl k a wr) :
    Code.wp Tryd.prog (loopAt Tryd.f51.body 6) (Exit.then (fun a' w' => I7 v2 v4 v5 v9 Hb Vb W0 hl rl (k + 1) a' w') Q) a wr := by
  have c1 := cell_u32 h.row k (by rw [addW_length]; omega)
  have f1 := frozen_of_row wr Hb k _ _ h.row
  have c2 := h.kept.cell (hV k hk) (by simpa using hv)
  have HS : Bx (∀ n, ((wr.drewN n).setCell ⟨Hb, k, none⟩ (.int .u32 (uv ((addW hl rl k).getD k 0 + rl.getD k 0)))).heap[Hb]? = some (.cells (u32s (addW hl rl (k + 1))) 43 (0, 0))) := Bx.mk (fun n => by
    rw [heap_setCell_same (wr.drewN n) _ _ _ _ _ h.row, u32s_set]; rfl)
  have HK := Bx.mk h.kept
  obtain ⟨x, rfl, hx⟩ := open266 h.lv.fr
  have e2 := (hx 2).symm.trans h.lv.s2
  have e4 := (hx 4).symm.trans h.lv.s4
  have e5 := (hx 5).symm.trans h.lv.s5
  have e8 := (hx 8).symm.trans h.lv.s8
  have e9 := (hx 9).symm.trans h.lv.s9
  have e15 := (hx 15).symm.trans h.s15
  have e23 := (hx 23).symm.trans h.s23
  clear h hx hV hv hh
  rw [e2, e4, e5, e8, e9, e15, e23]
  clear e2 e4 e5 e8 e9 e15 e23
  generalize (addW hl rl k).getD k 0 = x0 at *
  generalize rl.getD k 0 = y0 at *
  have hk1 : (k : Int) < 8 := by omega
  conv => arg 2; whnf
  go_wp2
  go_still_tail 9, (by kernel_rfl)
  change wpList _ _ _ _ _ (wr.drewN 1)
  go_wp2
  exact ⟨⟨⟨rfl, rfl⟩, rfl, rfl, rfl, rfl, rfl⟩, rfl, by go_num, by rw [uv_add]; exact HS.out _, kb_trans (kb_trans HK.out (kb_drewN _ _ _)) (kb_setCell _ _ _)⟩
set_option maxRecDepth 100000 in
theorem last7 (v2 v4 v5 v9 : Value) (Hb Vb : Nat) (W0 : World) (hl rl : List (BitVec 32)) (Q : Exit → Act → World → Prop) (N : Act → World → Prop)
    (hq : ∀ a' w', I7 v2 v4 v5 v9 Hb Vb W0 hl rl 8 a' w' → Q (.exit 12) a' w') (a : Act) (wr : World) (h : I7 v2 v4 v5 v9 Hb Vb W0 hl rl 8 a wr) :
    Code.wp Tryd.prog (loopAt Tryd.f51.body 6) (Exit.then N Q) a wr := by
  have HR := Bx.mk h.row
  have HK := Bx.mk h.kept
  have HQ := Bx.mk hq
  clear hq
  obtain ⟨x, rfl, hx⟩ := open266 h.lv.fr
  have e2 := (hx 2).symm.trans h.lv.s2
  have e4 := (hx 4).symm.trans h.lv.s4
  have e5 := (hx 5).symm.trans h.lv.s5
  have e8 := (hx 8).symm.trans h.lv.s8
  have e9 := (hx 9).symm.trans h.lv.s9
  have e15 := (hx 15).symm.trans h.s15
  have e23 : x 23 = .int .i64 8 := (hx 23).symm.trans h.s23
  clear h hx 
  rw [e2, e4, e5, e8, e9, e15, e23]
  clear e2 e4 e5 e8 e9 e15 e23
  conv => arg 2; whnf
  go_wp2
  exact HQ.out _ _ ⟨⟨⟨rfl, rfl⟩, rfl, rfl, rfl, rfl, rfl⟩, rfl, rfl, HR.out, HK.out⟩
/-- A block's words are added. -/
theorem loop7 (v2 v4 v5 v9 : Value) (Hb Vb : Nat) (W0 : World) (hl rl : List (BitVec 32)) (Q : Exit → Act → World → Prop)
    (hV : ∀ i, i < 8 → W0.cell? ⟨Vb, i, none⟩ = some (.int .u32 (uv (rl.getD i 0)))) (hv : Vb ≠ Hb) (hh : hl.length = 8)
    (a : Act) (wr : World) (h : I7 v2 v4 v5 v9 Hb Vb W0 hl rl 0 a wr) (hq : ∀ a' w', I7 v2 v4 v5 v9 Hb Vb W0 hl rl 8 a' w' → Q (.exit 12) a' w') :
    Code.wp Tryd.prog (.loop (loopAt Tryd.f51.body 6)) Q a wr :=
  wp_count 8 (fun q => I7 v2 v4 v5 v9 Hb Vb W0 hl rl q) 0 (by omega) h (fun q a w hlt hI => round7 v2 v4 v5 v9 Hb Vb W0 hl rl Q hV hv hh q hlt a w hI) (fun a w hI => last7 v2 v4 v5 v9 Hb Vb W0 hl rl Q _ hq a w hI)
end Go.Proofs.YtaoekfomffebhaaDoor
namespace Go.Proofs.YtaoekfomffebhaaDoor
open Go Go.RowKit
/-- The bytes, when i of them are made. -/
def outB (hl : List (BitVec 32)) : Nat → List UInt8
  | 0 => List.replicate 32 0
  | i + 1 => (outB hl i).set i (byteOf (hl.getD (i / 4) 0) (3 - i % 4))
theorem outB_length (hl : List (BitVec 32)) (i : Nat) : (outB hl i).length = 32 := by
  induction i with
  | zero => rfl
  | succ i ih => rw [outB, List.length_set, ih]
theorem outB_at (a b c d e f g i : BitVec 32) : outB [a, b, c, d, e, f, g, i] 32 = outOf [a, b, c, d, e, f, g, i] := by kernel_rfl
theorem outB_all (ws : List (BitVec 32)) (h : ws.length = 8) : outB ws 32 = outOf ws := by
  match ws, h with
  | [a, b, c, d, e, f, g, i], _ => exact outB_at a b c d e f g i
theorem out_byte (x : BitVec 32) (i sh : Nat) (h : sh = 24 - 8 * (i % 4)) : uv x / 2 ^ sh % 256 = ub (byteOf x (3 - i % 4)) := by
  rw [← uv_byte, h, show 24 - 8 * (i % 4) = 8 * (3 - i % 4) by omega]
/-- What holds at the head of each byte. -/
structure I8 (v2 v4 v5 v9 : Value) (Hb Ob : Nat) (W0 : World) (hl : List (BitVec 32)) (k : Nat) (a : Act) (wr : World) : Prop where
  lv : Lv v2 v4 v5 (.pointer (some ⟨Hb, 0, none⟩)) v9 a
  s24 : a.eval (.tmp 24) = .pointer (some ⟨Ob, 0, none⟩)
  s25 : a.eval (.tmp 25) = .int .i64 (k : Int)
  row : wr.heap[Ob]? = some (.cells (u8s (outB hl k)) 27 (0, 0))
  kept : W0.grownBy wr (some Ob)
set_option maxRecDepth 100000 in
set_option maxHeartbeats 1000000 in
theorem round8 (v2 v4 v5 v9 : Value) (Hb Ob : Nat) (W0 : World) (hl : List (BitVec 32)) (Q : Exit → Act → World → Prop)
    (hV : ∀ i, i < 8 → W0.cell? ⟨Hb, i, none⟩ = some (.int .u32 (uv (hl.getD i 0)))) (hv : Hb ≠ Ob)
    (k : Nat) (hk : k < 32) (a : Act) (wr : World) (h : I8 v2 v4 v5 v9 Hb Ob W0 hl k a wr) :
    Code.wp Tryd.prog (loopAt Tryd.f51.body 7) (Exit.then (fun a' w' => I8 v2 v4 v5 v9 Hb Ob W0 hl (k + 1) a' w') Q) a wr := by
  have c1 : ∃ v, wr.cell? ⟨Ob, k, none⟩ = some v := ⟨_, by rw [cell_of_row _ _ _ _ _ _ h.row]; exact u8s_get _ _ (by rw [outB_length]; exact hk)⟩
  obtain ⟨v1, c1⟩ := c1
  have f1 := frozen_of_row wr Ob k _ _ h.row
  have c2 := h.kept.cell (hV (k / 4) (by omega)) (by simpa using hv)
  have HS : Bx ((wr.setCell ⟨Ob, k, none⟩ (.int .u8 (ub (byteOf (hl.getD (k / 4) 0) (3 - k % 4))))).heap[Ob]? = some (.cells (u8s (outB hl (k + 1))) 27 (0, 0))) := Bx.mk (by
    rw [heap_setCell_same wr _ _ _ _ _ h.row, u8s_set]; rfl)
  have HK := Bx.mk h.kept
  obtain ⟨x, rfl, hx⟩ := open266 h.lv.fr
  have e2 := (hx 2).symm.trans h.lv.s2
  have e4 := (hx 4).symm.trans h.lv.s4
  have e5 := (hx 5).symm.trans h.lv.s5
  have e8 := (hx 8).symm.trans h.lv.s8
  have e9 := (hx 9).symm.trans h.lv.s9
  have e24 := (hx 24).symm.trans h.s24
  have e25 := (hx 25).symm.trans h.s25
  clear h hx hV hv
  rw [e2, e4, e5, e8, e9, e24, e25]
  clear e2 e4 e5 e8 e9 e24 e25
  generalize hl.getD (k / 4) 0 = x0 at *
  obtain ⟨sh, hsh⟩ : ∃ sh, sh = 24 - 8 * (k % 4) := ⟨_, rfl⟩
  have HX := Bx.mk (out_byte x0 k sh hsh)
  obtain ⟨kd, hkd⟩ : ∃ kd, k / 4 = kd := ⟨_, rfl⟩
  rw [hkd] at c2
  have q1 : (k : Int) / 4 = (kd : Int) := by omega
  have q2 : (kd : Int) < 8 := by omega
  have q3 : 24 - 8 * ((k : Int) % 4) = (sh : Int) := by omega
  have q4 : (sh : Int) ≤ 24 := by omega
  have HD := Bx.mk hkd
  have HH := Bx.mk hsh
  clear hkd hsh
  have hk1 : (k : Int) < 32 := by omega
  conv => arg 2; whnf
  go_wp2
  rw [HX.out]
  exact ⟨⟨⟨rfl, rfl⟩, rfl, rfl, rfl, rfl, rfl⟩, rfl, by go_num, HS.out, kb_trans HK.out (kb_setCell _ _ _)⟩
set_option maxRecDepth 100000 in
theorem last8 (v2 v4 v5 v9 : Value) (Hb Ob : Nat) (W0 : World) (hl : List (BitVec 32)) (Q : Exit → Act → World → Prop) (N : Act → World → Prop)
    (hq : ∀ a' w', I8 v2 v4 v5 v9 Hb Ob W0 hl 32 a' w' → Q (.exit 14) a' w') (a : Act) (wr : World) (h : I8 v2 v4 v5 v9 Hb Ob W0 hl 32 a wr) :
    Code.wp Tryd.prog (loopAt Tryd.f51.body 7) (Exit.then N Q) a wr := by
  have HR := Bx.mk h.row
  have HK := Bx.mk h.kept
  have HQ := Bx.mk hq
  clear hq
  obtain ⟨x, rfl, hx⟩ := open266 h.lv.fr
  have e2 := (hx 2).symm.trans h.lv.s2
  have e4 := (hx 4).symm.trans h.lv.s4
  have e5 := (hx 5).symm.trans h.lv.s5
  have e8 := (hx 8).symm.trans h.lv.s8
  have e9 := (hx 9).symm.trans h.lv.s9
  have e24 := (hx 24).symm.trans h.s24
  have e25 : x 25 = .int .i64 32 := (hx 25).symm.trans h.s25
  clear h hx 
  rw [e2, e4, e5, e8, e9, e24, e25]
  clear e2 e4 e5 e8 e9 e24 e25
  conv => arg 2; whnf
  go_wp2
  exact HQ.out _ _ ⟨⟨⟨rfl, rfl⟩, rfl, rfl, rfl, rfl, rfl⟩, rfl, rfl, HR.out, HK.out⟩
/-- The 32 bytes. -/
theorem loop8 (v2 v4 v5 v9 : Value) (Hb Ob : Nat) (W0 : World) (hl : List (BitVec 32)) (Q : Exit → Act → World → Prop)
    (hV : ∀ i, i < 8 → W0.cell? ⟨Hb, i, none⟩ = some (.int .u32 (uv (hl.getD i 0)))) (hv : Hb ≠ Ob)
    (a : Act) (wr : World) (h : I8 v2 v4 v5 v9 Hb Ob W0 hl 0 a wr) (hq : ∀ a' w', I8 v2 v4 v5 v9 Hb Ob W0 hl 32 a' w' → Q (.exit 14) a' w') :
    Code.wp Tryd.prog (.loop (loopAt Tryd.f51.body 7)) Q a wr :=
  wp_count 32 (fun q => I8 v2 v4 v5 v9 Hb Ob W0 hl q) 0 (by omega) h (fun q a w hlt hI => round8 v2 v4 v5 v9 Hb Ob W0 hl Q hV hv q hlt a w hI) (fun a w hI => last8 v2 v4 v5 v9 Hb Ob W0 hl Q _ hq a w hI)
end Go.Proofs.YtaoekfomffebhaaDoor
namespace Go.Proofs.YtaoekfomffebhaaDoor
open Go Go.RowKit
theorem RS.kept {w wr w1 : World} {tb : Array Value} {l : List UInt8} {v : Value} (h : RS w tb l v wr) {b : Nat} (hk : wr.grownBy w1 (some b)) (hb : w.heap.size + 2 ≤ b) (hne : v.ownBlock ≠ some b) : RS w tb l v w1 := by
  have h2 := h.size
  have hne' : ∀ i, i < w.heap.size + 2 → some i ≠ some b := fun i hi e => by injection e with e; omega
  exact ⟨⟨hk.os.trans h.below.os, hk.tape.trans h.below.tape, hk.output.trans h.below.output, Nat.le_trans h.below.size hk.size, fun i hi => (hk.block i (by omega) (hne' i (by omega))).trans (h.below.block i hi)⟩,
    Nat.le_trans h.size hk.size, by rw [hk.block _ (by omega) (hne' _ (by omega))]; exact h.tab, by rw [hk.block _ (by omega) (hne' _ (by omega))]; exact h.res, h.own.kept hk hne⟩
theorem RE.kept {w wr w1 : World} {tb : Array Value} {m : List UInt8} {G L C Hb : Nat} {hl : List (BitVec 32)} (h : RE w tb m G L C Hb hl wr) {b : Nat} (hk : wr.grownBy w1 (some b)) (hb : w.heap.size + 2 ≤ b) (h1 : G ≠ b) (h2 : Hb ≠ b) : RE w tb m G L C Hb hl w1 :=
  ⟨h.rs.kept hk hb (by intro e; injection e with e; exact h1 e), h.hb, h.ne, Nat.lt_of_lt_of_le h.lt hk.size, by rw [hk.block _ h.lt (by intro e; injection e with e; exact h2 e)]; exact h.row⟩
theorem RE.mixed {w wr w1 : World} {tb : Array Value} {m : List UInt8} {G L C Hb : Nat} {hl hl' : List (BitVec 32)} (h : RE w tb m G L C Hb hl wr) (hk : wr.grownBy w1 (some Hb)) (hr : w1.heap[Hb]? = some (.cells (u32s hl') 43 (0, 0))) : RE w tb m G L C Hb hl' w1 :=
  ⟨h.rs.kept hk h.hb (by intro e; injection e with e; exact h.ne e), h.hb, h.ne, Nat.lt_of_lt_of_le h.lt hk.size, hr⟩
theorem tab_cell {w : World} {b : Nat} {t : TypeId} {tb : Array Value} (h : w.heap[b]? = some (.cells tb t (0, 0))) (ht : u32s (kTab ++ hTab) = tb) (i : Nat) (hi : i < 64) : w.cell? ⟨b, i, none⟩ = some (.int .u32 (uv (kTab.getD i 0))) := by
  rw [cell_of_row _ _ _ _ _ _ h, ← ht, u32s_get _ _ (by show i < 72; omega)]
  congr 3
  rw [List.getD_eq_getElem?_getD, List.getElem?_append_left (by show i < 64; omega), ← List.getD_eq_getElem?_getD]
theorem list_eight (l : List (BitVec 32)) (h : l.length = 8) : (eightOf l).list = l := by
  match l, h with
  | [a, b, c, d, e, f, g, i], _ => rfl
theorem hs_mix (k : Nat) (m : List UInt8) : hs (k + 1) m = mix (hs k m) (blk k m) := rfl
/-- What holds at the head of each block. -/
structure I3 (w : World) (tb : Array Value) (m : List UInt8) (G L C Hb : Nat) (k : Nat) (a : Act) (wr : World) : Prop where
  lv : Lv (.pointer (some ⟨w.heap.size, 0, none⟩)) (.pointer (some ⟨w.heap.size + 1, 0, none⟩)) (.slice (some ⟨G, 0, none⟩) L C) (.pointer (some ⟨Hb, 0, none⟩)) (.int .i64 ((64 * k : Nat) : Int)) a
  re : RE w tb m G L C Hb (hs k m) wr
set_option maxRecDepth 100000 in
set_option maxHeartbeats 2000000 in
theorem round3 (w : World) (tb : Array Value) (m : List UInt8) (G L C Hb : Nat) (Q : Exit → Act → World → Prop) (htb : u32s (kTab ++ hTab) = tb) (hml : m.length = L) (hL1 : L ≤ 1099511628000)
    (k : Nat) (hk : 64 * k + 64 ≤ L) (a : Act) (wr : World) (h : I3 w tb m G L C Hb k a wr) :
    Code.wp Tryd.prog (loopAt Tryd.f51.body 2) (Exit.then (fun a' w' => I3 w tb m G L C Hb (k + 1) a' w') Q) a wr := by
  have HR := Bx.mk h.re
  have HT := Bx.mk htb
  have HM := Bx.mk (And.intro hml (And.intro hL1 hk))
  obtain ⟨x, rfl, hx⟩ := open266 h.lv.fr
  have e2 := (hx 2).symm.trans h.lv.s2
  have e4 := (hx 4).symm.trans h.lv.s4
  have e5 := (hx 5).symm.trans h.lv.s5
  have e8 := (hx 8).symm.trans h.lv.s8
  have e9 := (hx 9).symm.trans h.lv.s9
  clear h hx htb hml
  rw [e2, e4, e5, e8, e9]
  clear e2 e4 e5 e8 e9
  obtain ⟨o, ho⟩ : ∃ o, 64 * k = o := ⟨_, rfl⟩
  rw [ho]
  have HO := Bx.mk ho
  have h1 : (o : Int) < (L : Int) := by omega
  have h2 : (L : Int) ≤ 1099511628000 := by omega
  clear hL1 hk ho
  have HI64 : Bx ((Tryd.prog.info? 42).map (·.size) = some (u32s (List.replicate 64 0)).size) := Bx.mk (by kernel_rfl)
  obtain ⟨wc, rfl⟩ : ∃ wc : World, wc = wr := ⟨_, rfl⟩
  have HHw : Bx (w.heap.size + 2 ≤ wc.heap.size ∧ G ≠ wc.heap.size ∧ Hb ≠ wc.heap.size) := Bx.mk (by
    have h1 := HR.out.lt
    have h2 := HR.out.rs.size
    have h3 := (HR.out.rs.own.lt G rfl).1
    exact ⟨h2, by omega, by omega⟩)
  conv => arg 2; whnf
  go_wp2_with (refine wpList_store_new rfl 42 _ _ rfl wc.heap.size (u32s (List.replicate 64 0)) _ _ (by rfl) (by rfl) (hnew _ _ _ rfl) (by kernel_rfl) HI64.out (one_u32s _) ?_; intro w5 hw5 hr5; have H5 : Bx (RE w tb m G L C Hb (hs k m) w5 ∧ w5.heap[wc.heap.size]? = some (.cells (u32s (List.replicate 64 0)) 42 (0, 0)) ∧ w5.heap.size = wc.heap.size + 1) := Bx.mk ⟨by rw [hw5]; exact RE.sets _ HHw.out.1 HHw.out.2.1 HHw.out.2.2 _ _ _ (HR.out.alloc _), hr5, by rw [hw5, size_setCells]; simp⟩; clear hw5 hr5)
  clear HI64 HR
  generalize wc.heap.size = Wb at *
  refine loop4 (.pointer (some ⟨w.heap.size, 0, none⟩)) (.pointer (some ⟨w.heap.size + 1, 0, none⟩)) (.pointer (some ⟨Hb, 0, none⟩)) G L C Wb w5 m (blk k m) o _ (fun i hi => own_cell H5.out.1.rs.own _ (by have := HM.out; have := HO.out; omega)) (fun j hj => by rw [← HO.out]; exact blk_word m k j hj) HHw.out.2.1 (by have := HM.out; have := HO.out; omega) HM.out.2.1 _ _ ⟨⟨⟨rfl, rfl⟩, rfl, rfl, rfl, rfl, rfl⟩, rfl, rfl, H5.out.2.1, kb_refl _ _⟩ ?_
  intro a' w6 h
  have H6 : Bx (RE w tb m G L C Hb (hs k m) w6 ∧ w6.heap[Wb]? = some (.cells (u32s (words (blk k m))) 42 (0, 0)) ∧ Wb < w6.heap.size) := Bx.mk ⟨H5.out.1.kept h.kept HHw.out.1 HHw.out.2.1 HHw.out.2.2, by rw [← stW_words]; exact h.row, by have := h.kept.size; have := H5.out.2.2; omega⟩
  clear H5
  obtain ⟨x, rfl, hx⟩ := open266 h.lv.fr
  have e2 := (hx 2).symm.trans h.lv.s2
  have e4 := (hx 4).symm.trans h.lv.s4
  have e5 := (hx 5).symm.trans h.lv.s5
  have e8 := (hx 8).symm.trans h.lv.s8
  have e9 := (hx 9).symm.trans h.lv.s9
  have e10 := (hx 10).symm.trans h.s10
  clear h hx 
  rw [e2, e4, e5, e8, e9, e10]
  clear e2 e4 e5 e8 e9 e10
  have HH8 : Bx ((hs k m).length = 8) := Bx.mk (hs_length k m)
  have HSM : Bx (hs (k + 1) m = mix (hs k m) (blk k m)) := Bx.mk (hs_mix k m)
  generalize hs k m = hl at *
  have HI8 : Bx ((Tryd.prog.info? 43).map (·.size) = some (u32s hl).size) := Bx.mk (by rw [u32s_size, HH8.out]; kernel_rfl)
  have HN8 : Bx ((w6.alloc (.cells #[.int .u32 0, .int .u32 0, .int .u32 0, .int .u32 0, .int .u32 0, .int .u32 0, .int .u32 0, .int .u32 0] 43)).heap[w6.heap.size]? = some (.cells (u32s (List.replicate 8 0)) 43 (0, 0))) := Bx.mk (by rw [hnew _ _ _ rfl, zero8])
  have HS8 : Bx ((u32s hl).size = (u32s (List.replicate 8 0)).size) := Bx.mk (by rw [u32s_size, u32s_size, HH8.out]; rfl)
  have HVw : Bx (w.heap.size + 2 ≤ w6.heap.size ∧ G ≠ w6.heap.size ∧ Hb ≠ w6.heap.size) := Bx.mk (by
    have h1 := H6.out.1.lt
    have h2 := H6.out.1.rs.size
    have h3 := (H6.out.1.rs.own.lt G rfl).1
    exact ⟨h2, by omega, by omega⟩)
  go_wp2_with (first | (refine wpList_load_row rfl 43 _ rfl Hb (by rfl) _ _ _ _ H6.out.1.row Tryd.underlying43 rfl HI8.out ?_) | (refine wpList_store_new rfl 43 _ _ rfl w6.heap.size (u32s hl) _ _ (by rfl) (by rfl) HN8.out HS8.out HI8.out (one_u32s _) ?_; intro w7 hw7 hr7; have H7 : Bx (RE w tb m G L C Hb hl w7 ∧ w7.heap[w6.heap.size]? = some (.cells (u32s hl) 43 (0, 0)) ∧ w7.heap[Wb]? = some (.cells (u32s (words (blk k m))) 42 (0, 0)) ∧ w7.heap.size = w6.heap.size + 1 ∧ Wb ≠ w6.heap.size) := Bx.mk ⟨by rw [hw7]; exact RE.sets _ HVw.out.1 HVw.out.2.1 HVw.out.2.2 _ _ _ (H6.out.1.alloc _), hr7, by (rw [hw7, heap_setCells_other _ _ (by have := H6.out.2.2; omega), hold _ _ _ H6.out.2.2]; exact H6.out.2.1), by rw [hw7, size_setCells]; simp, by have := H6.out.2.2; omega⟩; clear hw7 hr7))
  clear H6 HN8 HI8 HS8
  generalize w6.heap.size = Vb at *
  refine loop6 (.pointer (some ⟨w.heap.size + 1, 0, none⟩)) (.slice (some ⟨G, 0, none⟩) L C) (.pointer (some ⟨Hb, 0, none⟩)) (.int .i64 (o : Int)) w.heap.size Wb Vb w7 (blk k m) (eightOf hl) _ (tab_cell H7.out.1.rs.tab HT.out) (fun i hi => cell_u32 H7.out.2.2.1 i (by rw [words_length]; exact hi)) (by have := HVw.out.1; omega) H7.out.2.2.2.2 _ _ ⟨⟨⟨rfl, rfl⟩, rfl, rfl, rfl, rfl, rfl⟩, rfl, rfl, rfl, by rw [show rnds (blk k m) (eightOf hl) 0 = eightOf hl from rfl, list_eight hl HH8.out]; exact H7.out.2.1, kb_refl _ _⟩ ?_
  intro a' w8 h
  have H8 : Bx (RE w tb m G L C Hb hl w8 ∧ w8.heap[Vb]? = some (.cells (u32s (rnds (blk k m) (eightOf hl) 64).list) 43 (0, 0))) := Bx.mk ⟨H7.out.1.kept h.kept HVw.out.1 HVw.out.2.1 HVw.out.2.2, h.row⟩
  clear H7
  obtain ⟨x, rfl, hx⟩ := open266 h.lv.fr
  have e2 := (hx 2).symm.trans h.lv.s2
  have e4 := (hx 4).symm.trans h.lv.s4
  have e5 := (hx 5).symm.trans h.lv.s5
  have e8 := (hx 8).symm.trans h.lv.s8
  have e9 := (hx 9).symm.trans h.lv.s9
  have e10 := (hx 10).symm.trans h.s10
  have e15 := (hx 15).symm.trans h.s15
  clear h hx 
  rw [e2, e4, e5, e8, e9, e10, e15]
  clear e2 e4 e5 e8 e9 e10 e15
  go_wp2
  refine loop7 (.pointer (some ⟨w.heap.size, 0, none⟩)) (.pointer (some ⟨w.heap.size + 1, 0, none⟩)) (.slice (some ⟨G, 0, none⟩) L C) (.int .i64 (o : Int)) Hb Vb w8 hl (rnds (blk k m) (eightOf hl) 64).list _ (fun i hi => cell_u32 H8.out.2 i hi) (fun e => HVw.out.2.2 e.symm) HH8.out _ _ ⟨⟨⟨rfl, rfl⟩, rfl, rfl, rfl, rfl, rfl⟩, rfl, rfl, H8.out.1.row, kb_refl _ _⟩ ?_
  intro a' w9 h
  have H9 : Bx (RE w tb m G L C Hb (hs (k + 1) m) w9) := Bx.mk (by rw [HSM.out]; exact H8.out.1.mixed h.kept h.row)
  clear H8
  obtain ⟨x, rfl, hx⟩ := open266 h.lv.fr
  have e2 := (hx 2).symm.trans h.lv.s2
  have e4 := (hx 4).symm.trans h.lv.s4
  have e5 := (hx 5).symm.trans h.lv.s5
  have e8 := (hx 8).symm.trans h.lv.s8
  have e9 := (hx 9).symm.trans h.lv.s9
  clear h hx 
  rw [e2, e4, e5, e8, e9]
  clear e2 e4 e5 e8 e9
  go_wp2
  have HE : Bx (((64 * (k + 1) : Nat) : Int) = (o : Int) + 64) := Bx.mk (by have := HO.out; omega)
  exact ⟨⟨⟨rfl, rfl⟩, rfl, rfl, rfl, rfl, by rw [HE.out]; rfl⟩, H9.out⟩
set_option maxRecDepth 100000 in
theorem last3 (w : World) (tb : Array Value) (m : List UInt8) (G L C Hb : Nat) (Q : Exit → Act → World → Prop) (N : Act → World → Prop) (k : Nat) (hk : L = 64 * k) (hL1 : L ≤ 1099511628000)
    (hq : ∀ a' w', I3 w tb m G L C Hb k a' w' → Q (.exit 4) a' w') (a : Act) (wr : World) (h : I3 w tb m G L C Hb k a wr) :
    Code.wp Tryd.prog (loopAt Tryd.f51.body 2) (Exit.then N Q) a wr := by
  have HR := Bx.mk h.re
  have HQ := Bx.mk hq
  have HE := Bx.mk hk
  clear hq
  obtain ⟨x, rfl, hx⟩ := open266 h.lv.fr
  have e2 := (hx 2).symm.trans h.lv.s2
  have e4 := (hx 4).symm.trans h.lv.s4
  have e5 := (hx 5).symm.trans h.lv.s5
  have e8 := (hx 8).symm.trans h.lv.s8
  have e9 := (hx 9).symm.trans h.lv.s9
  clear h hx 
  rw [e2, e4, e5, e8, e9]
  clear e2 e4 e5 e8 e9
  rw [← hk]
  clear hk
  have h1 : (L : Int) ≤ 1099511628000 := by omega
  conv => arg 2; whnf
  go_wp2
  exact HQ.out _ _ ⟨⟨⟨rfl, rfl⟩, rfl, rfl, rfl, rfl, by rw [← HE.out]; rfl⟩, HR.out⟩
/-- All blocks. -/
theorem loop3 (w : World) (tb : Array Value) (m : List UInt8) (G L C Hb : Nat) (Q : Exit → Act → World → Prop) (htb : u32s (kTab ++ hTab) = tb) (hml : m.length = L) (hL1 : L ≤ 1099511628000) (h64 : L % 64 = 0)
    (a : Act) (wr : World) (h : I3 w tb m G L C Hb 0 a wr) (hq : ∀ a' w', I3 w tb m G L C Hb (L / 64) a' w' → Q (.exit 4) a' w') :
    Code.wp Tryd.prog (.loop (loopAt Tryd.f51.body 2)) Q a wr :=
  wp_count (L / 64) (fun q => I3 w tb m G L C Hb q) 0 (by omega) h (fun q a w1 hlt hI => round3 w tb m G L C Hb Q htb hml hL1 q (by omega) a w1 hI) (fun a w1 hI => last3 w tb m G L C Hb Q _ (L / 64) (by omega) hL1 hq a w1 hI)
end Go.Proofs.YtaoekfomffebhaaDoor
namespace Go.Proofs.YtaoekfomffebhaaDoor
open Go Go.RowKit
set_option maxRecDepth 100000 in
set_option maxHeartbeats 4000000 in
theorem rsum_any (bs : List UInt8) (v : Value) (w : World) (hv : Bytes w v bs) (hn : bs.length ≤ 1099511627776) :
    Calls Tryd.prog 51 #[.agg (u32s (kTab ++ hTab)), v] w fun e w' => e = .returned (.agg (u8s (sha bs))) ∧ Below w.heap.size w w' := by
  have HV := Bx.mk hv
  have HM := Bx.mk hn
  obtain ⟨a, cap, rfl, -⟩ := hv
  obtain ⟨n, hnn⟩ : ∃ n, bs.length = n := ⟨_, rfl⟩
  have HN := Bx.mk hnn
  rw [hnn] at HV hn ⊢
  have hn1 : (n : Int) ≤ 1099511627776 := by omega
  obtain ⟨tb, htb⟩ : ∃ tb, u32s (kTab ++ hTab) = tb := ⟨_, rfl⟩
  have HTb := Bx.mk htb
  rw [htb]
  obtain ⟨res, hres⟩ : ∃ res, sha bs = res := ⟨_, rfl⟩
  have HRes := Bx.mk hres
  rw [hres]
  clear hnn hn htb hres
  have H0 : Bx (Below w.heap.size w ((w.alloc (.cells tb 45)).alloc (.cells #[.int .u8 0, .int .u8 0, .int .u8 0, .int .u8 0, .int .u8 0, .int .u8 0, .int .u8 0, .int .u8 0, .int .u8 0, .int .u8 0, .int .u8 0, .int .u8 0, .int .u8 0, .int .u8 0, .int .u8 0, .int .u8 0, .int .u8 0, .int .u8 0, .int .u8 0, .int .u8 0, .int .u8 0, .int .u8 0, .int .u8 0, .int .u8 0, .int .u8 0, .int .u8 0, .int .u8 0, .int .u8 0, .int .u8 0, .int .u8 0, .int .u8 0, .int .u8 0] 27)) ∧ ((w.alloc (.cells tb 45)).alloc (.cells #[.int .u8 0, .int .u8 0, .int .u8 0, .int .u8 0, .int .u8 0, .int .u8 0, .int .u8 0, .int .u8 0, .int .u8 0, .int .u8 0, .int .u8 0, .int .u8 0, .int .u8 0, .int .u8 0, .int .u8 0, .int .u8 0, .int .u8 0, .int .u8 0, .int .u8 0, .int .u8 0, .int .u8 0, .int .u8 0, .int .u8 0, .int .u8 0, .int .u8 0, .int .u8 0, .int .u8 0, .int .u8 0, .int .u8 0, .int .u8 0, .int .u8 0, .int .u8 0] 27)).heap.size = w.heap.size + 2 ∧ ((w.alloc (.cells tb 45)).alloc (.cells #[.int .u8 0, .int .u8 0, .int .u8 0, .int .u8 0, .int .u8 0, .int .u8 0, .int .u8 0, .int .u8 0, .int .u8 0, .int .u8 0, .int .u8 0, .int .u8 0, .int .u8 0, .int .u8 0, .int .u8 0, .int .u8 0, .int .u8 0, .int .u8 0, .int .u8 0, .int .u8 0, .int .u8 0, .int .u8 0, .int .u8 0, .int .u8 0, .int .u8 0, .int .u8 0, .int .u8 0, .int .u8 0, .int .u8 0, .int .u8 0, .int .u8 0, .int .u8 0] 27)).heap[w.heap.size]? = some (.cells tb 45 (0, 0)) ∧ ((w.alloc (.cells tb 45)).alloc (.cells #[.int .u8 0, .int .u8 0, .int .u8 0, .int .u8 0, .int .u8 0, .int .u8 0, .int .u8 0, .int .u8 0, .int .u8 0, .int .u8 0, .int .u8 0, .int .u8 0, .int .u8 0, .int .u8 0, .int .u8 0, .int .u8 0, .int .u8 0, .int .u8 0, .int .u8 0, .int .u8 0, .int .u8 0, .int .u8 0, .int .u8 0, .int .u8 0, .int .u8 0, .int .u8 0, .int .u8 0, .int .u8 0, .int .u8 0, .int .u8 0, .int .u8 0, .int .u8 0] 27)).heap[w.heap.size + 1]? = some (.cells (u8s (List.replicate 32 0)) 27 (0, 0))) := Bx.mk ⟨((Below.refl _ _).alloc (Nat.le_refl _) _).alloc (by simp) _, by simp, by rw [hold _ _ _ (by simp), hnew _ _ _ rfl], by rw [hnew _ _ _ (by simp), zero32]⟩
  go_enter Tryd.func51, Tryd.ntmps51
  go_upto_region 1 with (fail)
  have HVb : Bx (∀ W : World, Below w.heap.size w W → Bytes W (.slice a n cap) bs) := Bx.mk (fun W h => HV.out.later h)
  generalize (w.alloc (.cells tb 45)).alloc (.cells #[.int .u8 0, .int .u8 0, .int .u8 0, .int .u8 0, .int .u8 0, .int .u8 0, .int .u8 0, .int .u8 0, .int .u8 0, .int .u8 0, .int .u8 0, .int .u8 0, .int .u8 0, .int .u8 0, .int .u8 0, .int .u8 0, .int .u8 0, .int .u8 0, .int .u8 0, .int .u8 0, .int .u8 0, .int .u8 0, .int .u8 0, .int .u8 0, .int .u8 0, .int .u8 0, .int .u8 0, .int .u8 0, .int .u8 0, .int .u8 0, .int .u8 0, .int .u8 0] 27) = w0 at *
  have H1 : Bx (RS w tb [] (.slice (some ⟨w0.heap.size, 0, none⟩) 0 0) (w0.alloc (.cells #[] 5))) := Bx.mk (by
    obtain ⟨q1, q2, q3, q4⟩ := H0.out
    exact ⟨q1.alloc q1.size _, by simp; omega, by rw [hold _ _ _ (by omega)]; exact q3, by rw [hold _ _ _ (by omega)]; exact q4, own_empty w0 _ (by omega)⟩)
  clear H0
  go_wp2_with (first | (refine wpList_ap (o := ⟨some 28, _, _, _, _, _⟩) rfl _ _ rfl (w.heap.size + 2) _ [] (by rfl) H1.out.own _ bs (by rfl) (HVb.out _ H1.out.below) (by rw [HN.out]; have := HM.out; have := HN.out; simp only [List.length_nil]; omega) H1.out.size ?_; intro v1 w1 h1 g1 _; have H2 : Bx (RS w tb bs v1 w1) := Bx.mk (H1.out.ap h1 g1); clear h1 g1) | (refine wpList_ap (o := ⟨some 30, _, _, _, _, _⟩) rfl _ _ rfl (w.heap.size + 2) _ bs (by rfl) (H2.out.alloc _).own _ [128] (by rfl) (one_128 _) (by have := HM.out; simp only [List.length_cons, List.length_nil]; omega) (H2.out.alloc _).size ?_; intro v2 w2 h1 g1 _; have H3 : Bx (RS w tb (bs ++ [128]) v2 w2) := Bx.mk ((H2.out.alloc _).ap h1 g1); clear h1 g1))
  clear H1 H2
  obtain ⟨a2, cap2, hv2⟩ := own_form H3.out.own
  have e2 : (bs ++ [128]).length = n + 1 := by rw [List.length_append, HN.out]; rfl
  rw [e2] at hv2
  subst hv2
  have H4 : Bx (∃ k : Nat, k ≤ zerosOf n ∧ RS w tb (bs ++ [128] ++ List.replicate k 0) (.slice a2 (n + 1) cap2) w2 ∧ n + 1 = n + 1 + k) := Bx.mk ⟨0, by omega, by rw [List.replicate_zero, List.append_nil]; exact H3.out, rfl⟩
  clear e2 H3
  go_loopw [5] (fun vv wr => ∃ (A : Option Addr) (L C : Nat), vv = .slice A L C ∧ Bx (∃ k : Nat, k ≤ zerosOf n ∧ RS w tb (bs ++ [128] ++ List.replicate k 0) (.slice A L C) wr ∧ L = n + 1 + k)) (fun vv _ => n + 66 - lenV vv)
  case atStart => exact ⟨a2, n + 1, cap2, rfl, H4⟩
  case round =>
    clear H4
    obtain ⟨A, L, C, rfl, HK⟩ := hrel
    obtain ⟨k, hk, hrs, hL⟩ := HK.out
    have HZ : Bx (zerosOf n < 64 ∧ (n + zerosOf n + 9) % 64 = 0) := Bx.mk ⟨Nat.mod_lt _ (by omega), pad_whole n⟩
    have hL1 : (L : Int) ≤ 1099511627900 := by have := HZ.out.1; omega
    by_cases hlt : k < zerosOf n
    · have t1 : ((L : Int) % 64 != 56) = true := by
        have := HZ.out
        simp only [bne_iff_ne, ne_eq]
        omega
      have HR := Bx.mk hrs
      have HL := Bx.mk hL
      clear hrs HK
      go_wp2_with (refine wpList_ap rfl _ _ rfl (w.heap.size + 2) _ (bs ++ [128] ++ List.replicate k 0) (by rfl) (HR.out.alloc _).own _ [0] (by rfl) (one_0 _) (by have := HM.out; have := HZ.out.1; simp only [List.length_append, List.length_replicate, List.length_cons, List.length_nil]; omega) (HR.out.alloc _).size ?_; intro v3 w3 h1 g1 _; have H3 : Bx (RS w tb (bs ++ [128] ++ List.replicate (k + 1) 0) v3 w3) := Bx.mk (by rw [List.replicate_succ', ← List.append_assoc]; exact (HR.out.alloc _).ap h1 g1); clear h1 g1)
      obtain ⟨A3, C3, hv3⟩ := own_form H3.out.own
      have e3 : (bs ++ [128] ++ List.replicate (k + 1) 0).length = n + 1 + (k + 1) := by simp only [List.length_append, List.length_replicate, List.length_cons, List.length_nil, HN.out]
      rw [e3] at hv3
      subst hv3
      clear e3 HR
      go_roundw
      case rel => exact ⟨A3, _, C3, rfl, Bx.mk ⟨k + 1, by omega, H3.out, rfl⟩⟩
      case measure => have := HL.out; have := HZ.out.1; simp only [lenV]; omega
    · have ek : k = zerosOf n := by omega
      have t1 : ((L : Int) % 64 != 56) = false := by
        have := HZ.out
        simp only [bne_eq_false_iff_eq]
        omega
      rw [ek] at hrs hL
      have HR := Bx.mk hrs
      have HL := Bx.mk hL
      clear hrs HK hL hk hlt ek
      obtain ⟨l1, hl1⟩ : ∃ l1, bs ++ [128] ++ List.replicate (zerosOf n) 0 = l1 := ⟨_, rfl⟩
      have HL1 := Bx.mk hl1
      have HLL : Bx (l1.length = n + 1 + zerosOf n) := Bx.mk (by rw [← hl1]; simp only [List.length_append, List.length_replicate, List.length_cons, List.length_nil, HN.out])
      rw [hl1] at HR
      clear hl1
      obtain ⟨wa, rfl⟩ : ∃ wa : World, wa = wr := ⟨_, rfl⟩
      go_wp2
      clear t1
      go_loopw [5, 7] (fun vv ii wr => ∃ (A : Option Addr) (L C i : Nat), i ≤ 8 ∧ vv = .slice A L C ∧ ii = .int .i64 (i : Int) ∧ Bx (RS w tb (l1 ++ (eight n).take i) (.slice A L C) wr ∧ L = n + 1 + zerosOf n + i)) (fun _ ii _ => 8 - (intOf ii).toNat)
      case atStart => exact ⟨A, L, C, 0, by omega, rfl, rfl, Bx.mk ⟨by rw [List.take_zero, List.append_nil]; exact HR.out, HL.out⟩⟩
      case round =>
        clear HR HL hL1
        obtain ⟨A, L, C, i, hi, rfl, rfl, HR⟩ := hrel
        by_cases hlt : i < 8
        · have hi1 : (i : Int) < 8 := by omega
          have p1 : 56 - 8 * (i : Int) = ((56 - 8 * i : Nat) : Int) := by omega
          have HE := Bx.mk (eight_at n i hlt)
          obtain ⟨P, hP⟩ : ∃ P, (2 : Nat) ^ (56 - 8 * i) = P := ⟨_, rfl⟩
          have pP : (2 : Int) ^ (56 - 8 * i) = (P : Int) := by rw [← hP]; simp
          have hP1 : 1 ≤ P := by rw [← hP]; exact Nat.one_le_two_pow
          have hP2 : P ≤ 2 ^ 56 := by rw [← hP]; exact Nat.pow_le_pow_right (by omega) (by omega)
          have p3 : ((56 - 8 * i : Nat) : Int) ≤ 56 := by omega
          rw [hP] at HE
          clear hP
          have p2 : 8 * (n : Int) / (P : Int) % 256 = ub ((eight n).getD i 0) := by
            unfold ub
            rw [← HE.out]
            simp
          obtain ⟨x, hx⟩ : ∃ x, (eight n).getD i 0 = x := ⟨_, rfl⟩
          have HX : Bx ((eight n).take (i + 1) = (eight n).take i ++ [x]) := Bx.mk (by rw [← hx]; exact eight_succ n i hlt)
          rw [hx] at p2
          clear hx HE
          have hP3 : (P : Int) ≤ 72057594037927936 := by omega
          go_wp2_with (refine wpList_ap rfl _ _ rfl (w.heap.size + 2) _ (l1 ++ (eight n).take i) (by rfl) (HR.out.1.alloc _).own _ [x] (by rfl) (built1 _ x) (by have := HM.out; have := HZ.out.1; rw [List.length_append, HLL.out, List.length_take, eight_length]; simp only [List.length_cons, List.length_nil]; omega) (HR.out.1.alloc _).size ?_; intro v3 w3 h1 g1 _; have H3 : Bx (RS w tb (l1 ++ (eight n).take (i + 1)) v3 w3) := Bx.mk (by rw [HX.out, ← List.append_assoc]; exact (HR.out.1.alloc _).ap h1 g1); clear h1 g1)
          obtain ⟨A3, C3, hv3⟩ := own_form H3.out.own
          have e3 : (l1 ++ (eight n).take (i + 1)).length = n + 1 + zerosOf n + (i + 1) := by rw [List.length_append, HLL.out, List.length_take, eight_length]; omega
          rw [e3] at hv3
          subst hv3
          clear e3 p1 pP p2 p3 hP1 hP2 hP3
          go_roundw
          case rel => exact ⟨A3, _, C3, i + 1, by omega, rfl, by go_num, Bx.mk ⟨H3.out, rfl⟩⟩
          case measure => simp [intOf]; omega
        · have ei : i = 8 := by omega
          obtain ⟨m, hm⟩ : ∃ m, bs ++ padOf n = m := ⟨_, rfl⟩
          have em : l1 ++ (eight n).take i = m := by
            rw [ei, List.take_of_length_le (by rw [eight_length]; omega), ← hm, pad_is, ← HL1.out]
            simp
          rw [em, ei] at HR
          have HML : Bx (m.length = L ∧ L % 64 = 0 ∧ 64 ≤ L ∧ L ≤ 1099511628000) := Bx.mk (by
            have h1 : m.length = n + (zerosOf n + 9) := by rw [← hm, List.length_append, pad_length, HN.out]
            have := HR.out.2
            have := HZ.out
            omega)
          have HSh : Bx (outOf (hs (L / 64) m) = res) := Bx.mk (by
            rw [← HRes.out]
            unfold sha
            have h1 := HR.out.2
            rw [HN.out, hm, show n + zerosOf n + 9 = L by omega])
          obtain ⟨G, hG, hGl⟩ := own_at HR.out.1.own (by have := HML.out; omega)
          subst hG
          have HR1 := Bx.mk HR.out.1
          have HGl := Bx.mk hGl
          clear HR em ei hm HL1 HLL hGl
          have HH8 : Bx (hTab.length = 8) := Bx.mk rfl
          have HRg : Bx (wr.rangeAt w.heap.size 64 (u32s hTab).toList) := Bx.mk (tab_range HR1.out.tab HTb.out)
          have HH0 : Bx (hs 0 m = hTab) := Bx.mk rfl
          generalize hht : hTab = ht at *
          have HHt := Bx.mk hht
          clear hht
          have HJ : Bx ((Tryd.prog.info? 43).map (·.size) = some (u32s ht).toList.length) := Bx.mk (by rw [Array.length_toList, u32s_size, HH8.out]; kernel_rfl)
          have HI8 : Bx ((Tryd.prog.info? 43).map (·.size) = some (u32s ht).size) := Bx.mk (by rw [u32s_size, HH8.out]; kernel_rfl)
          have HN8 : Bx ((wr.alloc (.cells #[.int .u32 0, .int .u32 0, .int .u32 0, .int .u32 0, .int .u32 0, .int .u32 0, .int .u32 0, .int .u32 0] 43)).heap[wr.heap.size]? = some (.cells (u32s (List.replicate 8 0)) 43 (0, 0))) := Bx.mk (by rw [hnew _ _ _ rfl, zero8])
          have HT8 : Bx ((wr.alloc (.cells #[.int .u32 0, .int .u32 0, .int .u32 0, .int .u32 0, .int .u32 0, .int .u32 0, .int .u32 0, .int .u32 0] 43)).there wr.heap.size 0 (u32s ht).size) := Bx.mk (there_row HN8.out 0 _ (by rw [u32s_size, u32s_size, HH8.out]; simp))
          have H9 : Bx (RE w tb m G L C wr.heap.size (hs 0 m) ((wr.alloc (.cells #[.int .u32 0, .int .u32 0, .int .u32 0, .int .u32 0, .int .u32 0, .int .u32 0, .int .u32 0, .int .u32 0] 43)).setCells wr.heap.size 0 (u32s ht).toList)) := Bx.mk (by
            rw [HH0.out]
            have hne : G ≠ wr.heap.size := by have := HGl.out; omega
            exact ⟨RS.sets _ HR1.out.size (by intro e; injection e with e; exact hne e) _ _ _ (HR1.out.alloc _), HR1.out.size, hne, by rw [size_setCells]; simp, heap_setCells_all HN8.out (by rw [u32s_size, u32s_size, HH8.out]; simp)⟩)
          obtain ⟨wb, rfl⟩ : ∃ wb : World, wb = wr := ⟨_, rfl⟩
          go_wp2_with (first | (refine wpList_load_mid rfl 43 _ rfl w.heap.size 64 (by rfl) (u32s ht).toList _ HRg.out Tryd.underlying43 rfl HJ.out ?_; rw [back_u32s]) | (refine wpList_store_mid rfl 43 _ _ rfl wb.heap.size 0 _ (by rfl) (by rfl) HT8.out HI8.out (one_u32s _) ?_))
          clear HRg HH0 HH8 HJ HI8 HN8 HT8 HR1 HGl HZ
          generalize (wb.alloc (.cells #[.int .u32 0, .int .u32 0, .int .u32 0, .int .u32 0, .int .u32 0, .int .u32 0, .int .u32 0, .int .u32 0] 43)).setCells wb.heap.size 0 (u32s ht).toList = w4 at *
          generalize wb.heap.size = Hb at *
          clear hlt hi
          generalize decide ((i : Int) < 8) = dead at *
          have HM64 := Bx.mk HML.out.2.1
          refine loop3 w tb m G L C Hb _ (by rw [HHt.out]; exact HTb.out) HML.out.1 HML.out.2.2.2 HM64.out _ _ ⟨⟨⟨rfl, rfl⟩, rfl, rfl, rfl, rfl, rfl⟩, H9.out⟩ ?_
          intro a' w9 h
          clear H9
          have H9 := Bx.mk h.re
          have HS := Bx.mk (hs_length (L / 64) m)
          obtain ⟨x, rfl, hx⟩ := open266 h.lv.fr
          have e2 := (hx 2).symm.trans h.lv.s2
          have e4 := (hx 4).symm.trans h.lv.s4
          have e5 := (hx 5).symm.trans h.lv.s5
          have e8 := (hx 8).symm.trans h.lv.s8
          have e9 := (hx 9).symm.trans h.lv.s9
          clear h hx
          rw [e2, e4, e5, e8, e9]
          clear e2 e4 e5 e8 e9
          generalize hs (L / 64) m = hl at *
          have HI32 : Bx ((Tryd.prog.info? 27).map (·.size) = some (u8s (List.replicate 32 0)).size) := Bx.mk (by kernel_rfl)
          have HVw : Bx (w.heap.size + 2 ≤ w9.heap.size ∧ Hb ≠ w9.heap.size) := Bx.mk ⟨H9.out.rs.size, by have := H9.out.lt; omega⟩
          go_wp2_with (refine wpList_store_new rfl 27 _ _ rfl w9.heap.size (u8s (List.replicate 32 0)) _ _ (by rfl) (by rfl) (hnew _ _ _ rfl) (by kernel_rfl) HI32.out (one_u8s _) ?_; intro w10 hw10 hr10; have H10 : Bx (RE w tb m G L C Hb hl w10 ∧ w10.heap[w9.heap.size]? = some (.cells (u8s (List.replicate 32 0)) 27 (0, 0))) := Bx.mk ⟨by rw [hw10]; exact RE.sets _ HVw.out.1 (by have := (H9.out.rs.own.lt G rfl).1; omega) HVw.out.2 _ _ _ (H9.out.alloc _), hr10⟩; clear hw10 hr10)
          have HG : Bx (G ≠ w9.heap.size) := Bx.mk (by have := (H9.out.rs.own.lt G rfl).1; omega)
          clear H9 HI32
          generalize w9.heap.size = Ob at *
          refine loop8 (.pointer (some ⟨w.heap.size, 0, none⟩)) (.pointer (some ⟨w.heap.size + 1, 0, none⟩)) (.slice (some ⟨G, 0, none⟩) L C) _ Hb Ob w10 hl _ (fun i hi => cell_u32 H10.out.1.row i (by rw [HS.out]; exact hi)) HVw.out.2 _ _ ⟨⟨⟨rfl, rfl⟩, rfl, rfl, rfl, rfl, rfl⟩, rfl, rfl, H10.out.2, kb_refl _ _⟩ ?_
          intro a' w11 h
          have H11 : Bx (RE w tb m G L C Hb hl w11 ∧ w11.heap[Ob]? = some (.cells (u8s res) 27 (0, 0))) := Bx.mk ⟨H10.out.1.kept h.kept HVw.out.1 HG.out HVw.out.2, by rw [← HSh.out, ← outB_all hl HS.out]; exact h.row⟩
          have HRL : Bx (res.length = 32) := Bx.mk (by rw [← HSh.out, ← outB_all hl HS.out, outB_length])
          clear H10
          obtain ⟨x, rfl, hx⟩ := open266 h.lv.fr
          have e2 := (hx 2).symm.trans h.lv.s2
          have e4 := (hx 4).symm.trans h.lv.s4
          have e5 := (hx 5).symm.trans h.lv.s5
          have e8 := (hx 8).symm.trans h.lv.s8
          have e9 := (hx 9).symm.trans h.lv.s9
          have e24 := (hx 24).symm.trans h.s24
          clear h hx
          rw [e2, e4, e5, e8, e9, e24]
          clear e2 e4 e5 e8 e9 e24
          
          have HI : Bx ((Tryd.prog.info? 27).map (·.size) = some (u8s res).size) := Bx.mk (by rw [u8s_size, HRL.out]; kernel_rfl)
          have HZ : Bx ((u8s res).size = (u8s (List.replicate 32 0)).size) := Bx.mk (by rw [u8s_size, u8s_size, HRL.out]; rfl)
          go_wp2_with (first | (refine wpList_load_row rfl 27 _ rfl Ob (by rfl) _ _ _ _ H11.out.2 Tryd.underlying27 rfl HI.out ?_) | (refine wpList_store_new rfl 27 _ _ rfl (w.heap.size + 1) (u8s res) _ _ (by rfl) (by rfl) H11.out.1.rs.res HZ.out HI.out (one_u8s _) ?_; intro w12 hw12 hr12; have H12 : Bx (Below w.heap.size w w12 ∧ w12.heap[w.heap.size + 1]? = some (.cells (u8s res) 27 (0, 0))) := Bx.mk ⟨by rw [hw12]; exact below_setCells (by omega) _ _ _ _ H11.out.1.rs.below, hr12⟩; clear hw12 hr12))
          refine bodyPost_ret (results_cell_row rfl _ _ (w.heap.size + 1) _ (u8s res) _ _ rfl H12.out.2 Tryd.underlying27 rfl HI.out) rfl ?_
          exact ⟨rfl, H12.out.1⟩
end Go.Proofs.YtaoekfomffebhaaDoor
namespace Go.Proofs.YtaoekfomffebhaaDoor
open Go Go.RowKit
end Go.Proofs.YtaoekfomffebhaaDoor
namespace Go.Proofs.YtaoekfomffebhaaDoor
open Go
end Go.Proofs.YtaoekfomffebhaaDoor
namespace Go.Proofs.YtaoekfomffebhaaDoor
open Go Go.RowKit
theorem own_parts {w1 : World} {base : Nat} {v : Value} {xs : List Value} {qs : List (List UInt8)} (h : OwnP w1 base v xs) (hv : Vals w1 xs qs) : Parts w1 v qs := by
  rcases h.2 with ⟨hn, h0⟩ | ⟨g, cap, cur, hv', hb, hg, hc1, hc2, hc3, hc4⟩
  · have e : qs.length = 0 := by rw [← hv.1, h0]
    exact ⟨none, 0, by rw [hn, e], fun hp => by omega⟩
  · refine ⟨some ⟨g, 0, none⟩, cap, by rw [hv', ← hv.1], fun hp => ⟨g, 0, rfl, fun j hj => ⟨xs.getD j undef, ?_, hv.2 j (by rw [hv.1]; exact hj)⟩⟩⟩
    have hj' : j < xs.length := by rw [hv.1]; exact hj
    rw [cell_of_row _ _ _ _ _ _ hg, Nat.zero_add, ← Array.getElem?_toList]
    have h1 : (cur.toList.take (xs.length * 1))[j]? = xs[j]? := by rw [hc4]
    rw [List.getElem?_take, if_pos (by omega)] at h1
    rw [h1]
    simp [hj']
/-- The digest of parts. -/
theorem dsum_parts (pss : List (List UInt8)) (v : Value) (w : World) (hv : Parts w v pss) (hl : pss.length ≤ 1000) (hN : pss.flatten.length ≤ 1000000) (hTab : Tab w) (hg : 1 < w.heap.size) :
    Calls Tryd.prog 73 #[v] w fun e w' => e = .returned (.agg (u8s (sha pss.flatten))) ∧ Below w.heap.size w w' := dsum_any pss v w (hv.at_ _ (by omega)) (by omega) (by omega) hTab hg
theorem one_part {w : World} {v : Value} {bs : List UInt8} (h : Bytes w v bs) : Parts (w.alloc (.cells #[v] 26)) (.slice (some ⟨w.heap.size, 0, none⟩) 1 1) [bs] := by
  refine ⟨_, 1, rfl, fun _ => ⟨w.heap.size, 0, rfl, fun j hj => ?_⟩⟩
  have hj0 : j = 0 := by simp at hj; omega
  subst hj0
  exact ⟨v, by rw [cell_of_row _ _ _ _ _ _ (hnew _ _ _ rfl)]; rfl, h.later (below_a _)⟩
theorem range_u8 {w : World} {b : Nat} {l : List UInt8} {t : TypeId} (h : w.heap[b]? = some (.cells (u8s l) t (0, 0))) : w.rangeAt b 0 (u8s l).toList := fun j v hv => by
  rw [cell_of_row _ _ _ _ _ _ h, Nat.zero_add, ← Array.getElem?_toList]
  exact hv
theorem range_below {B : Nat} {w w1 : World} {b o : Nat} {vs : List Value} (h : w.rangeAt b o vs) (hb : Below B w w1) (hB : b < B) : w1.rangeAt b o vs := fun j v hv => by
  rw [hb.cell (p := ⟨b, o + j, none⟩) hB]
  exact h j v hv
/-- What holds all through a statement: nothing that was there has changed. -/
structure Sp (w0 : World) (b : Nat) (vs : List Value) (W : World) : Prop where
  below : Below w0.heap.size w0 W
  rng : W.rangeAt b 0 vs
theorem Sp.s {w0 W : World} {b : Nat} {vs : List Value} (h : Sp w0 b vs W) : W.rangeAt b 0 vs ∧ Bx (Sp w0 b vs W) := ⟨h.rng, ⟨h⟩⟩
theorem Sp.later {w0 W W1 : World} {b : Nat} {vs : List Value} (h : Sp w0 b vs W) (hb : Below W.heap.size W W1) (hB : b < w0.heap.size) : Sp w0 b vs W1 :=
  ⟨h.below.trans (hb.mono h.below.size), range_below h.rng (hb.mono h.below.size) hB⟩
/-- Bytes as a list of cells. -/
def vs8 (l : List UInt8) : List Value := l.map fun x => Value.int .u8 (ub x)
theorem u8s_vs (l : List UInt8) : u8s l = (vs8 l).toArray := rfl
theorem vs8_length (l : List UInt8) : (vs8 l).length = l.length := by simp [vs8]
end Go.Proofs.YtaoekfomffebhaaDoor
namespace Go.Proofs.YtaoekfomffebhaaDoor
open Go Go.RowKit
/-- Behind w3 there are a running digest, of these bytes, and a copy, if there is one. -/
structure Dy (w3 : World) (bs : List UInt8) (c : Option (Nat × List UInt8)) (W : World) : Prop where
  below : Below w3.heap.size w3 W
  took : Took W w3.heap.size 129 bs W
  cp : ∀ p, c = some p → w3.heap.size < p.1 ∧ Took W p.1 129 p.2 W
theorem Took.lt {w W : World} {b : Nat} {T : TypeId} {bs : List UInt8} (h : Took w b T bs W) : b < W.heap.size := by
  obtain ⟨ws, rest, h1, _⟩ := h
  exact (Array.getElem?_eq_some_iff.1 h1).1
theorem Took.stays {w W W1 : World} {b b' : Nat} {T : TypeId} {bs : List UInt8} (h : Took w b T bs W) (hk : W.grownBy W1 (some b')) (hne : b ≠ b') : Took W1 b T bs W1 := by
  have hl := h.lt
  obtain ⟨ws, rest, h1, h2, _⟩ := h
  exact ⟨ws, rest, by rw [hk.block _ hl (by intro e; injection e with e; exact hne e)]; exact h1, h2, kb_refl _ _⟩
theorem Took.later {w W W1 : World} {b : Nat} {T : TypeId} {bs : List UInt8} (h : Took w b T bs W) (hb : Below W.heap.size W W1) : Took W1 b T bs W1 := by
  have hl := h.lt
  obtain ⟨ws, rest, h1, h2, _⟩ := h
  exact ⟨ws, rest, by rw [hb.block _ hl]; exact h1, h2, kb_refl _ _⟩
theorem Dy.later {w3 W W1 : World} {bs : List UInt8} {c : Option (Nat × List UInt8)} (h : Dy w3 bs c W) (hb : Below W.heap.size W W1) : Dy w3 bs c W1 :=
  ⟨h.below.trans (hb.mono h.below.size), h.took.later hb, fun p hp => ⟨(h.cp p hp).1, (h.cp p hp).2.later hb⟩⟩
theorem below_kb {B b : Nat} {w W W1 : World} (h : Below B w W) (hB : B ≤ W.heap.size) (hk : W.grownBy W1 (some b)) (hb : B ≤ b) : Below B w W1 :=
  ⟨hk.os.trans h.os, hk.tape.trans h.tape, hk.output.trans h.output, Nat.le_trans h.size hk.size, fun i hi => (hk.block i (by omega) (by intro e; injection e with e; omega)).trans (h.block i hi)⟩
theorem Dy.add {w3 W W1 : World} {bs bs' : List UInt8} {c : Option (Nat × List UInt8)} (h : Dy w3 bs c W) (ht : Took W w3.heap.size 129 bs' W1) : Dy w3 bs' c W1 :=
  ⟨below_kb h.below h.below.size ht.kept (Nat.le_refl _), ht.self, fun p hp => ⟨(h.cp p hp).1, (h.cp p hp).2.stays ht.kept (by have := (h.cp p hp).1; omega)⟩⟩
/-- One part, in a slice that is made for the call. -/
theorem one_at {w W : World} {v : Value} {bs : List UInt8} (h : Bytes w v bs) (hb : Below w.heap.size w W) (b : Nat) (hB : w.heap.size ≤ b) (hB2 : b < W.heap.size) : PartsAt (W.alloc (.cells #[v] 26)) b (.slice (some ⟨W.heap.size, 0, none⟩) 1 1) [bs] := by
  refine ⟨_, 1, rfl, fun _ => ⟨W.heap.size, 0, by omega, rfl, fun j hj => ?_⟩⟩
  have hj0 : j = 0 := by simp at hj; omega
  subst hj0
  exact ⟨v, by rw [cell_of_row _ _ _ _ _ _ (hnew _ _ _ rfl)]; rfl, h.apart (hb.trans ((below_a _).mono hb.size)) b hB⟩
/-- What stays: the parts, all bytes, the program's table and the document's. -/
structure Stt (w3 : World) (Tb : Nat) (tbl : List Value) (vo va : Value) (qs : List (List UInt8)) : Prop where
  parts : Parts w3 vo qs
  all : Bytes w3 va qs.flatten
  tab : Tab w3
  g : 1 < w3.heap.size
  row : w3.heap[Tb]? = some (.cells tbl.toArray 45 (0, 0))
  lt : Tb < w3.heap.size
  is : u32s (kTab ++ hTab) = tbl.toArray
  few : qs.length ≤ 12 ∧ qs.flatten.length ≤ 1200
theorem Stt.rng {w3 W : World} {Tb : Nat} {tbl : List Value} {vo va : Value} {qs : List (List UInt8)} (h : Stt w3 Tb tbl vo va qs) (hb : Below w3.heap.size w3 W) : W.rangeAt Tb 0 tbl := fun j v hv => by
  rw [hb.cell (p := ⟨Tb, 0 + j, none⟩) h.lt, cell_of_row _ _ _ _ _ _ h.row, Nat.zero_add, ← Array.getElem?_toList]
  exact hv
theorem Stt.sum {w3 : World} {Tb : Nat} {tbl : List Value} {vo va : Value} {qs : List (List UInt8)} (st : Stt w3 Tb tbl vo va qs) {W : World} (hb : Below w3.heap.size w3 W) {b : Nat} {bs : List UInt8} (ht : Took W b 129 bs W) (hl : bs.length ≤ 10000) : Calls Tryd.prog 72 #[.pointer (some ⟨b, 0, none⟩)] W fun e W' => e = .returned (.agg (vs8 (sha bs)).toArray) ∧ Below W.heap.size W W' := by
  rw [← u8s_vs]
  exact sum_any b bs W ht (by omega) (st.tab.later hb st.g) (Nat.lt_of_lt_of_le st.g hb.size)
theorem Stt.add {w3 : World} {Tb : Nat} {tbl : List Value} {vo va : Value} {qs : List (List UInt8)} (st : Stt w3 Tb tbl vo va qs) {W : World} (hb : Below w3.heap.size w3 W) {b : Nat} {bs ps : List UInt8} {x : Value} (hB : w3.heap.size ≤ b) (ht : Took W b 129 bs W) (hx : Bytes w3 x ps) (hl : bs.length ≤ 10000) (hl2 : ps.length ≤ 10000) :
    Calls Tryd.prog 70 #[.pointer (some ⟨b, 0, none⟩), .slice (some ⟨W.heap.size, 0, none⟩) 1 1] (W.alloc (.cells #[x] 26)) fun e W' => e = .returned (.pointer (some ⟨b, 0, none⟩)) ∧ Took (W.alloc (.cells #[x] 26)) b 129 (bs ++ ps) W' := by
  have h := add_any b bs [ps] _ _ (ht.later (below_a (.cells #[x] 26))) (one_at hx hb b hB ht.lt) (by simp) (by rw [List.flatten_singleton]; omega) (st.tab.later (hb.trans ((below_a _).mono hb.size)) st.g) (by have := st.g; omega)
  rw [List.flatten_singleton] at h
  exact h
end Go.Proofs.YtaoekfomffebhaaDoor
