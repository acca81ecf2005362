/-
  The document's digest, piece by piece: frames and loops.
-/
import Derived.Test.YtkfgpnigeknhmaaDoorFr
import Derived.Test.YtkfgpnigeknhmaaDoorRe
namespace Go.Proofs.YtkfgpnigeknhmaaDoor
open Go Go.RowKit


set_option maxRecDepth 100000 in
theorem open266 {a : Act} (h : Fr 266 a) : ∃ x : Nat → Value, a = ⟨List.toArray (x 0 :: x 1 :: x 2 :: x 3 :: x 4 :: x 5 :: x 6 :: x 7 :: x 8 :: x 9 :: x 10 :: x 11 :: x 12 :: x 13 :: x 14 :: x 15 :: x 16 :: x 17 :: x 18 :: x 19 :: x 20 :: x 21 :: x 22 :: x 23 :: x 24 :: x 25 :: x 26 :: x 27 :: x 28 :: x 29 :: x 30 :: x 31 :: x 32 :: x 33 :: x 34 :: x 35 :: x 36 :: x 37 :: x 38 :: x 39 :: x 40 :: x 41 :: x 42 :: x 43 :: x 44 :: x 45 :: x 46 :: x 47 :: x 48 :: x 49 :: x 50 :: x 51 :: x 52 :: x 53 :: x 54 :: x 55 :: x 56 :: x 57 :: x 58 :: x 59 :: x 60 :: x 61 :: x 62 :: x 63 :: x 64 :: x 65 :: x 66 :: x 67 :: x 68 :: x 69 :: x 70 :: x 71 :: x 72 :: x 73 :: x 74 :: x 75 :: x 76 :: x 77 :: x 78 :: x 79 :: x 80 :: x 81 :: x 82 :: x 83 :: x 84 :: x 85 :: x 86 :: x 87 :: x 88 :: x 89 :: x 90 :: x 91 :: x 92 :: x 93 :: x 94 :: x 95 :: x 96 :: x 97 :: x 98 :: x 99 :: x 100 :: x 101 :: x 102 :: x 103 :: x 104 :: x 105 :: x 106 :: x 107 :: x 108 :: x 109 :: x 110 :: x 111 :: x 112 :: x 113 :: x 114 :: x 115 :: x 116 :: x 117 :: x 118 :: x 119 :: x 120 :: x 121 :: x 122 :: x 123 :: x 124 :: x 125 :: x 126 :: x 127 :: x 128 :: x 129 :: x 130 :: x 131 :: x 132 :: x 133 :: x 134 :: x 135 :: x 136 :: x 137 :: x 138 :: x 139 :: x 140 :: x 141 :: x 142 :: x 143 :: x 144 :: x 145 :: x 146 :: x 147 :: x 148 :: x 149 :: x 150 :: x 151 :: x 152 :: x 153 :: x 154 :: x 155 :: x 156 :: x 157 :: x 158 :: x 159 :: x 160 :: x 161 :: x 162 :: x 163 :: x 164 :: x 165 :: x 166 :: x 167 :: x 168 :: x 169 :: x 170 :: x 171 :: x 172 :: x 173 :: x 174 :: x 175 :: x 176 :: x 177 :: x 178 :: x 179 :: x 180 :: x 181 :: x 182 :: x 183 :: x 184 :: x 185 :: x 186 :: x 187 :: x 188 :: x 189 :: x 190 :: x 191 :: x 192 :: x 193 :: x 194 :: x 195 :: x 196 :: x 197 :: x 198 :: x 199 :: x 200 :: x 201 :: x 202 :: x 203 :: x 204 :: x 205 :: x 206 :: x 207 :: x 208 :: x 209 :: x 210 :: x 211 :: x 212 :: x 213 :: x 214 :: x 215 :: x 216 :: x 217 :: x 218 :: x 219 :: x 220 :: x 221 :: x 222 :: x 223 :: x 224 :: x 225 :: x 226 :: x 227 :: x 228 :: x 229 :: x 230 :: x 231 :: x 232 :: x 233 :: x 234 :: x 235 :: x 236 :: x 237 :: x 238 :: x 239 :: x 240 :: x 241 :: x 242 :: x 243 :: x 244 :: x 245 :: x 246 :: x 247 :: x 248 :: x 249 :: x 250 :: x 251 :: x 252 :: x 253 :: x 254 :: x 255 :: x 256 :: x 257 :: x 258 :: x 259 :: x 260 :: x 261 :: x 262 :: x 263 :: x 264 :: x 265 :: []), []⟩ ∧ ∀ i, a.eval (.tmp i) = x i := ⟨fun i => a.tmps.getD i undef, h.form, fun _ => rfl⟩
/-- What the loops of a block leave alone. -/
structure Lv (v2 v4 v5 v8 v9 : Value) (a : Act) : Prop where
  fr : Fr 266 a
  s2 : a.eval (.tmp 2) = v2
  s4 : a.eval (.tmp 4) = v4
  s5 : a.eval (.tmp 5) = v5
  s8 : a.eval (.tmp 8) = v8
  s9 : a.eval (.tmp 9) = v9

theorem cell_u32 {w : World} {b : Nat} {l : List (BitVec 32)} {t : TypeId} (h : w.heap[b]? = some (.cells (u32s l) t (0, 0))) (i : Nat) (hi : i < l.length) : w.cell? ⟨b, i, none⟩ = some (.int .u32 (uv (l.getD i 0))) := by
  rw [cell_of_row _ _ _ _ _ _ h]; exact u32s_get _ _ hi
theorem eight_len (s : Eight) : s.list.length = 8 := rfl
/-- A turn by a number that stands in the text. -/
theorem right_int (x : BitVec 32) (q : Int) (w : World) (h0 : 0 < q) (h1 : q < 32) : Calls Tryd.prog 40 #[.int .u32 (uv x), .int .i64 q] w fun e w' => e = .returned (.int .u32 (uv (x.rotateRight q.toNat))) ∧ ∃ n, w' = w.drewN n := by
  have h := right_any x q.toNat w (by omega) (by omega)
  rwa [show ((q.toNat : Nat) : Int) = q by omega] at h
theorem low_doc (r : Eight) (x y : BitVec 32) : (((uv r.h + bits BinOp.xor IntKind.u32 (bits BinOp.xor IntKind.u32 (uv (r.e.rotateRight 6)) (uv (r.e.rotateRight 11))) (uv (r.e.rotateRight 25)) +
    bits BinOp.or IntKind.u32 (bits BinOp.and IntKind.u32 (uv r.e) (uv r.f)) (bits BinOp.and IntKind.u32 (bits BinOp.xor IntKind.u32 (uv r.e) 4294967295) (uv r.g)) + uv y) % 4294967296 + uv x) % 4294967296) = uv (low r x y) := by
  rw [tur_uv, uv_not, uv_and, uv_and, uv_or, ← low_or, ← uv_add, ← uv_add, ← uv_add, ← uv_add]
  omega
theorem high_doc (r : Eight) : (bits BinOp.xor IntKind.u32 (bits BinOp.xor IntKind.u32 (uv (r.a.rotateRight 2)) (uv (r.a.rotateRight 13))) (uv (r.a.rotateRight 22)) +
    bits BinOp.or IntKind.u32 (bits BinOp.or IntKind.u32 (bits BinOp.and IntKind.u32 (uv r.a) (uv r.b)) (bits BinOp.and IntKind.u32 (uv r.a) (uv r.c))) (bits BinOp.and IntKind.u32 (uv r.b) (uv r.c))) % 4294967296 = uv (high r) := by
  rw [tur_uv, uv_and, uv_and, uv_and, uv_or, uv_or, uv_add, high_or]
theorem agg8 (r : Eight) (x y : BitVec 32) (a b : Int) (h1 : a = uv (low r x y + high r)) (h2 : b = uv (r.d + low r x y)) :
    Value.agg #[.int .u32 a, .int .u32 (uv r.a), .int .u32 (uv r.b), .int .u32 (uv r.c), .int .u32 b, .int .u32 (uv r.e), .int .u32 (uv r.f), .int .u32 (uv r.g)] = .agg (u32s (step r x y).list) := by
  rw [h1, h2]; rfl
end Go.Proofs.YtkfgpnigeknhmaaDoor
