/-
  What TokenIssues keeps, round by round.
-/
import Derived.Test.YtiengbmnfbbgoaaDoorQm
import Derived.Test.YtiengbmnfbbgoaaDoorQp
namespace Go.Proofs.YtiengbmnfbbgoaaDoor
open Go Go.RowKit
set_option maxRecDepth 100000 in
theorem open179 {a : Act} (h : Fr 179 a) : ∃ x : Nat → Value, a = ⟨List.toArray (x 0 :: x 1 :: x 2 :: x 3 :: x 4 :: x 5 :: x 6 :: x 7 :: x 8 :: x 9 :: x 10 :: x 11 :: x 12 :: x 13 :: x 14 :: x 15 :: x 16 :: x 17 :: x 18 :: x 19 :: x 20 :: x 21 :: x 22 :: x 23 :: x 24 :: x 25 :: x 26 :: x 27 :: x 28 :: x 29 :: x 30 :: x 31 :: x 32 :: x 33 :: x 34 :: x 35 :: x 36 :: x 37 :: x 38 :: x 39 :: x 40 :: x 41 :: x 42 :: x 43 :: x 44 :: x 45 :: x 46 :: x 47 :: x 48 :: x 49 :: x 50 :: x 51 :: x 52 :: x 53 :: x 54 :: x 55 :: x 56 :: x 57 :: x 58 :: x 59 :: x 60 :: x 61 :: x 62 :: x 63 :: x 64 :: x 65 :: x 66 :: x 67 :: x 68 :: x 69 :: x 70 :: x 71 :: x 72 :: x 73 :: x 74 :: x 75 :: x 76 :: x 77 :: x 78 :: x 79 :: x 80 :: x 81 :: x 82 :: x 83 :: x 84 :: x 85 :: x 86 :: x 87 :: x 88 :: x 89 :: x 90 :: x 91 :: x 92 :: x 93 :: x 94 :: x 95 :: x 96 :: x 97 :: x 98 :: x 99 :: x 100 :: x 101 :: x 102 :: x 103 :: x 104 :: x 105 :: x 106 :: x 107 :: x 108 :: x 109 :: x 110 :: x 111 :: x 112 :: x 113 :: x 114 :: x 115 :: x 116 :: x 117 :: x 118 :: x 119 :: x 120 :: x 121 :: x 122 :: x 123 :: x 124 :: x 125 :: x 126 :: x 127 :: x 128 :: x 129 :: x 130 :: x 131 :: x 132 :: x 133 :: x 134 :: x 135 :: x 136 :: x 137 :: x 138 :: x 139 :: x 140 :: x 141 :: x 142 :: x 143 :: x 144 :: x 145 :: x 146 :: x 147 :: x 148 :: x 149 :: x 150 :: x 151 :: x 152 :: x 153 :: x 154 :: x 155 :: x 156 :: x 157 :: x 158 :: x 159 :: x 160 :: x 161 :: x 162 :: x 163 :: x 164 :: x 165 :: x 166 :: x 167 :: x 168 :: x 169 :: x 170 :: x 171 :: x 172 :: x 173 :: x 174 :: x 175 :: x 176 :: x 177 :: x 178 :: []), []⟩ ∧ ∀ i, a.eval (.tmp i) = x i := ⟨fun i => a.tmps.getD i undef, h.form, fun _ => rfl⟩
theorem rmask_any (ns : List Int) (v : Value) (w : World) (hv : Ints w v ns) (hl : ns.length ≤ 10) :
    Calls Tryd.prog 31 #[v] w fun e w' => e = .returned (.int .i64 (dMask ns)) ∧ w = w' := by
  unfold dMask
  cases h : ns.all isR
  · exact rmask_bad ns v w hv hl h
  · exact rmask_ok ns v w hv hl h
/-- The claims that an order asks for. -/
def clO (o : Od) (n : Nat) : Cl := ⟨o.id, dMask (o.ns.take 10), o.ex, (n : Int) + 1⟩
/-- What is issued, behind k orders. -/
def isK (os : List Od) : Nat → List Cl
  | 0 => []
  | k + 1 => if okC (clO (os.getD k Od.zero) (isK os k).length) = true then isK os k ++ [clO (os.getD k Od.zero) (isK os k).length] else isK os k
theorem isK_length (os : List Od) (k : Nat) : (isK os k).length ≤ k := by
  induction k with
  | zero => exact Nat.le_refl _
  | succ k ih =>
    unfold isK
    split
    · rw [List.length_append, List.length_singleton]; omega
    · omega
theorem okO {o : Od} {n : Nat} (h : okC (clO o n) = true) : (o.ns.take 10).all isR = true ∧ dMask (o.ns.take 10) = (mkN (o.ns.take 10) : Int) := by
  unfold clO at h
  have h1 := (okC_iff _ _ _ _).1 h
  cases hr : (o.ns.take 10).all isR
  · have h2 : dMask (o.ns.take 10) = -1 := by unfold dMask; rw [if_neg (by rw [hr]; decide)]
    omega
  · exact ⟨rfl, by unfold dMask; rw [if_pos hr]⟩
/-- What stays in the frame. -/
structure IK (v1 : Value) (s : Int) (M : Nat) (a : Act) : Prop where
  fr : Fr 179 a
  s1 : a.eval (.tmp 1) = v1
  s2 : a.eval (.tmp 2) = .int .i64 s
  s7 : a.eval (.tmp 7) = .pointer (some ⟨M, 0, none⟩)
/-- What stays in memory. -/
def IR (w : World) (M : Nat) (os : List Od) (v : Value) (key : List UInt8) (va : Value) (k : Nat) (W : World) : Prop := IM w M [] (isK os k) v key va (isK os k) W
structure IL (w : World) (M : Nat) (os : List Od) (v : Value) (key : List UInt8) (v1 : Value) (s : Int) (k : Nat) (a : Act) (wr : World) : Prop where
  kf : IK v1 s M a
  s10 : a.eval (.tmp 10) = .int .i64 (k : Int)
  st : ∃ va, a.eval (.tmp 9) = va ∧ IR w M os v key va k wr
end Go.Proofs.YtiengbmnfbbgoaaDoor
