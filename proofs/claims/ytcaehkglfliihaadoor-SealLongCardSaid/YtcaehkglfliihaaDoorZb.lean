/-
  The tag of many bytes 0 is no bytes 0.
-/
import Derived.Test.YtcaehkglfliihaaDoorZa
namespace Go.Proofs.YtcaehkglfliihaaDoor
open Go Go.RowKit
def bkL : List UInt8 := [55, 86, 78, 161, 169, 221, 93, 84, 177, 233, 125, 58, 239, 45, 234, 109, 141, 35, 19, 191, 91, 101, 13, 158, 105, 40, 38, 188, 117, 10, 58, 86]
def ipL : List UInt8 := [1, 96, 120, 151, 159, 235, 107, 98, 135, 223, 75, 12, 217, 27, 220, 91, 187, 21, 37, 137, 109, 83, 59, 168, 95, 30, 16, 138, 67, 60, 12, 96, 54, 54, 54, 54, 54, 54, 54, 54, 54, 54, 54, 54, 54, 54, 54, 54, 54, 54, 54, 54, 54, 54, 54, 54, 54, 54, 54, 54, 54, 54, 54, 54]
def opL : List UInt8 := [107, 10, 18, 253, 245, 129, 1, 8, 237, 181, 33, 102, 179, 113, 182, 49, 209, 127, 79, 227, 7, 57, 81, 194, 53, 116, 122, 224, 41, 86, 102, 10, 92, 92, 92, 92, 92, 92, 92, 92, 92, 92, 92, 92, 92, 92, 92, 92, 92, 92, 92, 92, 92, 92, 92, 92, 92, 92, 92, 92, 92, 92, 92, 92]
theorem bk_is : bindK [107] = bkL := by decide +kernel
theorem ip_is : turn 54 (keyB bkL) = ipL := by decide +kernel
theorem op_is : turn 92 (keyB bkL) = opL := by decide +kernel
theorem ip_len : ipL.length = 64 := rfl
/-- What is ahead of the bytes 0. -/
def headL (n : Nat) : List UInt8 := lenB 0 ++ (lenB 0 ++ lenB n)
theorem head_len (n : Nat) : (headL n).length = 12 := rfl
theorem frame_zero (n : Nat) : frame [[], [], List.replicate n 0] = headL n ++ List.replicate n 0 := by
  rw [frame_cons, frame_cons, frame_cons]
  have e : frame [] = [] := rfl
  rw [e, List.length_replicate]
  unfold headL
  simp
theorem drop_zeros (k n : Nat) (P : List UInt8) (h : k ≤ n) : (List.replicate n (0 : UInt8) ++ P).drop k = List.replicate (n - k) 0 ++ P := by
  rw [List.drop_append, List.drop_replicate, List.length_replicate, show k - n = 0 by omega]
  rfl
theorem take_zeros (k n : Nat) (P : List UInt8) (h : k ≤ n) : (List.replicate n (0 : UInt8) ++ P).take k = List.replicate k 0 := by
  rw [List.take_append, List.take_replicate, List.length_replicate, show k - n = 0 by omega, Nat.min_eq_left h]
  simp
theorem blk_zero (I H P : List UInt8) (n : Nat) (hI : I.length = 64) : blk 0 (I ++ (H ++ (List.replicate n 0 ++ P))) = I := by
  unfold blk
  rw [Nat.mul_zero, List.drop_zero, List.take_append, hI, Nat.sub_self, List.take_zero, List.append_nil, List.take_of_length_le (by omega)]
theorem blk_one (I H P : List UInt8) (n : Nat) (hI : I.length = 64) (hH : H.length = 12) (hn : 52 ≤ n) : blk 1 (I ++ (H ++ (List.replicate n 0 ++ P))) = H ++ List.replicate 52 0 := by
  unfold blk
  rw [Nat.mul_one, List.drop_append, hI, Nat.sub_self, List.drop_zero, List.drop_of_length_le (by omega), List.nil_append, List.take_append, hH, List.take_of_length_le (by omega), take_zeros _ _ _ hn]
theorem blk_some (I H P : List UInt8) (n k : Nat) (hI : I.length = 64) (hH : H.length = 12) (h2 : 2 ≤ k) (hn : 64 * k + 64 ≤ n + 76) : blk k (I ++ (H ++ (List.replicate n 0 ++ P))) = zer := by
  unfold blk
  rw [List.drop_append, hI, List.drop_of_length_le (by omega), List.nil_append, List.drop_append, hH, List.drop_of_length_le (by omega), List.nil_append, drop_zeros _ _ _ (by omega), take_zeros _ _ _ (by omega)]
  rfl
theorem blk_last (I H P : List UInt8) (n k q : Nat) (hI : I.length = 64) (hH : H.length = 12) (h2 : 2 ≤ k) (hn : n + 76 = 64 * k + q) (hP : q + P.length = 64) : blk k (I ++ (H ++ (List.replicate n 0 ++ P))) = List.replicate q 0 ++ P := by
  unfold blk
  rw [List.drop_append, hI, List.drop_of_length_le (by omega), List.nil_append, List.drop_append, hH, List.drop_of_length_le (by omega), List.nil_append, drop_zeros _ _ _ (by omega), show n - (64 * k - 64 - 12) = q by omega, List.take_of_length_le (by rw [List.length_append, List.length_replicate]; omega)]
/-- The inner digest, of what is known of its blocks. -/
theorem inner_is (n q : Nat) (s2 s1025 : Eight) (l : List (BitVec 32)) (D : List UInt8) (hn : n + 76 = 64 * 1025 + q) (hc : (n + 76 + zerosOf (n + 76) + 9) / 64 = 1026) (hP : q + (padOf (n + 76)).length = 64)
    (h2 : mix (mix hTab ipL) (headL n ++ List.replicate 52 0) = s2.list) (hz : iterE mixE 1023 s2 = s1025) (hl : mix s1025.list (List.replicate q 0 ++ padOf (n + 76)) = l) (hD : outOf l = D) : sha (ipL ++ (headL n ++ List.replicate n 0)) = D := by
  have hlen : (ipL ++ (headL n ++ List.replicate n 0)).length = n + 76 := by rw [List.length_append, List.length_append, ip_len, head_len, List.length_replicate]; omega
  unfold sha
  rw [hlen, hc]
  have hX : (ipL ++ (headL n ++ List.replicate n 0)) ++ padOf (n + 76) = ipL ++ (headL n ++ (List.replicate n 0 ++ padOf (n + 76))) := by simp only [List.append_assoc]
  rw [hX]
  have h1025 := hs_zeros (ipL ++ (headL n ++ (List.replicate n 0 ++ padOf (n + 76)))) 2 1023 (fun j hj => blk_some ipL (headL n) _ n (2 + j) ip_len (head_len n) (by omega) (by omega))
  have hs2 : hs 2 (ipL ++ (headL n ++ (List.replicate n 0 ++ padOf (n + 76)))) = s2.list := by
    rw [hs, hs, hs, blk_zero ipL (headL n) _ n ip_len, blk_one ipL (headL n) _ n ip_len (head_len n) (by omega)]
    exact h2
  rw [hs2, show eightOf s2.list = s2 from rfl, hz] at h1025
  rw [show (1026 : Nat) = (2 + 1023) + 1 from rfl, hs, h1025, blk_last ipL (headL n) _ n (2 + 1023) q ip_len (head_len n) (by omega) (by omega) hP, hl, hD]
theorem in65534 : sha (ipL ++ (headL 65534 ++ List.replicate 65534 0)) = [156, 107, 129, 193, 164, 229, 41, 37, 124, 136, 106, 213, 245, 104, 214, 140, 249, 52, 184, 89, 64, 192, 198, 167, 99, 181, 99, 85, 97, 45, 107, 151] :=
  inner_is 65534 10 ⟨1942830647, 281987416, 3906607372, 610196425, 687052276, 3425712475, 2869457341, 1897754103⟩ ⟨3168756118, 1112505219, 3888677248, 1067636585, 2496376006, 1157044551, 73439955, 4215616420⟩ [2624291265, 2766481701, 2089315029, 4117288588, 4180981849, 1086375591, 1672831829, 1630366615] _ (by decide) (by decide) (by decide) (by decide +kernel) ch65534 (by decide +kernel) (by decide +kernel)
theorem out65534 : sha (opL ++ [156, 107, 129, 193, 164, 229, 41, 37, 124, 136, 106, 213, 245, 104, 214, 140, 249, 52, 184, 89, 64, 192, 198, 167, 99, 181, 99, 85, 97, 45, 107, 151]) ≠ List.replicate 32 0 := by decide +kernel
theorem ne65534 : tagB (bindK [107]) [] [] (List.replicate 65534 0) ≠ List.replicate 32 0 := by
  unfold tagB hmac
  rw [bk_is, ip_is, op_is, frame_zero, in65534]
  exact out65534
theorem in65535 : sha (ipL ++ (headL 65535 ++ List.replicate 65535 0)) = [119, 68, 41, 139, 77, 132, 153, 254, 119, 142, 82, 245, 197, 47, 76, 115, 59, 240, 39, 42, 185, 40, 241, 34, 83, 106, 246, 126, 92, 70, 245, 24] :=
  inner_is 65535 11 ⟨2839513664, 1031662754, 3485366146, 4086937927, 1861260438, 3980066630, 622006052, 971623813⟩ ⟨274414793, 2115374060, 3551792504, 4221064976, 3293280277, 2126543189, 622184665, 2156099097⟩ [2000955787, 1300535806, 2005816053, 3308211315, 1005594410, 3106468130, 1399518846, 1548154136] _ (by decide) (by decide) (by decide) (by decide +kernel) ch65535 (by decide +kernel) (by decide +kernel)
theorem out65535 : sha (opL ++ [119, 68, 41, 139, 77, 132, 153, 254, 119, 142, 82, 245, 197, 47, 76, 115, 59, 240, 39, 42, 185, 40, 241, 34, 83, 106, 246, 126, 92, 70, 245, 24]) ≠ List.replicate 32 0 := by decide +kernel
theorem ne65535 : tagB (bindK [107]) [] [] (List.replicate 65535 0) ≠ List.replicate 32 0 := by
  unfold tagB hmac
  rw [bk_is, ip_is, op_is, frame_zero, in65535]
  exact out65535
theorem in65536 : sha (ipL ++ (headL 65536 ++ List.replicate 65536 0)) = [186, 60, 230, 113, 80, 190, 194, 44, 3, 222, 74, 185, 204, 244, 214, 4, 66, 83, 7, 169, 60, 205, 18, 155, 155, 98, 32, 215, 155, 143, 239, 103] :=
  inner_is 65536 12 ⟨2436204503, 845872576, 318735522, 709462547, 1023006765, 1441020051, 1881540814, 3515015743⟩ ⟨2615977740, 386699356, 2602280946, 2311471315, 4044017704, 75978130, 3198625633, 1791771314⟩ [3124553329, 1354678828, 64899769, 3438597636, 1112737705, 1020072603, 2606899415, 2609901415] _ (by decide) (by decide) (by decide) (by decide +kernel) ch65536 (by decide +kernel) (by decide +kernel)
theorem out65536 : sha (opL ++ [186, 60, 230, 113, 80, 190, 194, 44, 3, 222, 74, 185, 204, 244, 214, 4, 66, 83, 7, 169, 60, 205, 18, 155, 155, 98, 32, 215, 155, 143, 239, 103]) ≠ List.replicate 32 0 := by decide +kernel
theorem ne65536 : tagB (bindK [107]) [] [] (List.replicate 65536 0) ≠ List.replicate 32 0 := by
  unfold tagB hmac
  rw [bk_is, ip_is, op_is, frame_zero, in65536]
  exact out65536
/-- The tag of so many bytes 0 is no bytes 0. -/
theorem tag_ne (n : Nat) (h1 : 65534 ≤ n) (h2 : n ≤ 65536) : tagB (bindK [107]) [] [] (List.replicate n 0) ≠ List.replicate 32 0 := by
  have h : n = 65534 ∨ n = 65535 ∨ n = 65536 := by omega
  rcases h with rfl | rfl | rfl
  · exact ne65534
  · exact ne65535
  · exact ne65536
end Go.Proofs.YtcaehkglfliihaaDoor
