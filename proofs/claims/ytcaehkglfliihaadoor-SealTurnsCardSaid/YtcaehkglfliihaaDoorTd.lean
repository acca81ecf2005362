/-
  What opening gives, as a function: of the program and of the document.
-/
import Derived.Test.YtcaehkglfliihaaDoorTc
namespace Go.Proofs.YtcaehkglfliihaaDoor
open Go Go.RowKit
/-- The error's number, and the bytes. -/
def openF (key nonce bound sl : List UInt8) : Int × List UInt8 :=
  if 32 < nonce.length then (1, []) else if sl.length < 32 then (4, []) else
    if tagB (bindK key) nonce bound (sl.take (sl.length - 32)) = sl.drop (sl.length - 32) then (0, trnd (hideK key) nonce (sl.take (sl.length - 32))) else (5, [])
theorem openF_len (key nonce bound sl : List UInt8) : (openF key nonce bound sl).2.length ≤ sl.length := by
  unfold openF
  split
  · simp
  · split
    · simp
    · split
      · simp only [trnd_length, List.length_take]; omega
      · simp
theorem openF_code (key nonce bound sl : List UInt8) : -100 ≤ (openF key nonce bound sl).1 ∧ (openF key nonce bound sl).1 ≤ 100 := by
  unfold openF
  split
  · simp
  · split
    · simp
    · split <;> simp
theorem opens_openF {key nonce bound sl : List UInt8} {w w' : World} {e : Ending} (h : OpensQ key nonce bound sl w e w') (h1 : nonce.length ≤ 32) (h2 : 32 ≤ sl.length) : ∃ v', e = .returned (.tuple #[v', .int .i64 (openF key nonce bound sl).1]) ∧ Bytes w' v' (openF key nonce bound sl).2 ∧ Below w.heap.size w w' := by
  unfold openF
  rw [if_neg (by omega), if_neg (by omega)]
  rcases h with ⟨ht, v', rfl, ho, hb⟩ | ⟨ht, rfl, hb⟩
  · rw [if_pos ht]
    exact ⟨v', rfl, ho.bytes, hb⟩
  · rw [if_neg ht]
    exact ⟨_, rfl, Bytes.nil _, hb⟩
theorem open_all (key nonce bound sl : List UInt8) (v vn vd vb : Value) (w : World) (hv : IsKey w v key) (hn : Bytes w vn nonce) (hd : Bytes w vd bound) (hb : Bytes w vb sl) (hk : key.length ≤ 1000) (hnl : nonce.length ≤ 1000) (hdl : bound.length ≤ 1000) (hsl : sl.length ≤ 1000) (hTab : Tab w) (hg : 0 < w.heap.size) :
    Calls Tryd.prog 25 #[v, vn, vd, vb] w fun e w' => ∃ v', e = .returned (.tuple #[v', .int .i64 (openF key nonce bound sl).1]) ∧ Bytes w' v' (openF key nonce bound sl).2 ∧ Below w.heap.size w w' := by
  by_cases h1 : 32 < nonce.length
  · refine (open_arg key nonce v vn vd vb w hv hn (by omega) h1 (by omega) hTab hg).mono ?_
    rintro e w' ⟨rfl, hb⟩
    unfold openF
    rw [if_pos h1]
    exact ⟨_, rfl, Bytes.nil _, hb⟩
  · by_cases h2 : sl.length < 32
    · refine (open_out key nonce sl v vn vd vb w hv hn hb (by omega) (by omega) (Or.inl h2) (by omega) hTab hg).mono ?_
      rintro e w' ⟨rfl, hb⟩
      unfold openF
      rw [if_neg h1, if_pos h2, if_pos h2]
      exact ⟨_, rfl, Bytes.nil _, hb⟩
    · exact (open_in key nonce bound sl v vn vd vb w hv hn hd hb (by omega) (by omega) (by omega) (by omega) (by omega) hTab hg).mono fun e w' h => opens_openF h (by omega) (by omega)
theorem ropen_all (tbl : List Value) (htb : u32s (kTab ++ hTab) = tbl.toArray) (key nonce bound sl : List UInt8) (vk vn vd vb : Value) (w : World) (hk : Bytes w vk key) (hn : Bytes w vn nonce) (hd : Bytes w vd bound) (hb : Bytes w vb sl) (hkl : key.length ≤ 1000) (hnl : nonce.length ≤ 1000) (hdl : bound.length ≤ 1000) (hsl : sl.length ≤ 1000) :
    Calls Tryd.prog 30 #[.agg tbl.toArray, vk, vn, vd, vb] w fun e w' => ∃ v', e = .returned (.tuple #[v', .int .i64 (openF key nonce bound sl).1]) ∧ Bytes w' v' (openF key nonce bound sl).2 ∧ Below w.heap.size w w' := by
  by_cases h1 : 32 < nonce.length
  · refine (ropen_bad _ vk vn vd vb nonce sl _ w rfl hn hb hnl hsl (Or.inl h1)).mono ?_
    rintro e w' ⟨rfl, hb⟩
    unfold openF
    rw [if_pos h1, if_pos h1]
    exact ⟨_, rfl, Bytes.nil _, hb⟩
  · by_cases h2 : sl.length < 32
    · refine (ropen_bad _ vk vn vd vb nonce sl _ w rfl hn hb hnl hsl (Or.inr h2)).mono ?_
      rintro e w' ⟨rfl, hb⟩
      unfold openF
      rw [if_neg h1, if_neg h1, if_pos h2]
      exact ⟨_, rfl, Bytes.nil _, hb⟩
    · exact (ropen_in tbl htb key nonce bound sl vk vn vd vb w hk hn hd hb hkl (by omega) hdl (by omega) hsl).mono fun e w' h => opens_openF h (by omega) (by omega)
theorem same_same3 (l : List UInt8) (va vb : Value) (w : World) (ha : Bytes w va l) (hb : Bytes w vb l) (hl : l.length ≤ 140737488355328) : Calls Tryd.prog 16 #[va, vb] w fun e w' => e = .returned (.bool true) ∧ Below w.heap.size w w' :=
  (same_any l l va vb w ha hb hl hl).mono fun _ _ ⟨he, n, hw⟩ => ⟨by rw [he, decide_eq_true rfl], by rw [hw]; exact below_drewN (Below.refl _ _) _⟩
end Go.Proofs.YtcaehkglfliihaaDoor
