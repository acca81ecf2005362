/-
  The document's keys; the example of the seventh layer; what cuts bytes.
-/
import Derived.Test.YtnefpjdjnjcmbaaGreatDoorYc
namespace Go.Proofs.YtnefpjdjnjcmbaaGreatDoor
open Go Go.RowKit
set_option maxRecDepth 100000 in
theorem cut7_any (bs : List UInt8) (k : Nat) (v : Value) (w : World) (hv : Bytes w v bs) (hl : bs.length ≤ 9223372036854775807) (hk : k ≤ 1000000) :
    Calls Tryz.prog 5 #[v, .int .i64 (k : Int)] w fun e w' => ∃ v', e = .returned v' ∧ (∀ W, Bytes W v bs → Bytes W v' (bs.take k)) ∧ w = w' := by
  have HV := Bx.mk hv
  obtain ⟨a, cap, rfl, hc, hnone, -⟩ := hv
  obtain ⟨n, hn⟩ : ∃ n, bs.length = n := ⟨_, rfl⟩
  have HN := Bx.mk hn
  rw [hn] at HV hl hc ⊢
  have hn1 : (n : Int) ≤ 9223372036854775807 := by omega
  have hk1 : (k : Int) ≤ 1000000 := by omega
  by_cases hlt : k < n
  · have t1 : (k : Int) < (n : Int) := by omega
    have t2 : (k : Int) ≤ (cap : Int) := by omega
    have s1 := fun W => cut_bytes a n cap k (by omega) (by omega) hnone W
    have HB : Bx (∀ W, Bytes W (.slice a n cap) bs → Bytes W (.slice a k cap) (bs.take k)) := Bx.mk (fun W hW => hW.take k (by omega))
    clear hn hnone hc HV
    go_enter Tryz.func5, Tryz.ntmps5
    go_wp2
    go_ret
    exact ⟨_, rfl, HB.out, rfl⟩
  · have t1 : ¬ (k : Int) < (n : Int) := by omega
    have t2 : (n : Int) ≤ (cap : Int) := by omega
    have s1 := fun W => cut_bytes a n cap n (by omega) (by omega) hnone W
    have HB : Bx (∀ W, Bytes W (.slice a n cap) bs → Bytes W (.slice a n cap) (bs.take k)) := Bx.mk (fun W hW => by rw [List.take_of_length_le (by omega)]; exact hW)
    clear hn hnone hc HV
    go_enter Tryz.func5, Tryz.ntmps5
    go_wp2
    go_ret
    exact ⟨_, rfl, HB.out, rfl⟩
end Go.Proofs.YtnefpjdjnjcmbaaGreatDoor
