/-
  The walk of KeysDerive.
-/
import Derived.Test.YtdionedinmkeiaaDoorDk
import Derived.Test.YtdionedinmkeiaaDoorDl
import Derived.Test.YtdionedinmkeiaaDoorDm
import Derived.Test.YtdionedinmkeiaaDoorDn
namespace Go.Proofs.YtdionedinmkeiaaDoor
open Go Go.RowKit
theorem der_any (m0 : List UInt8) (c : Cl) (nv ns nr : Int) (vm : Value) (w : World) (hm : Bytes w vm m0) (hml : m0.length ≤ 9223372036854775807) (hTab : Tab w) (hg : 0 < w.heap.size) :
    Calls Tryd.prog 3 #[vm, clV c, .int .i64 nv, .int .i64 ns, .int .i64 nr] w fun e w' => e = .returned (.bool true) ∧ Below w.heap.size w w' := by
  by_cases hr : nr < 0 ∨ 8 ≤ nr
  · cases hc : okC c
    · exact der_nc m0 c nv ns nr hr vm w hm hml hc hTab hg
    · by_cases hv : nv < 1 ∨ 65535 < nv
      · by_cases hs : ns < 0 ∨ 4 ≤ ns
        · exact der_nnn m0 c nv hv ns hs nr hr vm w hm hml hc hTab hg
        · obtain ⟨S, rfl⟩ := Int.eq_ofNat_of_zero_le (show 0 ≤ ns by omega)
          exact der_nns m0 c nv hv S (by omega) nr hr vm w hm hml hc hTab hg
      · obtain ⟨V, rfl⟩ := Int.eq_ofNat_of_zero_le (show 0 ≤ nv by omega)
        by_cases hs : ns < 0 ∨ 4 ≤ ns
        · exact der_nvn m0 c V (by omega) (by omega) ns hs nr hr vm w hm hml hc hTab hg
        · obtain ⟨S, rfl⟩ := Int.eq_ofNat_of_zero_le (show 0 ≤ ns by omega)
          exact der_nvs m0 c V (by omega) (by omega) S (by omega) nr hr vm w hm hml hc hTab hg
  · obtain ⟨ρ, rfl⟩ := Int.eq_ofNat_of_zero_le (show 0 ≤ nr by omega)
    have hr1 : ρ < 8 := by omega
    cases hc : okC c
    · exact der_rc m0 c nv ns ρ hr1 vm w hm hml hc hTab hg
    · by_cases hv : nv < 1 ∨ 65535 < nv
      · by_cases hs : ns < 0 ∨ 4 ≤ ns
        · exact der_rnn m0 c nv hv ns hs ρ hr1 vm w hm hml hc hTab hg
        · obtain ⟨S, rfl⟩ := Int.eq_ofNat_of_zero_le (show 0 ≤ ns by omega)
          exact der_rns m0 c nv hv S (by omega) ρ hr1 vm w hm hml hc hTab hg
      · obtain ⟨V, rfl⟩ := Int.eq_ofNat_of_zero_le (show 0 ≤ nv by omega)
        by_cases hs : ns < 0 ∨ 4 ≤ ns
        · exact der_rvn m0 c V (by omega) (by omega) ns hs ρ hr1 vm w hm hml hc hTab hg
        · obtain ⟨S, rfl⟩ := Int.eq_ofNat_of_zero_le (show 0 ≤ ns by omega)
          exact der_rvs m0 c V (by omega) (by omega) S (by omega) ρ hr1 vm w hm hml hc hTab hg
end Go.Proofs.YtdionedinmkeiaaDoor
