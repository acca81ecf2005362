/-
  RevokeSince's walk, whole.
-/
import Derived.Test.YtmfhdhggpepbbaaDoorFu
import Derived.Test.YtmfhdhggpepbbaaDoorJd
namespace Go.Proofs.YtmfhdhggpepbbaaDoor
open Go Go.RowKit
theorem since_walk (acs : List Ac8) (v : Value) (y : V4) (w : World) (hA : Acts8 w v acs) (hn : acs.length ≤ 9223372036854775807) (hi : y.In) (hF : Full w) (hf : 0 < w.heap.size) (hT : Tab w) (hG : 1 < w.heap.size) :
    Calls Tryd.prog 4 #[v, y.v] w fun e w' => e = .returned (.bool true) ∧ Below w.heap.size w w' := by
  by_cases hb : inR y (setS acs (min acs.length 12))
  · exact since_good acs v y w hA hn hi hF hf hT hG hb
  · exact since_bad acs v y w hA hn hi hF hf hT hG hb
end Go.Proofs.YtmfhdhggpepbbaaDoor
