/-
  The law CompactNil, as its frame calls it.
-/
import Derived.Test.YtghggkopbkhfpaaGreatCmpNilLaw
import Derived.Test.YtghggkopbkhfpaaGreatCmpOpen
namespace Go.Proofs.YtghggkopbkhfpaaGreat
open Go.RowKit
namespace Cp
theorem compactNil_law (c : Cfg) (lev : Int) (w : World) (h : CfgIn c) (l0 : -9223372036854775808 ≤ lev) (l1 : lev ≤ 9223372036854775807) :
    Calls Tryz.prog 3 #[cfgV c, .int .i64 lev] w fun e w' => e = .returned (.bool true) ∧ Below w.heap.size w w' := compactNil_walk c lev w
end Cp
end Go.Proofs.YtghggkopbkhfpaaGreat
