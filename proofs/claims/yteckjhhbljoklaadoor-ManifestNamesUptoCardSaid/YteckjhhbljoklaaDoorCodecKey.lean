import Derived.Test.YteckjhhbljoklaaDoorCodecNum
import Derived.Test.YteckjhhbljoklaaDoorCodecClone
import Derived.WalkSpells
import Derived.Deep.LoopGhost
namespace Go.Proofs.YteckjhhbljoklaaDoor
open Go.RowKit
set_option linter.unusedSimpArgs false
set_option linter.unusedVariables false

theorem conv_any {w : World} {base : Nat} {v : Value} {l : List UInt8} (h : w.ownsRow base 5 1 v l.length (Cd.cs l)) : (convert 59 9 v).run Tryd.prog w = .ok (.string (Cd.bs l)) w :=
  Cd.conv_own Tryd.underlying59 Tryd.underlying5 Tryd.underlying9 h

end Go.Proofs.YteckjhhbljoklaaDoor