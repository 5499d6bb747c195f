import Derived.Test.YtenjjfiojackaaaCodecNum
import Derived.Test.YtenjjfiojackaaaCodecClone
import Derived.WalkSpells
import Derived.Deep.LoopGhost
namespace Go.Proofs.Ytenjjfiojackaaa
open Go.RowKit
set_option linter.unusedSimpArgs false
set_option linter.unusedVariables false

theorem conv_any {w : World} {base : Nat} {v : Value} {l : List UInt8} (h : w.ownsRow base 5 1 v l.length (Cd.cs l)) : (convert 34 9 v).run Try.prog w = .ok (.string (Cd.bs l)) w :=
  Cd.conv_own Try.underlying34 Try.underlying5 Try.underlying9 h

end Go.Proofs.Ytenjjfiojackaaa