import Derived.Test.YtdidcopfkjnkdaaCodecNum
import Derived.Test.YtdidcopfkjnkdaaCodecClone
import Derived.WalkSpells
import Derived.Deep.LoopGhost
namespace Go.Proofs.Ytdidcopfkjnkdaa
open Go.RowKit
set_option linter.unusedSimpArgs false
set_option linter.unusedVariables false

theorem conv_any {w : World} {base : Nat} {v : Value} {l : List UInt8} (h : w.ownsRow base 5 1 v l.length (Cd.cs l)) : (convert 69 9 v).run Try.prog w = .ok (.string (Cd.bs l)) w :=
  Cd.conv_own Try.underlying69 Try.underlying5 Try.underlying9 h

end Go.Proofs.Ytdidcopfkjnkdaa