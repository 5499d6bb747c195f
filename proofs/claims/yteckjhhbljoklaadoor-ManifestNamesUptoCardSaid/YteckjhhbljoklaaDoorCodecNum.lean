import Derived.Test.YteckjhhbljoklaaDoorProg
import Derived.Test.YteckjhhbljoklaaDoorCodecPlain
import Derived.WalkKit
import Derived.WalkSpells
import Derived.WalkLawsBesides
import Derived.Outline
import Derived.Lib.Hide
import Derived.Deep.LoopGhost
namespace Go.Proofs.YteckjhhbljoklaaDoor
open Go.RowKit
set_option linter.unusedSimpArgs false
set_option linter.unusedVariables false

end Go.Proofs.YteckjhhbljoklaaDoor