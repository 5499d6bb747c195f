import Derived.Test.YtdidcopfkjnkdaaProg
import Derived.Test.YtdidcopfkjnkdaaCodecPlain
import Derived.WalkKit
import Derived.WalkSpells
import Derived.WalkLawsBesides
import Derived.Outline
import Derived.Lib.Hide
import Derived.Deep.LoopGhost
namespace Go.Proofs.Ytdidcopfkjnkdaa
open Go.RowKit
set_option linter.unusedSimpArgs false
set_option linter.unusedVariables false

end Go.Proofs.Ytdidcopfkjnkdaa