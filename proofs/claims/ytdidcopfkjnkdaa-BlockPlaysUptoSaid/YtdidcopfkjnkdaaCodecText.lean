import Derived.Test.YtdidcopfkjnkdaaCodecKey
namespace Go.Proofs.Ytdidcopfkjnkdaa
open Go.RowKit
set_option linter.unusedSimpArgs false
set_option linter.unusedVariables false

end Go.Proofs.Ytdidcopfkjnkdaa