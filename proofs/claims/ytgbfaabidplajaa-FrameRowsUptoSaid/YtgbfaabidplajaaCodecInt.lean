import Derived.Test.YtgbfaabidplajaaCodecNum
namespace Go.Proofs.Ytgbfaabidplajaa
open Go.RowKit
set_option linter.unusedSimpArgs false
set_option linter.unusedVariables false

end Go.Proofs.Ytgbfaabidplajaa