/-
  The dump is laid out.
-/
import Derived.Test.YtghggkopbkhfpaaGreatProg
import Derived.JoinedCond
import Derived.Below
import Derived.ProofKit
namespace Go.Proofs.YtghggkopbkhfpaaGreat
open Go.RowKit
theorem laidOut : laidOutB Tryz.prog = true := by kernel_rfl
end Go.Proofs.YtghggkopbkhfpaaGreat
