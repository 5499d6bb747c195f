/-
  What a bound on the bulk gives of lists of data.
-/
import Derived.Test.YtghggkopbkhfpaaGreatRows
namespace Go.Proofs.YtghggkopbkhfpaaGreat
namespace Bk
theorem all_range {H : Type} (D : Nat → DataW H) (n : Nat) : Rows.uptoBulkAll ((List.range n).map D) = ((List.range n).map fun i => Rows.uptoBulk (D i)).sum := by
  generalize List.range n = l
  induction l with
  | nil => rfl
  | cons x r ih => simp only [List.map_cons, Rows.uptoBulkAll, List.sum_cons, ih]
end Bk
end Go.Proofs.YtghggkopbkhfpaaGreat
