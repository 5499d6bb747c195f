/-
  No cell of these rows narrows 'for every input' (looked for: loops, veiled, ifaces, maps, wideKeys, modest, calm, conditions, laid).
  DERIVED. THE GIVEN ROWS OF THIS SEAT. 6 by the template 'for every input the law returns true; each argument reads behind the call as it read before'; 0 by the template 'total and deterministic' (their statements: YtojbcdkiilcppaaTotals.lean).
  GIVEN WITH THE SEED: the statements are not yours to turn. If you find one false, say at which input.
  Laid BY PROGRAM, IN A SANDBOX (cutbox-rows.mjs): the forced cells as the released guide's own fill.sh prints them over the translation 65e38ac6870fdda1… (all of the seat's roots in one cut). By AI agents, Wed Nov 11 2026. No macro, syntax, notation, axiom, sorry.
-/
import Derived.Test.YtojbcdkiilcppaaChecked
import GoSem.Claim
import GoSem.ClaimJoined
import GoSem.ClaimMapViews
import Derived.JoinedTies
import Derived.KernelRfl
namespace Go.Proofs.Ytojbcdkiilcppaa
/- THE CELL 'sum', in the pinned program and in every row, IS THE sha256 OF THE DUMP (.gsa) THAT YtojbcdkiilcppaaProg.lean LOADS. Nothing in Lean hashes anything: it is a label: what it is worth is what the hold of that sum in a sandbox is worth. -/
noncomputable def Try.pinned : Pinned := { name := "ytojbcdkiilcppaa", sum := "65e38ac6870fdda17cb154b4ef4b1581182c979ae0d64c6bfe0dd569deb32d76", checked := Try.checked }
namespace Rows
def none {H : Type} : Left H := { results := [], args := [] }

/-- 'tapestrylaw14.EventKinds': WHATEVER THE INPUT: true; the input reads as it did. -/
def eventKindsSpec : ChangeSpec := { name := "eventKinds", fn := fun _ => fun
  | [d] => { results := [.lit (.bool true)], args := [d] }
  | _ => none }
def eventKindsRow : OpenClaim := { program := "ytojbcdkiilcppaa", sum := "65e38ac6870fdda17cb154b4ef4b1581182c979ae0d64c6bfe0dd569deb32d76", func := "tapestry/tapestrylaw14.EventKinds", spec := "eventKinds", unfollowed := true, recurses := true, apart := false }
def EventKindsSaid : Prop := eventKindsRow.holds Try.pinned (OpenSpec.ofChange eventKindsSpec)

/-- ITS FALSE NEIGHBOUR: 'it returns false'. Refute it at one input. -/
def eventKindsWrong : ChangeSpec := { name := "eventKinds", fn := fun _ => fun
  | [d] => { results := [.lit (.bool false)], args := [d] }
  | _ => none }
def EventKindsWrongFalsely : Prop := eventKindsRow.holds Try.pinned (OpenSpec.ofChange eventKindsWrong)

/-- 'tapestrylaw14.EventHolds': WHATEVER THE INPUT: true; the input reads as it did. -/
def eventHoldsSpec : ChangeSpec := { name := "eventHolds", fn := fun _ => fun
  | [d] => { results := [.lit (.bool true)], args := [d] }
  | _ => none }
def eventHoldsRow : OpenClaim := { program := "ytojbcdkiilcppaa", sum := "65e38ac6870fdda17cb154b4ef4b1581182c979ae0d64c6bfe0dd569deb32d76", func := "tapestry/tapestrylaw14.EventHolds", spec := "eventHolds", unfollowed := true, recurses := true, apart := false }
def EventHoldsSaid : Prop := eventHoldsRow.holds Try.pinned (OpenSpec.ofChange eventHoldsSpec)

/-- ITS FALSE NEIGHBOUR: 'it returns false'. Refute it at one input. -/
def eventHoldsWrong : ChangeSpec := { name := "eventHolds", fn := fun _ => fun
  | [d] => { results := [.lit (.bool false)], args := [d] }
  | _ => none }
def EventHoldsWrongFalsely : Prop := eventHoldsRow.holds Try.pinned (OpenSpec.ofChange eventHoldsWrong)

/-- 'tapestrylaw14.EventReads': WHATEVER THE INPUT: true; the input reads as it did. -/
def eventReadsSpec : ChangeSpec := { name := "eventReads", fn := fun _ => fun
  | [d] => { results := [.lit (.bool true)], args := [d] }
  | _ => none }
def eventReadsRow : OpenClaim := { program := "ytojbcdkiilcppaa", sum := "65e38ac6870fdda17cb154b4ef4b1581182c979ae0d64c6bfe0dd569deb32d76", func := "tapestry/tapestrylaw14.EventReads", spec := "eventReads", unfollowed := true, recurses := true, apart := false }
def EventReadsSaid : Prop := eventReadsRow.holds Try.pinned (OpenSpec.ofChange eventReadsSpec)

/-- ITS FALSE NEIGHBOUR: 'it returns false'. Refute it at one input. -/
def eventReadsWrong : ChangeSpec := { name := "eventReads", fn := fun _ => fun
  | [d] => { results := [.lit (.bool false)], args := [d] }
  | _ => none }
def EventReadsWrongFalsely : Prop := eventReadsRow.holds Try.pinned (OpenSpec.ofChange eventReadsWrong)

/-- 'tapestrylaw14.EventRows': WHATEVER THE INPUT: true; the input reads as it did. -/
def eventRowsSpec : ChangeSpec := { name := "eventRows", fn := fun _ => fun
  | [d1, d2] => { results := [.lit (.bool true)], args := [d1, d2] }
  | _ => none }
def eventRowsRow : OpenClaim := { program := "ytojbcdkiilcppaa", sum := "65e38ac6870fdda17cb154b4ef4b1581182c979ae0d64c6bfe0dd569deb32d76", func := "tapestry/tapestrylaw14.EventRows", spec := "eventRows", unfollowed := true, recurses := true, apart := false }
def EventRowsSaid : Prop := eventRowsRow.holds Try.pinned (OpenSpec.ofChange eventRowsSpec)

/-- ITS FALSE NEIGHBOUR: 'it returns false'. Refute it at one input. -/
def eventRowsWrong : ChangeSpec := { name := "eventRows", fn := fun _ => fun
  | [d1, d2] => { results := [.lit (.bool false)], args := [d1, d2] }
  | _ => none }
def EventRowsWrongFalsely : Prop := eventRowsRow.holds Try.pinned (OpenSpec.ofChange eventRowsWrong)

/-- 'tapestrylaw14.EventWalks': WHATEVER THE INPUT: true; the input reads as it did. -/
def eventWalksSpec : ChangeSpec := { name := "eventWalks", fn := fun _ => fun
  | [d1, d2, d3] => { results := [.lit (.bool true)], args := [d1, d2, d3] }
  | _ => none }
def eventWalksRow : OpenClaim := { program := "ytojbcdkiilcppaa", sum := "65e38ac6870fdda17cb154b4ef4b1581182c979ae0d64c6bfe0dd569deb32d76", func := "tapestry/tapestrylaw14.EventWalks", spec := "eventWalks", unfollowed := true, recurses := true, apart := false }
def EventWalksSaid : Prop := eventWalksRow.holds Try.pinned (OpenSpec.ofChange eventWalksSpec)

/-- ITS FALSE NEIGHBOUR: 'it returns false'. Refute it at one input. -/
def eventWalksWrong : ChangeSpec := { name := "eventWalks", fn := fun _ => fun
  | [d1, d2, d3] => { results := [.lit (.bool false)], args := [d1, d2, d3] }
  | _ => none }
def EventWalksWrongFalsely : Prop := eventWalksRow.holds Try.pinned (OpenSpec.ofChange eventWalksWrong)

/-- 'tapestrylaw14.EventBack': WHATEVER THE INPUT: true; the input reads as it did. -/
def eventBackSpec : ChangeSpec := { name := "eventBack", fn := fun _ => fun
  | [d1, d2, d3] => { results := [.lit (.bool true)], args := [d1, d2, d3] }
  | _ => none }
def eventBackRow : OpenClaim := { program := "ytojbcdkiilcppaa", sum := "65e38ac6870fdda17cb154b4ef4b1581182c979ae0d64c6bfe0dd569deb32d76", func := "tapestry/tapestrylaw14.EventBack", spec := "eventBack", unfollowed := true, recurses := true, apart := false }
def EventBackSaid : Prop := eventBackRow.holds Try.pinned (OpenSpec.ofChange eventBackSpec)

/-- ITS FALSE NEIGHBOUR: 'it returns false'. Refute it at one input. -/
def eventBackWrong : ChangeSpec := { name := "eventBack", fn := fun _ => fun
  | [d1, d2, d3] => { results := [.lit (.bool false)], args := [d1, d2, d3] }
  | _ => none }
def EventBackWrongFalsely : Prop := eventBackRow.holds Try.pinned (OpenSpec.ofChange eventBackWrong)

/- THE SECOND FORM. 'bulk': how many values and letters a reading holds, each counted each time it is reached (what is shared counts as often as it is met; a slice's spare places count too). A statement '..UptoSaid' is the law's where the arguments, and the package variables that the reading takes, are together of bulk at most 1048576: NARROWER than '..Said'. Prove '..Said' where nothing that the law and all that it calls make is longer than what came in: it says more and counts as full. Else prove '..UptoSaid'. A law counts once. -/
mutual
def uptoBulk {H : Type} : DataW H → Nat
  | .lit (.string bytes) => bytes.length + 1
  | .lit _ => 1
  | .nil => 1
  | .ptr d => uptoBulk d + 1
  | .slice elems spare => uptoBulkAll elems + uptoBulkAll spare + 1
  | .agg parts => uptoBulkAll parts + 1
  | .iface _ d => uptoBulk d + 1
  | .map entries => uptoBulkEntries entries + 1
  | .held _ => 1
def uptoBulkAll {H : Type} : List (DataW H) → Nat
  | [] => 0
  | d :: r => uptoBulk d + uptoBulkAll r
def uptoBulkEntries {H : Type} : List (Lit × DataW H) → Nat
  | [] => 0
  | x :: r => uptoBulkEntry x + uptoBulkEntries r
def uptoBulkEntry {H : Type} : Lit × DataW H → Nat
  | (.string bytes, d) => bytes.length + uptoBulk d + 1
  | (_, d) => uptoBulk d + 1
 end
def uptoSmall : (H : Type) → List (DataW H) → Bool := fun _ ds => decide (uptoBulkAll ds ≤ 1048576)
def OpenSpec.upto (s : _root_.Go.ChangeSpec) : _root_.Go.OpenSpec := { _root_.Go.OpenSpec.ofChange s with cond := some uptoSmall }

/-- 'tapestrylaw14.EventKinds', WHERE WHAT IT READS IS OF BULK AT MOST 1048576: true; the input reads as it did. -/
def eventKindsUptoRow : OpenClaim := { program := "ytojbcdkiilcppaa", sum := "65e38ac6870fdda17cb154b4ef4b1581182c979ae0d64c6bfe0dd569deb32d76", func := "tapestry/tapestrylaw14.EventKinds", spec := "eventKinds", unfollowed := true, recurses := true, apart := false, narrowed := true }
def EventKindsUptoSaid : Prop := eventKindsUptoRow.holds Try.pinned (OpenSpec.upto eventKindsSpec)

/-- 'tapestrylaw14.EventHolds', WHERE WHAT IT READS IS OF BULK AT MOST 1048576: true; the input reads as it did. -/
def eventHoldsUptoRow : OpenClaim := { program := "ytojbcdkiilcppaa", sum := "65e38ac6870fdda17cb154b4ef4b1581182c979ae0d64c6bfe0dd569deb32d76", func := "tapestry/tapestrylaw14.EventHolds", spec := "eventHolds", unfollowed := true, recurses := true, apart := false, narrowed := true }
def EventHoldsUptoSaid : Prop := eventHoldsUptoRow.holds Try.pinned (OpenSpec.upto eventHoldsSpec)

/-- 'tapestrylaw14.EventReads', WHERE WHAT IT READS IS OF BULK AT MOST 1048576: true; the input reads as it did. -/
def eventReadsUptoRow : OpenClaim := { program := "ytojbcdkiilcppaa", sum := "65e38ac6870fdda17cb154b4ef4b1581182c979ae0d64c6bfe0dd569deb32d76", func := "tapestry/tapestrylaw14.EventReads", spec := "eventReads", unfollowed := true, recurses := true, apart := false, narrowed := true }
def EventReadsUptoSaid : Prop := eventReadsUptoRow.holds Try.pinned (OpenSpec.upto eventReadsSpec)

/-- 'tapestrylaw14.EventRows', WHERE WHAT IT READS IS OF BULK AT MOST 1048576: true; the input reads as it did. -/
def eventRowsUptoRow : OpenClaim := { program := "ytojbcdkiilcppaa", sum := "65e38ac6870fdda17cb154b4ef4b1581182c979ae0d64c6bfe0dd569deb32d76", func := "tapestry/tapestrylaw14.EventRows", spec := "eventRows", unfollowed := true, recurses := true, apart := false, narrowed := true }
def EventRowsUptoSaid : Prop := eventRowsUptoRow.holds Try.pinned (OpenSpec.upto eventRowsSpec)

/-- 'tapestrylaw14.EventWalks', WHERE WHAT IT READS IS OF BULK AT MOST 1048576: true; the input reads as it did. -/
def eventWalksUptoRow : OpenClaim := { program := "ytojbcdkiilcppaa", sum := "65e38ac6870fdda17cb154b4ef4b1581182c979ae0d64c6bfe0dd569deb32d76", func := "tapestry/tapestrylaw14.EventWalks", spec := "eventWalks", unfollowed := true, recurses := true, apart := false, narrowed := true }
def EventWalksUptoSaid : Prop := eventWalksUptoRow.holds Try.pinned (OpenSpec.upto eventWalksSpec)

/-- 'tapestrylaw14.EventBack', WHERE WHAT IT READS IS OF BULK AT MOST 1048576: true; the input reads as it did. -/
def eventBackUptoRow : OpenClaim := { program := "ytojbcdkiilcppaa", sum := "65e38ac6870fdda17cb154b4ef4b1581182c979ae0d64c6bfe0dd569deb32d76", func := "tapestry/tapestrylaw14.EventBack", spec := "eventBack", unfollowed := true, recurses := true, apart := false, narrowed := true }
def EventBackUptoSaid : Prop := eventBackUptoRow.holds Try.pinned (OpenSpec.upto eventBackSpec)

end Rows
end Go.Proofs.Ytojbcdkiilcppaa
