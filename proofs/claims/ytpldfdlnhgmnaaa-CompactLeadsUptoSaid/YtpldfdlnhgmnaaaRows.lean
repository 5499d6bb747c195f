/-
  No cell of these rows narrows 'for every input' (looked for: loops, veiled, ifaces, maps, wideKeys, modest, calm, conditions, laid).
  DERIVED. THE GIVEN ROWS OF THIS SEAT. 5 by the template 'for every input the law returns true; each argument reads behind the call as it read before'; 0 by the template 'total and deterministic' (their statements: YtpldfdlnhgmnaaaTotals.lean).
  GIVEN WITH THE SEED: the statements are not yours to turn. If you find one false, say at which input.
  Laid BY PROGRAM, IN A SANDBOX (cutbox-rows.mjs): the forced cells as the released guide's own fill.sh prints them over the translation f37a01f7facceae2… (all of the seat's roots in one cut). By AI agents, Wed Nov 11 2026. No macro, syntax, notation, axiom, sorry.
-/
import Derived.Test.YtpldfdlnhgmnaaaChecked
import GoSem.Claim
import GoSem.ClaimJoined
import GoSem.ClaimMapViews
import Derived.JoinedTies
import Derived.KernelRfl
namespace Go.Proofs.Ytpldfdlnhgmnaaa
/- THE CELL 'sum', in the pinned program and in every row, IS THE sha256 OF THE DUMP (.gsa) THAT YtpldfdlnhgmnaaaProg.lean LOADS. Nothing in Lean hashes anything: it is a label: what it is worth is what the hold of that sum in a sandbox is worth. -/
noncomputable def Try.pinned : Pinned := { name := "ytpldfdlnhgmnaaa", sum := "f37a01f7facceae2afcc13388749c15501863133bd8cb959dea706f22fae0769", checked := Try.checked }
namespace Rows
def none {H : Type} : Left H := { results := [], args := [] }

/-- 'tapestrylaw10.ManifestApplies': WHATEVER THE INPUT: true; the input reads as it did. -/
def manifestAppliesSpec : ChangeSpec := { name := "manifestApplies", fn := fun _ => fun
  | [d] => { results := [.lit (.bool true)], args := [d] }
  | _ => none }
def manifestAppliesRow : OpenClaim := { program := "ytpldfdlnhgmnaaa", sum := "f37a01f7facceae2afcc13388749c15501863133bd8cb959dea706f22fae0769", func := "tapestry/tapestrylaw10.ManifestApplies", spec := "manifestApplies", unfollowed := true, recurses := true, apart := false }
def ManifestAppliesSaid : Prop := manifestAppliesRow.holds Try.pinned (OpenSpec.ofChange manifestAppliesSpec)

/-- ITS FALSE NEIGHBOUR: 'it returns false'. Refute it at one input. -/
def manifestAppliesWrong : ChangeSpec := { name := "manifestApplies", fn := fun _ => fun
  | [d] => { results := [.lit (.bool false)], args := [d] }
  | _ => none }
def ManifestAppliesWrongFalsely : Prop := manifestAppliesRow.holds Try.pinned (OpenSpec.ofChange manifestAppliesWrong)

/-- 'tapestrylaw10.ManifestReplays': WHATEVER THE INPUT: true; the input reads as it did. -/
def manifestReplaysSpec : ChangeSpec := { name := "manifestReplays", fn := fun _ => fun
  | [d] => { results := [.lit (.bool true)], args := [d] }
  | _ => none }
def manifestReplaysRow : OpenClaim := { program := "ytpldfdlnhgmnaaa", sum := "f37a01f7facceae2afcc13388749c15501863133bd8cb959dea706f22fae0769", func := "tapestry/tapestrylaw10.ManifestReplays", spec := "manifestReplays", unfollowed := true, recurses := true, apart := false }
def ManifestReplaysSaid : Prop := manifestReplaysRow.holds Try.pinned (OpenSpec.ofChange manifestReplaysSpec)

/-- ITS FALSE NEIGHBOUR: 'it returns false'. Refute it at one input. -/
def manifestReplaysWrong : ChangeSpec := { name := "manifestReplays", fn := fun _ => fun
  | [d] => { results := [.lit (.bool false)], args := [d] }
  | _ => none }
def ManifestReplaysWrongFalsely : Prop := manifestReplaysRow.holds Try.pinned (OpenSpec.ofChange manifestReplaysWrong)

/-- 'tapestrylaw10.ManifestBack': WHATEVER THE INPUT: true; the input reads as it did. -/
def manifestBackSpec : ChangeSpec := { name := "manifestBack", fn := fun _ => fun
  | [d1, d2] => { results := [.lit (.bool true)], args := [d1, d2] }
  | _ => none }
def manifestBackRow : OpenClaim := { program := "ytpldfdlnhgmnaaa", sum := "f37a01f7facceae2afcc13388749c15501863133bd8cb959dea706f22fae0769", func := "tapestry/tapestrylaw10.ManifestBack", spec := "manifestBack", inPlace := ["internal/abi.NoEscape"], unfollowed := true, recurses := true, apart := false }
def ManifestBackSaid : Prop := manifestBackRow.holds Try.pinned (OpenSpec.ofChange manifestBackSpec)

/-- ITS FALSE NEIGHBOUR: 'it returns false'. Refute it at one input. -/
def manifestBackWrong : ChangeSpec := { name := "manifestBack", fn := fun _ => fun
  | [d1, d2] => { results := [.lit (.bool false)], args := [d1, d2] }
  | _ => none }
def ManifestBackWrongFalsely : Prop := manifestBackRow.holds Try.pinned (OpenSpec.ofChange manifestBackWrong)

/-- 'tapestrylaw11.CompactPicks': WHATEVER THE INPUT: true; the input reads as it did. -/
def compactPicksSpec : ChangeSpec := { name := "compactPicks", fn := fun _ => fun
  | [d1, d2, d3] => { results := [.lit (.bool true)], args := [d1, d2, d3] }
  | _ => none }
def compactPicksRow : OpenClaim := { program := "ytpldfdlnhgmnaaa", sum := "f37a01f7facceae2afcc13388749c15501863133bd8cb959dea706f22fae0769", func := "tapestry/tapestrylaw11.CompactPicks", spec := "compactPicks", unfollowed := true, recurses := true, apart := false }
def CompactPicksSaid : Prop := compactPicksRow.holds Try.pinned (OpenSpec.ofChange compactPicksSpec)

/-- ITS FALSE NEIGHBOUR: 'it returns false'. Refute it at one input. -/
def compactPicksWrong : ChangeSpec := { name := "compactPicks", fn := fun _ => fun
  | [d1, d2, d3] => { results := [.lit (.bool false)], args := [d1, d2, d3] }
  | _ => none }
def CompactPicksWrongFalsely : Prop := compactPicksRow.holds Try.pinned (OpenSpec.ofChange compactPicksWrong)

/-- 'tapestrylaw11.CompactLeads': WHATEVER THE INPUT: true; the input reads as it did. -/
def compactLeadsSpec : ChangeSpec := { name := "compactLeads", fn := fun _ => fun
  | [d1, d2, d3] => { results := [.lit (.bool true)], args := [d1, d2, d3] }
  | _ => none }
def compactLeadsRow : OpenClaim := { program := "ytpldfdlnhgmnaaa", sum := "f37a01f7facceae2afcc13388749c15501863133bd8cb959dea706f22fae0769", func := "tapestry/tapestrylaw11.CompactLeads", spec := "compactLeads", unfollowed := true, recurses := true, apart := false }
def CompactLeadsSaid : Prop := compactLeadsRow.holds Try.pinned (OpenSpec.ofChange compactLeadsSpec)

/-- ITS FALSE NEIGHBOUR: 'it returns false'. Refute it at one input. -/
def compactLeadsWrong : ChangeSpec := { name := "compactLeads", fn := fun _ => fun
  | [d1, d2, d3] => { results := [.lit (.bool false)], args := [d1, d2, d3] }
  | _ => none }
def CompactLeadsWrongFalsely : Prop := compactLeadsRow.holds Try.pinned (OpenSpec.ofChange compactLeadsWrong)

/- THE SECOND FORM. 'bulk': how many values and letters a reading holds, each counted each time it is reached (what is shared counts as often as it is met; a slice's spare places count too). A statement '..UptoSaid' is the law's where the arguments, and the package variables that the reading takes, are together of bulk at most 1048576: NARROWER than '..Said'. Prove '..Said' where nothing that the law and all that it calls make is longer than what came in: it says more and counts as full. Else prove '..UptoSaid'. A law counts once. -/
mutual
def uptoBulk {H : Type} : DataW H → Nat
  | .lit (.string bytes) => bytes.length + 1
  | .lit _ => 1
  | .nil => 1
  | .ptr d => uptoBulk d + 1
  | .slice elems spare => uptoBulkAll elems + uptoBulkAll spare + 1
  | .agg parts => uptoBulkAll parts + 1
  | .iface _ d => uptoBulk d + 1
  | .map entries => uptoBulkEntries entries + 1
  | .held _ => 1
def uptoBulkAll {H : Type} : List (DataW H) → Nat
  | [] => 0
  | d :: r => uptoBulk d + uptoBulkAll r
def uptoBulkEntries {H : Type} : List (Lit × DataW H) → Nat
  | [] => 0
  | x :: r => uptoBulkEntry x + uptoBulkEntries r
def uptoBulkEntry {H : Type} : Lit × DataW H → Nat
  | (.string bytes, d) => bytes.length + uptoBulk d + 1
  | (_, d) => uptoBulk d + 1
 end
def uptoSmall : (H : Type) → List (DataW H) → Bool := fun _ ds => decide (uptoBulkAll ds ≤ 1048576)
def OpenSpec.upto (s : _root_.Go.ChangeSpec) : _root_.Go.OpenSpec := { _root_.Go.OpenSpec.ofChange s with cond := some uptoSmall }

/-- 'tapestrylaw10.ManifestApplies', WHERE WHAT IT READS IS OF BULK AT MOST 1048576: true; the input reads as it did. -/
def manifestAppliesUptoRow : OpenClaim := { program := "ytpldfdlnhgmnaaa", sum := "f37a01f7facceae2afcc13388749c15501863133bd8cb959dea706f22fae0769", func := "tapestry/tapestrylaw10.ManifestApplies", spec := "manifestApplies", unfollowed := true, recurses := true, apart := false, narrowed := true }
def ManifestAppliesUptoSaid : Prop := manifestAppliesUptoRow.holds Try.pinned (OpenSpec.upto manifestAppliesSpec)

/-- 'tapestrylaw10.ManifestReplays', WHERE WHAT IT READS IS OF BULK AT MOST 1048576: true; the input reads as it did. -/
def manifestReplaysUptoRow : OpenClaim := { program := "ytpldfdlnhgmnaaa", sum := "f37a01f7facceae2afcc13388749c15501863133bd8cb959dea706f22fae0769", func := "tapestry/tapestrylaw10.ManifestReplays", spec := "manifestReplays", unfollowed := true, recurses := true, apart := false, narrowed := true }
def ManifestReplaysUptoSaid : Prop := manifestReplaysUptoRow.holds Try.pinned (OpenSpec.upto manifestReplaysSpec)

/-- 'tapestrylaw10.ManifestBack', WHERE WHAT IT READS IS OF BULK AT MOST 1048576: true; the input reads as it did. -/
def manifestBackUptoRow : OpenClaim := { program := "ytpldfdlnhgmnaaa", sum := "f37a01f7facceae2afcc13388749c15501863133bd8cb959dea706f22fae0769", func := "tapestry/tapestrylaw10.ManifestBack", spec := "manifestBack", inPlace := ["internal/abi.NoEscape"], unfollowed := true, recurses := true, apart := false, narrowed := true }
def ManifestBackUptoSaid : Prop := manifestBackUptoRow.holds Try.pinned (OpenSpec.upto manifestBackSpec)

/-- 'tapestrylaw11.CompactPicks', WHERE WHAT IT READS IS OF BULK AT MOST 1048576: true; the input reads as it did. -/
def compactPicksUptoRow : OpenClaim := { program := "ytpldfdlnhgmnaaa", sum := "f37a01f7facceae2afcc13388749c15501863133bd8cb959dea706f22fae0769", func := "tapestry/tapestrylaw11.CompactPicks", spec := "compactPicks", unfollowed := true, recurses := true, apart := false, narrowed := true }
def CompactPicksUptoSaid : Prop := compactPicksUptoRow.holds Try.pinned (OpenSpec.upto compactPicksSpec)

/-- 'tapestrylaw11.CompactLeads', WHERE WHAT IT READS IS OF BULK AT MOST 1048576: true; the input reads as it did. -/
def compactLeadsUptoRow : OpenClaim := { program := "ytpldfdlnhgmnaaa", sum := "f37a01f7facceae2afcc13388749c15501863133bd8cb959dea706f22fae0769", func := "tapestry/tapestrylaw11.CompactLeads", spec := "compactLeads", unfollowed := true, recurses := true, apart := false, narrowed := true }
def CompactLeadsUptoSaid : Prop := compactLeadsUptoRow.holds Try.pinned (OpenSpec.upto compactLeadsSpec)

end Rows
end Go.Proofs.Ytpldfdlnhgmnaaa
