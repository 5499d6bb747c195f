/-
  No cell of these rows narrows 'for every input' (looked for: loops, veiled, ifaces, maps, wideKeys, modest, calm, conditions, laid).
  DERIVED. THE GIVEN ROWS OF THIS SEAT. 5 by the template 'for every input the law returns true; each argument reads behind the call as it read before'; 0 by the template 'total and deterministic' (their statements: YtgfpkbdinfdkfaaTotals.lean).
  GIVEN WITH THE SEED: the statements are not yours to turn. If you find one false, say at which input.
  Laid BY PROGRAM, IN A SANDBOX (cutbox-rows.mjs): the forced cells as the released guide's own fill.sh prints them over the translation c4668d7ca52a4479… (all of the seat's roots in one cut). By AI agents, Wed Nov 11 2026. No macro, syntax, notation, axiom, sorry.
-/
import Derived.Test.YtgfpkbdinfdkfaaChecked
import GoSem.Claim
import GoSem.ClaimJoined
import GoSem.ClaimMapViews
import Derived.JoinedTies
import Derived.KernelRfl
namespace Go.Proofs.Ytgfpkbdinfdkfaa
/- THE CELL 'sum', in the pinned program and in every row, IS THE sha256 OF THE DUMP (.gsa) THAT YtgfpkbdinfdkfaaProg.lean LOADS. Nothing in Lean hashes anything: it is a label: what it is worth is what the hold of that sum in a sandbox is worth. -/
noncomputable def Try.pinned : Pinned := { name := "ytgfpkbdinfdkfaa", sum := "c4668d7ca52a4479b3f9f697eecd83aae14f466c3b3f2ed9c34e4dcec3e5f95b", checked := Try.checked }
namespace Rows
def none {H : Type} : Left H := { results := [], args := [] }

/-- 'tapestrylaw06.MemtablePlays': WHATEVER THE INPUT: true; the input reads as it did. -/
def memtablePlaysSpec : ChangeSpec := { name := "memtablePlays", fn := fun _ => fun
  | [d] => { results := [.lit (.bool true)], args := [d] }
  | _ => none }
def memtablePlaysRow : OpenClaim := { program := "ytgfpkbdinfdkfaa", sum := "c4668d7ca52a4479b3f9f697eecd83aae14f466c3b3f2ed9c34e4dcec3e5f95b", func := "tapestry/tapestrylaw06.MemtablePlays", spec := "memtablePlays", unfollowed := true, recurses := true, apart := false }
def MemtablePlaysSaid : Prop := memtablePlaysRow.holds Try.pinned (OpenSpec.ofChange memtablePlaysSpec)

/-- ITS FALSE NEIGHBOUR: 'it returns false'. Refute it at one input. -/
def memtablePlaysWrong : ChangeSpec := { name := "memtablePlays", fn := fun _ => fun
  | [d] => { results := [.lit (.bool false)], args := [d] }
  | _ => none }
def MemtablePlaysWrongFalsely : Prop := memtablePlaysRow.holds Try.pinned (OpenSpec.ofChange memtablePlaysWrong)

/-- 'tapestrylaw06.MemtableSame': WHATEVER THE INPUT: true; the input reads as it did. -/
def memtableSameSpec : ChangeSpec := { name := "memtableSame", fn := fun _ => fun
  | [d1, d2, d3] => { results := [.lit (.bool true)], args := [d1, d2, d3] }
  | _ => none }
def memtableSameRow : OpenClaim := { program := "ytgfpkbdinfdkfaa", sum := "c4668d7ca52a4479b3f9f697eecd83aae14f466c3b3f2ed9c34e4dcec3e5f95b", func := "tapestry/tapestrylaw06.MemtableSame", spec := "memtableSame", unfollowed := true, recurses := true, apart := false }
def MemtableSameSaid : Prop := memtableSameRow.holds Try.pinned (OpenSpec.ofChange memtableSameSpec)

/-- ITS FALSE NEIGHBOUR: 'it returns false'. Refute it at one input. -/
def memtableSameWrong : ChangeSpec := { name := "memtableSame", fn := fun _ => fun
  | [d1, d2, d3] => { results := [.lit (.bool false)], args := [d1, d2, d3] }
  | _ => none }
def MemtableSameWrongFalsely : Prop := memtableSameRow.holds Try.pinned (OpenSpec.ofChange memtableSameWrong)

/-- 'tapestrylaw06.MemtableOrder': WHATEVER THE INPUT: true; the input reads as it did. -/
def memtableOrderSpec : ChangeSpec := { name := "memtableOrder", fn := fun _ => fun
  | [d1, d2, d3] => { results := [.lit (.bool true)], args := [d1, d2, d3] }
  | _ => none }
def memtableOrderRow : OpenClaim := { program := "ytgfpkbdinfdkfaa", sum := "c4668d7ca52a4479b3f9f697eecd83aae14f466c3b3f2ed9c34e4dcec3e5f95b", func := "tapestry/tapestrylaw06.MemtableOrder", spec := "memtableOrder", apart := false }
def MemtableOrderSaid : Prop := memtableOrderRow.holds Try.pinned (OpenSpec.ofChange memtableOrderSpec)

/-- ITS FALSE NEIGHBOUR: 'it returns false'. Refute it at one input. -/
def memtableOrderWrong : ChangeSpec := { name := "memtableOrder", fn := fun _ => fun
  | [d1, d2, d3] => { results := [.lit (.bool false)], args := [d1, d2, d3] }
  | _ => none }
def MemtableOrderWrongFalsely : Prop := memtableOrderRow.holds Try.pinned (OpenSpec.ofChange memtableOrderWrong)

/-- 'tapestrylaw06.MemtableStays': WHATEVER THE INPUT: true; the input reads as it did. -/
def memtableStaysSpec : ChangeSpec := { name := "memtableStays", fn := fun _ => fun
  | [d1, d2] => { results := [.lit (.bool true)], args := [d1, d2] }
  | _ => none }
def memtableStaysRow : OpenClaim := { program := "ytgfpkbdinfdkfaa", sum := "c4668d7ca52a4479b3f9f697eecd83aae14f466c3b3f2ed9c34e4dcec3e5f95b", func := "tapestry/tapestrylaw06.MemtableStays", spec := "memtableStays", unfollowed := true, recurses := true, apart := false }
def MemtableStaysSaid : Prop := memtableStaysRow.holds Try.pinned (OpenSpec.ofChange memtableStaysSpec)

/-- ITS FALSE NEIGHBOUR: 'it returns false'. Refute it at one input. -/
def memtableStaysWrong : ChangeSpec := { name := "memtableStays", fn := fun _ => fun
  | [d1, d2] => { results := [.lit (.bool false)], args := [d1, d2] }
  | _ => none }
def MemtableStaysWrongFalsely : Prop := memtableStaysRow.holds Try.pinned (OpenSpec.ofChange memtableStaysWrong)

/-- 'tapestrylaw06.MemtableNil': WHATEVER THE INPUT: true; the input reads as it did. -/
def memtableNilSpec : ChangeSpec := { name := "memtableNil", fn := fun _ => fun
  | [d1, d2] => { results := [.lit (.bool true)], args := [d1, d2] }
  | _ => none }
def memtableNilRow : OpenClaim := { program := "ytgfpkbdinfdkfaa", sum := "c4668d7ca52a4479b3f9f697eecd83aae14f466c3b3f2ed9c34e4dcec3e5f95b", func := "tapestry/tapestrylaw06.MemtableNil", spec := "memtableNil", unfollowed := true, recurses := true, apart := false }
def MemtableNilSaid : Prop := memtableNilRow.holds Try.pinned (OpenSpec.ofChange memtableNilSpec)

/-- ITS FALSE NEIGHBOUR: 'it returns false'. Refute it at one input. -/
def memtableNilWrong : ChangeSpec := { name := "memtableNil", fn := fun _ => fun
  | [d1, d2] => { results := [.lit (.bool false)], args := [d1, d2] }
  | _ => none }
def MemtableNilWrongFalsely : Prop := memtableNilRow.holds Try.pinned (OpenSpec.ofChange memtableNilWrong)

/- THE SECOND FORM. 'bulk': how many values and letters a reading holds, each counted each time it is reached (what is shared counts as often as it is met; a slice's spare places count too). A statement '..UptoSaid' is the law's where the arguments, and the package variables that the reading takes, are together of bulk at most 1048576: NARROWER than '..Said'. Prove '..Said' where nothing that the law and all that it calls make is longer than what came in: it says more and counts as full. Else prove '..UptoSaid'. A law counts once. -/
mutual
def uptoBulk {H : Type} : DataW H → Nat
  | .lit (.string bytes) => bytes.length + 1
  | .lit _ => 1
  | .nil => 1
  | .ptr d => uptoBulk d + 1
  | .slice elems spare => uptoBulkAll elems + uptoBulkAll spare + 1
  | .agg parts => uptoBulkAll parts + 1
  | .iface _ d => uptoBulk d + 1
  | .map entries => uptoBulkEntries entries + 1
  | .held _ => 1
def uptoBulkAll {H : Type} : List (DataW H) → Nat
  | [] => 0
  | d :: r => uptoBulk d + uptoBulkAll r
def uptoBulkEntries {H : Type} : List (Lit × DataW H) → Nat
  | [] => 0
  | x :: r => uptoBulkEntry x + uptoBulkEntries r
def uptoBulkEntry {H : Type} : Lit × DataW H → Nat
  | (.string bytes, d) => bytes.length + uptoBulk d + 1
  | (_, d) => uptoBulk d + 1
 end
def uptoSmall : (H : Type) → List (DataW H) → Bool := fun _ ds => decide (uptoBulkAll ds ≤ 1048576)
def OpenSpec.upto (s : _root_.Go.ChangeSpec) : _root_.Go.OpenSpec := { _root_.Go.OpenSpec.ofChange s with cond := some uptoSmall }

/-- 'tapestrylaw06.MemtablePlays', WHERE WHAT IT READS IS OF BULK AT MOST 1048576: true; the input reads as it did. -/
def memtablePlaysUptoRow : OpenClaim := { program := "ytgfpkbdinfdkfaa", sum := "c4668d7ca52a4479b3f9f697eecd83aae14f466c3b3f2ed9c34e4dcec3e5f95b", func := "tapestry/tapestrylaw06.MemtablePlays", spec := "memtablePlays", unfollowed := true, recurses := true, apart := false, narrowed := true }
def MemtablePlaysUptoSaid : Prop := memtablePlaysUptoRow.holds Try.pinned (OpenSpec.upto memtablePlaysSpec)

/-- 'tapestrylaw06.MemtableSame', WHERE WHAT IT READS IS OF BULK AT MOST 1048576: true; the input reads as it did. -/
def memtableSameUptoRow : OpenClaim := { program := "ytgfpkbdinfdkfaa", sum := "c4668d7ca52a4479b3f9f697eecd83aae14f466c3b3f2ed9c34e4dcec3e5f95b", func := "tapestry/tapestrylaw06.MemtableSame", spec := "memtableSame", unfollowed := true, recurses := true, apart := false, narrowed := true }
def MemtableSameUptoSaid : Prop := memtableSameUptoRow.holds Try.pinned (OpenSpec.upto memtableSameSpec)

/-- 'tapestrylaw06.MemtableOrder', WHERE WHAT IT READS IS OF BULK AT MOST 1048576: true; the input reads as it did. -/
def memtableOrderUptoRow : OpenClaim := { program := "ytgfpkbdinfdkfaa", sum := "c4668d7ca52a4479b3f9f697eecd83aae14f466c3b3f2ed9c34e4dcec3e5f95b", func := "tapestry/tapestrylaw06.MemtableOrder", spec := "memtableOrder", apart := false, narrowed := true }
def MemtableOrderUptoSaid : Prop := memtableOrderUptoRow.holds Try.pinned (OpenSpec.upto memtableOrderSpec)

/-- 'tapestrylaw06.MemtableStays', WHERE WHAT IT READS IS OF BULK AT MOST 1048576: true; the input reads as it did. -/
def memtableStaysUptoRow : OpenClaim := { program := "ytgfpkbdinfdkfaa", sum := "c4668d7ca52a4479b3f9f697eecd83aae14f466c3b3f2ed9c34e4dcec3e5f95b", func := "tapestry/tapestrylaw06.MemtableStays", spec := "memtableStays", unfollowed := true, recurses := true, apart := false, narrowed := true }
def MemtableStaysUptoSaid : Prop := memtableStaysUptoRow.holds Try.pinned (OpenSpec.upto memtableStaysSpec)

/-- 'tapestrylaw06.MemtableNil', WHERE WHAT IT READS IS OF BULK AT MOST 1048576: true; the input reads as it did. -/
def memtableNilUptoRow : OpenClaim := { program := "ytgfpkbdinfdkfaa", sum := "c4668d7ca52a4479b3f9f697eecd83aae14f466c3b3f2ed9c34e4dcec3e5f95b", func := "tapestry/tapestrylaw06.MemtableNil", spec := "memtableNil", unfollowed := true, recurses := true, apart := false, narrowed := true }
def MemtableNilUptoSaid : Prop := memtableNilUptoRow.holds Try.pinned (OpenSpec.upto memtableNilSpec)

end Rows
end Go.Proofs.Ytgfpkbdinfdkfaa
