/-
  DERIVED. GIVEN WITH THE SEED: THE CARDS: each row of YteckjhhbljoklaaDoorRows.lean that lists a variable, with what it lists TIED to the program's text (the seventh form; the later family's looks); each row that meets fmt, with fmt's text TOLD by the authors' own Lean function (tested against real Go, not proved from fmt's source: count such statements apart). THE CARD IS WHAT COUNTS. Prove the row's statement (the work); the ties are given (YteckjhhbljoklaaDoorTie.lean); close each card by the builder's one call (the guide's Derived/Test/ToyasCard.lean, 'card_holds'). Laid BY PROGRAM, IN A SANDBOX (cutbox-door.mjs). By AI agents, Wed Nov 11 2026. No macro, syntax, notation, axiom, sorry.
-/
import Derived.Test.YteckjhhbljoklaaDoorRows
import GoSem.ClaimSeven
namespace Go.Proofs.YteckjhhbljoklaaDoor
namespace Rows

/-- THE TIED CARD OF 'tapestrylaw10.ManifestNames'. -/
def manifestNamesCard : Claim7 := { stood := { row := manifestNamesRow, standIns := [], harness := (true, "4fbf953b17d4d145f5668e507eca38125e6b05d0d622b5d2499cea0d76184281"), looks := true }, kinds := [], alts := [], laidByText := true, laidKinds := [.data, .data, .data, .sentinel, .sentinel], laidTests := true, laidLooks := .later }
def ManifestNamesCardSaid : Prop := Claim7.holds Tryd.pinned (.plain (OpenSpec.ofChange manifestNamesSpec)) manifestNamesCard

/-- THE TIED CARD OF 'tapestrylaw10.ManifestOrphans'. -/
def manifestOrphansCard : Claim7 := { stood := { row := manifestOrphansRow, standIns := [], harness := (true, "4fbf953b17d4d145f5668e507eca38125e6b05d0d622b5d2499cea0d76184281"), looks := true }, kinds := [], alts := [], laidByText := true, laidKinds := [.data, .data, .data, .sentinel, .sentinel], laidTests := true, laidLooks := .later }
def ManifestOrphansCardSaid : Prop := Claim7.holds Tryd.pinned (.plain (OpenSpec.ofChange manifestOrphansSpec)) manifestOrphansCard

/-- THE SECOND FORM's CARD OF 'tapestrylaw10.ManifestNames'. -/
def manifestNamesUptoCard : Claim7 := { stood := { row := manifestNamesUptoRow, standIns := [], harness := (true, "4fbf953b17d4d145f5668e507eca38125e6b05d0d622b5d2499cea0d76184281"), looks := true }, kinds := [], alts := [], laidByText := true, laidKinds := [.data, .data, .data, .sentinel, .sentinel], laidTests := true, laidLooks := .later }
def ManifestNamesUptoCardSaid : Prop := Claim7.holds Tryd.pinned (.plain (OpenSpec.upto manifestNamesSpec)) manifestNamesUptoCard

/-- THE SECOND FORM's CARD OF 'tapestrylaw10.ManifestOrphans'. -/
def manifestOrphansUptoCard : Claim7 := { stood := { row := manifestOrphansUptoRow, standIns := [], harness := (true, "4fbf953b17d4d145f5668e507eca38125e6b05d0d622b5d2499cea0d76184281"), looks := true }, kinds := [], alts := [], laidByText := true, laidKinds := [.data, .data, .data, .sentinel, .sentinel], laidTests := true, laidLooks := .later }
def ManifestOrphansUptoCardSaid : Prop := Claim7.holds Tryd.pinned (.plain (OpenSpec.upto manifestOrphansSpec)) manifestOrphansUptoCard
end Rows
end Go.Proofs.YteckjhhbljoklaaDoor
