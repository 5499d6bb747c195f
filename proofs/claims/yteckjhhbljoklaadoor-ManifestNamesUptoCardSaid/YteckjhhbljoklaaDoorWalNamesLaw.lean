/-
  What the program's names of logs owe; the law WalNames over it.
-/
import Derived.Test.YteckjhhbljoklaaDoorWalNameR
namespace Go.Proofs.YteckjhhbljoklaaDoor
open Go.RowKit
set_option linter.unusedSimpArgs false
set_option linter.unusedVariables false
namespace Wa
/-- what the library's variables hold: the table of places, the two errors -/
def Laid (W : World) : Prop := W.cell? ⟨5, 15, none⟩ = some (.int .u8 4) ∧ (∃ te pe, W.cell? ⟨1, 0, none⟩ = some (.iface te pe)) ∧ ∃ te pe, W.cell? ⟨2, 0, none⟩ = some (.iface te pe)
theorem Laid.below {W W' : World} (h : Laid W) (hb : Below W.heap.size W W') : Laid W' := by
  have lt : ∀ {b j : Nat} {v : Value}, W.cell? ⟨b, j, none⟩ = some v → b < W.heap.size := fun h => by
    obtain ⟨o, ho, _⟩ := cells_of_cell h
    exact (Array.getElem?_eq_some_iff.1 ho).1
  obtain ⟨h1, ⟨t1, p1, h2⟩, t2, p2, h3⟩ := h
  exact ⟨(hb.cell (p := ⟨5, 15, none⟩) (lt h1)).trans h1, ⟨t1, p1, (hb.cell (p := ⟨1, 0, none⟩) (lt h2)).trans h2⟩, t2, p2, (hb.cell (p := ⟨2, 0, none⟩) (lt h3)).trans h3⟩

def NameOk : Prop := ∀ (n : Nat) (w : World), n < 18446744073709551616 → Laid w → Calls Tryd.prog 31 #[.int .u64 (n : Int)] w fun e w' => e = .returned (.string (Cd.bs (name n))) ∧ Below w.heap.size w w'

def NumberOk : Prop := ∀ (l : List UInt8) (w : World), l.length ≤ 140737488351232 → Laid w → Calls Tryd.prog 33 #[.string (Cd.bs l)] w fun e w' => e = .returned (numV (numOf logB l)) ∧ Below w.heap.size w w'

end Wa
end Go.Proofs.YteckjhhbljoklaaDoor
