import Derived.Test.YtgfpkbdinfdkfaaFramePlain
import Derived.Test.YtgfpkbdinfdkfaaCodecValues
import Derived.Test.YtgfpkbdinfdkfaaCodecText
namespace Go.Proofs.Ytgfpkbdinfdkfaa
open Go.RowKit
set_option linter.unusedSimpArgs false
set_option linter.unusedVariables false

/-- the world of a row of four bytes, written one by one -/
def Row4 (w : World) (g : Nat) (l : List UInt8) : Prop := ∀ j, j < 4 → w.cell? ⟨g, j, none⟩ = some (.int .u8 ((l.getD j 0).toNat : Int)) ∧ w.frozen? ⟨g, j, none⟩ = false
theorem Row4.store {w : World} {g n k : Nat} {x : Value} (h : Row4 w g (Fr.litPart n k)) (hk : k < 4) (hx : x = .int .u8 ((Fr.litByte n k).toNat : Int)) :
    Row4 (w.setCell ⟨g, k, none⟩ x) g (Fr.litPart n (k + 1)) := by
  intro j hj
  rw [World.frozen?_setCell]
  refine ⟨?_, (h j hj).2⟩
  rw [Fr.litPart_get _ _ _ hj]
  by_cases hjk : j = k
  · subst hjk
    rw [World.cell?_setCell_same (h := (h j hj).1), hx, if_pos (by omega)]
  · rw [World.cell?_setCell_other (h := by simp only [ne_eq, Addr.mk.injEq, true_and, and_true]; omega), (h j hj).1, Fr.litPart_get _ _ _ hj]
    by_cases h1 : j < k
    · rw [if_pos h1, if_pos (by omega)]
    · rw [if_neg h1, if_neg (by omega)]
theorem Row4.conv {w : World} {g c : Nat} {l : List UInt8} (h : Row4 w g l) (hl : l.length = 4) : (convert 75 9 (.slice (some ⟨g, 0, none⟩) 4 c)).run Try.prog w = .ok (.string (Cd.bs l)) w := by
  have := run_convert_bytes_back (P := Try.prog) w 75 9 5 ⟨g, 0, none⟩ c l Try.underlying75 Try.underlying5 Try.underlying9 (fun j hj => by
    have := (h j (by omega)).1
    rw [List.getD_eq_getElem?_getD, List.getElem?_eq_getElem hj] at this
    have hp : (⟨g, 0, none⟩ : Addr).add j = ⟨g, j, none⟩ := by unfold Addr.add; split <;> simp_all
    rw [hp]; simpa using this)
  rwa [hl] at this
theorem Row4.new (w : World) (n : Nat) (T : TypeId) : Row4 (w.alloc (.cells #[.int .u8 0, .int .u8 0, .int .u8 0, .int .u8 0] T)) w.heap.size (Fr.litPart n 0) := by
  intro j hj
  rw [Fr.litPart_zero]
  match j, hj with
  | 0, _ => exact ⟨by go_simp, by go_simp⟩
  | 1, _ => exact ⟨by go_simp, by go_simp⟩
  | 2, _ => exact ⟨by go_simp, by go_simp⟩
  | 3, _ => exact ⟨by go_simp, by go_simp⟩

end Go.Proofs.Ytgfpkbdinfdkfaa