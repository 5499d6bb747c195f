import Derived.Test.YteckjhhbljoklaaDoorCodecCommon
import Derived.BigRegion
namespace Go.Proofs.YteckjhhbljoklaaDoor
open Go.RowKit
set_option linter.unusedSimpArgs false
set_option linter.unusedVariables false

theorem conv_one (w : World) (x : Int) (c : UInt8) (hx : x = (c.toNat : Int)) :
    (convert 59 9 (.slice (some ⟨w.heap.size, 0, none⟩) 1 1)).run Tryd.prog (w.alloc (.cells #[.int .u8 x] 5)).drew = .ok (.string (Cd.bs [c])) (w.alloc (.cells #[.int .u8 x] 5)).drew := by
  subst hx
  have h := run_convert_bytes_back (P := Tryd.prog) (w.alloc (.cells #[.int .u8 (c.toNat : Int)] 5)).drew 59 9 5 ⟨w.heap.size, 0, none⟩ 1 [c] Tryd.underlying59 Tryd.underlying5 Tryd.underlying9
    (fun j hj => by
      simp at hj; subst hj
      simpa using cell_one_new w (.int .u8 (c.toNat : Int)) 5 0 _ rfl)
  simpa using h
theorem up_byte (c : UInt8) : ((c.toNat : Int) + 1) % 256 = ((c + 1).toNat : Int) := by
  rw [UInt8.toNat_add]; simp
theorem behind_end {s : ByteArray} {k : Nat} (hk : k ≤ s.size) (c : UInt8) : s.extract 0 k ++ Cd.bs [c] = Cd.bs (s.data.toList.take k ++ [c]) := by
  rw [Lib.extract_eq, ByteArray.mk_append_mk]; simp

end Go.Proofs.YteckjhhbljoklaaDoor