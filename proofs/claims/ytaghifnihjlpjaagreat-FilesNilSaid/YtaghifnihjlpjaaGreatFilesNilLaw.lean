/-
  The walk of the law FilesNil, as its frame calls it.
-/
import Derived.Test.YtaghifnihjlpjaaGreatFilesNilDev
namespace Go.Proofs.YtaghifnihjlpjaaGreat
open Go.RowKit
theorem filesNil_law (s : ByteArray) (i : Int) (w : World) (hs : s.size ≤ 140737488351232) (i1 : -9223372036854775808 ≤ i) (i2 : i ≤ 9223372036854775807) :
    Calls Tryz.prog 6 #[.string s, .int .i64 i] w fun e w' => e = .returned (.bool true) ∧ Below w.heap.size w w' := filesNil_walk Fd.nilOk s i w hs i1 i2
end Go.Proofs.YtaghifnihjlpjaaGreat
