/-
  Chapter 7: the four laws over the landed filters.
-/
import Derived.Test.YtenjjfiojackaaaBloomOpen
import Derived.Test.YtenjjfiojackaaaBloomDevD
namespace Go.Proofs.Ytenjjfiojackaaa
open Go.RowKit
set_option linter.unusedVariables false
theorem laidOut : laidOutB Try.prog = true := by kernel_rfl
namespace Bm
theorem bloomAsks_law (s key : ByteArray) (w : World) (h1 : s.size ≤ 140737488351232) (h2 : key.size ≤ 140737488351232) :
    Calls Try.prog 4 #[.string s, .string key] w fun e w' => e = .returned (.bool true) ∧ Below w.heap.size w w' :=
  bloomAsks_walk hasOk validOk loadOk s key w h1 h2

theorem bloomBuilds_law (b : Int) (a : Option Addr) (cap : Nat) (L : List (List UInt8)) (key : ByteArray) (w : World) (hb0 : -9223372036854775808 ≤ b) (hb1 : b ≤ 9223372036854775807) (hK : KeysIn w a cap L) (hz : key.size ≤ 1048576) :
    Calls Try.prog 3 #[.int .i64 b, .slice a L.length cap, .string key] w fun e w' => e = .returned (.bool true) ∧ Below w.heap.size w w' :=
  bloomBuilds_of buildOk hashOk b a cap L key w hb0 hb1 hK hz

theorem bloomNever_law (b : Int) (a : Option Addr) (cap : Nat) (L : List (List UInt8)) (w : World) (hb0 : -9223372036854775808 ≤ b) (hb1 : b ≤ 9223372036854775807) (hK : KeysIn w a cap L) :
    Calls Try.prog 5 #[.int .i64 b, .slice a L.length cap] w fun e w' => e = .returned (.bool true) ∧ Below w.heap.size w w' :=
  bloomNever_of buildOk hasOk validOk loadOk b a cap L w hb0 hb1 hK

theorem bloomUnion_law (b : Int) (a : Option Addr) (cap : Nat) (L : List (List UInt8)) (more : Int) (w : World) (hb0 : -9223372036854775808 ≤ b) (hb1 : b ≤ 9223372036854775807) (hK : KeysIn w a cap L) (hm0 : -9223372036854775808 ≤ more) (hm1 : more ≤ 9223372036854775807) :
    Calls Try.prog 6 #[.int .i64 b, .slice a L.length cap, .int .i64 more] w fun e w' => e = .returned (.bool true) ∧ Below w.heap.size w w' :=
  bloomUnion_of buildOk b a cap L more w hb0 hb1 hK hm0 hm1
end Bm
end Go.Proofs.Ytenjjfiojackaaa
