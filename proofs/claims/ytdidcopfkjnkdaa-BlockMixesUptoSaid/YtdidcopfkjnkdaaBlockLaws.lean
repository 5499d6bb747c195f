/-
  The walks of the five laws, as their frames call them.
-/
import Derived.Test.YtdidcopfkjnkdaaBlockOpen
import Derived.Test.YtdidcopfkjnkdaaBlockArmed
import Derived.Test.YtdidcopfkjnkdaaBlockNil
import Derived.Test.YtdidcopfkjnkdaaBlockDev
namespace Go.Proofs.Ytdidcopfkjnkdaa
open Go.RowKit
set_option linter.unusedVariables false
theorem blockPlays_law (n : Int) (a : Option Addr) (cap b off : Nat) (L : List AAct) (w : World) (n1 : -9223372036854775808 ≤ n) (n2 : n ≤ 9223372036854775807) (A : Acts w a b off L) :
    Calls Try.prog 3 #[.int .i64 n, .slice a L.length cap] w fun e w' => e = .returned (.bool true) ∧ Below w.heap.size w w' := blockPlays_walk Bd.ok n a cap b off L w n1 n2 A.at' A.cells A.ok A.len
theorem blockArmed_law (n : Int) (a : Option Addr) (cap b off : Nat) (L : List AAct) (w : World) (n1 : -9223372036854775808 ≤ n) (n2 : n ≤ 9223372036854775807) (A : Acts w a b off L) :
    Calls Try.prog 6 #[.int .i64 n, .slice a L.length cap] w fun e w' => e = .returned (.bool true) ∧ Below w.heap.size w w' := blockArmed_walk Bd.ok n a cap b off L w n1 n2 A.at' A.cells A.ok A.len
theorem blockSafe_law (a1 : Option Addr) (c1 b1 o1 : Nat) (L1 : List AAct) (a2 : Option Addr) (c2 b2 o2 : Nat) (L2 : List AAct) (x : AAct) (w : World) (A1 : Acts w a1 b1 o1 L1) (A2 : Acts w a2 b2 o2 L2) (hx : x.Ok w) :
    Calls Try.prog 4 #[.slice a1 L1.length c1, .slice a2 L2.length c2, .agg #[.int .i64 x.kind, .int .i64 x.i, .int .i64 x.n, x.kv]] w fun e w' => e = .returned (.bool true) ∧ Below w.heap.size w w' := blockSafe_walk Bd.ok a1 a2 c1 c2 b1 b2 o1 o2 L1 L2 x w A1 A2 hx
theorem blockMixes_law (a1 : Option Addr) (c1 b1 o1 : Nat) (L1 : List AAct) (x : AAct) (w : World) (A1 : Acts w a1 b1 o1 L1) (hx : x.Ok w) :
    Calls Try.prog 5 #[.slice a1 L1.length c1, .agg #[.int .i64 x.kind, .int .i64 x.i, .int .i64 x.n, x.kv]] w fun e w' => e = .returned (.bool true) ∧ Below w.heap.size w w' := blockMixes_walk Bd.ok a1 c1 b1 o1 L1 x w A1 hx
theorem blockNil_law (i : Int) (s : ByteArray) (w : World) (i1 : -9223372036854775808 ≤ i) (i2 : i ≤ 9223372036854775807) (hs : s.size ≤ 140737488351232) :
    Calls Try.prog 7 #[.int .i64 i, .string s] w fun e w' => e = .returned (.bool true) ∧ Below w.heap.size w w' := blockNil_walk Bd.nil i s w i1 i2
end Go.Proofs.Ytdidcopfkjnkdaa
