/-
  Configurations of a store (api.StoreConfig): what they are as values; which the program (chapter 11) and the document let be.
-/
import Derived.Test.YtghggkopbkhfpaaGreatProg
import Derived.WalkKit
import Derived.WalkLawsBesides
import Derived.OwnWalk
import Derived.Lib.Hide
import Derived.BigQuiet
namespace Go.Proofs.YtghggkopbkhfpaaGreat
open Go.RowKit
set_option linter.unusedVariables false
set_option linter.unusedSimpArgs false
namespace Cp
structure Cfg where
  mem : Int
  block : Int
  bits : Int
  table : Int
  files : Int
  base : Int
  edits : Int
  seed : Int
def wt (n lo hi : Int) : Bool := decide (lo ≤ n) && decide (n ≤ hi)
def mayC (c : Cfg) : Bool := wt c.mem 64 65536 && wt c.block 64 4096 && wt c.bits 0 20 && wt c.table 256 65536 && wt c.files 1 8 && wt c.base 256 1048576 && wt c.edits 1 1000
def cfgV (c : Cfg) : Value := .agg #[.int .i64 c.mem, .int .i64 c.block, .int .i64 c.bits, .int .i64 c.table, .int .i64 c.files, .int .i64 c.base, .int .i64 c.edits, .int .u64 c.seed]

set_option maxRecDepth 100000 in
theorem within_any (n lo hi : Int) (w : World) :
    Calls Tryz.prog 13 #[.int .i64 n, .int .i64 lo, .int .i64 hi] w fun e w' => e = .returned (.bool (wt n lo hi)) ∧ w = w' := by
  unfold wt
  go_enter Tryz.func13, Tryz.ntmps13
  go_wp2_with fail
  all_goals go_ret
  all_goals refine ⟨congrArg (fun b => Ending.returned (.bool b)) ?_, rfl⟩
  all_goals (first | (simp_all; done) | (simp_all; omega))

set_option maxRecDepth 100000 in
theorem goesDown_any (n : Int) (w : World) :
    Calls Tryz.prog 7 #[.int .i64 n] w fun e w' => e = .returned (.bool (wt n 0 2)) ∧ w = w' := by
  unfold wt
  go_enter Tryz.func7, Tryz.ntmps7
  go_wp2_with fail
  all_goals go_ret
  all_goals refine ⟨congrArg (fun b => Ending.returned (.bool b)) ?_, rfl⟩
  all_goals simp_all
  all_goals omega

set_option maxRecDepth 100000 in
set_option maxHeartbeats 4000000 in
theorem mayBe_any (c : Cfg) (w : World) :
    Calls Tryz.prog 6 #[cfgV c] w fun e w' => e = .returned (.bool (mayC c)) ∧ Below w.heap.size w w' := by
  obtain ⟨x0, x1, x2, x3, x4, x5, x6, x7⟩ := c
  unfold cfgV mayC
  simp only
  have H0 := Lib.hid (fun W => within_any x0 64 65536 W)
  have H1 := Lib.hid (fun W => within_any x1 64 4096 W)
  have H2 := Lib.hid (fun W => within_any x2 0 20 W)
  have H3 := Lib.hid (fun W => within_any x3 256 65536 W)
  have H4 := Lib.hid (fun W => within_any x4 1 8 W)
  have H5 := Lib.hid (fun W => within_any x5 256 1048576 W)
  have H6 := Lib.hid (fun W => within_any x6 1 1000 W)
  generalize wt x0 64 65536 = b0 at *
  generalize wt x1 64 4096 = b1 at *
  generalize wt x2 0 20 = b2 at *
  generalize wt x3 256 65536 = b3 at *
  generalize wt x4 1 8 = b4 at *
  generalize wt x5 256 1048576 = b5 at *
  generalize wt x6 1 1000 = b6 at *
  go_enter Tryz.func6, Tryz.ntmps6
  go_wp2_with (go_at_call 13; (first | (with_reducible refine (H0.out _).mono ?_) | (with_reducible refine (H1.out _).mono ?_) | (with_reducible refine (H2.out _).mono ?_) | (with_reducible refine (H3.out _).mono ?_) | (with_reducible refine (H4.out _).mono ?_) | (with_reducible refine (H5.out _).mono ?_) | (with_reducible refine (H6.out _).mono ?_)); rintro e w2 ⟨rfl, rfl⟩)
  all_goals go_ret
  all_goals refine ⟨congrArg (fun b => Ending.returned (.bool b)) ?_, (Below.refl _ _).alloc (Nat.le_refl _) _⟩
  all_goals (simp_all; done)
end Cp
end Go.Proofs.YtghggkopbkhfpaaGreat
