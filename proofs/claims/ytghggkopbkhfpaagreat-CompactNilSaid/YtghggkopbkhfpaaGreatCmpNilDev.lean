/-
  compact: a run that is nil tells none; tables that are nil, or too few, are refused.
-/
import Derived.Test.YtghggkopbkhfpaaGreatCmpCfg
import Derived.Test.YtghggkopbkhfpaaGreatObj
import Derived.Deep.RegionWith
namespace Go.Proofs.YtghggkopbkhfpaaGreat
open Go.RowKit
set_option linter.unusedVariables false
set_option linter.unusedSimpArgs false
namespace Cp
set_option maxRecDepth 100000 in
set_option maxHeartbeats 4000000 in
theorem index_nil (b : Nat) (w : World) (hc : w.cell? ⟨b, 0, none⟩ = some (.pointer none)) :
    Calls Tryz.prog 14 #[.slice (some ⟨b, 0, none⟩) 1 1, .pointer none] w fun e w' => e = .returned (.int .i64 0) ∧ w = w' := by
  go_enter Tryz.func14, Tryz.ntmps14
  go_wp2_with fail
  go_loopw [8] (fun i wr => i = .int .i64 0 ∧ w = wr) (fun i _ => 0)
  case atStart => exact ⟨rfl, rfl⟩
  case round =>
    obtain ⟨rfl, rfl⟩ := hrel
    go_wp2_with fail
    go_ret
    exact ⟨rfl, rfl⟩

set_option maxRecDepth 100000 in
set_option maxHeartbeats 4000000 in
theorem contains_nil (b : Nat) (w : World) (hc : w.cell? ⟨b, 0, none⟩ = some (.pointer none)) :
    Calls Tryz.prog 8 #[.slice (some ⟨b, 0, none⟩) 1 1, .pointer none] w fun e w' => e = .returned (.bool true) ∧ w = w' := by
  go_enter Tryz.func8, Tryz.ntmps8
  go_wp2_with (go_at_call 14; with_reducible refine (index_nil b _ hc).mono ?_; rintro e w2 ⟨rfl, rfl⟩)
  go_ret
  exact ⟨rfl, rfl⟩
set_option maxRecDepth 100000 in
set_option maxHeartbeats 4000000 in
theorem next_nil (w : World) :
    Calls Tryz.prog 4 #[.pointer none] w fun e w' => e = .returned (.tuple #[.string ⟨#[]⟩, .agg #[.int .u64 0, .int .i64 0, .int .i64 0, .int .i64 0, .string ⟨#[]⟩, .string ⟨#[]⟩], .bool false]) ∧ Below w.heap.size w w' := by
  go_enter Tryz.func4, Tryz.ntmps4
  go_wp2_with fail
  exact bodyPost_ret (v := .tuple #[.string ⟨#[]⟩, .agg #[.int .u64 0, .int .i64 0, .int .i64 0, .int .i64 0, .string ⟨#[]⟩, .string ⟨#[]⟩], .bool false]) (by simp [results, Tryz.results4, go_sem]) rfl ⟨rfl, (Below.refl _ _).alloc (Nat.le_refl _) _⟩

set_option maxRecDepth 100000 in
set_option maxHeartbeats 4000000 in
theorem new_nil (c : Cfg) (lev : Int) (af : Option Addr) (cf b n : Nat) (x : Value) (w : World) (hx : x = .slice none 0 0 ∧ n = 0 ∨ x = .slice (some ⟨b, 0, none⟩) 1 1 ∧ n = 1 ∧ w.cell? ⟨b, 0, none⟩ = some (.pointer none) ∧ b < w.heap.size) :
    Calls Tryz.prog 5 #[cfgV c, .agg #[.int .i64 lev, .slice af 1 cf, .slice none 0 0, .bool false], x, .slice none 0 0] w fun e w' => e = .returned (.tuple #[.pointer none, .int .i64 1]) ∧ Below w.heap.size w w' := by
  obtain ⟨c0, c1, c2, c3, c4, c5, c6, c7⟩ := c
  have H0 := Lib.hid (fun W => mayBe_any ⟨c0, c1, c2, c3, c4, c5, c6, c7⟩ W)
  have H1 := Lib.hid (fun W => goesDown_any lev W)
  generalize mayC ⟨c0, c1, c2, c3, c4, c5, c6, c7⟩ = b0 at *
  generalize wt lev 0 2 = b1 at *
  have hsum : IntKind.i64.wrap (1 + 0) = 1 := by decide
  obtain ⟨wA, hA⟩ : ∃ wA, w.alloc (.cells #[.int .i64 c0, .int .i64 c1, .int .i64 c2, .int .i64 c3, .int .i64 c4, .int .i64 c5, .int .i64 c6, .int .u64 c7] 24) = wA := ⟨_, rfl⟩
  have bA : Below w.heap.size w wA := by rw [← hA]; exact (Below.refl _ _).alloc (Nat.le_refl _) _
  have xA : Ob.Obj wA w.heap.size 24 [.int .i64 c0, .int .i64 c1, .int .i64 c2, .int .i64 c3, .int .i64 c4, .int .i64 c5, .int .i64 c6, .int .u64 c7] := by rw [← hA]; exact Ob.Obj.new w _ [.int .i64 c0, .int .i64 c1, .int .i64 c2, .int .i64 c3, .int .i64 c4, .int .i64 c5, .int .i64 c6, .int .u64 c7]
  obtain ⟨j, hj⟩ : ∃ j, wA.heap.size = j := ⟨_, rfl⟩
  obtain ⟨wB, hB⟩ : ∃ wB, wA.alloc (.cells #[.int .i64 lev, .slice af 1 cf, .slice none 0 0, .bool false] 35) = wB := ⟨_, rfl⟩
  have bB : Below w.heap.size w wB := by rw [← hB]; exact bA.alloc bA.size _
  have yB : Ob.Obj wB j 35 [.int .i64 lev, .slice af 1 cf, .slice none 0 0, .bool false] := by rw [← hB, ← hj]; exact Ob.Obj.new wA _ [.int .i64 lev, .slice af 1 cf, .slice none 0 0, .bool false]
  have xB : Ob.Obj wB w.heap.size 24 [.int .i64 c0, .int .i64 c1, .int .i64 c2, .int .i64 c3, .int .i64 c4, .int .i64 c5, .int .i64 c6, .int .u64 c7] := by rw [← hB]; exact xA.alloc _
  have k0 := xB.cell 0
  have k1 := xB.cell 1
  have k2 := xB.cell 2
  have k3 := xB.cell 3
  have k4 := xB.cell 4
  have k5 := xB.cell 5
  have k6 := xB.cell 6
  have k7 := xB.cell 7
  simp at k0 k1 k2 k3 k4 k5 k6 k7
  unfold cfgV at *
  simp only at *
  rcases hx with ⟨rfl, rfl⟩ | ⟨rfl, rfl, hc, hb⟩
  all_goals
    try have H2 := Lib.hid (fun W (h : Below w.heap.size w W) => contains_nil b W ((h.cell (p := ⟨b, 0, none⟩) hb).trans hc))
    try clear hc
    go_enter Tryz.func5, Tryz.ntmps5
    go_wp2_with (first
      | (go_at_call 6; with_reducible refine (H0.out _).mono ?_; rintro e w2 ⟨rfl, hb2⟩; have hB2 := bB.trans (hb2.mono bB.size); have y2 := yB.below hb2; have j0 := y2.cell 0; have j1 := y2.cell 1; have j2 := y2.cell 2; simp at j0 j1 j2)
      | (go_at_call 7; with_reducible refine (H1.out _).mono ?_; rintro e w2 ⟨rfl, rfl⟩)
      | (go_at_call 8; with_reducible refine (H2.out _ ?_).mono ?_; exact hB2; rintro e w2 ⟨rfl, rfl⟩))
    all_goals go_ret2
    all_goals exact ⟨rfl, hB2⟩
end Cp
end Go.Proofs.YtghggkopbkhfpaaGreat
