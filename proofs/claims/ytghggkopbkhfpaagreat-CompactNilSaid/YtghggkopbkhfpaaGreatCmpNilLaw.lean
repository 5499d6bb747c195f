/-
  The walk of the law CompactNil.
-/
import Derived.Test.YtghggkopbkhfpaaGreatCmpNilDev
import Derived.Deep.CutRange
import Derived.Deep.Cut
import Derived.Laws.MakeOwn
import Derived.Deep.CutBlock
namespace Go.Proofs.YtghggkopbkhfpaaGreat
open Go.RowKit
set_option linter.unusedVariables false
set_option linter.unusedSimpArgs false
theorem info_TableC : (Tryz.prog.info? 27).map (fun i => (i.zero, i.size, i.bytes)) = some (some (.agg #[.int .u64 0, .int .i64 0, .int .i64 0, .int .i64 0, .string ⟨#[]⟩, .string ⟨#[]⟩]), 6, 64) := by kernel_rfl
namespace Cp
/-- make([]api.Table, 1) -/
theorem make_one : ∃ mk, ∀ W, (Instr.makeSlice 33 (.int .i64 1) (.int .i64 1)).run Tryz.prog W = .ok (.slice (some ⟨W.heap.size, 0, none⟩) 1 1) (W.alloc (.cells mk 27)) := by
  obtain ⟨i0, hi, hz0, hz1, hz2⟩ := info_parts info_TableC
  exact ⟨_, fun W => run_make (P := Tryz.prog) W 33 27 i0 _ Tryz.underlying33 hi hz0 .i64 .i64 1 1 (by omega) (by omega) (by rw [hz2]; omega) (by omega)⟩

theorem cellA (W : World) (mk : Array Value) (t u : TypeId) : ((W.alloc (.cells mk t)).alloc (.cells #[.pointer none] u)).drew.cell? ⟨W.heap.size + 1, 0, none⟩ = some (.pointer none) ∧ W.heap.size + 1 < ((W.alloc (.cells mk t)).alloc (.cells #[.pointer none] u)).drew.heap.size := by
  have h := (Ob.Obj.new (W.alloc (.cells mk t)) u [.pointer none]).cell 0
  rw [World.size_alloc] at h
  refine ⟨h, ?_⟩
  show _ < ((W.alloc (.cells mk t)).alloc (.cells #[.pointer none] u)).heap.size
  simp
theorem cellB (W : World) (mk : Array Value) (t u : TypeId) : ((W.alloc (.cells #[.pointer none] u)).alloc (.cells mk t)).drew.cell? ⟨W.heap.size, 0, none⟩ = some (.pointer none) ∧ W.heap.size < ((W.alloc (.cells #[.pointer none] u)).alloc (.cells mk t)).drew.heap.size := by
  refine ⟨((Ob.Obj.new W u [.pointer none]).alloc _).cell 0, ?_⟩
  show _ < ((W.alloc (.cells #[.pointer none] u)).alloc (.cells mk t)).heap.size
  simp; omega

set_option maxRecDepth 100000 in
set_option maxHeartbeats 4000000 in
theorem compactNil_walk (c : Cfg) (lev : Int) (w : World) :
    Calls Tryz.prog 3 #[cfgV c, .int .i64 lev] w fun e w' => e = .returned (.bool true) ∧ Below w.heap.size w w' := by
  have H0 := Lib.hid (fun W => next_nil W)
  have H1 := Lib.hid (fun af cf b n x W h => new_nil c lev af cf b n x W h)
  obtain ⟨mk, hmk⟩ := make_one
  obtain ⟨c0, c1, c2, c3, c4, c5, c6, c7⟩ := c
  obtain ⟨wA, hA⟩ : ∃ wA, w.alloc (.cells #[.int .i64 c0, .int .i64 c1, .int .i64 c2, .int .i64 c3, .int .i64 c4, .int .i64 c5, .int .i64 c6, .int .u64 c7] 24) = wA := ⟨_, rfl⟩
  have bA : Below w.heap.size w wA := by rw [← hA]; exact (Below.refl _ _).alloc (Nat.le_refl _) _
  have xA : Ob.Obj wA w.heap.size 24 [.int .i64 c0, .int .i64 c1, .int .i64 c2, .int .i64 c3, .int .i64 c4, .int .i64 c5, .int .i64 c6, .int .u64 c7] := by rw [← hA]; exact Ob.Obj.new w _ [.int .i64 c0, .int .i64 c1, .int .i64 c2, .int .i64 c3, .int .i64 c4, .int .i64 c5, .int .i64 c6, .int .u64 c7]
  unfold cfgV at *
  simp only at *
  go_enter Tryz.func3, Tryz.ntmps3
  go_upto_region 3 with (go_at_call 4; with_reducible refine (H0.out _).mono ?_; rintro e w2 ⟨rfl, hb2⟩; have bB := bA.trans (hb2.mono bA.size); have xB := xA.below hb2)
  obtain ⟨wB, hBe⟩ : ∃ wB, w2.alloc (.cells #[.int .u64 0, .int .i64 0, .int .i64 0, .int .i64 0, .string ⟨#[]⟩, .string ⟨#[]⟩] 27) = wB := ⟨_, rfl⟩
  obtain ⟨tb, htb⟩ : ∃ tb, w2.heap.size = tb := ⟨_, rfl⟩
  have yB : Ob.Obj wB tb 27 [.int .u64 0, .int .i64 0, .int .i64 0, .int .i64 0, .string ⟨#[]⟩, .string ⟨#[]⟩] := by rw [← hBe, ← htb]; exact Ob.Obj.new w2 _ [.int .u64 0, .int .i64 0, .int .i64 0, .int .i64 0, .string ⟨#[]⟩, .string ⟨#[]⟩]
  have xC : Ob.Obj wB w.heap.size 24 [.int .i64 c0, .int .i64 c1, .int .i64 c2, .int .i64 c3, .int .i64 c4, .int .i64 c5, .int .i64 c6, .int .u64 c7] := by rw [← hBe]; exact xB.alloc _
  have bC : Below w.heap.size w wB := by rw [← hBe]; exact bB.alloc bB.size _
  rw [hBe, htb]
  clear hBe htb hA hb2 bB xB bA xA
  have k0 := xC.cell 0
  have k1 := xC.cell 1
  have k2 := xC.cell 2
  have k3 := xC.cell 3
  have k4 := xC.cell 4
  have k5 := xC.cell 5
  have k6 := xC.cell 6
  have k7 := xC.cell 7
  simp at k0 k1 k2 k3 k4 k5 k6 k7
  have hz := xC.lt
  go_cut [10] from 9 to 28 (fun e wx => e = .int .i64 1 ∧ Below wB.heap.size wB wx)
  case first =>
    go_region_with (go_at_call 5; with_reducible refine (H1.out _ _ _ _ _ _ (.inr ⟨rfl, rfl, ?_⟩)).mono ?_; (first | (with_reducible exact cellA _ _ _ _) | (with_reducible exact cellB _ _ _ _)); rintro e w3 ⟨rfl, hb3⟩)
    all_goals (try go_wp2_with fail)
    all_goals go_meet
    all_goals refine ⟨rfl, ?_⟩
    all_goals exact ((((Below.refl wB.heap.size wB).alloc (Nat.le_refl _) _).alloc (by simp) _).drew).trans (hb3.mono (by simp <;> omega))
  case rest =>
    obtain ⟨rfl, hB1⟩ := hcut
    have xD := xC.below hB1
    have k0 := xD.cell 0
    have k1 := xD.cell 1
    have k2 := xD.cell 2
    have k3 := xD.cell 3
    have k4 := xD.cell 4
    have k5 := xD.cell 5
    have k6 := xD.cell 6
    have k7 := xD.cell 7
    simp at k0 k1 k2 k3 k4 k5 k6 k7
    have hz := xD.lt
    have yD := yB.below hB1
    clear yB xC
    have bD := bC.trans (hB1.mono bC.size)
    go_upto_region 4 with fail
    go_cut [12] from 11 to 36 (fun e w9 => e = .int .i64 1 ∧ Below wc.heap.size wc w9)
    case first =>
      go_region_with (go_at_call 5; with_reducible refine (H1.out _ _ 0 _ _ _ (.inl ⟨rfl, rfl⟩)).mono ?_; rintro e w3 ⟨rfl, hb3⟩)
      all_goals (try go_wp2_with fail)
      all_goals go_meet
      all_goals refine ⟨rfl, ?_⟩
      all_goals exact (((Below.refl _ _).alloc (Nat.le_refl _) _).drew).trans (hb3.mono (by simp <;> omega))
    case rest =>
      obtain ⟨rfl, hB2⟩ := hcut
      have yE := yD.below hB2
      have j0 := yE.cell 0
      have j1 := yE.cell 1
      have j2 := yE.cell 2
      have j3 := yE.cell 3
      have j4 := yE.cell 4
      have j5 := yE.cell 5
      simp at j0 j1 j2 j3 j4 j5
      go_wp2_with fail
      go_ret
      exact ⟨rfl, bD.trans (hB2.mono bD.size)⟩
end Cp
end Go.Proofs.YtghggkopbkhfpaaGreat
