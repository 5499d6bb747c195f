import Derived.Deep.CutRange
import Derived.Deep.Cut
import Derived.Deep.CutBlock
import Derived.Test.YtoldjbgojjafdaaGreatDoorRows
import Derived.ProofKit
import Derived.JoinedCond
import Derived.Test.YtoldjbgojjafdaaGreatDoorPart3
/-
  The walk of the law StoreChecks.
-/
namespace Go.Proofs.YtoldjbgojjafdaaGreatDoor
open Go.RowKit
set_option linter.unusedVariables false
set_option linter.unusedSimpArgs false
namespace Sr
open Cp (Cfg wt mayC cfgV rightR_any)
set_option maxRecDepth 100000 in
theorem eq_four (W : World) : (Op.equalIn 9999 47 (.agg #[.int .i64 0, .int .i64 0, .int .i64 0, .int .i64 0]) (.agg #[.int .i64 0, .int .i64 0, .int .i64 0, .int .i64 0])).run Tryz.prog W = .ok true W := by kernel_rfl
set_option maxRecDepth 100000 in
set_option maxHeartbeats 4000000 in
theorem storeChecks_walk (c : Cfg) (key : ByteArray) (w : World) :
    Calls Tryz.prog 3 #[cfgV c, .string key] w fun e w' => e = .returned (.bool true) ∧ Below w.heap.size w w' := by
  have H0 := Lib.hid (fun W => checkS_any c W)
  have H1 := Lib.hid (fun W => rightR_any c W)
  have H2 := Lib.hid (fun W => write_nil W)
  have H3 := Lib.hid (fun W => get_nil key W)
  have H4 := Lib.hid (fun W => scan_nil key key W)
  have H5 := Lib.hid (fun W => snap_nil W)
  have H6 := Lib.hid (fun W => release_nil 1 W)
  have H7 := Lib.hid (fun W => getAt_nil 1 key W)
  have H8 := Lib.hid (fun W => scanAt_nil 1 key key W)
  have H9 := Lib.hid (fun W => work_nil W)
  have HA := Lib.hid (fun W => live_nil W)
  have HB := Lib.hid (fun W => stats_nil W)
  obtain ⟨m, hm⟩ : ∃ m, mayC c = m := ⟨_, rfl⟩
  rw [hm] at H0 H1
  clear hm
  obtain ⟨c0, c1, c2, c3, c4, c5, c6, c7⟩ := c
  obtain ⟨wA, hA⟩ : ∃ wA, w.alloc (.cells #[.int .i64 c0, .int .i64 c1, .int .i64 c2, .int .i64 c3, .int .i64 c4, .int .i64 c5, .int .i64 c6, .int .u64 c7] 24) = wA := ⟨_, rfl⟩
  have bA : Below w.heap.size w wA := by rw [← hA]; exact (Below.refl _ _).alloc (Nat.le_refl _) _
  have xA : Ob.Obj wA w.heap.size 24 [.int .i64 c0, .int .i64 c1, .int .i64 c2, .int .i64 c3, .int .i64 c4, .int .i64 c5, .int .i64 c6, .int .u64 c7] := by rw [← hA]; exact Ob.Obj.new w _ [.int .i64 c0, .int .i64 c1, .int .i64 c2, .int .i64 c3, .int .i64 c4, .int .i64 c5, .int .i64 c6, .int .u64 c7]
  unfold cfgV at *
  simp only at *
  have k0 := xA.cell 0
  have k1 := xA.cell 1
  have k2 := xA.cell 2
  have k3 := xA.cell 3
  have k4 := xA.cell 4
  have k5 := xA.cell 5
  have k6 := xA.cell 6
  have k7 := xA.cell 7
  simp at k0 k1 k2 k3 k4 k5 k6 k7
  have hz := xA.lt
  cases m
  all_goals
    go_enter Tryz.func3, Tryz.ntmps3
    go_wp2_with (first
      | (go_at_call 4; with_reducible refine (H0.out _).mono ?_; rintro e w2 ⟨rfl, hb2⟩; have x2 := xA.below hb2; have b2 := bA.trans (hb2.mono bA.size); have k0 := x2.cell 0; have k1 := x2.cell 1; have k2 := x2.cell 2; have k3 := x2.cell 3; have k4 := x2.cell 4; have k5 := x2.cell 5; have k6 := x2.cell 6; have k7 := x2.cell 7; simp at k0 k1 k2 k3 k4 k5 k6 k7; have hz := x2.lt)
      | (go_at_call 5; with_reducible refine (H1.out _).mono ?_; rintro e w3 ⟨rfl, hb3⟩; have b3 := b2.trans (hb3.mono b2.size))
      | (go_at_call 6; with_reducible refine (H2.out _).mono ?_; rintro e w4 ⟨rfl, hb4⟩; have b4 := b3.trans (hb4.mono b3.size))
      | (go_at_call 7; with_reducible refine (H3.out _).mono ?_; rintro e w5 ⟨rfl, hb5⟩; have b5 := b4.trans (hb5.mono b4.size))
      | (go_at_call 8; with_reducible refine (H4.out _).mono ?_; rintro e w6 ⟨rfl, hb6⟩; have b6 := b5.trans (hb6.mono b5.size))
      | (go_at_call 9; with_reducible refine (H5.out _).mono ?_; rintro e w7 ⟨rfl, hb7⟩; have b7 := b6.trans (hb7.mono b6.size))
      | (go_at_call 10; with_reducible refine (H6.out _).mono ?_; rintro e w8 ⟨rfl, hb8⟩; have b8 := b7.trans (hb8.mono b7.size))
      | (go_at_call 11; with_reducible refine (H7.out _).mono ?_; rintro e w9 ⟨rfl, hb9⟩; have b9 := b8.trans (hb9.mono b8.size))
      | (go_at_call 12; with_reducible refine (H8.out _).mono ?_; rintro e w10 ⟨rfl, hb10⟩; have b10 := b9.trans (hb10.mono b9.size))
      | (go_at_call 13; with_reducible refine (H9.out _).mono ?_; rintro e w11 ⟨rfl, hb11⟩; have b11 := b10.trans (hb11.mono b10.size))
      | (go_at_call 14; with_reducible refine (HA.out _).mono ?_; rintro e w12 ⟨rfl, hb12⟩; have b12 := b11.trans (hb12.mono b11.size); obtain ⟨wL, hL⟩ : ∃ wL, w12.alloc (.cells #[.int .u64 0, .int .u64 0, .int .u64 0, .slice none 0 0, .slice none 0 0, .slice none 0 0, .slice none 0 0] 45) = wL := ⟨_, rfl⟩; have bL : Below w.heap.size w wL := (by rw [← hL]; exact b12.alloc b12.size _); have xL : Ob.Obj wL w12.heap.size 45 [.int .u64 0, .int .u64 0, .int .u64 0, .slice none 0 0, .slice none 0 0, .slice none 0 0, .slice none 0 0] := (by rw [← hL]; exact Ob.Obj.new w12 _ _); have nl := xL.lt; have q0 := xL.cell 0; have fq0 := xL.frozen 0; have q1 := xL.cell 1; have fq1 := xL.frozen 1; have q2 := xL.cell 2; have fq2 := xL.frozen 2; have q3 := xL.cell 3; have fq3 := xL.frozen 3; have q4 := xL.cell 4; have fq4 := xL.frozen 4; have q5 := xL.cell 5; have fq5 := xL.frozen 5; have q6 := xL.cell 6; have fq6 := xL.frozen 6; simp at q0 q1 q2 q3 q4 q5 q6))
    all_goals
      rw [setCell_self q0, setCell_self q1, setCell_self q2, setCell_self q3, setCell_self q4, setCell_self q5, setCell_self q6]
      refine (HB.out _).mono ?_
      rintro e w13 ⟨rfl, hb13⟩
      have b13 := bL.trans (hb13.mono bL.size)
      obtain ⟨wS, hS⟩ : ∃ wS, w13.alloc (.cells #[.int .u64 0, .int .i64 0, .int .i64 0, .int .i64 0, .int .i64 0, .int .i64 0, .int .i64 0, .int .i64 0, .int .i64 0, .bool false, .int .i64 0, .int .i64 0, .int .u64 0] 49) = wS := ⟨_, rfl⟩
      have bS : Below w.heap.size w wS := (by rw [← hS]; exact b13.alloc b13.size _)
      have xL2 : Ob.Obj wS w12.heap.size 45 [.int .u64 0, .int .u64 0, .int .u64 0, .slice none 0 0, .slice none 0 0, .slice none 0 0, .slice none 0 0] := (by rw [← hS]; exact (xL.below hb13).alloc _)
      have xS : Ob.Obj wS w13.heap.size 49 [.int .u64 0, .int .i64 0, .int .i64 0, .int .i64 0, .int .i64 0, .int .i64 0, .int .i64 0, .int .i64 0, .int .i64 0, .bool false, .int .i64 0, .int .i64 0, .int .u64 0] := (by rw [← hS]; exact Ob.Obj.new w13 _ _)
      have l0 := xL2.cell 0
      have ll := xL2.lt
      have sl := xS.lt
      have s0 := xS.cell 0
      have s1 := xS.cell 1
      have s2 := xS.cell 2
      have s3 := xS.cell 3
      have s4 := xS.cell 4
      have s5 := xS.cell 5
      have s6 := xS.cell 6
      have s7 := xS.cell 7
      have s8 := xS.cell 8
      have s9 := xS.cell 9
      have s10 := xS.cell 10
      have s11 := xS.cell 11
      have s12 := xS.cell 12
      have fs0 := xS.frozen 0
      have fs1 := xS.frozen 1
      have fs2 := xS.frozen 2
      have fs3 := xS.frozen 3
      have fs4 := xS.frozen 4
      have fs5 := xS.frozen 5
      have fs6 := xS.frozen 6
      have fs7 := xS.frozen 7
      have fs8 := xS.frozen 8
      have fs9 := xS.frozen 9
      have fs10 := xS.frozen 10
      have fs11 := xS.frozen 11
      have fs12 := xS.frozen 12
      simp at l0 s0 s1 s2 s3 s4 s5 s6 s7 s8 s9 s10 s11 s12
      have heq4 := eq_four wS
      go_upto_region 14 with fail
      rw [setCell_self s0, setCell_self s1, setCell_self s2, setCell_self s3, setCell_self s4, setCell_self s5, setCell_self s6, setCell_self s7, setCell_self s8, setCell_self s9, setCell_self s10, setCell_self s11, setCell_self s12]
      go_wp2_with fail
      go_ret
      exact ⟨rfl, bS⟩

theorem storeChecks_fr (c : Cfg) (key : ByteArray) (w : World) (hc : Cp.CfgIn c) (hz : key.size ≤ 1048576) :
    Calls Tryz.prog 3 #[cfgV c, .string key] w fun e w' => e = .returned (.bool true) ∧ Below w.heap.size w w' := storeChecks_walk c key w

end Sr
end Go.Proofs.YtoldjbgojjafdaaGreatDoor

/-
  The closed facts of StoreChecks's row, one by one (all of them in one declaration take more memory than the kernel has).
-/
namespace Go.Proofs.YtoldjbgojjafdaaGreatDoor.lawStoreChecks
set_option linter.unusedVariables false
theorem and_mk {a b : Bool} (ha : a = true) (hb : b = true) : (a && b) = true := by rw [ha, hb]; rfl
set_option maxRecDepth 100000 in
set_option maxHeartbeats 40000000 in
theorem closed : joinedFacts Tryz.prog 3 Tryz.f3 (Rows.OpenSpec.upto Rows.storeChecksSpec).bare { Rows.storeChecksUptoRow with leaving := false } = true := by
  unfold joinedFacts
  repeat' (with_reducible apply and_mk)
  all_goals (as_aux_lemma => kernel_rfl)

end Go.Proofs.YtoldjbgojjafdaaGreatDoor.lawStoreChecks
