/-
  MemtableNil: a table that is nil.
-/
import Derived.Test.YtgfpkbdinfdkfaaMemFromLaw
import Derived.Test.YtgfpkbdinfdkfaaMemReadDev
namespace Go.Proofs.Ytgfpkbdinfdkfaa
open Go.RowKit
set_option linter.unusedSimpArgs false
set_option linter.unusedVariables false
namespace Md
open Op (bytesLess)
open Mt (Ver VerIn VerW verV lessB mayB)
open Vs (vcs)

set_option maxRecDepth 100000 in
set_option maxHeartbeats 2000000 in
theorem addN (v : Ver) (n : Int) (w : World) : Calls Try.prog 12 #[.pointer none, .agg #[.string (Cd.bs v.key), .int .u64 v.seq, .bool v.del, .string (Cd.bs v.val)], .int .i64 n] w fun e w' => e = .returned (.int .i64 1) ∧ Below w.heap.size w w' := by
  go_enter Try.func12, Try.ntmps12
  go_wp2_with fail
  go_ret
  exact ⟨rfl, (Below.refl _ _).alloc (Nat.le_refl _) _⟩

set_option maxRecDepth 100000 in
set_option maxHeartbeats 2000000 in
theorem getN (k : ByteArray) (q : Int) (w : World) : Calls Try.prog 14 #[.pointer none, .string k, .int .u64 q] w fun e w' => e = .returned (.tuple #[.agg #[.string ⟨#[]⟩, .int .u64 0, .bool false, .string ⟨#[]⟩], .bool false]) ∧ Below w.heap.size w w' := by
  go_enter Try.func14, Try.ntmps14
  go_wp2_with fail
  exact bodyPost_ret (v := .tuple #[.agg #[.string ⟨#[]⟩, .int .u64 0, .bool false, .string ⟨#[]⟩], .bool false]) (by simp [results, Try.results14, go_sem]) rfl ⟨rfl, (Below.refl _ _).alloc (Nat.le_refl _) _⟩

set_option maxRecDepth 100000 in
set_option maxHeartbeats 2000000 in
theorem lenN (w : World) : Calls Try.prog 15 #[.pointer none] w fun e w' => e = .returned (.int .i64 0) ∧ w = w' := by
  go_enter Try.func15, Try.ntmps15
  go_wp2_with fail
  go_ret
  exact ⟨rfl, rfl⟩

set_option maxRecDepth 100000 in
set_option maxHeartbeats 2000000 in
theorem bytesN (w : World) : Calls Try.prog 16 #[.pointer none] w fun e w' => e = .returned (.int .i64 0) ∧ w = w' := by
  go_enter Try.func16, Try.ntmps16
  go_wp2_with fail
  go_ret
  exact ⟨rfl, rfl⟩

set_option maxRecDepth 100000 in
set_option maxHeartbeats 2000000 in
theorem levelN (n : Int) (w : World) : Calls Try.prog 23 #[.pointer none, .int .i64 n] w fun e w' => e = .returned (.slice none 0 0) ∧ w = w' := by
  go_enter Try.func23, Try.ntmps23
  go_wp2_with fail
  go_ret
  exact ⟨rfl, rfl⟩

set_option maxRecDepth 100000 in
set_option maxHeartbeats 2000000 in
theorem stepsN (k : ByteArray) (w : World) : Calls Try.prog 24 #[.pointer none, .string k] w fun e w' => e = .returned (.int .i64 0) ∧ w = w' := by
  go_enter Try.func24, Try.ntmps24
  go_wp2_with fail
  go_ret
  exact ⟨rfl, rfl⟩
theorem fromN (key : List UInt8) (w : World) (hk : key.length ≤ 140737488351232) :
    Calls Try.prog 10 #[.pointer none, .string (Cd.bs key), .int .i64 0] w fun e w' => (∃ a cap, e = .returned (.slice a 0 cap)) ∧ Below w.heap.size w w' := by
  refine (fromLaw_any (fun _ _ => True) (fun _ _ => trivial) none key 0 [] w hk (by omega) (by simp) (fun _ h => (by cases h)) (fun _ _ _ _ => trivial) (fun W Bt Bk _ hb _ T => ?_)).mono ?_
  · intro J Jx X h1 h2 h3 h4 h5 h6
    refine (from1_nil (fun _ _ => True) 11 (by omega) Bt Bk W hb T J Jx X h1 h2 h3 h4 (fun _ _ _ _ _ _ h => h.elim) h6).mono ?_
    rintro e w' ⟨he, h | ⟨_, _, h, _⟩⟩
    · exact ⟨he, .inl h⟩
    · exact h.elim
  · rintro e w' ⟨u, rfl, hr, hb⟩
    obtain ⟨a, cap, rfl, _⟩ := Sq.row_cases hr
    exact ⟨⟨a, cap, rfl⟩, hb⟩

set_option maxRecDepth 100000 in
set_option maxHeartbeats 4000000 in
theorem memtableNil_walk (k : ByteArray) (q : Int) (d : Bool) (s : ByteArray) (n : Int) (w : World) (a1 : k.size ≤ 140737488351232) (a2 : 0 ≤ q) (a3 : q ≤ 18446744073709551615) (a4 : s.size ≤ 140737488351232) (n1 : -9223372036854775808 ≤ n) (n2 : n ≤ 9223372036854775807) :
    Calls Try.prog 7 #[.agg #[.string k, .int .u64 q, .bool d, .string s], .int .i64 n] w fun e w' => e = .returned (.bool true) ∧ Below w.heap.size w w' := by
  obtain ⟨k, rfl⟩ : ∃ l, k = Cd.bs l := ⟨k.data.toList, (Lib.mk_data k).symm⟩
  obtain ⟨s, rfl⟩ : ∃ l, s = Cd.bs l := ⟨s.data.toList, (Lib.mk_data s).symm⟩
  have HA := Lib.hid (fun W => addN ⟨k, q, d, s⟩ n W)
  have HF := Lib.hid (fun W => fromN k W a1)
  have hB0 : Below w.heap.size w (w.alloc (.cells #[.string (Cd.bs k), .int .u64 q, .bool d, .string (Cd.bs s)] 33)) := (Below.refl _ _).alloc (Nat.le_refl _) _
  have o0 := Ob.Obj.new w 33 [.string (Cd.bs k), .int .u64 q, .bool d, .string (Cd.bs s)]
  simp only at HA
  go_enter Try.func7, Try.ntmps7
  go_wp2_with (first
    | (go_at_call 12; (with_reducible refine (HA.out _).mono ?_); rintro e w1 ⟨rfl, c1⟩; have hB1 := hB0.trans (c1.mono hB0.size); have o1 := o0.below c1; have x0 := o1.cell 0; have x1 := o1.cell 1; simp at x0 x1)
    | (go_at_call 14; (with_reducible refine (getN _ _ _).mono ?_); rintro e w2 ⟨rfl, c2⟩; have hB2 := hB1.trans (c2.mono hB1.size); have o2 := o1.below c2; have y0 := o2.cell 0; have hz2 := o2.lt; simp at y0)
    | (go_at_call 10; (with_reducible refine (HF.out _).mono ?_); rintro e w3 ⟨⟨a3, c3, rfl⟩, d3⟩; have hB3 := (hB2.alloc hB2.size _).trans (d3.mono (hB2.alloc hB2.size _).size); have o3 := Ob.Obj.below (o2.alloc _) d3; have z0 := o3.cell 0; have p3 := Ob.Obj.below (Ob.Obj.new w2 33 [.string ⟨#[]⟩, .int .u64 0, .bool false, .string ⟨#[]⟩]) d3; have q0 := p3.cell 0; have q1 := p3.cell 1; have q2 := p3.cell 2; have q3 := p3.cell 3; simp at z0 q0 q1 q2 q3)
    | (go_at_call 15; (with_reducible refine (lenN _).mono ?_); rintro e w4 ⟨rfl, rfl⟩)
    | (go_at_call 16; (with_reducible refine (bytesN _).mono ?_); rintro e w5 ⟨rfl, rfl⟩)
    | (go_at_call 23; (with_reducible refine (levelN _ _).mono ?_); rintro e w6 ⟨rfl, rfl⟩)
    | (go_at_call 24; (with_reducible refine (stepsN _ _).mono ?_); rintro e w7 ⟨rfl, rfl⟩))
  go_ret
  exact ⟨rfl, hB3⟩
end Md
end Go.Proofs.Ytgfpkbdinfdkfaa
