/-
  The walk of the law FilesNil: what a file system that is nil owes.
-/
import Derived.Test.YtaghifnihjlpjaaGreatProg
import Derived.WalkKit
import Derived.Below
import Derived.Lib.Hide
namespace Go.Proofs.YtaghifnihjlpjaaGreat
open Go.RowKit
set_option linter.unusedSimpArgs false
set_option linter.unusedVariables false

/-- what a file system that is nil owes -/
structure FsNilOk : Prop where
  size : ∀ W (s : ByteArray), s.size ≤ 140737488351232 → Calls Tryz.prog 30 #[.pointer none, .string s] W fun e w' => (∃ x, e = .returned (.tuple #[x, .int .i64 1])) ∧ Below W.heap.size W w'
  read : ∀ W (s : ByteArray) (i n : Int), s.size ≤ 140737488351232 → -9223372036854775808 ≤ i ∧ i ≤ 9223372036854775807 → -9223372036854775808 ≤ n ∧ n ≤ 9223372036854775807 → Calls Tryz.prog 31 #[.pointer none, .string s, .int .i64 i, .int .i64 n] W fun e w' => (∃ x, e = .returned (.tuple #[x, .int .i64 1])) ∧ Below W.heap.size W w'
  create : ∀ W (s : ByteArray), s.size ≤ 140737488351232 → Calls Tryz.prog 32 #[.pointer none, .string s] W fun e w' => e = .returned (.int .i64 1) ∧ Below W.heap.size W w'
  append : ∀ W (s t : ByteArray), s.size ≤ 140737488351232 → t.size ≤ 140737488351232 → Calls Tryz.prog 33 #[.pointer none, .string s, .string t] W fun e w' => e = .returned (.int .i64 1) ∧ Below W.heap.size W w'
  rename : ∀ W (s t : ByteArray), s.size ≤ 140737488351232 → t.size ≤ 140737488351232 → Calls Tryz.prog 34 #[.pointer none, .string s, .string t] W fun e w' => e = .returned (.int .i64 1) ∧ Below W.heap.size W w'
  delete : ∀ W (s : ByteArray), s.size ≤ 140737488351232 → Calls Tryz.prog 35 #[.pointer none, .string s] W fun e w' => e = .returned (.int .i64 1) ∧ Below W.heap.size W w'
  commit : ∀ W, Calls Tryz.prog 22 #[.pointer none] W fun e w' => e = .returned (.int .i64 1) ∧ Below W.heap.size W w'
  revert : ∀ W, Calls Tryz.prog 25 #[.pointer none] W fun e w' => (∃ v, e = .returned v) ∧ Below W.heap.size W w'
  names : ∀ W, Calls Tryz.prog 36 #[.pointer none] W fun e w' => (∃ a cap, e = .returned (.slice a 0 cap)) ∧ Below W.heap.size W w'
  free : ∀ W, Calls Tryz.prog 24 #[.pointer none] W fun e w' => e = .returned (.int .i64 0) ∧ Below W.heap.size W w'
  root : ∀ W, Calls Tryz.prog 28 #[.pointer none] W fun e w' => (∃ a cap, e = .returned (.agg #[.int .u64 0, .slice a 0 cap])) ∧ Below W.heap.size W w'
  opens : ∀ W, Calls Tryz.prog 19 #[.pointer none] W fun e w' => e = .returned (.tuple #[.pointer none, .int .i64 1]) ∧ Below W.heap.size W w'

set_option maxRecDepth 100000 in
set_option maxHeartbeats 4000000 in
theorem filesNil_walk (N : FsNilOk) (s : ByteArray) (i : Int) (w : World) (hs : s.size ≤ 140737488351232) (i1 : -9223372036854775808 ≤ i) (i2 : i ≤ 9223372036854775807) :
    Calls Tryz.prog 6 #[.string s, .int .i64 i] w fun e w' => e = .returned (.bool true) ∧ Below w.heap.size w w' := by
  have b0 := Below.refl w.heap.size w
  have NN := Lib.hid N
  have hi := And.intro i1 i2
  go_enter Tryz.func6, Tryz.ntmps6
  go_wp2_with (first
    | (go_at_call 30; refine (NN.out.size _ _ hs).mono ?_; rintro e w1 ⟨⟨x1, rfl⟩, c1⟩; have b1 := b0.trans (c1.mono b0.size))
    | (go_at_call 31; refine (NN.out.read _ _ _ _ hs hi hi).mono ?_; rintro e w2 ⟨⟨x2, rfl⟩, c2⟩; have b2 := b1.trans (c2.mono b1.size))
    | (go_at_call 32; refine (NN.out.create _ _ hs).mono ?_; rintro e w3 ⟨rfl, c3⟩; have b3 := b2.trans (c3.mono b2.size))
    | (go_at_call 33; refine (NN.out.append _ _ _ hs hs).mono ?_; rintro e w4 ⟨rfl, c4⟩; have b4 := b3.trans (c4.mono b3.size))
    | (go_at_call 34; refine (NN.out.rename _ _ _ hs hs).mono ?_; rintro e w5 ⟨rfl, c5⟩; have b5 := b4.trans (c5.mono b4.size))
    | (go_at_call 35; refine (NN.out.delete _ _ hs).mono ?_; rintro e w6 ⟨rfl, c6⟩; have b6 := b5.trans (c6.mono b5.size))
    | (go_at_call 22; refine (NN.out.commit _).mono ?_; rintro e w7 ⟨rfl, c7⟩; have b7 := b6.trans (c7.mono b6.size))
    | (go_at_call 25; refine (NN.out.revert _).mono ?_; rintro e w8 ⟨⟨x8, rfl⟩, c8⟩; have b8 := b7.trans (c8.mono b7.size))
    | (go_at_call 36; refine (NN.out.names _).mono ?_; rintro e w9 ⟨⟨x9, y9, rfl⟩, c9⟩; have b9 := b8.trans (c9.mono b8.size))
    | (go_at_call 24; refine (NN.out.free _).mono ?_; rintro e w10 ⟨rfl, c10⟩; have b10 := b9.trans (c10.mono b9.size))
    | (go_at_call 28; refine (NN.out.root _).mono ?_; rintro e w11 ⟨⟨x11, y11, rfl⟩, c11⟩; have b11 := b10.trans (c11.mono b10.size); have bz := (Below.refl w11.heap.size w11))
    | (go_at_call 19; refine (NN.out.opens _).mono ?_; rintro e w12 ⟨rfl, c12⟩; have hk0 := c12.cell (p := ⟨w11.heap.size, 0, none⟩) (by simp); have hk1 := c12.cell (p := ⟨w11.heap.size, 1, none⟩) (by simp); simp at hk0 hk1))
  go_ret
  exact ⟨rfl, (b11.alloc b11.size _).trans (c12.mono (by have := b11.size; simp; omega))⟩
end Go.Proofs.YtaghifnihjlpjaaGreat
