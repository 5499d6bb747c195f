/-
  The walk of the law BlockNil: what a disk that is nil owes.
-/
import Derived.Test.YtdidcopfkjnkdaaBlockTwo
namespace Go.Proofs.Ytdidcopfkjnkdaa
open Go.RowKit
set_option linter.unusedSimpArgs false
set_option linter.unusedVariables false

/-- what a disk that is nil owes -/
structure NilOk : Prop where
  read : ∀ W (i : Int), -9223372036854775808 ≤ i ∧ i ≤ 9223372036854775807 → Calls Try.prog 14 #[.pointer none, .int .i64 i] W fun e w' => (∃ x, e = .returned (.tuple #[x, .int .i64 1])) ∧ Below W.heap.size W w'
  write : ∀ W (i : Int) (s : ByteArray), -9223372036854775808 ≤ i ∧ i ≤ 9223372036854775807 → Calls Try.prog 16 #[.pointer none, .int .i64 i, .string s] W fun e w' => e = .returned (.int .i64 1) ∧ Below W.heap.size W w'
  sync : ∀ W, Calls Try.prog 18 #[.pointer none] W fun e w' => e = .returned (.int .i64 1) ∧ Below W.heap.size W w'
  arm : ∀ W (n : Int), -9223372036854775808 ≤ n ∧ n ≤ 9223372036854775807 → Calls Try.prog 22 #[.pointer none, .int .i64 n] W fun e w' => (∃ v, e = .returned v) ∧ Below W.heap.size W w'
  crash : ∀ W (torn bytes : Int), -9223372036854775808 ≤ torn ∧ torn ≤ 9223372036854775807 → -9223372036854775808 ≤ bytes ∧ bytes ≤ 9223372036854775807 → Calls Try.prog 12 #[.pointer none, .slice none 0 0, .int .i64 torn, .int .i64 bytes] W fun e w' => (∃ v, e = .returned v) ∧ Below W.heap.size W w'
  up : ∀ W, Calls Try.prog 20 #[.pointer none] W fun e w' => e = .returned (.bool false) ∧ Below W.heap.size W w'
  blocks : ∀ W, Calls Try.prog 24 #[.pointer none] W fun e w' => e = .returned (.int .i64 0) ∧ Below W.heap.size W w'
  acts : ∀ W, Calls Try.prog 23 #[.pointer none] W fun e w' => e = .returned (.int .i64 0) ∧ Below W.heap.size W w'
  epoch : ∀ W, Calls Try.prog 25 #[.pointer none] W fun e w' => e = .returned (.int .i64 0) ∧ Below W.heap.size W w'
  pending : ∀ W, Calls Try.prog 21 #[.pointer none] W fun e w' => (∃ a cap, e = .returned (.slice a 0 cap)) ∧ Below W.heap.size W w'

set_option maxRecDepth 100000 in
set_option maxHeartbeats 4000000 in
theorem blockNil_walk (N : NilOk) (i : Int) (s : ByteArray) (w : World) (i1 : -9223372036854775808 ≤ i) (i2 : i ≤ 9223372036854775807) :
    Calls Try.prog 7 #[.int .i64 i, .string s] w fun e w' => e = .returned (.bool true) ∧ Below w.heap.size w w' := by
  have b0 := Below.refl w.heap.size w
  have NN := Lib.hid N
  have hi := And.intro i1 i2
  go_enter Try.func7, Try.ntmps7
  go_wp2_with (first
    | (go_at_call 14; refine (NN.out.read _ _ hi).mono ?_; rintro e w1 ⟨⟨x1, rfl⟩, c1⟩; have b1 := b0.trans (c1.mono b0.size))
    | (go_at_call 16; refine (NN.out.write _ _ _ hi).mono ?_; rintro e w2 ⟨rfl, c2⟩; have b2 := b1.trans (c2.mono b1.size))
    | (go_at_call 18; refine (NN.out.sync _).mono ?_; rintro e w3 ⟨rfl, c3⟩; have b3 := b2.trans (c3.mono b2.size))
    | (go_at_call 22; refine (NN.out.arm _ _ hi).mono ?_; rintro e w4 ⟨⟨x4, rfl⟩, c4⟩; have b4 := b3.trans (c4.mono b3.size))
    | (go_at_call 12; refine (NN.out.crash _ _ _ hi hi).mono ?_; rintro e w5 ⟨⟨x5, rfl⟩, c5⟩; have b5 := b4.trans (c5.mono b4.size))
    | (go_at_call 20; refine (NN.out.up _).mono ?_; rintro e w6 ⟨rfl, c6⟩; have b6 := b5.trans (c6.mono b5.size))
    | (go_at_call 24; refine (NN.out.blocks _).mono ?_; rintro e w7 ⟨rfl, c7⟩; have b7 := b6.trans (c7.mono b6.size))
    | (go_at_call 23; refine (NN.out.acts _).mono ?_; rintro e w8 ⟨rfl, c8⟩; have b8 := b7.trans (c8.mono b7.size))
    | (go_at_call 25; refine (NN.out.epoch _).mono ?_; rintro e w9 ⟨rfl, c9⟩; have b9 := b8.trans (c9.mono b8.size))
    | (go_at_call 21; refine (NN.out.pending _).mono ?_; rintro e w10 ⟨⟨a10, c10, rfl⟩, d10⟩; have b10 := b9.trans (d10.mono b9.size)))
  go_ret
  exact ⟨rfl, b10⟩
end Go.Proofs.Ytdidcopfkjnkdaa
