/-
  Plain mathematics of chapter 1, second part.
-/
import Derived.Test.YteckjhhbljoklaaDoorCodecPlain
namespace Go.Proofs.YteckjhhbljoklaaDoor
namespace Cd
open Go.RowKit

theorem take_all (s : ByteArray) : s.data.toList.take s.size = s.data.toList := List.take_of_length_le (by simp)

theorem putU_len (n : Nat) : ∀ k, n < 128 ^ k → 1 ≤ k → (putU n).length ≤ k := by
  induction n using Nat.strongRecOn with
  | ind n ih =>
    intro k hk h1
    by_cases h : n < 128
    · rw [putU_last h]; simpa using h1
    · rw [putU_more (by omega), List.length_cons]
      cases k with
      | zero => omega
      | succ k =>
        cases k with
        | zero => simp at hk; omega
        | succ k =>
          have h2 : n / 128 < 128 ^ (k + 1) := by
            rw [pow_s] at hk
            exact Nat.div_lt_of_lt_mul hk
          have := ih (n / 128) (by omega) (k + 1) h2 (by omega)
          omega
theorem putU_len10 (n : Nat) (h : n < 18446744073709551616) : (putU n).length ≤ 10 :=
  putU_len n 10 (by have : (128 : Nat) ^ 10 = 1180591620717411303424 := by decide
                    omega) (by omega)
/-- P1.3: a text with its length ahead -/
def putT (l : List UInt8) : List UInt8 := putU l.length ++ l
/-- P1.5: a text as a key -/
def keyGo : List UInt8 → List UInt8
  | [] => []
  | c :: r => if c.toNat = 0 then c :: 255 :: keyGo r else c :: keyGo r
def keyT (l : List UInt8) : List UInt8 := keyGo l ++ [0, 1]
theorem keyGo_len (l : List UInt8) : (keyGo l).length ≤ 2 * l.length := by
  induction l with
  | nil => simp [keyGo]
  | cons c r ih => unfold keyGo; split <;> simp only [List.length_cons] <;> omega
theorem key_zero {c : UInt8} {r : List UInt8} (h : c.toNat = 0) : keyGo (c :: r) = c :: 255 :: keyGo r := by rw [keyGo, if_pos h]
theorem key_plain {c : UInt8} {r : List UInt8} (h : ¬ c.toNat = 0) : keyGo (c :: r) = c :: keyGo r := by rw [keyGo, if_neg h]

theorem own_app {w : World} {base : Nat} {e : TypeId} {v : Value} {l l' : List UInt8} {n : Nat} {xs : List Value} (hx : xs = cs l') (hn : n = l.length + l'.length) (h : w.ownsRow base e 1 v n (cs l ++ xs)) :
    w.ownsRow base e 1 v (l ++ l').length (cs (l ++ l')) := by
  have : cs (l ++ l') = cs l ++ cs l' := by simp [cs, Lib.byteCells]
  rw [this, List.length_append, ← hx, ← hn]; exact h

/-- the number of a sign's put, as the walk spells it -/
theorem zig_pos {m : Int} (h : 0 ≤ m) (h2 : m ≤ 9223372036854775807) : IntKind.u64.wrap (2 * IntKind.u64.wrap m) = (zig m : Int) := by
  rw [IntKind.wrap_u64, IntKind.wrap_u64]; unfold zig; rw [if_pos h]; omega
theorem zig_neg {m : Int} (h : ¬ 0 ≤ m) (h2 : -9223372036854775808 ≤ m) : IntKind.u64.wrap (IntKind.u64.wrap (2 * IntKind.u64.wrap (-(m + 1))) + 1) = (zig m : Int) := by
  rw [IntKind.wrap_u64, IntKind.wrap_u64, IntKind.wrap_u64]; unfold zig; rw [if_neg h]; omega
end Cd
end Go.Proofs.YteckjhhbljoklaaDoor
