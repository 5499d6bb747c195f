import Derived.Test.YtoldjbgojjafdaaGreatDoorProg
import Derived.WalkKit
import Derived.WalkLawsBesides
import Derived.OwnWalk
import Derived.Lib.Hide
import Derived.BigQuiet
import Derived.Laws.Bits64
import Derived.Laws.BitsAllLaws
import Derived.Lib.BufferRead
import Derived.Lib.Strings
import Derived.Maps.AppendAt
import Derived.WalkSpells
import Derived.Outline
import Derived.Deep.LoopGhost
import Derived.Lib.Walk
import Derived.Lib.BufferWrite
import Derived.Lib.UnsafeStr
import Derived.Laws.MakeOwn
import Derived.Deep.QuietTactic
import Derived.WalkSmall
import Derived.BigRegion
import Derived.RangeFuncNested
import Derived.RangeFuncLeaves
import Derived.RangeFuncBox
import Derived.Below
import Derived.Deep.Draws
import Derived.Test.YtoldjbgojjafdaaGreatDoorRows
/-
  Configurations of a store (api.StoreConfig): what they are as values; which the program (chapter 11) and the document let be.
-/
namespace Go.Proofs.YtoldjbgojjafdaaGreatDoor
open Go.RowKit
set_option linter.unusedVariables false
set_option linter.unusedSimpArgs false
namespace Cp
structure Cfg where
  mem : Int
  block : Int
  bits : Int
  table : Int
  files : Int
  base : Int
  edits : Int
  seed : Int
def wt (n lo hi : Int) : Bool := decide (lo ≤ n) && decide (n ≤ hi)
def mayC (c : Cfg) : Bool := wt c.mem 64 65536 && wt c.block 64 4096 && wt c.bits 0 20 && wt c.table 256 65536 && wt c.files 1 8 && wt c.base 256 1048576 && wt c.edits 1 1000
def cfgV (c : Cfg) : Value := .agg #[.int .i64 c.mem, .int .i64 c.block, .int .i64 c.bits, .int .i64 c.table, .int .i64 c.files, .int .i64 c.base, .int .i64 c.edits, .int .u64 c.seed]

set_option maxRecDepth 100000 in
theorem within_any (n lo hi : Int) (w : World) :
    Calls Tryz.prog 226 #[.int .i64 n, .int .i64 lo, .int .i64 hi] w fun e w' => e = .returned (.bool (wt n lo hi)) ∧ w = w' := by
  unfold wt
  go_enter Tryz.func226, Tryz.ntmps226
  go_wp2_with fail
  all_goals go_ret
  all_goals refine ⟨congrArg (fun b => Ending.returned (.bool b)) ?_, rfl⟩
  all_goals (first | (simp_all; done) | (simp_all; omega))

set_option maxRecDepth 100000 in
theorem goesDown_any (n : Int) (w : World) :
    Calls Tryz.prog 152 #[.int .i64 n] w fun e w' => e = .returned (.bool (wt n 0 2)) ∧ w = w' := by
  unfold wt
  go_enter Tryz.func152, Tryz.ntmps152
  go_wp2_with fail
  all_goals go_ret
  all_goals refine ⟨congrArg (fun b => Ending.returned (.bool b)) ?_, rfl⟩
  all_goals simp_all
  all_goals omega

set_option maxRecDepth 100000 in
set_option maxHeartbeats 4000000 in
theorem mayBe_any (c : Cfg) (w : World) :
    Calls Tryz.prog 151 #[cfgV c] w fun e w' => e = .returned (.bool (mayC c)) ∧ Below w.heap.size w w' := by
  obtain ⟨x0, x1, x2, x3, x4, x5, x6, x7⟩ := c
  unfold cfgV mayC
  simp only
  have H0 := Lib.hid (fun W => within_any x0 64 65536 W)
  have H1 := Lib.hid (fun W => within_any x1 64 4096 W)
  have H2 := Lib.hid (fun W => within_any x2 0 20 W)
  have H3 := Lib.hid (fun W => within_any x3 256 65536 W)
  have H4 := Lib.hid (fun W => within_any x4 1 8 W)
  have H5 := Lib.hid (fun W => within_any x5 256 1048576 W)
  have H6 := Lib.hid (fun W => within_any x6 1 1000 W)
  generalize wt x0 64 65536 = b0 at *
  generalize wt x1 64 4096 = b1 at *
  generalize wt x2 0 20 = b2 at *
  generalize wt x3 256 65536 = b3 at *
  generalize wt x4 1 8 = b4 at *
  generalize wt x5 256 1048576 = b5 at *
  generalize wt x6 1 1000 = b6 at *
  go_enter Tryz.func151, Tryz.ntmps151
  go_wp2_with (go_at_call 226; (first | (with_reducible refine (H0.out _).mono ?_) | (with_reducible refine (H1.out _).mono ?_) | (with_reducible refine (H2.out _).mono ?_) | (with_reducible refine (H3.out _).mono ?_) | (with_reducible refine (H4.out _).mono ?_) | (with_reducible refine (H5.out _).mono ?_) | (with_reducible refine (H6.out _).mono ?_)); rintro e w2 ⟨rfl, rfl⟩)
  all_goals go_ret
  all_goals refine ⟨congrArg (fun b => Ending.returned (.bool b)) ?_, (Below.refl _ _).alloc (Nat.le_refl _) _⟩
  all_goals (simp_all; done)
end Cp
end Go.Proofs.YtoldjbgojjafdaaGreatDoor

/-
  The document's answer of chapter 11: Right.
-/
namespace Go.Proofs.YtoldjbgojjafdaaGreatDoor
open Go.RowKit
set_option linter.unusedSimpArgs false
set_option linter.unusedVariables false
namespace Cp
set_option maxRecDepth 100000 in
set_option maxHeartbeats 4000000 in
theorem rightR_any (c : Cfg) (w : World) :
    Calls Tryz.prog 5 #[cfgV c] w fun e w' => e = .returned (.bool (mayC c)) ∧ Below w.heap.size w w' := by
  obtain ⟨x0, x1, x2, x3, x4, x5, x6, x7⟩ := c
  unfold cfgV mayC wt
  simp only
  go_enter Tryz.func5, Tryz.ntmps5
  go_wp2_with fail
  all_goals go_ret
  all_goals refine ⟨congrArg (fun b => Ending.returned (.bool b)) ?_, (Below.refl _ _).alloc (Nat.le_refl _) _⟩
  all_goals (first | (simp_all; done) | (symm; simp only [Bool.and_eq_false_iff, decide_eq_false_iff_not]; omega) | (simp_all; omega))

end Cp
end Go.Proofs.YtoldjbgojjafdaaGreatDoor

/-
  Plain mathematics of chapter 1 (codec): the functions on lists of bytes and numbers that the walks come to. No program is named here.
-/
namespace Go.Proofs.YtoldjbgojjafdaaGreatDoor
namespace Cd
open Go.RowKit

/-- A list of bytes as a Go string's bytes. -/
abbrev bs (l : List UInt8) : ByteArray := ⟨l.toArray⟩

/-- P1.1: a number, seven bits a byte. -/
def putU (n : Nat) : List UInt8 := if n < 128 then [UInt8.ofNat n] else UInt8.ofNat (n % 128 + 128) :: putU (n / 128)
termination_by n
decreasing_by omega

/-- P1.1: reading: what is left, the place, what has been read: (number, bytes, what is wrong). -/
def takeGo : List UInt8 → Nat → Nat → Nat × Nat × Nat
  | [], _, _ => (0, 0, 2)
  | c :: r, i, acc =>
    if (i = 9 ∧ 1 < c.toNat) ∨ (0 < i ∧ c.toNat = 0) then (0, 0, 3)
    else if c.toNat < 128 then (acc + c.toNat % 128 * 128 ^ i, i + 1, 0)
    else takeGo r (i + 1) (acc + c.toNat % 128 * 128 ^ i)
def takeU (l : List UInt8) : Nat × Nat × Nat := takeGo l 0 0

theorem drop_cons (l : List UInt8) (k : Nat) (h : k < l.length) : l.drop k = l[k] :: l.drop (k + 1) := List.drop_eq_getElem_cons h
theorem drop_cons_b (s : ByteArray) (k : Nat) (h : k < s.size) : s.data.toList.drop k = s[k] :: s.data.toList.drop (k + 1) := by
  rw [List.drop_eq_getElem_cons (by simpa using h)]; rfl

theorem drop_all {s : ByteArray} {k : Nat} (h : s.size ≤ k) : s.data.toList.drop k = [] := List.drop_eq_nil_of_le (by simpa using h)

theorem pow_le (k : Nat) (h : k ≤ 9) : 128 ^ k ≤ 9223372036854775808 := by
  have : 128 ^ k ≤ 128 ^ 9 := Nat.pow_le_pow_right (by omega) h
  simpa using this
theorem pow_pos' (k : Nat) : 0 < 128 ^ k := Nat.pow_pos (by omega)
theorem pow_s (k : Nat) : 128 ^ (k + 1) = 128 * 128 ^ k := by rw [Nat.pow_succ]; omega

/-- a step's number stays below 2^64: at the tenth byte only 0 and 1 come so far -/
theorem step_lt (k acc c : Nat) (hk : k ≤ 9) (ha : acc < 128 ^ k) (hc : k = 9 → c ≤ 1) : acc + c % 128 * 128 ^ k < 18446744073709551616 := by
  have hp := pow_le k hk
  by_cases h9 : k = 9
  · have := hc h9
    have hcc : c % 128 ≤ 1 := by omega
    have : c % 128 * 128 ^ k ≤ 1 * 128 ^ k := Nat.mul_le_mul_right _ hcc
    omega
  · have hp2 : 128 ^ k ≤ 128 ^ 8 := Nat.pow_le_pow_right (by omega) (by omega)
    have hp3 : (128 : Nat) ^ 8 = 72057594037927936 := by decide
    have : c % 128 * 128 ^ k ≤ 127 * 128 ^ k := Nat.mul_le_mul_right _ (by omega)
    omega
theorem step_pow (k acc c : Nat) (ha : acc < 128 ^ k) : acc + c % 128 * 128 ^ k < 128 ^ (k + 1) := by
  have : c % 128 * 128 ^ k ≤ 127 * 128 ^ k := Nat.mul_le_mul_right _ (by omega)
  rw [pow_s]; omega

theorem go_bad {c : UInt8} {r : List UInt8} {i acc : Nat} (h : (i = 9 ∧ 1 < c.toNat) ∨ (0 < i ∧ c.toNat = 0)) : takeGo (c :: r) i acc = (0, 0, 3) := by
  rw [takeGo, if_pos h]
theorem go_last {c : UInt8} {r : List UInt8} {i acc : Nat} (h : ¬((i = 9 ∧ 1 < c.toNat) ∨ (0 < i ∧ c.toNat = 0))) (hc : c.toNat < 128) : takeGo (c :: r) i acc = (acc + c.toNat % 128 * 128 ^ i, i + 1, 0) := by
  rw [takeGo, if_neg h, if_pos hc]
theorem go_more {c : UInt8} {r : List UInt8} {i acc : Nat} (h : ¬((i = 9 ∧ 1 < c.toNat) ∨ (0 < i ∧ c.toNat = 0))) (hc : 128 ≤ c.toNat) : takeGo (c :: r) i acc = takeGo r (i + 1) (acc + c.toNat % 128 * 128 ^ i) := by
  rw [takeGo, if_neg h, if_neg (by omega)]

theorem wrapU_byte (c : UInt8) : IntKind.u64.wrap (c.toNat : Int) = (c.toNat : Int) := by
  have := c.toNat_lt
  rw [IntKind.wrap_u64]; omega
theorem wrapU_nat {n : Nat} (h : n < 18446744073709551616) : IntKind.u64.wrap (n : Int) = n := by
  rw [IntKind.wrap_u64]; omega
/-- the number behind a step, as the walk spells it -/
theorem wrap_step {k acc c P : Nat} (hk : k ≤ 9) (ha : acc < 128 ^ k) (hP : P = 128 ^ k) (hc : k = 9 → c ≤ 1) :
    IntKind.u64.wrap ((acc : Int) + IntKind.u64.wrap ((c : Int) % 128 * (P : Int))) = ((acc + c % 128 * 128 ^ k : Nat) : Int) := by
  have h1 := step_lt k acc c hk ha hc
  have e : ((c : Int) % 128 * (P : Int)) = ((c % 128 * 128 ^ k : Nat) : Int) := by subst hP; simp
  rw [e, wrapU_nat (by omega)]
  have e2 : (acc : Int) + ((c % 128 * 128 ^ k : Nat) : Int) = ((acc + c % 128 * 128 ^ k : Nat) : Int) := by simp
  rw [e2, wrapU_nat h1]
theorem wrap_pow {k P : Nat} (hk : k < 9) (hP : P = 128 ^ k) : IntKind.u64.wrap ((P : Int) * 128) = ((128 ^ (k + 1) : Nat) : Int) := by
  have h := pow_le (k + 1) (by omega)
  have e : ((P : Int) * 128) = ((128 ^ (k + 1) : Nat) : Int) := by subst hP; rw [pow_s]; simp [Int.mul_comm]
  rw [e, wrapU_nat (by omega)]

theorem andNot128 (c : UInt8) : bits BinOp.andNot IntKind.u8 (c.toNat : Int) 128 = ((c.toNat % 128 : Nat) : Int) := by
  have h := u8_andNot_nat c.toNat 128 c.toNat_lt (by omega)
  have e : c.toNat &&& (255 - 128) = c.toNat % 128 := by
    have := Nat.and_two_pow_sub_one_eq_mod c.toNat 7
    simpa using this
  rw [e] at h
  exact_mod_cast h
theorem pow_two (k : Nat) : 2 ^ (7 * k) = 128 ^ k := by rw [Nat.pow_mul]
/-- the number behind a step of the code's own loop, as the walk spells it -/
theorem or_step {k acc : Nat} {c : UInt8} (hk : k ≤ 9) (ha : acc < 128 ^ k) (hc : k = 9 → c.toNat ≤ 1) :
    bits BinOp.or IntKind.u64 (acc : Int) (IntKind.u64.wrap (IntKind.u64.wrap (bits BinOp.andNot IntKind.u8 (c.toNat : Int) 128) * 2 ^ (7 * k))) = ((acc + c.toNat % 128 * 128 ^ k : Nat) : Int) := by
  have h1 := step_lt k acc c.toNat hk ha hc
  have hcb := c.toNat_lt
  rw [andNot128, wrapU_nat (by omega)]
  have e : ((c.toNat % 128 : Nat) : Int) * 2 ^ (7 * k) = ((c.toNat % 128 * 128 ^ k : Nat) : Int) := by
    rw [← pow_two]; simp
  rw [e, wrapU_nat (by omega), u64_or_nat _ _ (by omega) (by omega)]
  have e2 : acc ||| c.toNat % 128 * 128 ^ k = acc + c.toNat % 128 * 128 ^ k := by
    rw [← pow_two] at ha ⊢
    have := Nat.shiftLeft_add_eq_or_of_lt ha (c.toNat % 128)
    rw [Nat.shiftLeft_eq] at this
    rw [Nat.or_comm, ← this, Nat.add_comm]
  rw [e2]

/-- what a step of takeGo answers, whatever is read: the number fits; with an error it is nothing; no more is read than is there -/
theorem takeGo_ok (l : List UInt8) : ∀ (i acc : Nat), i ≤ 9 → acc < 128 ^ i →
    (takeGo l i acc).1 < 18446744073709551616 ∧ ((takeGo l i acc).2.2 ≠ 0 → (takeGo l i acc).1 = 0 ∧ (takeGo l i acc).2.1 = 0) ∧ (takeGo l i acc).2.1 ≤ i + l.length ∧ (takeGo l i acc).2.2 ≤ 3 := by
  induction l with
  | nil => intro i acc _ _; simp [takeGo]
  | cons c r ih =>
    intro i acc hi ha
    by_cases hbad : (i = 9 ∧ 1 < c.toNat) ∨ (0 < i ∧ c.toNat = 0)
    · rw [go_bad hbad]; simp
    · by_cases hc : c.toNat < 128
      · rw [go_last hbad hc]
        have := step_lt i acc c.toNat hi ha (by omega)
        refine ⟨this, fun h => absurd rfl h, by simp only [List.length_cons]; omega, by simp⟩
      · rw [go_more hbad (by omega)]
        have := ih (i + 1) (acc + c.toNat % 128 * 128 ^ i) (by omega) (step_pow i acc c.toNat ha)
        refine ⟨this.1, this.2.1, by have := this.2.2.1; simp only [List.length_cons]; omega, this.2.2.2⟩
theorem takeU_ok (l : List UInt8) : (takeU l).1 < 18446744073709551616 ∧ ((takeU l).2.2 ≠ 0 → (takeU l).1 = 0 ∧ (takeU l).2.1 = 0) ∧ (takeU l).2.1 ≤ l.length ∧ (takeU l).2.2 ≤ 3 := by
  have := takeGo_ok l 0 0 (by omega) (by simp)
  simpa [takeU] using this

/-- P1.2: twice the number, or twice what is left of it below 0, and 1 -/
def unzig (n : Nat) : Int := if n % 2 = 1 then -((n / 2 : Nat) : Int) - 1 else ((n / 2 : Nat) : Int)
def zig (n : Int) : Nat := if 0 ≤ n then (2 * n).toNat else (2 * (-(n + 1)) + 1).toNat
theorem unzig_zig (n : Int) : unzig (zig n) = n := by
  unfold unzig zig
  by_cases h : 0 ≤ n
  · rw [if_pos h]; rw [if_neg (by omega)]; omega
  · rw [if_neg h]; rw [if_pos (by omega)]; omega
theorem zig_lt (n : Int) (h1 : -9223372036854775808 ≤ n) (h2 : n ≤ 9223372036854775807) : zig n < 18446744073709551616 := by
  unfold zig; split <;> omega

theorem wrapU_half {n : Nat} (h : n < 18446744073709551616) : wrap64 (IntKind.u64.wrap ((n : Int) / 2)) = ((n / 2 : Nat) : Int) := by
  rw [show ((n : Int) / 2) = ((n / 2 : Nat) : Int) from by omega, wrapU_nat (by omega)]
  exact IntWalk.wrap64_in _ ⟨by omega, by omega⟩
theorem unzig_odd {n : Nat} (h : n < 18446744073709551616) (ho : n % 2 = 1) : wrap64 (wrap64 (-wrap64 (IntKind.u64.wrap ((n : Int) / 2))) - 1) = unzig n := by
  rw [wrapU_half h, IntWalk.wrap64_in (-((n / 2 : Nat) : Int)) ⟨by omega, by omega⟩, IntWalk.wrap64_in _ ⟨by omega, by omega⟩, unzig, if_pos ho]
theorem unzig_even {n : Nat} (h : n < 18446744073709551616) (ho : ¬ n % 2 = 1) : wrap64 (IntKind.u64.wrap ((n : Int) / 2)) = unzig n := by
  rw [wrapU_half h, unzig, if_neg ho]

/-- P1.5: reading a KeyText: (text, bytes, what is wrong). -/
def takeKGo : List UInt8 → List UInt8 → Nat → List UInt8 × Nat × Nat
  | [], _, _ => ([], 0, 2)
  | c :: r, acc, k =>
    if c.toNat ≠ 0 then takeKGo r (acc ++ [c]) (k + 1)
    else match r with
      | [] => ([], 0, 2)
      | d :: r' => if d.toNat = 1 then (acc, k + 2, 0) else if d.toNat = 255 then takeKGo r' (acc ++ [0]) (k + 2) else ([], 0, 3)
def takeK (l : List UInt8) : List UInt8 × Nat × Nat := takeKGo l [] 0
theorem tk_plain {c : UInt8} {r acc : List UInt8} {k : Nat} (h : c.toNat ≠ 0) : takeKGo (c :: r) acc k = takeKGo r (acc ++ [c]) (k + 1) := by rw [takeKGo.eq_def]; simp [h]
theorem tk_last {c : UInt8} {acc : List UInt8} {k : Nat} (h : c.toNat = 0) : takeKGo [c] acc k = ([], 0, 2) := by rw [takeKGo.eq_def]; simp [h]
theorem tk_end {c d : UInt8} {r acc : List UInt8} {k : Nat} (h : c.toNat = 0) (hd : d.toNat = 1) : takeKGo (c :: d :: r) acc k = (acc, k + 2, 0) := by rw [takeKGo.eq_def]; simp [h, hd]
theorem tk_zero {c d : UInt8} {r acc : List UInt8} {k : Nat} (h : c.toNat = 0) (hd : d.toNat = 255) : takeKGo (c :: d :: r) acc k = takeKGo r (acc ++ [0]) (k + 2) := by rw [takeKGo.eq_def]; simp [h, hd]
theorem tk_bad {c d : UInt8} {r acc : List UInt8} {k : Nat} (h : c.toNat = 0) (hd1 : d.toNat ≠ 1) (hd : d.toNat ≠ 255) : takeKGo (c :: d :: r) acc k = ([], 0, 3) := by rw [takeKGo.eq_def]; simp [h, hd, hd1]

/-- P1.3: reading a text of at most so many bytes. -/
def takeT (l : List UInt8) (most : Int) : List UInt8 × Nat × Nat :=
  if (takeU l).2.2 ≠ 0 then ([], 0, (takeU l).2.2)
  else if most.toNat < (takeU l).1 then ([], 0, 3)
  else if l.length - (takeU l).2.1 < (takeU l).1 then ([], 0, 2)
  else ((l.drop (takeU l).2.1).take (takeU l).1, (takeU l).2.1 + (takeU l).1, 0)

theorem takeT_err {l : List UInt8} {most : Int} {n k e : Nat} (h : takeU l = (n, k, e)) (he : e ≠ 0) : takeT l most = ([], 0, e) := by unfold takeT; rw [h]; simp [he]
theorem takeT_most {l : List UInt8} {most : Int} {n k : Nat} (h : takeU l = (n, k, 0)) (h1 : most.toNat < n) : takeT l most = ([], 0, 3) := by unfold takeT; rw [h]; simp [h1]
theorem takeT_more {l : List UInt8} {most : Int} {n k : Nat} (h : takeU l = (n, k, 0)) (h1 : n ≤ most.toNat) (h2 : l.length - k < n) : takeT l most = ([], 0, 2) := by
  unfold takeT; rw [h]; simp only [ne_eq, not_true_eq_false, if_false]; rw [if_neg (by omega), if_pos h2]
theorem takeT_text {l : List UInt8} {most : Int} {n k : Nat} (h : takeU l = (n, k, 0)) (h1 : n ≤ most.toNat) (h2 : n ≤ l.length - k) : takeT l most = ((l.drop k).take n, k + n, 0) := by
  unfold takeT; rw [h]; simp only [ne_eq, not_true_eq_false, if_false]; rw [if_neg (by omega), if_neg (by omega)]

/-- P1.4: eight bytes as a word. -/
def wordGo (l : List UInt8) : Nat := l.foldl (fun n c => 256 * n + c.toNat) 0
theorem wordGo_snoc (l : List UInt8) (c : UInt8) : wordGo (l ++ [c]) = 256 * wordGo l + c.toNat := by simp [wordGo]
theorem foldl_lt (l : List UInt8) : ∀ a : Nat, l.foldl (fun n c => 256 * n + c.toNat) a < (a + 1) * 256 ^ l.length := by
  induction l with
  | nil => intro a; simp
  | cons c l ih =>
    intro a
    have h := ih (256 * a + c.toNat)
    have hc := c.toNat_lt
    have h2 : (256 * a + c.toNat + 1) * 256 ^ l.length ≤ (256 * (a + 1)) * 256 ^ l.length := Nat.mul_le_mul_right _ (by omega)
    rw [List.foldl_cons, List.length_cons, Nat.pow_succ]
    have h3 : (256 * (a + 1)) * 256 ^ l.length = (a + 1) * (256 ^ l.length * 256) := by
      rw [Nat.mul_comm 256 (a + 1), Nat.mul_assoc, Nat.mul_comm 256]
    omega
theorem wordGo_lt (l : List UInt8) : wordGo l < 256 ^ l.length := by
  have := foldl_lt l 0
  simpa [wordGo] using this
theorem take_s (s : ByteArray) (k : Nat) (h : k < s.size) : s.data.toList.take (k + 1) = s.data.toList.take k ++ [s[k]] := by
  rw [List.take_succ_eq_append_getElem (by simpa using h)]; rfl
theorem word_s (s : ByteArray) (k : Nat) (h : k < s.size) : wordGo (s.data.toList.take (k + 1)) = 256 * wordGo (s.data.toList.take k) + s[k].toNat := by
  rw [take_s s k h, wordGo_snoc]
theorem word_lt (l : List UInt8) (k : Nat) (h : k ≤ 7) : wordGo (l.take k) < 72057594037927936 := by
  have h1 := wordGo_lt (l.take k)
  have h2 : 256 ^ (l.take k).length ≤ 256 ^ 7 := Nat.pow_le_pow_right (by omega) (by have := List.length_take_le k l; omega)
  have h3 : (256 : Nat) ^ 7 = 72057594037927936 := by decide
  omega
/-- the word as a number with a sign, its highest bit turned -/
def keyOf (n : Nat) : Int := wrap64 (bits BinOp.xor IntKind.u64 (n : Int) 9223372036854775808)

def takeKI (l : List UInt8) : Int × Nat × Nat := if l.length < 8 then (0, 0, 2) else (keyOf (wordGo (l.take 8)), 8, 0)
theorem takeKI_few {l : List UInt8} (h : l.length < 8) : takeKI l = (0, 0, 2) := by unfold takeKI; rw [if_pos h]
theorem takeKI_eight {l : List UInt8} (h : 8 ≤ l.length) : takeKI l = (keyOf (wordGo (l.take 8)), 8, 0) := by unfold takeKI; rw [if_neg (by omega)]
theorem word_wrap {n : Nat} {c : UInt8} (h : n < 72057594037927936) : IntKind.u64.wrap (IntKind.u64.wrap (256 * (n : Int)) + IntKind.u64.wrap (c.toNat : Int)) = ((256 * n + c.toNat : Nat) : Int) := by
  have := c.toNat_lt
  rw [wrapU_byte, show (256 * (n : Int)) = ((256 * n : Nat) : Int) from by omega, wrapU_nat (by omega), ← Int.natCast_add, wrapU_nat (by omega)]
theorem word_or {n : Nat} {c : UInt8} (h : n < 72057594037927936) : bits BinOp.or IntKind.u64 (IntKind.u64.wrap ((n : Int) * 256)) (IntKind.u64.wrap (c.toNat : Int)) = ((256 * n + c.toNat : Nat) : Int) := by
  have hc := c.toNat_lt
  rw [wrapU_byte, show ((n : Int) * 256) = ((256 * n : Nat) : Int) from by omega, wrapU_nat (by omega), u64_or_nat _ _ (by omega) (by omega)]
  have := Nat.shiftLeft_add_eq_or_of_lt (i := 8) hc n
  rw [Nat.shiftLeft_eq] at this
  rw [Nat.mul_comm 256 n, ← this]

/-- P1.6: how many bytes both begin with alike -/
def common : List UInt8 → List UInt8 → Nat
  | c :: r, d :: t => if c.toNat = d.toNat then common r t + 1 else 0
  | _, _ => 0
theorem common_eq {c d : UInt8} {r t : List UInt8} (h : c.toNat = d.toNat) : common (c :: r) (d :: t) = common r t + 1 := by rw [common, if_pos h]
theorem common_ne {c d : UInt8} {r t : List UInt8} (h : ¬ c.toNat = d.toNat) : common (c :: r) (d :: t) = 0 := by rw [common, if_neg h]
theorem common_nil_l (t : List UInt8) : common [] t = 0 := by rw [common]; simp
theorem common_nil_r (r : List UInt8) : common r [] = 0 := by cases r <;> simp [common]

/-- P1.6: the text behind all that begin with this one: of the first n bytes. -/
def behindGo (l : List UInt8) : Nat → List UInt8
  | 0 => []
  | n + 1 => if (l.getD n 0).toNat = 255 then behindGo l n else l.take n ++ [l.getD n 0 + 1]
def behind (l : List UInt8) : List UInt8 := behindGo l l.length
theorem getD_b (s : ByteArray) (k : Nat) (h : k < s.size) : s.data.toList.getD k 0 = s[k] := by
  have h' : k < s.data.toList.length := by simpa using h
  rw [List.getD_eq_getElem?_getD, List.getElem?_eq_getElem h']; rfl
theorem behind_ff {s : ByteArray} {k : Nat} (h : k < s.size) (hf : s[k].toNat = 255) : behindGo s.data.toList (k + 1) = behindGo s.data.toList k := by rw [behindGo, getD_b s k h, if_pos hf]
theorem behind_up {s : ByteArray} {k : Nat} (h : k < s.size) (hf : ¬ s[k].toNat = 255) : behindGo s.data.toList (k + 1) = s.data.toList.take k ++ [s[k] + 1] := by rw [behindGo, getD_b s k h, if_neg hf]

/-- is there a byte that is not the greatest one? -/
def hasLow : List UInt8 → Bool
  | [] => false
  | c :: r => if c.toNat = 255 then hasLow r else true
theorem low_ff {c : UInt8} {r : List UInt8} (h : c.toNat = 255) : hasLow (c :: r) = hasLow r := by rw [hasLow, if_pos h]
theorem low_yes {c : UInt8} {r : List UInt8} (h : ¬ c.toNat = 255) : hasLow (c :: r) = true := by rw [hasLow, if_neg h]

theorem putU_last {m : Nat} (h : m < 128) : putU m = [UInt8.ofNat m] := by rw [putU, if_pos h]
theorem putU_more {m : Nat} (h : 128 ≤ m) : putU m = UInt8.ofNat (m % 128 + 128) :: putU (m / 128) := by rw [putU, if_neg (by omega)]
theorem put_room {m k N : Nat} (h : m * 128 ^ k ≤ N) (hN : N < 18446744073709551616) (hm : 1 ≤ m) : k ≤ 9 := by
  rcases Nat.lt_or_ge 9 k with h9 | h9
  · have h1 : 128 ^ 10 ≤ 128 ^ k := Nat.pow_le_pow_right (by omega) h9
    have h2 : 1 * 128 ^ k ≤ m * 128 ^ k := Nat.mul_le_mul_right _ hm
    have h3 : (128 : Nat) ^ 10 = 1180591620717411303424 := by decide
    omega
  · exact h9
theorem put_step {m k N : Nat} (h : m * 128 ^ k ≤ N) : m / 128 * 128 ^ (k + 1) ≤ N := by
  have h1 : m / 128 * 128 ≤ m := Nat.div_mul_le_self m 128
  have h2 : m / 128 * 128 * 128 ^ k ≤ m * 128 ^ k := Nat.mul_le_mul_right _ h1
  rw [pow_s, ← Nat.mul_assoc]; omega

/-- P1.4: the eight bytes of a word, the highest one first -/
def bigByte (n j : Nat) : UInt8 := UInt8.ofNat (n / 256 ^ (7 - j) % 256)
def big (n : Nat) : List UInt8 := (List.range 8).map (bigByte n)
/-- .. of which the last ones stand already, and the first k ones are 0 -/
def bigPart (n k : Nat) : List UInt8 := (List.range 8).map fun j => if j < k then 0 else bigByte n j
theorem bigPart_zero (n : Nat) : bigPart n 8 = [0, 0, 0, 0, 0, 0, 0, 0] := by simp [bigPart, List.range, List.range.loop]
theorem bigPart_done (n : Nat) : bigPart n 0 = big n := by simp [bigPart, big]
theorem bigPart_len (n k : Nat) : (bigPart n k).length = 8 := by simp [bigPart]
theorem bigPart_get (n k j : Nat) (h : j < 8) : (bigPart n k).getD j 0 = if j < k then 0 else bigByte n j := by
  rw [List.getD_eq_getElem?_getD, List.getElem?_eq_getElem (by rw [bigPart_len]; exact h)]
  simp [bigPart]
theorem bigByte_val (n k m : Nat) (hk : k < 8) (hm : m = n / 256 ^ (8 - (k + 1))) : Value.int .u8 ((m : Int) % 256) = .int .u8 ((bigByte n k).toNat : Int) := by
  congr 1; unfold bigByte; rw [UInt8.toNat_ofNat', show 7 - k = 8 - (k + 1) from by omega, ← hm]; omega
theorem big_down (n k m : Nat) (hk : k < 8) (hm : m = n / 256 ^ (8 - (k + 1))) : m / 256 = n / 256 ^ (8 - k) := by
  rw [hm, Nat.div_div_eq_div_mul, ← Nat.pow_succ, show (8 - (k + 1)).succ = 8 - k from by omega]
theorem big_m_lt (n k m : Nat) (hn : n < 18446744073709551616) (hm : m = n / 256 ^ (8 - (k + 1))) : m < 18446744073709551616 := by
  have := Nat.div_le_self n (256 ^ (8 - (k + 1))); omega
/-- the highest bit turned -/
def turn (m : Int) : Nat := (m + 9223372036854775808).toNat
theorem xor_top (n : Nat) (h : n < 18446744073709551616) : n ^^^ 9223372036854775808 = if n < 9223372036854775808 then n + 9223372036854775808 else n - 9223372036854775808 := by
  have hm : (n ^^^ 2 ^ 63) % 2 ^ 63 = n % 2 ^ 63 := by rw [Nat.xor_mod_two_pow]; simp
  have hd : (n ^^^ 2 ^ 63) / 2 ^ 63 = (n / 2 ^ 63) ^^^ 1 := by rw [Nat.xor_div_two_pow]
  have e : (2 : Nat) ^ 63 = 9223372036854775808 := by decide
  rw [e] at hm hd
  generalize hx : n ^^^ 9223372036854775808 = x at *
  by_cases hn : n < 9223372036854775808
  · rw [if_pos hn]
    have h0 : n / 9223372036854775808 = 0 := by omega
    rw [h0] at hd
    have : (0 ^^^ 1 : Nat) = 1 := by decide
    omega
  · rw [if_neg hn]
    have h0 : n / 9223372036854775808 = 1 := by omega
    rw [h0] at hd
    have : (1 ^^^ 1 : Nat) = 0 := by decide
    omega
theorem turn_eq (m : Int) (h1 : -9223372036854775808 ≤ m) (h2 : m ≤ 9223372036854775807) : bits BinOp.xor IntKind.u64 (IntKind.u64.wrap m) 9223372036854775808 = (turn m : Int) := by
  have e : IntKind.u64.wrap m = (((m % 18446744073709551616).toNat : Nat) : Int) := by rw [IntKind.wrap_u64]; omega
  have h := u64_xor_nat (m % 18446744073709551616).toNat 9223372036854775808 (by omega) (by omega)
  rw [e, show (9223372036854775808 : Int) = ((9223372036854775808 : Nat) : Int) from rfl, h, xor_top _ (by omega)]
  unfold turn
  split <;> omega
theorem turn_lt (m : Int) (h2 : m ≤ 9223372036854775807) : turn m < 18446744073709551616 := by unfold turn; omega

/-- a text, and two numbers handed back -/
theorem retS {k2 k3 : IntKind} {a a' : ByteArray} {b c b' c' : Int} (h1 : a = a') (h2 : b = b') (h3 : c = c') :
    Ending.returned (.tuple #[.string a, .int k2 b, .int k3 c]) = Ending.returned (.tuple #[.string a', .int k2 b', .int k3 c']) := by rw [h1, h2, h3]

/-- three numbers handed back -/
theorem ret3 {k1 k2 k3 : IntKind} {a b c a' b' c' : Int} (h1 : a = a') (h2 : b = b') (h3 : c = c') :
    Ending.returned (.tuple #[.int k1 a, .int k2 b, .int k3 c]) = Ending.returned (.tuple #[.int k1 a', .int k2 b', .int k3 c']) := by rw [h1, h2, h3]

/-- the cells of bytes -/
abbrev cs (l : List UInt8) : List Value := Lib.byteCells l
theorem cs_snoc (l : List UInt8) (c : UInt8) : cs (l ++ [c]) = cs l ++ [.int .u8 (c.toNat : Int)] := by simp [cs, Lib.byteCells]
theorem cs_len (l : List UInt8) : (cs l).length = l.length := by simp [cs, Lib.byteCells]
theorem byte_more (m : Nat) : Value.int .u8 ((m : Int) % 128 + 128) = .int .u8 ((UInt8.ofNat (m % 128 + 128)).toNat : Int) := by
  congr 1; rw [UInt8.toNat_ofNat']; omega
theorem byte_low {m : Nat} (h : m < 256) : Value.int .u8 (m : Int) = .int .u8 ((UInt8.ofNat m).toNat : Int) := by
  congr 1; rw [UInt8.toNat_ofNat']; omega
theorem byte_or (m : Nat) : Value.int .u8 (bits BinOp.or IntKind.u8 (IntKind.u8.wrap (m : Int)) 128) = .int .u8 ((UInt8.ofNat (m % 128 + 128)).toNat : Int) := by
  have e : IntKind.u8.wrap (m : Int) = ((m % 256 : Nat) : Int) := by rw [IntKind.wrap_u8]; omega
  have h := u8_or_nat (m % 256) 128 (by omega) (by omega)
  rw [e, show (128 : Int) = ((128 : Nat) : Int) from rfl, h, UInt8.toNat_ofNat']
  congr 2
  have h2 : m % 256 % 2 ^ 7 = m % 128 := by omega
  have h1 : (m % 256 ||| 128) = m % 128 + 128 := by
    have ha := Nat.shiftLeft_add_eq_or_of_lt (i := 7) (b := m % 128) (by omega) 1
    have hb : (1 : Nat) <<< 7 = 128 := by decide
    rw [hb] at ha
    by_cases hx : m % 256 < 128
    · rw [Nat.or_comm, show m % 256 = m % 128 from by omega, ← ha]; omega
    · have e2 : m % 256 = 128 ||| m % 128 := by rw [← ha]; omega
      rw [e2, Nat.or_comm, ← Nat.or_assoc, Nat.or_self, ← ha]; omega
  rw [h1]; omega

/-- what an append leaves, said of the longer list -/
theorem own_snoc {w : World} {base : Nat} {e : TypeId} {v : Value} {l : List UInt8} {n : Nat} {c : UInt8} {x : Value} (hx : x = .int .u8 (c.toNat : Int)) (hn : n = l.length + 1) (h : w.ownsRow base e 1 v n (cs l ++ [x])) :
    w.ownsRow base e 1 v (l ++ [c]).length (cs (l ++ [c])) := by
  rw [cs_snoc, List.length_append, List.length_singleton, ← hx, ← hn]; exact h
/-- 'string(b)' of bytes that the call itself gathered -/
theorem conv_own {P : Program} {w : World} {src dst e : TypeId} {base : Nat} {v : Value} {l : List UInt8} (hs : P.underlying src = some (.slice e)) (he : P.underlying e = some (.int .u8)) (hd : P.underlying dst = some .string)
    (h : w.ownsRow base e 1 v l.length (cs l)) : (convert src dst v).run P w = .ok (.string (bs l)) w := by
  rcases h.2 with ⟨rfl, h0⟩ | ⟨g, cap, cur, rfl, _, hg, _, _, _, htk⟩
  · have : l = [] := List.length_eq_zero_iff.1 h0
    subst this
    exact Lib.run_convert_nil_bytes w src dst e 0 hs he hd
  · exact run_convert_bytes_back w src dst e ⟨g, 0, none⟩ cap l hs he hd (Lib.bytes_of_row hg (by simpa using htk))

end Cd
end Go.Proofs.YtoldjbgojjafdaaGreatDoor

/-
  Plain mathematics of chapter 1, second part.
-/
namespace Go.Proofs.YtoldjbgojjafdaaGreatDoor
namespace Cd
open Go.RowKit

theorem take_all (s : ByteArray) : s.data.toList.take s.size = s.data.toList := List.take_of_length_le (by simp)

theorem putU_len (n : Nat) : ∀ k, n < 128 ^ k → 1 ≤ k → (putU n).length ≤ k := by
  induction n using Nat.strongRecOn with
  | ind n ih =>
    intro k hk h1
    by_cases h : n < 128
    · rw [putU_last h]; simpa using h1
    · rw [putU_more (by omega), List.length_cons]
      cases k with
      | zero => omega
      | succ k =>
        cases k with
        | zero => simp at hk; omega
        | succ k =>
          have h2 : n / 128 < 128 ^ (k + 1) := by
            rw [pow_s] at hk
            exact Nat.div_lt_of_lt_mul hk
          have := ih (n / 128) (by omega) (k + 1) h2 (by omega)
          omega
theorem putU_len10 (n : Nat) (h : n < 18446744073709551616) : (putU n).length ≤ 10 :=
  putU_len n 10 (by have : (128 : Nat) ^ 10 = 1180591620717411303424 := by decide
                    omega) (by omega)
/-- P1.3: a text with its length ahead -/
def putT (l : List UInt8) : List UInt8 := putU l.length ++ l
/-- P1.5: a text as a key -/
def keyGo : List UInt8 → List UInt8
  | [] => []
  | c :: r => if c.toNat = 0 then c :: 255 :: keyGo r else c :: keyGo r
def keyT (l : List UInt8) : List UInt8 := keyGo l ++ [0, 1]
theorem keyGo_len (l : List UInt8) : (keyGo l).length ≤ 2 * l.length := by
  induction l with
  | nil => simp [keyGo]
  | cons c r ih => unfold keyGo; split <;> simp only [List.length_cons] <;> omega
theorem key_zero {c : UInt8} {r : List UInt8} (h : c.toNat = 0) : keyGo (c :: r) = c :: 255 :: keyGo r := by rw [keyGo, if_pos h]
theorem key_plain {c : UInt8} {r : List UInt8} (h : ¬ c.toNat = 0) : keyGo (c :: r) = c :: keyGo r := by rw [keyGo, if_neg h]

theorem own_app {w : World} {base : Nat} {e : TypeId} {v : Value} {l l' : List UInt8} {n : Nat} {xs : List Value} (hx : xs = cs l') (hn : n = l.length + l'.length) (h : w.ownsRow base e 1 v n (cs l ++ xs)) :
    w.ownsRow base e 1 v (l ++ l').length (cs (l ++ l')) := by
  have : cs (l ++ l') = cs l ++ cs l' := by simp [cs, Lib.byteCells]
  rw [this, List.length_append, ← hx, ← hn]; exact h

/-- the number of a sign's put, as the walk spells it -/
theorem zig_pos {m : Int} (h : 0 ≤ m) (h2 : m ≤ 9223372036854775807) : IntKind.u64.wrap (2 * IntKind.u64.wrap m) = (zig m : Int) := by
  rw [IntKind.wrap_u64, IntKind.wrap_u64]; unfold zig; rw [if_pos h]; omega
theorem zig_neg {m : Int} (h : ¬ 0 ≤ m) (h2 : -9223372036854775808 ≤ m) : IntKind.u64.wrap (IntKind.u64.wrap (2 * IntKind.u64.wrap (-(m + 1))) + 1) = (zig m : Int) := by
  rw [IntKind.wrap_u64, IntKind.wrap_u64, IntKind.wrap_u64]; unfold zig; rw [if_neg h]; omega
end Cd
end Go.Proofs.YtoldjbgojjafdaaGreatDoor

/-
  Plain mathematics of P5.1: sixteen digits of sixteen, and the number that they say. No program is named here.
-/
namespace Go.Proofs.YtoldjbgojjafdaaGreatDoor
namespace Wa
/-- a digit -/
def hexd (k : Nat) : UInt8 := if k < 10 then UInt8.ofNat (48 + k) else UInt8.ofNat (87 + k)
/-- the last digits of a number, so many, the highest first -/
def hexs : Nat → Nat → List UInt8
  | 0, _ => []
  | k + 1, n => hexs k (n / 16) ++ [hexd (n % 16)]
theorem hexs_len : ∀ k n, (hexs k n).length = k
  | 0, _ => rfl
  | k + 1, n => by rw [hexs, List.length_append, hexs_len k]; rfl
/-- a digit's number -/
def hexv (c : UInt8) : Option Nat := if 48 ≤ c.toNat ∧ c.toNat ≤ 57 then some (c.toNat - 48) else if 97 ≤ c.toNat ∧ c.toNat ≤ 102 then some (c.toNat - 87) else none
def hexGo : List UInt8 → Nat → Option Nat
  | [], n => some n
  | c :: r, n => match hexv c with | some v => hexGo r (16 * n + v) | none => none
/-- the number of a name that begins so -/
def numOf (a s : List UInt8) : Option Nat := if s.length = a.length + 16 ∧ s.take a.length = a then hexGo (s.drop a.length) 0 else none
def logB : List UInt8 := [108, 111, 103, 45]
def name (n : Nat) : List UInt8 := logB ++ hexs 16 n
theorem hexv_hexd (k : Nat) (h : k < 16) : hexv (hexd k) = some k := by
  have : ∀ j : Fin 16, hexv (hexd j.1) = some j.1 := by decide
  exact this ⟨k, h⟩
theorem hexv_lt {c : UInt8} {v : Nat} (h : hexv c = some v) : v < 16 := by
  unfold hexv at h
  split at h
  · injection h; omega
  · split at h
    · injection h; omega
    · cases h
theorem hexGo_app : ∀ (l r : List UInt8) (n : Nat), hexGo (l ++ r) n = (hexGo l n).bind fun m => hexGo r m
  | [], r, n => rfl
  | c :: l, r, n => by
    rw [List.cons_append, hexGo, hexGo]
    cases hexv c with
    | none => rfl
    | some v => exact hexGo_app l r _
theorem hexGo_hexs : ∀ (k n a : Nat), hexGo (hexs k n) a = some (a * 16 ^ k + n % 16 ^ k)
  | 0, n, a => by simp [hexs, hexGo, Nat.mod_one]
  | k + 1, n, a => by
    rw [hexs, hexGo_app, hexGo_hexs k]
    simp only [Option.bind_some, hexGo, hexv_hexd (n % 16) (Nat.mod_lt _ (by omega))]
    congr 1
    have h1 : n % 16 ^ (k + 1) = 16 * (n / 16 % 16 ^ k) + n % 16 := by
      rw [Nat.pow_succ, Nat.mul_comm (16 ^ k) 16, Nat.mod_mul]; omega
    rw [h1, Nat.pow_succ]
    have : 16 * (a * 16 ^ k) = a * (16 ^ k * 16) := by rw [Nat.mul_comm (16 ^ k) 16, ← Nat.mul_assoc, ← Nat.mul_assoc, Nat.mul_comm 16 a]
    omega
theorem hexGo_lt : ∀ (l : List UInt8) (a n : Nat), hexGo l a = some n → n < (a + 1) * 16 ^ l.length
  | [], a, n, h => by simp [hexGo] at h; subst h; simp
  | c :: r, a, n, h => by
    rw [hexGo] at h
    cases hv : hexv c with
    | none => rw [hv] at h; cases h
    | some v =>
      rw [hv] at h
      have h1 := hexGo_lt r _ n h
      have h2 := hexv_lt hv
      have h3 : (16 * a + v + 1) * 16 ^ r.length ≤ (16 * (a + 1)) * 16 ^ r.length := Nat.mul_le_mul_right _ (by omega)
      rw [List.length_cons, Nat.pow_succ, Nat.mul_comm (16 ^ r.length) 16, ← Nat.mul_assoc, Nat.mul_comm (a + 1) 16]
      omega
theorem numOf_name (n : Nat) (h : n < 18446744073709551616) : numOf logB (name n) = some n := by
  unfold numOf name
  rw [if_pos ⟨by rw [List.length_append, hexs_len], by rw [List.take_left' rfl]⟩, List.drop_left' rfl, hexGo_hexs]
  congr 1
  rw [Nat.zero_mul, Nat.zero_add]
  exact Nat.mod_eq_of_lt (by have : (16 : Nat) ^ 16 = 18446744073709551616 := by decide
                             omega)
theorem numOf_lt {a s : List UInt8} {n : Nat} (h : numOf a s = some n) : n < 18446744073709551616 := by
  unfold numOf at h
  split at h
  · rename_i hx
    have h1 := hexGo_lt _ _ _ h
    have h2 : (s.drop a.length).length = 16 := by rw [List.length_drop]; omega
    rw [h2] at h1
    have : (16 : Nat) ^ 16 = 18446744073709551616 := by decide
    omega
  · cases h
/-- no other name says any number -/
theorem numOf_some {s : List UInt8} {n : Nat} (h : numOf logB s = some n) : s.length = 20 ∧ s.take 4 = logB := by
  unfold numOf at h
  split at h
  · rename_i hx; exact ⟨hx.1, hx.2⟩
  · cases h
/-! step by step -/
theorem hexGo_some {l : List UInt8} {k : Nat} (hk : k < l.length) {v : Nat} (hv : hexv l[k] = some v) (a : Nat) : hexGo (l.drop k) a = hexGo (l.drop (k + 1)) (16 * a + v) := by
  rw [List.drop_eq_getElem_cons hk, hexGo, hv]
theorem hexGo_none {l : List UInt8} {k : Nat} (hk : k < l.length) (hv : hexv l[k] = none) (a : Nat) : hexGo (l.drop k) a = none := by
  rw [List.drop_eq_getElem_cons hk, hexGo, hv]
end Wa
end Go.Proofs.YtoldjbgojjafdaaGreatDoor

namespace Go.Proofs.YtoldjbgojjafdaaGreatDoor
open Go.RowKit
set_option linter.unusedSimpArgs false
set_option linter.unusedVariables false

set_option maxRecDepth 100000 in
set_option maxHeartbeats 400000 in
theorem takec_any (s : ByteArray) (w : World) (hs : s.size ≤ maxLen) :
    Calls Tryz.prog 367 #[.string s] w fun e w' => e = .returned (.tuple #[.int .u64 (Cd.takeU s.data.toList).1, .int .i64 (Cd.takeU s.data.toList).2.1, .int .i64 (Cd.takeU s.data.toList).2.2]) ∧ w = w' := by
  unfold maxLen at hs
  go_enter Tryz.func367, Tryz.ntmps367
  go_wp2
  go_step3
  go_wp2
  go_step3
  go_wp2
  go_loopg [5, 10] s.size (fun g n i wr => w = wr ∧ ∃ k acc : Nat, k ≤ s.size ∧ k ≤ 9 ∧ acc < 128 ^ k ∧ i = .int .i64 k ∧ n = .int .u64 acc ∧ Cd.takeU s.data.toList = Cd.takeGo (s.data.toList.drop k) k acc ∧ g = s.size - k)
  case atStart => exact ⟨rfl, 0, 0, Nat.zero_le _, by omega, by simp, rfl, rfl, rfl, rfl⟩
  case round =>
    obtain ⟨rfl, k, acc, hk, hk9, hacc, rfl, rfl, hgo, rfl⟩ := hrel
    have HG := Lib.hid hgo
    have HA := Lib.hid hacc
    clear hgo hacc
    by_cases hlt : k < s.size
    · have HD := Lib.hid (Cd.drop_cons_b s k hlt)
      go_wp2
      all_goals first
        | (go_roundg (s.size - (k + 1))
           case rel =>
             try simp only [beq_iff_eq, beq_eq_false_iff_ne, ne_eq] at *
             exact ⟨by trivial, k + 1, _, by omega, by omega, Cd.step_pow k acc s[k].toNat HA.out, by go_num, by rw [Cd.or_step hk9 HA.out (by omega)], by rw [HG.out, HD.out, Cd.go_more (by omega) (by omega)], rfl⟩
           case measure => omega)
        | ((try simp only [beq_iff_eq, beq_eq_false_iff_ne, ne_eq] at *); rw [Exit.noGoto_ret]; go_ret3; exact ⟨by rw [HG.out, HD.out, Cd.go_bad (by omega)]; rfl, rfl⟩)
        | ((try simp only [beq_iff_eq, beq_eq_false_iff_ne, ne_eq] at *); rw [Exit.noGoto_ret]; go_ret3; exact ⟨by rw [HG.out, HD.out, Cd.go_last (by omega) (by omega)]; exact Cd.ret3 (Cd.or_step hk9 HA.out (by omega)) (by first | rfl | omega | (simp; omega)) rfl, rfl⟩)
    · go_wp2
      rw [Exit.noGoto_ret]
      go_ret3
      have : k = s.size := by omega
      exact ⟨by rw [HG.out, List.drop_eq_nil_of_le (by simp; omega)]; rfl, rfl⟩
end Go.Proofs.YtoldjbgojjafdaaGreatDoor

/-
  strings.Clone: the same bytes, in new memory.
-/
namespace Go.Proofs.YtoldjbgojjafdaaGreatDoor
open Go.RowKit

theorem info_u8 : (Tryz.prog.info? 5).map (fun i => (i.zero, i.size, i.bytes)) = some (some (.int .u8 0), 1, 1) := by kernel_rfl

set_option maxHeartbeats 4000000 in
set_option maxRecDepth 100000 in
/-- internal/stringslite.Clone: the same bytes. -/
theorem cloneIn_any (s : ByteArray) (w : World) (hlim : s.size ≤ 281474976710656) :
    Calls Tryz.prog 77 #[.string s] w fun e w' => e = .returned (.string s) ∧ Below w.heap.size w w' := by
  by_cases h0 : s.size = 0
  · have hs : s = ⟨#[]⟩ := by
      apply ByteArray.ext
      exact Array.eq_empty_of_size_eq_zero h0
    subst hs
    go_enter Tryz.func77, Tryz.ntmps77
    go_wp2
    go_ret
    exact ⟨rfl, Below.refl _ _⟩
  · obtain ⟨i0, hi, hz0, hz1, hz2⟩ := info_parts info_u8
    have hinfo : (Tryz.prog.info? 5).map (·.size) = some 1 := by rw [hi]; simp [hz1]
    have hco : Tryz.prog.cellsOf 5 = 1 := by simp [Program.cellsOf, hi, hz1]
    obtain ⟨M, hM⟩ : ∃ M, M = madeCells (Value.int .u8 0).cells (((s.size : Nat) : Int).toNat * i0.size) := ⟨_, rfl⟩
    have hMs : M.size = s.size := by rw [hM, size_madeCells, hz1]; simp
    have hmk : ∀ W : World, (Instr.makeSlice 173 (.int .i64 (s.size : Int)) (.int .i64 (s.size : Int))).run Tryz.prog W = .ok (.slice (some ⟨W.heap.size, 0, none⟩) s.size s.size) (W.alloc (.cells M 5)) := fun W => by
      have h := run_make (P := Tryz.prog) W 173 5 i0 (.int .u8 0) Tryz.underlying173 hi hz0 .i64 .i64 (s.size : Int) (s.size : Int) (by omega) (by omega) (by rw [hz2]; omega) (by omega)
      rw [← hM] at h
      simpa using h
    clear hM
    have hcp := Lib.run_copy_row_string (P := Tryz.prog) (w.alloc (.cells M 5)) 173 9 3 5 w.heap.size 0 s.size s.size s M 5 Tryz.underlying173 hinfo (heap_alloc_new w _) (Nat.le_refl _) (by omega)
    obtain ⟨Y, hY⟩ : ∃ Y, Y = (M.toList.take 0 ++ Lib.byteCells s.data.toList ++ M.toList.drop (0 + s.size)).toArray := ⟨_, rfl⟩
    rw [← hY] at hcp
    have hYl : Y.toList = Lib.byteCells s.data.toList := by
      rw [hY, List.toList_toArray, List.take_zero, List.nil_append, List.drop_of_length_le (by rw [Array.length_toList]; omega), List.append_nil]
    have hYs : Y.size = s.size := by rw [← Array.length_toList, hYl, Lib.byteCells_length, ← Lib.size_eq]
    have hgY : ((w.alloc (.cells M 5)).setRow w.heap.size Y).heap[w.heap.size]? = some (.cells Y 5 (0, 0)) := setRow_heap _ _ M _ 5 (0, 0) (heap_alloc_new w _)
    have hne : s.data.toList ≠ [] := fun e => h0 (by rw [Lib.size_eq, e]; rfl)
    have hUS := Lib.run_unsafeString_row (P := Tryz.prog) ((w.alloc (.cells M 5)).setRow w.heap.size Y) 278 3 9 5 Tryz.underlying278 hco w.heap.size Y.size (by unfold World.shape?; rw [hgY]) s.data.toList hne (by rw [← Lib.size_eq]; omega) (by rw [← Lib.size_eq]; omega)
      (fun j x hx => Lib.cells_of_row hgY Y.size j _ (by rw [List.take_of_length_le (by rw [Array.length_toList]; exact Nat.le_refl _), hYl]; simp [Lib.byteCells, hx]))
    rw [← Lib.size_eq] at hUS
    clear hY
    go_enter Tryz.func77, Tryz.ntmps77
    go_wp2
    go_ret
    have hb1 : Below w.heap.size w (w.alloc (.cells M 5)) := (Below.refl _ w).alloc (Nat.le_refl _) _
    have hb2 : Below w.heap.size (w.alloc (.cells M 5)) ((w.alloc (.cells M 5)).setRow w.heap.size Y) := ⟨rfl, rfl, rfl, by simp, fun k hk => setRow_other _ _ _ _ (by omega)⟩
    exact ⟨rfl, Lib.below_freeze (hb1.trans hb2) (p := ⟨w.heap.size, 0, none⟩) (Nat.le_refl _) _⟩

set_option maxHeartbeats 400000 in
theorem clone_any (s : ByteArray) (w : World) (hlim : s.size ≤ 281474976710656) :
    Calls Tryz.prog 30 #[.string s] w fun e w' => e = .returned (.string s) ∧ Below w.heap.size w w' := by
  go_enter Tryz.func30, Tryz.ntmps30
  go_wp2_with (go_at_call 77; refine (cloneIn_any s _ hlim).mono ?_; rintro e w' ⟨rfl, hb⟩)
  go_ret
  exact ⟨rfl, hb⟩
end Go.Proofs.YtoldjbgojjafdaaGreatDoor

namespace Go.Proofs.YtoldjbgojjafdaaGreatDoor
open Go.RowKit
set_option linter.unusedSimpArgs false
set_option linter.unusedVariables false

theorem conv_any {w : World} {base : Nat} {v : Value} {l : List UInt8} (h : w.ownsRow base 5 1 v l.length (Cd.cs l)) : (convert 173 9 v).run Tryz.prog w = .ok (.string (Cd.bs l)) w :=
  Cd.conv_own Tryz.underlying173 Tryz.underlying5 Tryz.underlying9 h

set_option maxRecDepth 100000 in
set_option maxHeartbeats 1000000 in
theorem takeKc_any (s : ByteArray) (w : World) (hs : s.size ≤ 140737488351232) :
    Calls Tryz.prog 369 #[.string s] w fun e w' => e = .returned (.tuple #[.string (Cd.bs (Cd.takeK s.data.toList).1), .int .i64 (Cd.takeK s.data.toList).2.1, .int .i64 (Cd.takeK s.data.toList).2.2]) ∧ Below w.heap.size w w' := by
  obtain ⟨i0, hi, hz0, hz1, hz2⟩ := info_parts info_u8
  go_enter Tryz.func369, Tryz.ntmps369
  go_wp2
  go_step3
  go_wp2
  go_step3
  go_wp2
  go_loopg [5, 6] s.size (fun g v i wr => ∃ (k : Nat) (acc : List UInt8), g = s.size - k ∧ k ≤ s.size ∧ i = .int .i64 k ∧ acc.length ≤ k ∧ wr.ownsRow w.heap.size 5 1 v acc.length (Cd.cs acc) ∧ Below w.heap.size w wr ∧ Cd.takeK s.data.toList = Cd.takeKGo (s.data.toList.drop k) acc k)
  case atStart => exact ⟨0, [], rfl, Nat.zero_le _, rfl, Nat.zero_le _, World.ownsRow_nil _ _ _ _, Below.refl _ _, rfl⟩
  case round =>
    obtain ⟨k, acc, rfl, hk, rfl, hal, hown, hb, hgo⟩ := hrel
    have HG := Lib.hid hgo
    clear hgo
    have hbs := hb.size
    by_cases hlt : k < s.size
    · have HD := Lib.hid (Cd.drop_cons_b s k hlt)
      by_cases hc : s[k].toNat = 0
      · have hcb : ((s[k].toNat : Int) == 0) = true := by simp [hc]
        have HC := Lib.hid hc
        clear hc
        by_cases hl2 : k + 1 < s.size
        · have HD2 := Lib.hid (Cd.drop_cons_b s (k + 1) hl2)
          by_cases h1 : s[k + 1].toNat = 1
          · have h1b : ((s[k + 1].toNat : Int) == 1) = true := by simp [h1]
            have H1 := Lib.hid h1
            clear h1
            have hcv := conv_any hown
            go_wp2
            (try rw [Exit.noGoto_ret])
            go_ret3
            exact ⟨by rw [HG.out, HD.out, HD2.out, Cd.tk_end HC.out H1.out]; exact Cd.retS rfl (by first | (simp; done) | (simp; omega) | omega) rfl, hb⟩
          · have h1b : ((s[k + 1].toNat : Int) == 1) = false := by simp; omega
            have H1 := Lib.hid h1
            clear h1
            by_cases h2 : s[k + 1].toNat = 255
            · have h2b : ((s[k + 1].toNat : Int) == 255) = true := by simp [h2]
              have H2 := Lib.hid h2
              clear h2
              go_wp2_with (at_builtin; refine wpList_append_own _ rfl _ _ 173 rfl w.heap.size 5 i0 (.int .u8 0) 1 1 Tryz.underlying173 hi hz0 hz1 hz2 rfl (by decide) _ _ _ rfl (hown.alloc _) ⟨wr.heap.size, 0, none⟩ 1 1 [.int .u8 0] rfl rfl (cell_one_new _ _ _) (by simp [Value.oneCell']) (by unfold maxLen; omega) (by omega) (by simp; omega) ?_; intro v' w1 hown' hgrow _)
              have hb' := (hb.alloc hbs (.cells #[.int .u8 0] 5)).grown hgrow (by simp; omega) (fun j hj => (hown.lt j hj).1)
              clear hgrow
              go_roundg (s.size - (k + 2))
              case rel => exact ⟨k + 2, acc ++ [0], rfl, by omega, by go_num, by simp; omega, Cd.own_snoc (c := 0) rfl rfl hown', hb', by rw [HG.out, HD.out, HD2.out, Cd.tk_zero HC.out H2.out]⟩
              case measure => omega
            · have h2b : ((s[k + 1].toNat : Int) == 255) = false := by simp; omega
              have H2 := Lib.hid h2
              clear h2
              go_wp2
              (try rw [Exit.noGoto_ret])
              go_ret3
              exact ⟨by rw [HG.out, HD.out, HD2.out, Cd.tk_bad HC.out H1.out H2.out]; rfl, hb⟩
        · go_wp2
          (try rw [Exit.noGoto_ret])
          go_ret3
          exact ⟨by rw [HG.out, HD.out, List.drop_eq_nil_of_le (by simp; omega), Cd.tk_last HC.out]; rfl, hb⟩
      · have hcb : ((s[k].toNat : Int) == 0) = false := by simp; omega
        have HC := Lib.hid hc
        clear hc
        go_wp2_with (at_builtin; refine wpList_append_own _ rfl _ _ 173 rfl w.heap.size 5 i0 (.int .u8 0) 1 1 Tryz.underlying173 hi hz0 hz1 hz2 rfl (by decide) _ _ _ rfl (hown.alloc _) ⟨wr.heap.size, 0, none⟩ 1 1 [.int .u8 (s[k].toNat : Int)] rfl rfl (cell_one_new _ _ _) (by simp [Value.oneCell']) (by unfold maxLen; omega) (by omega) (by simp; omega) ?_; intro v' w1 hown' hgrow _)
        have hb' := (hb.alloc hbs (.cells #[.int .u8 (s[k].toNat : Int)] 5)).grown hgrow (by simp; omega) (fun j hj => (hown.lt j hj).1)
        clear hgrow
        go_roundg (s.size - (k + 1))
        case rel => exact ⟨k + 1, acc ++ [s[k]], rfl, by omega, by go_num, by simp; omega, Cd.own_snoc rfl rfl hown', hb', by rw [HG.out, HD.out, Cd.tk_plain HC.out]⟩
        case measure => omega
    · have : k = s.size := by omega
      go_wp2
      (try rw [Exit.noGoto_ret])
      go_ret3
      exact ⟨by rw [HG.out, List.drop_eq_nil_of_le (by simp; omega)]; rfl, hb⟩
end Go.Proofs.YtoldjbgojjafdaaGreatDoor

namespace Go.Proofs.YtoldjbgojjafdaaGreatDoor
open Go.RowKit
set_option linter.unusedSimpArgs false
set_option linter.unusedVariables false

set_option maxRecDepth 100000 in
set_option maxHeartbeats 1000000 in
theorem takeTc_any (s : ByteArray) (most : Int) (w : World) (hs : s.size ≤ 140737488351232) (hm1 : -9223372036854775808 ≤ most) (hm2 : most ≤ 9223372036854775807) :
    Calls Tryz.prog 366 #[.string s, .int .i64 most] w fun e w' => e = .returned (.tuple #[.string (Cd.bs (Cd.takeT s.data.toList most).1), .int .i64 (Cd.takeT s.data.toList most).2.1, .int .i64 (Cd.takeT s.data.toList most).2.2]) ∧ Below w.heap.size w w' := by
  have hc := takec_any s w (by unfold maxLen; omega)
  obtain ⟨ok1, ok2, ok3, ok4⟩ := Cd.takeU_ok s.data.toList
  obtain ⟨n, k, e, ht⟩ : ∃ n k e, Cd.takeU s.data.toList = (n, k, e) := ⟨_, _, _, rfl⟩
  rw [ht] at hc ok1 ok2 ok3 ok4
  simp only at *
  rw [← Lib.size_eq] at ok3
  have HN := Lib.size_eq s
  have HC := Lib.hid hc
  clear hc
  by_cases he : e = 0
  · subst he
    clear ok2 ok4
    by_cases h1 : n ≤ most.toNat
    · by_cases h2 : n ≤ s.size - k
      · rw [Cd.takeT_text ht h1 (by omega)]
        clear ok1 ht HN
        go_enter Tryz.func366, Tryz.ntmps366
        go_wp2_with (first | (go_at_call 367; refine HC.out.mono ?_; rintro e w' ⟨rfl, rfl⟩) | (go_at_call 30; refine (clone_any _ _ (by simp; omega)).mono ?_; rintro e w' ⟨rfl, hb⟩))
        all_goals go_ret3
        all_goals exact ⟨Cd.retS (by rw [Lib.extract_eq]; congr 3; omega) (by first | rfl | (simp; done) | (simp; omega) | omega) rfl, by first | exact hb | exact Below.refl _ _⟩
      · rw [Cd.takeT_more ht h1 (by omega)]
        clear ok1 ht HN
        go_enter Tryz.func366, Tryz.ntmps366
        go_wp2_with (go_at_call 367; refine HC.out.mono ?_; rintro e w' ⟨rfl, rfl⟩)
        all_goals go_ret3
        all_goals exact ⟨rfl, Below.refl _ _⟩
    · rw [Cd.takeT_most ht (by omega)]
      have h1' : most < (n : Int) := by omega
      have h0 : 0 < n := by omega
      clear ok1 ht HN
      go_enter Tryz.func366, Tryz.ntmps366
      go_wp2_with (go_at_call 367; refine HC.out.mono ?_; rintro e w' ⟨rfl, rfl⟩)
      all_goals go_ret3
      all_goals exact ⟨rfl, Below.refl _ _⟩
  · rw [Cd.takeT_err ht he]
    have hb : (((e : Nat) : Int) == 0) = false := by simp; omega
    clear ok1 ht HN
    go_enter Tryz.func366, Tryz.ntmps366
    go_wp2_with (go_at_call 367; refine HC.out.mono ?_; rintro e w' ⟨rfl, rfl⟩)
    go_ret3
    exact ⟨rfl, Below.refl _ _⟩
end Go.Proofs.YtoldjbgojjafdaaGreatDoor

namespace Go.Proofs.YtoldjbgojjafdaaGreatDoor
open Go.RowKit
set_option linter.unusedSimpArgs false
set_option linter.unusedVariables false

end Go.Proofs.YtoldjbgojjafdaaGreatDoor
namespace Go.Proofs.YtoldjbgojjafdaaGreatDoor
open Go.RowKit
set_option linter.unusedSimpArgs false
set_option linter.unusedVariables false

set_option maxRecDepth 100000 in
set_option maxHeartbeats 1000000 in
theorem takeKIc_any (s : ByteArray) (w : World) (hm : s.size ≤ maxLen) :
    Calls Tryz.prog 370 #[.string s] w fun e w' => e = .returned (.tuple #[.int .i64 (Cd.takeKI s.data.toList).1, .int .i64 (Cd.takeKI s.data.toList).2.1, .int .i64 (Cd.takeKI s.data.toList).2.2]) ∧ w = w' := by
  unfold maxLen at hm
  by_cases h8 : s.size < 8
  · rw [Cd.takeKI_few (by rw [← Lib.size_eq]; exact h8)]
    go_enter Tryz.func370, Tryz.ntmps370
    go_wp2_with fail
    go_ret3
    exact ⟨rfl, rfl⟩
  · rw [Cd.takeKI_eight (by rw [← Lib.size_eq]; omega)]
    go_enter Tryz.func370, Tryz.ntmps370
    go_wp2_with fail
    go_loop [5, 10] (fun n i => ∃ k : Nat, k ≤ 8 ∧ i = .int .i64 k ∧ n = .int .u64 (Cd.wordGo (s.data.toList.take k))) (fun _ i => 8 - (intOf i).toNat)
    case atStart => exact ⟨0, Nat.zero_le _, rfl, rfl⟩
    case round =>
      obtain ⟨k, hk, rfl, rfl⟩ := hrel
      by_cases hlt : k < 8
      · have hks : k < s.size := by omega
        have HW := Lib.hid (Cd.word_s s k hks)
        have HL := Lib.hid (Cd.word_lt s.data.toList k (by omega))
        obtain ⟨n, hn⟩ : ∃ n, n = Cd.wordGo (s.data.toList.take k) := ⟨_, rfl⟩
        rw [← hn]
        rw [← hn] at HW HL
        clear hn
        go_wp2
        go_round
        case rel => exact ⟨k + 1, by omega, by go_num, by rw [HW.out, Cd.word_or HL.out]⟩
        case measure => simp [intOf]; omega
      · obtain rfl : k = 8 := by omega
        go_wp2
        go_ret3
        exact ⟨rfl, rfl⟩
end Go.Proofs.YtoldjbgojjafdaaGreatDoor

namespace Go.Proofs.YtoldjbgojjafdaaGreatDoor
open Go.RowKit
set_option linter.unusedSimpArgs false
set_option linter.unusedVariables false

set_option maxRecDepth 100000 in
set_option maxHeartbeats 1000000 in
theorem commonc_any (s t : ByteArray) (w : World) (hs : s.size ≤ maxLen) (ht : t.size ≤ maxLen) :
    Calls Tryz.prog 387 #[.string s, .string t] w fun e w' => e = .returned (.int .i64 (Cd.common s.data.toList t.data.toList)) ∧ Below w.heap.size w w' := by
  unfold maxLen at hs ht
  obtain ⟨m, hm⟩ : ∃ m, m = min s.size t.size := ⟨_, rfl⟩
  have hms : m ≤ s.size := by omega
  have hmt : m ≤ t.size := by omega
  have hmm : min (s.size : Int) (t.size : Int) = (m : Int) := by omega
  have HM := Lib.hid hm
  clear hm
  go_enter Tryz.func387, Tryz.ntmps387
  go_wp2_with fail
  go_loopw [13] (fun i wr => ∃ k : Nat, k ≤ m ∧ i = .int .i64 k ∧ Below w.heap.size w wr ∧ Cd.common s.data.toList t.data.toList = k + Cd.common (s.data.toList.drop k) (t.data.toList.drop k)) (fun i _ => m - (intOf i).toNat)
  case atStart => exact ⟨0, Nat.zero_le _, rfl, Below.refl _ _, by simp⟩
  case round =>
    obtain ⟨k, hk, rfl, hb, hc⟩ := hrel
    have HC := Lib.hid hc
    clear hc
    by_cases hlt : k < m
    · have hks : k < s.size := by omega
      have hkt : k < t.size := by omega
      have HS := Lib.hid (Cd.drop_cons_b s k hks)
      have HT := Lib.hid (Cd.drop_cons_b t k hkt)
      by_cases he : s[k].toNat = t[k].toNat
      · have heb : ((s[k].toNat : Int) == (t[k].toNat : Int)) = true := by simp [he]
        have HE := Lib.hid he
        clear he
        go_wp2
        go_quiet (fail)
        go_wp2
        go_roundw
        case rel => exact ⟨k + 1, by omega, by go_num, below_drewN hb _, by rw [HC.out, HS.out, HT.out, Cd.common_eq HE.out]; omega⟩
        case measure => simp [intOf]; omega
      · have heb : ((s[k].toNat : Int) == (t[k].toNat : Int)) = false := by simp; omega
        have HE := Lib.hid he
        clear he
        go_wp2
        go_quiet (fail)
        go_wp2
        go_ret
        exact ⟨by rw [HC.out, HS.out, HT.out, Cd.common_ne HE.out]; rfl, below_drewN hb _⟩
    · obtain rfl : k = m := by omega
      go_wp2
      go_ret
      refine ⟨?_, hb⟩
      have hm := HM.out
      rcases Nat.le_total s.size t.size with h | h
      · rw [HC.out, Cd.drop_all (s := s) (by omega), Cd.common_nil_l]; rfl
      · rw [HC.out, Cd.drop_all (s := t) (by omega), Cd.common_nil_r]; rfl

end Go.Proofs.YtoldjbgojjafdaaGreatDoor
namespace Go.Proofs.YtoldjbgojjafdaaGreatDoor
open Go.RowKit
set_option linter.unusedSimpArgs false
set_option linter.unusedVariables false

theorem conv_one (w : World) (x : Int) (c : UInt8) (hx : x = (c.toNat : Int)) :
    (convert 173 9 (.slice (some ⟨w.heap.size, 0, none⟩) 1 1)).run Tryz.prog (w.alloc (.cells #[.int .u8 x] 5)).drew = .ok (.string (Cd.bs [c])) (w.alloc (.cells #[.int .u8 x] 5)).drew := by
  subst hx
  have h := run_convert_bytes_back (P := Tryz.prog) (w.alloc (.cells #[.int .u8 (c.toNat : Int)] 5)).drew 173 9 5 ⟨w.heap.size, 0, none⟩ 1 [c] Tryz.underlying173 Tryz.underlying5 Tryz.underlying9
    (fun j hj => by
      simp at hj; subst hj
      simpa using cell_one_new w (.int .u8 (c.toNat : Int)) 5 0 _ rfl)
  simpa using h
theorem up_byte (c : UInt8) : ((c.toNat : Int) + 1) % 256 = ((c + 1).toNat : Int) := by
  rw [UInt8.toNat_add]; simp
theorem behind_end {s : ByteArray} {k : Nat} (hk : k ≤ s.size) (c : UInt8) : s.extract 0 k ++ Cd.bs [c] = Cd.bs (s.data.toList.take k ++ [c]) := by
  rw [Lib.extract_eq, ByteArray.mk_append_mk]; simp

end Go.Proofs.YtoldjbgojjafdaaGreatDoor
namespace Go.Proofs.YtoldjbgojjafdaaGreatDoor
open Go.RowKit
set_option linter.unusedSimpArgs false
set_option linter.unusedVariables false

set_option maxRecDepth 100000 in
set_option maxHeartbeats 1000000 in
theorem putUc_any (N : Int) (w : World) (h0 : 0 ≤ N) (h1 : N ≤ 18446744073709551615) :
    Calls Tryz.prog 84 #[.int .u64 N] w fun e w' => e = .returned (.string (Cd.bs (Cd.putU N.toNat))) ∧ Below w.heap.size w w' := by
  obtain ⟨i0, hi, hz0, hz1, hz2⟩ := info_parts info_u8
  obtain ⟨n, rfl⟩ := Int.eq_ofNat_of_zero_le h0
  have hN : n < 18446744073709551616 := by omega
  have HN := Lib.hid hN
  rw [Int.toNat_natCast]
  clear h0 h1 hN
  go_enter Tryz.func84, Tryz.ntmps84
  go_wp2_with fail
  go_loopw [0, 3] (fun i v wr => ∃ (m : Nat) (acc : List UInt8), i = .int .u64 m ∧ acc.length ≤ 9 ∧ wr.ownsRow w.heap.size 5 1 v acc.length (Cd.cs acc) ∧ Below w.heap.size w wr ∧ m * 128 ^ acc.length ≤ n ∧ Cd.putU n = acc ++ Cd.putU m) (fun i _ _ => (intOf i).toNat)
  case atStart => exact ⟨n, [], rfl, Nat.zero_le _, World.ownsRow_nil _ _ _ _, Below.refl _ _, by simp, rfl⟩
  case round =>
    obtain ⟨m, acc, rfl, hal, hown, hb, hroom, hgo⟩ := hrel
    have HG := Lib.hid hgo
    have HR := Lib.hid hroom
    clear hgo hroom
    have hbs := hb.size
    by_cases hm : 128 ≤ m
    · go_wp2_with (at_builtin; refine wpList_append_own _ rfl _ _ 173 rfl w.heap.size 5 i0 (.int .u8 0) 1 1 Tryz.underlying173 hi hz0 hz1 hz2 rfl (by decide) _ _ _ rfl (hown.alloc _) ⟨wr.heap.size, 0, none⟩ 1 1 [_] rfl rfl (cell_one_new _ _ _) (by simp [Value.oneCell']) (by unfold maxLen; omega) (by omega) (by simp; omega) ?_; intro v' w1 hown' hgrow _; have hb' := (hb.alloc hbs (.cells #[_] 5)).grown hgrow (by simp; omega) (fun j hj => (hown.lt j hj).1); clear hgrow)
      have hr := Cd.put_step HR.out
      have hk := Cd.put_room hr HN.out (by omega)
      have hw : IntKind.u64.wrap ((m : Int) / 128) = ((m / 128 : Nat) : Int) := by
        have hle : m * 1 ≤ m * 128 ^ acc.length := Nat.mul_le_mul_left _ (Cd.pow_pos' _)
        have := HR.out
        have := HN.out
        rw [show ((m : Int) / 128) = ((m / 128 : Nat) : Int) from by omega, Cd.wrapU_nat (by omega)]
      have HR2 := Lib.hid hr
      have HK := Lib.hid hk
      clear hr hk
      go_roundw
      case rel => exact ⟨m / 128, acc ++ [UInt8.ofNat (m % 128 + 128)], by first | rfl | rw [hw], by simpa using HK.out, Cd.own_snoc (c := UInt8.ofNat (m % 128 + 128)) (Cd.byte_or m) rfl hown', hb', by simpa using HR2.out, by rw [HG.out, Cd.putU_more hm]; simp⟩
      case measure => (try rw [hw]); simp [intOf]; omega
    · have hlt : m < 128 := by omega
      go_wp2_with (at_builtin; refine wpList_append_own _ rfl _ _ 173 rfl w.heap.size 5 i0 (.int .u8 0) 1 1 Tryz.underlying173 hi hz0 hz1 hz2 rfl (by decide) _ _ _ rfl (hown.alloc _) ⟨wr.heap.size, 0, none⟩ 1 1 [_] rfl rfl (cell_one_new _ _ _) (by simp [Value.oneCell']) (by unfold maxLen; omega) (by omega) (by simp; omega) ?_; intro v' w1 hown' hgrow _; have hb' := (hb.alloc hbs (.cells #[_] 5)).grown hgrow (by simp; omega) (fun j hj => (hown.lt j hj).1); clear hgrow; have hcv := conv_any (Cd.own_snoc (c := UInt8.ofNat m) (Cd.byte_low (by omega)) rfl hown'))
      go_ret
      exact ⟨by rw [HG.out, Cd.putU_last hlt]; rfl, hb'⟩
end Go.Proofs.YtoldjbgojjafdaaGreatDoor

/-
  Ranges over a function whose iterator has state of its own, in cells and in loops within it: what an iterator owes, what its caller owes.
  The blocks that are private to the iterator (and to the loop's book-keeping) are told by name: a set R that grows.
-/
namespace Go.Proofs.YtoldjbgojjafdaaGreatDoor
open Go.RowKit
set_option linter.unusedVariables false
namespace Sq

abbrev Blocks := Nat → Prop

/-- of the blocks of T that lay none has turned -/
structure Kept (T : Blocks) (w w' : World) : Prop where
  os : w'.os = w.os
  tape : w'.tape = w.tape
  output : w'.output = w.output
  size : w.heap.size ≤ w'.heap.size
  block : ∀ k, T k → k < w.heap.size → w'.heap[k]? = w.heap[k]?

theorem Kept.refl (T : Blocks) (w : World) : Kept T w w := ⟨rfl, rfl, rfl, Nat.le_refl _, fun _ _ _ => rfl⟩
theorem Kept.trans {T : Blocks} {a b c : World} (h : Kept T a b) (k : Kept T b c) : Kept T a c :=
  ⟨k.os.trans h.os, k.tape.trans h.tape, k.output.trans h.output, Nat.le_trans h.size k.size, fun i hi hl => (k.block i hi (Nat.lt_of_lt_of_le hl h.size)).trans (h.block i hi hl)⟩
theorem Kept.less {T T' : Blocks} {a b : World} (h : Kept T a b) (hT : ∀ k, T' k → k < a.heap.size → T k) : Kept T' a b :=
  ⟨h.os, h.tape, h.output, h.size, fun i hi hl => h.block i (hT i hi hl) hl⟩
theorem Kept.alloc (T : Blocks) (w : World) (o : Obj) : Kept T w (w.alloc o) :=
  ⟨rfl, rfl, rfl, by simp, fun k _ hl => Below.heap_alloc _ _ _ hl⟩
theorem Kept.drew (T : Blocks) (w : World) : Kept T w w.drew := ⟨rfl, rfl, rfl, Nat.le_refl _, fun _ _ _ => rfl⟩
theorem Kept.drewN (T : Blocks) (w : World) (n : Nat) : Kept T w (w.drewN n) := ⟨rfl, rfl, rfl, Nat.le_refl _, fun _ _ _ => rfl⟩
theorem Kept.setCell {T : Blocks} (w : World) {p : Addr} (v : Value) (h : ¬ T p.block) : Kept T w (w.setCell p v) :=
  ⟨rfl, rfl, rfl, by simp [World.setCell], fun k hk _ => Below.heap_setCell _ _ _ _ (fun e => h (e ▸ hk))⟩
theorem Kept.putObj {T : Blocks} (w : World) {l : Nat} (o : Obj) (h : ¬ T l) : Kept T w (w.putObj l o) :=
  ⟨rfl, rfl, rfl, by simp, fun k hk _ => World.putObj_heap_other (fun e => h (e ▸ hk))⟩
theorem Kept.grown {T : Blocks} {w w' : World} {row : Option Nat} (hg : w.grownBy w' row) (h : ∀ r, row = some r → ¬ T r) : Kept T w w' :=
  ⟨hg.os, hg.tape, hg.output, hg.size, fun k hk hl => hg.block k hl (fun e => h k e.symm hk)⟩
theorem Kept.of_below {T : Blocks} {w w' : World} (h : Below w.heap.size w w') : Kept T w w' :=
  ⟨h.os, h.tape, h.output, h.size, fun k _ hl => h.block k hl⟩
theorem Kept.below {T : Blocks} {w w' : World} {B : Nat} (h : Kept T w w') (hT : ∀ k, k < B → T k) (hB : B ≤ w.heap.size) : Below B w w' :=
  ⟨h.os, h.tape, h.output, h.size, fun k hk => h.block k (hT k hk) (Nat.lt_of_lt_of_le hk hB)⟩
theorem Kept.cell {T : Blocks} {w w' : World} (h : Kept T w w') {p : Addr} {v : Value} (hT : T p.block) (hc : w.cell? p = some v) : w'.cell? p = some v := by
  have hl : p.block < w.heap.size := by
    obtain ⟨o, ho, _⟩ := cells_of_cell hc
    exact (Array.getElem?_eq_some_iff.1 ho).1
  rw [← hc]
  exact World.cell?_of_block (w := w) (h.block _ hT hl)
theorem Kept.boxed {T : Blocks} {w w' : World} (h : Kept T w w') {B : Nat} {t : TypeId} {v : Value} (hT : T B) (hb : Boxed w B t v) : Boxed w' B t v := (h.block B hT hb.lt).trans hb

/-- A STEP OF THE ITERATOR's OWN: of what lay only blocks of R have turned; R' is R and new blocks. -/
structure Step (R R' : Blocks) (w w' : World) : Prop where
  kept : Kept (fun k => ¬ R k) w w'
  sub : ∀ k, R k → R' k
  new : ∀ k, R' k → R k ∨ w.heap.size ≤ k

theorem Step.refl (R : Blocks) (w : World) : Step R R w w := ⟨Kept.refl _ _, fun _ h => h, fun _ h => .inl h⟩
theorem Step.alloc (R : Blocks) (w : World) (o : Obj) : Step R (fun k => R k ∨ k = w.heap.size) w (w.alloc o) :=
  ⟨Kept.alloc _ _ _, fun _ h => .inl h, fun _ h => h.elim .inl (fun e => .inr (Nat.le_of_eq e.symm))⟩
theorem Step.alloc0 (R : Blocks) (w : World) (o : Obj) : Step R R w (w.alloc o) := ⟨Kept.alloc _ _ _, fun _ h => h, fun _ h => .inl h⟩
theorem Step.below {R : Blocks} {w w' : World} (h : Below w.heap.size w w') : Step R R w w' := ⟨Kept.of_below h, fun _ h => h, fun _ h => .inl h⟩
theorem Step.setCell {R : Blocks} (w : World) {p : Addr} (v : Value) (h : R p.block) : Step R R w (w.setCell p v) := ⟨Kept.setCell _ _ (fun hn => hn h), fun _ h => h, fun _ h => .inl h⟩
theorem Step.putObj {R : Blocks} (w : World) {l : Nat} (o : Obj) (h : R l) : Step R R w (w.putObj l o) := ⟨Kept.putObj _ _ (fun hn => hn h), fun _ h => h, fun _ h => .inl h⟩
theorem Step.drew (R : Blocks) (w : World) : Step R R w w.drew := ⟨Kept.drew _ _, fun _ h => h, fun _ h => .inl h⟩
theorem Step.trans {R R' R'' : Blocks} {a b c : World} (h : Step R R' a b) (k : Step R' R'' b c) : Step R R'' a c :=
  ⟨⟨k.kept.os.trans h.kept.os, k.kept.tape.trans h.kept.tape, k.kept.output.trans h.kept.output, Nat.le_trans h.kept.size k.kept.size, fun i hi hl =>
      (k.kept.block i (fun hr => (h.new i hr).elim hi (fun h2 => by omega)) (Nat.lt_of_lt_of_le hl h.kept.size)).trans (h.kept.block i hi hl)⟩,
    fun i hi => k.sub i (h.sub i hi), fun i hi => (k.new i hi).elim (h.new i) (fun hl => .inr (Nat.le_trans h.kept.size hl))⟩

/-- what the caller says abides every step of the iterator's own -/
def Steady {β : Type} (J : Blocks → β → World → Prop) : Prop := ∀ R R' s W W', J R s W → Step R R' W W' → J R' s W'

theorem Steady.and {β : Type} {J J' : Blocks → β → World → Prop} (h : Steady J) (h' : Steady J') : Steady (fun R s W => J R s W ∧ J' R s W) :=
  fun R R' s W W' hs st => ⟨h R R' s W W' hs.1 st, h' R R' s W W' hs.2 st⟩
theorem Steady.ex {β γ : Type} {J : γ → Blocks → β → World → Prop} (h : ∀ c, Steady (J c)) : Steady (fun R s W => ∃ c, J c R s W) :=
  fun R R' s W W' ⟨c, hs⟩ st => ⟨c, h c R R' s W W' hs st⟩
theorem Steady.pure {β : Type} (p : β → Prop) : Steady (fun _ s (_ : World) => p s) := fun _ _ _ _ _ hs _ => hs
theorem Steady.no {β : Type} : Steady (fun _ (_ : β) (_ : World) => False) := fun _ _ _ _ _ hs _ => hs
theorem step_not {R R' : Blocks} {W W' : World} (st : Step R R' W W') {b : Nat} (hl : b < W.heap.size) (hn : ¬ R b) : ¬ R' b :=
  fun h => (st.new b h).elim hn (fun h2 => by omega)
theorem step_obj {R R' : Blocks} {W W' : World} (st : Step R R' W W') {b : Nat} {o : Obj} (ho : W.heap[b]? = some o) (hn : ¬ R b) : W'.heap[b]? = some o ∧ ¬ R' b :=
  ⟨(st.kept.block b hn (Array.getElem?_eq_some_iff.1 ho).1).trans ho, step_not st (Array.getElem?_eq_some_iff.1 ho).1 hn⟩
theorem Steady.obj {β : Type} (b : Nat) (o : β → Obj) : Steady (fun R s W => W.heap[b]? = some (o s) ∧ ¬ R b) := fun _ _ _ _ _ hs st => step_obj st hs.1 hs.2
theorem Steady.box {β : Type} (b : Nat) (t : TypeId) (v : β → Value) : Steady (fun R s W => Boxed W b t (v s) ∧ ¬ R b) := fun _ _ _ _ _ hs st => step_obj st hs.1 hs.2
theorem Steady.kept {β : Type} (T : Blocks) (w : World) : Steady (fun R (_ : β) W => Kept T w W ∧ ∀ k, T k → k < w.heap.size → ¬ R k) := fun R R' s W W' hs st =>
  ⟨⟨st.kept.os.trans hs.1.os, st.kept.tape.trans hs.1.tape, st.kept.output.trans hs.1.output, Nat.le_trans hs.1.size st.kept.size, fun k hk hl =>
      (st.kept.block k (hs.2 k hk hl) (Nat.lt_of_lt_of_le hl hs.1.size)).trans (hs.1.block k hk hl)⟩,
    fun k hk hl hr => step_not st (Nat.lt_of_lt_of_le hl hs.1.size) (hs.2 k hk hl) hr⟩
theorem Steady.row {β : Type} (n₀ : Nat) (e : TypeId) (size : Nat) (v : β → Value) (n : β → Nat) (f : β → List Value) :
    Steady (fun R s W => W.ownsRow n₀ e size (v s) (n s) (f s) ∧ ∀ g, (v s).ownBlock = some g → ¬ R g) := by
  rintro R R' s W W' ⟨hs, hn⟩ st
  rcases hs with ⟨h0, h1 | ⟨g, cap, cur, h1, h2, h3, h4⟩⟩
  · exact ⟨⟨h0, .inl h1⟩, fun g hg => by rw [h1.1] at hg; simp [Value.ownBlock] at hg⟩
  · have hg : ¬ R g := hn g (by rw [h1]; rfl)
    obtain ⟨k1, k2⟩ := step_obj st h3 hg
    refine ⟨⟨h0, .inr ⟨g, cap, cur, h1, h2, k1, h4⟩⟩, fun g' hg' => ?_⟩
    rw [h1] at hg'
    obtain rfl : g = g' := by simpa [Value.ownBlock] using hg'
    exact k2

theorem Step.or {R R' : Blocks} {X Y : World} (M : Blocks) (st : Step R R' X Y) : Step (fun k => R k ∨ M k) (fun k => R' k ∨ M k) X Y :=
  ⟨st.kept.less fun k hk _ h => hk (.inl h), fun k h => h.elim (fun h => .inl (st.sub k h)) .inr, fun k h => h.elim (fun h => (st.new k h).elim (fun h => .inl (.inl h)) .inr) (fun h => .inl (.inr h))⟩
theorem Steady.or {β γ : Type} {J : Blocks → β → World → Prop} (h : Steady J) (M : Blocks) (f : γ → β) : Steady (fun R s W => J (fun k => R k ∨ M k) (f s) W) :=
  fun _ _ _ _ _ hs st => h _ _ _ _ _ hs (st.or M)

theorem room_none {F : Fence} (hd : F.depth = none) (k : Nat) : F.room k := fun d h => by rw [hd] at h; cases h
/-- where no depth is asked the figures are all one -/
theorem anyDepth {F : Fence} (hd : F.depth = none) {m : Nat} (m' : Nat) {P : Program} {l : Nat} {args : Array Value} {W : World} {R : Ending → World → Prop} (h : YieldAt F m P l args W R) : YieldAt F m' P l args W R := by
  obtain ⟨fn, tmps, assign, body, hy, hR⟩ := h
  exact ⟨fn, tmps, assign, body, hy, hR.1, fun c cs _ => hR.2 c cs (room_none hd _)⟩

theorem round_in {F : Fence} {m : Nat} {P : Program} {l f : Nat} {tmps : Array Value} {assign body : Code} {w : World} {R : Ending → World → Prop} (lr : Nat) (h : RoundIn F m P l f tmps assign body w R) : RoundIn (F.inRound lr) m P l f tmps assign body w R := h

/-- WHAT AN ITERATOR OWES: called at whatever loop's yield, it hands on a row's elements one by one: S of all, Sp of each beginning. T: the blocks that it reads and does not write. -/
def SeqC {α : Type} (F : Fence) (n : Nat) (P : Program) (g : Nat) (lb : Array Value) (encs : α → Array Value) (T : Blocks) (S Sp : List α → Prop) (w : World) : Prop :=
  ∀ (l : Nat) (J Jx : Blocks → List α → World → Prop) (W : World), Kept T w W → Steady J → Steady Jx →
    (∀ R pre x W1, J R pre W1 → (∀ k, R k → W.heap.size ≤ k ∧ k < W1.heap.size) → Sp (pre ++ [x]) → YieldAt F (n - 1) P l (encs x) W1 fun e W' =>
      (e = .returned (.bool true) ∧ J R (pre ++ [x]) W' ∧ Kept (fun k => R k ∨ T k) W1 W') ∨ (e = .returned (.bool false) ∧ Jx R (pre ++ [x]) W' ∧ Kept (fun k => R k ∨ T k) W1 W')) →
    J (fun _ => False) [] W →
    CallsIn F n P g (#[.func (.yield l) #[] #[]] ++ lb) W fun e W' => (∃ v, e = .returned v) ∧ ((∃ xs R, S xs ∧ J R xs W') ∨ (∃ pre R, Sp pre ∧ Jx R pre W'))

/-- HOW THE BODY OF A ROUND MAY BE LEFT. -/
def post {α : Type} (T : Blocks) (I : Blocks → List α → World → Prop) (Ix : Code → Blocks → List α → World → Prop) (R : Blocks) (xs : List α) (W : World) : Exit → Act → World → Prop
  | .normal, _, W' => Kept (fun k => R k ∨ T k) W W' ∧ I R xs W'
  | .ret, _, W' => Kept (fun k => R k ∨ T k) W W' ∧ Ix .ret R xs W'
  | .exit id, _, W' => Kept (fun k => R k ∨ T k) W W' ∧ Ix (.exit id) R xs W'
  | .goto t, _, W' => Kept (fun k => R k ∨ T k) W W' ∧ Ix (.goto t) R xs W'
  | .panic _, _, _ => False
  | .outgrown, _, _ => False

variable {F : Fence} {n : Nat} {P : Program}

/-- THE STATEMENT 'for .. := range seq { body }', outside of every other such loop's round. -/
theorem wp_range {α : Type} {g : Operand} {ps : Array Tmp} {assign body : Code} {Q : Exit → Act → World → Prop} {a : Act} {w : World}
    (hro : F.round = none) (h1 : 1 ≤ n) {gf : Nat} {lb : Array Value} (hg : a.eval g = .func (.func gf) #[] lb) (hFg : F.fn gf) (eg : ∀ args w, (callFunc gf args).run P w = .ok (.enter gf args) w)
    {encs : α → Array Value} {T : Blocks} {S Sp : List α → Prop} (hseq : SeqC F (n - 1) P gf lb encs T S Sp w) (hT : ∀ k, T k → k < w.heap.size) (hps : ∀ x, (encs x).size = ps.size)
    (I : Blocks → List α → World → Prop) (Ix : Code → Blocks → List α → World → Prop) (Ia : Act → α → Blocks → List α → World → Prop)
    (hI : Steady I) (hIx : ∀ c, Steady (Ix c)) (hIa : ∀ a' x, Steady (Ia a' x)) (h0 : I (fun _ => False) [] w)
    (hassign : ∀ (l : Nat) (R : Blocks) (pre : List α) (x : α) (W : World), (∀ k, R k → w.heap.size ≤ k ∧ k < W.heap.size) → Sp (pre ++ [x]) → I R pre W →
      assign.wpIn (F.inRound l) (n - 1 - 1) P (Exit.then (fun a' W' => Kept (fun k => R k ∨ T k) W W' ∧ Ia a' x R pre W') (fun _ _ _ => False)) { tmps := (ps.zip (encs x)).foldl (fun t (p, v) => t.setIfInBounds p v) a.tmps, defers := [] } W)
    (hbody : ∀ (l : Nat) (R : Blocks) (pre : List α) (x : α) (a' : Act) (W : World), R l → (∃ r, W.heap[l]? = some (.loop r)) → (∀ k, R k → w.heap.size ≤ k ∧ k < W.heap.size) → Sp (pre ++ [x]) → Ia a' x R pre W →
      body.wpIn (F.inRound l) (n - 1 - 1) P (post T I Ix R (pre ++ [x]) W) a' W)
    (hdone : ∀ (D : Nat) (R : Blocks) (xs : List α) (W : World), w.heap.size ≤ D → R D → S xs → I R xs W → W.heap[D]? = some (.deferred (some [])) → Q .normal { a with defers := { target := .collected D, args := #[] } :: a.defers } W)
    (hstop : ∀ (D : Nat) (R : Blocks) (c : Code) (pre : List α) (W : World), w.heap.size ≤ D → R D → Sp pre → Ix c R pre W → W.heap[D]? = some (.deferred (some [])) → c.wpIn F n P Q { a with defers := { target := .collected D, args := #[] } :: a.defers } W) :
    (Code.rangeFunc g ps assign body).wpIn F n P Q a w := by
  refine wpIn_rangeFunc ?_
  intro fn hfn
  rw [hro]
  obtain ⟨rec, hrec⟩ : ∃ rec : LoopState → Option Code → Loop, rec = fun st pe => { state := st, pending := pe, fn, tmps := a.tmps, params := ps, assign, body, defers := w.heap.size } := ⟨_, rfl⟩
  obtain ⟨D, hD⟩ : ∃ D, D = w.heap.size := ⟨_, rfl⟩
  obtain ⟨W1, hW1⟩ : ∃ W1, (w.alloc (.deferred (some []))).alloc (.loop (rec .ready none)) = W1 := ⟨_, rfl⟩
  have hsz1 : W1.heap.size = D + 2 := by rw [← hW1]; simp; omega
  -- the blocks of the book-keeping beside those of the iterator's
  let R2 : Blocks → Blocks := fun R k => R k ∨ (k = D ∨ k = D + 1)
  have st0 : Step (fun _ => False) (R2 fun _ => False) w W1 := by
    rw [← hW1]
    refine ⟨(Kept.alloc _ _ _).trans (Kept.alloc _ _ _), fun _ h => h.elim, fun k h => ?_⟩
    rcases h with h | h | h
    · exact h.elim
    · exact .inr (by omega)
    · exact .inr (by omega)
  have hL1 : W1.heap[D + 1]? = some (.loop (rec .ready none)) := by
    rw [← hW1]; have := World.alloc_heap_new (w.alloc (.deferred (some []))) (.loop (rec .ready none)); rw [World.size_alloc, ← hD] at this; exact this
  have hK1 : W1.heap[D]? = some (.deferred (some [])) := by
    rw [← hW1, hD]; exact (Below.heap_alloc _ _ _ (by simp)).trans (World.alloc_heap_new w _)
  have hkT : Kept T w W1 := by rw [← hW1]; exact (Kept.alloc _ _ _).trans (Kept.alloc _ _ _)
  have step2 : ∀ {R R' : Blocks} {X Y : World}, Step R R' X Y → Step (R2 R) (R2 R') X Y := fun st =>
    ⟨st.kept.less fun k hk _ h => hk (.inl h), fun k h => h.elim (fun h => .inl (st.sub k h)) .inr, fun k h => h.elim (fun h => (st.new k h).elim (fun h => .inl (.inl h)) .inr) (fun h => .inl (.inr h))⟩
  refine ⟨D + 1, [{ target := .collected D, args := #[] }], W1, { target := .fn (.func gf) lb, args := #[.func (.yield (D + 1)) #[] #[]] }, W1, gf,
    #[.func (.yield (D + 1)) #[] #[]] ++ lb, W1, ?_, ?_, ?_, ?_, fun _ => h1, ?_⟩
  · rw [← hW1, hrec, hD]; exact run_enterLoop_outer _ _ _ _ _
  · simp only [resolve, hg]
    simp [go_sem]
  · intro f' hf'; simp [Target.leads] at hf'; subst hf'; exact hFg
  · simp [invoke, go_sem, eg]
  · refine (hseq (D + 1)
      (fun R pre W => I (R2 R) pre W ∧ (W.heap[D + 1]? = some (.loop (rec .ready none)) ∧ ¬ R (D + 1)) ∧ (W.heap[D]? = some (.deferred (some [])) ∧ ¬ R D))
      (fun R pre W => ∃ c, Ix c (R2 R) pre W ∧ (W.heap[D + 1]? = some (.loop (rec .done (some c))) ∧ ¬ R (D + 1)) ∧ (W.heap[D]? = some (.deferred (some [])) ∧ ¬ R D))
      W1 hkT
      (fun R R' s X Y hs st => ⟨hI _ _ _ _ _ hs.1 (step2 st), step_obj st hs.2.1.1 hs.2.1.2, step_obj st hs.2.2.1 hs.2.2.2⟩)
      (fun R R' s X Y ⟨c, hs⟩ st => ⟨c, hIx c _ _ _ _ _ hs.1 (step2 st), step_obj st hs.2.1.1 hs.2.1.2, step_obj st hs.2.2.1 hs.2.2.2⟩)
      ?_ ⟨hI _ _ _ _ _ h0 st0, ⟨hL1, fun h => h⟩, ⟨hK1, fun h => h⟩⟩).mono ?_
    · -- one round
      rintro R pre x W ⟨hi, ⟨hl, hnl⟩, ⟨hk, hnk⟩⟩ hbd hsp
      have hlt : D + 1 < W.heap.size := (Array.getElem?_eq_some_iff.1 hl).1
      have hbd2 : ∀ (X : World), W.heap.size ≤ X.heap.size → ∀ k, R2 R k → w.heap.size ≤ k ∧ k < X.heap.size := fun X hX k h => by
        rcases h with h | h | h
        · have := hbd k h; omega
        · omega
        · omega
      have hy := run_yield (P := P) (args := encs x) hl (by rw [hrec]; exact hps x)
      rw [hrec] at hy
      refine ⟨fn, _, assign, body, hy, roundIn_of_wpIn hfn ?_⟩
      clear hy
      refine wpIn_mono (hassign (D + 1) (R2 R) pre x W (hbd2 W (Nat.le_refl _)) hsp hi) ?_
      rintro e a' Wa hpost
      cases e with
      | normal =>
        obtain ⟨hka, hia⟩ := hpost
        have hla : Wa.heap[D + 1]? = some (.loop (rec .ready none)) := (hka.block (D + 1) (.inl (.inr (.inr rfl))) hlt).trans hl
        have hka2 : Wa.heap[D]? = some (.deferred (some [])) := (hka.block D (.inl (.inr (.inl rfl))) (by omega)).trans hk
        have hlta : D + 1 < Wa.heap.size := (Array.getElem?_eq_some_iff.1 hla).1
        refine ⟨_, run_beginRound hla (by rw [hrec]), ?_⟩
        obtain ⟨Wb, hWb⟩ : ∃ Wb, Wa.putObj (D + 1) (.loop { rec .ready none with state := .busy }) = Wb := ⟨_, rfl⟩
        have hlb : Wb.heap[D + 1]? = some (.loop { rec .ready none with state := .busy }) := by rw [← hWb]; exact World.putObj_heap_same hlta
        have hkb : Wb.heap[D]? = some (.deferred (some [])) := by rw [← hWb]; exact (World.putObj_heap_other (by omega)).trans hka2
        have hszb : Wb.heap.size = Wa.heap.size := by rw [← hWb]; simp
        have keptb : ∀ T' : Blocks, ¬ T' (D + 1) → Kept T' Wa Wb := fun T' h => by rw [← hWb]; exact Kept.putObj _ _ h
        have hib := hIa a' x _ _ _ _ _ hia (show Step (R2 R) (R2 R) Wa Wb by rw [← hWb]; exact Step.putObj (R := R2 R) Wa _ (.inr (.inr rfl)))
        have hbody' := hbody (D + 1) (R2 R) pre x a' Wb (.inr (.inr rfl)) ⟨_, hlb⟩ (hbd2 Wb (by rw [hszb]; exact hka.size)) hsp hib
        show Code.wpIn _ _ _ _ _ _ _
        rw [hWb]
        refine wpIn_mono hbody' ?_
        have hnT : ¬ (fun k => R k ∨ T k) (D + 1) := fun h => h.elim hnl (fun h => by have := hT _ h; omega)
        have fin : ∀ (jump : Option Code) (W3 : World), Kept (fun k => R2 R k ∨ T k) Wb W3 →
            (Instr.endRound (D + 1) jump).run P W3 = .ok (.bool jump.isNone) (W3.putObj (D + 1) (.loop (rec (if jump.isNone then .ready else .done) jump))) ∧
            (W3.putObj (D + 1) (.loop (rec (if jump.isNone then .ready else .done) jump))).heap[D + 1]? = some (.loop (rec (if jump.isNone then .ready else .done) jump)) ∧
            (W3.putObj (D + 1) (.loop (rec (if jump.isNone then .ready else .done) jump))).heap[D]? = some (.deferred (some [])) ∧
            Kept (fun k => R k ∨ T k) W (W3.putObj (D + 1) (.loop (rec (if jump.isNone then .ready else .done) jump))) := fun jump W3 hk3 => by
          have hl3 := (hk3.block (D + 1) (.inl (.inr (.inr rfl))) (by omega)).trans hlb
          have := run_endRound (P := P) jump hl3
          rw [hrec] at this
          refine ⟨by rw [hrec]; exact this, World.putObj_heap_same (Array.getElem?_eq_some_iff.1 hl3).1, (World.putObj_heap_other (by omega)).trans ((hk3.block D (.inl (.inr (.inl rfl))) (by omega)).trans hkb), ?_⟩
          refine ((hka.less ?_).trans (keptb _ hnT)).trans ((hk3.less ?_).trans (Kept.putObj _ _ hnT))
          · exact fun k h _ => h.elim (fun h => .inl (.inl h)) .inr
          · exact fun k h _ => h.elim (fun h => .inl (.inl h)) .inr
        rintro e a3 W3 hp
        cases e with
        | normal =>
          obtain ⟨hk3, hi3⟩ := hp
          obtain ⟨hr, hl4, hk4, hkk⟩ := fin none W3 hk3
          exact ⟨_, _, hr, .inl ⟨rfl, ⟨hI _ _ _ _ _ hi3 (Step.putObj _ _ (.inr (.inr rfl))), ⟨hl4, hnl⟩, ⟨hk4, hnk⟩⟩, hkk⟩⟩
        | ret =>
          obtain ⟨hk3, hi3⟩ := hp
          obtain ⟨hr, hl4, hk4, hkk⟩ := fin (some .ret) W3 hk3
          exact ⟨_, _, hr, .inr ⟨rfl, ⟨.ret, hIx _ _ _ _ _ _ hi3 (Step.putObj _ _ (.inr (.inr rfl))), ⟨hl4, hnl⟩, ⟨hk4, hnk⟩⟩, hkk⟩⟩
        | exit id =>
          obtain ⟨hk3, hi3⟩ := hp
          obtain ⟨hr, hl4, hk4, hkk⟩ := fin (some (.exit id)) W3 hk3
          exact ⟨_, _, hr, .inr ⟨rfl, ⟨.exit id, hIx _ _ _ _ _ _ hi3 (Step.putObj _ _ (.inr (.inr rfl))), ⟨hl4, hnl⟩, ⟨hk4, hnk⟩⟩, hkk⟩⟩
        | goto t =>
          obtain ⟨hk3, hi3⟩ := hp
          obtain ⟨hr, hl4, hk4, hkk⟩ := fin (some (.goto t)) W3 hk3
          exact ⟨_, _, hr, .inr ⟨rfl, ⟨.goto t, hIx _ _ _ _ _ _ hi3 (Step.putObj _ _ (.inr (.inr rfl))), ⟨hl4, hnl⟩, ⟨hk4, hnk⟩⟩, hkk⟩⟩
        | panic ch => exact hp.elim
        | outgrown => exact hp.elim
      | ret => exact hpost.elim
      | exit id => exact hpost.elim
      | goto t => exact hpost.elim
      | panic ch => exact hpost.elim
      | outgrown => exact hpost.elim
    · -- behind the iterator
      rintro e W2 ⟨⟨v, rfl⟩, (⟨xs, R, hS, hi, ⟨hl, hnl⟩, ⟨hk, hnk⟩⟩ | ⟨pre, R, hSp, c, hi, ⟨hl, hnl⟩, ⟨hk, hnk⟩⟩)⟩
      · exact ⟨none, _, by have := run_endLoop (P := P) hl (by rw [hrec]; simp); rw [hrec] at this; exact this,
          hdone D (R2 R) xs _ (by omega) (.inr (.inl rfl)) hS (hI _ _ _ _ _ hi (Step.putObj _ _ (.inr (.inr rfl)))) ((World.putObj_heap_other (by omega)).trans hk)⟩
      · exact ⟨some c, _, by have := run_endLoop (P := P) hl (by rw [hrec]; simp); rw [hrec] at this; exact this,
          hstop D (R2 R) c pre _ (by omega) (.inr (.inl rfl)) hSp (hIx c _ _ _ _ _ hi (Step.putObj _ _ (.inr (.inr rfl)))) ((World.putObj_heap_other (by omega)).trans hk)⟩

/-- what a function that has left several such loops owes at its return -/
abbrev mark (D : Nat) : Deferred := { target := .collected D, args := #[] }
theorem leaves_marks {fn : Func} {tmps : Array Value} {R : Ending → World → Prop} : ∀ (Ds : List Nat) (W : World), Ds.Nodup → (∀ D ∈ Ds, W.heap[D]? = some (.deferred (some []))) →
    (∀ W', Kept (fun k => k ∉ Ds) W W' → LeavesIn F n P fn tmps R [] .returning W') → LeavesInM F n P fn tmps R (Ds.map mark) .returning W
  | [], W, _, _, h => h W (Kept.refl _ _)
  | D :: Ds, W, hnd, hW, h => by
    have hnd' := List.nodup_cons.1 hnd
    refine ⟨by simp, .inl ⟨D, _, rfl, run_takeDeferred (hW D (List.mem_cons_self ..)), ?_⟩⟩
    refine leaves_marks Ds _ hnd'.2 (fun E hE => ?_) (fun W' hk => h W' ?_)
    · exact (World.putObj_heap_other (fun e => by subst e; exact hnd'.1 hE)).trans (hW E (List.mem_cons_of_mem _ hE))
    · exact (Kept.putObj W _ (fun hn => hn (List.mem_cons_self ..))).trans (hk.less fun k hk _ hm => hk (List.mem_cons_of_mem _ hm))

/-- a row that is owned, by cases -/
theorem row_cases {w : World} {base : Nat} {e : TypeId} {size : Nat} {v : Value} {m : Nat} {xs : List Value} (h : w.ownsRow base e size v m xs) :
    ∃ ao cap, v = .slice ao m cap ∧ (0 < m → ∃ g, ao = some ⟨g, 0, none⟩ ∧ base ≤ g ∧ g < w.heap.size) := by
  rcases h.2 with ⟨rfl, rfl⟩ | ⟨g, cap, cur, rfl, h2, h3, _⟩
  · exact ⟨none, 0, rfl, fun h => by omega⟩
  · exact ⟨_, cap, rfl, fun _ => ⟨g, rfl, h2, (Array.getElem?_eq_some_iff.1 h3).1⟩⟩
theorem row_kept {T : Blocks} {w w' : World} {base : Nat} {e : TypeId} {size : Nat} {v : Value} {m : Nat} {xs : List Value} (h : w.ownsRow base e size v m xs) (hk : Kept T w w') (hT : ∀ g, v.ownBlock = some g → T g) :
    w'.ownsRow base e size v m xs := by
  rcases h with ⟨h0, h1 | ⟨g, cap, cur, h1, h2, h3, h4⟩⟩
  · exact ⟨h0, .inl h1⟩
  · exact ⟨h0, .inr ⟨g, cap, cur, h1, h2, (hk.block g (hT g (by rw [h1]; rfl)) (Array.getElem?_eq_some_iff.1 h3).1).trans h3, h4⟩⟩
end Sq
end Go.Proofs.YtoldjbgojjafdaaGreatDoor

/-
  An object in a block of its own: its cells, a store into one, and what keeps it.
-/
namespace Go.Proofs.YtoldjbgojjafdaaGreatDoor
open Go.RowKit
set_option linter.unusedVariables false
namespace Ob

/-- block b is an object of type t whose cells are cs -/
def Obj (W : World) (b : Nat) (t : TypeId) (cs : List Value) : Prop := W.heap[b]? = some (.cells cs.toArray t (0, 0))

theorem Obj.lt {W : World} {b : Nat} {t : TypeId} {cs : List Value} (h : Obj W b t cs) : b < W.heap.size := (Array.getElem?_eq_some_iff.1 h).1
theorem Obj.cell {W : World} {b : Nat} {t : TypeId} {cs : List Value} (h : Obj W b t cs) (j : Nat) : W.cell? ⟨b, j, none⟩ = cs[j]? := by simp [World.cell?, show W.heap[b]? = _ from h]
theorem Obj.frozen {W : World} {b : Nat} {t : TypeId} {cs : List Value} (h : Obj W b t cs) (j : Nat) : W.frozen? ⟨b, j, none⟩ = false := by simp [World.frozen?, show W.heap[b]? = _ from h]
theorem Obj.new (W : World) (t : TypeId) (cs : List Value) : Obj (W.alloc (.cells cs.toArray t)) W.heap.size t cs := World.alloc_heap_new W _
theorem Obj.alloc {W : World} {b : Nat} {t : TypeId} {cs : List Value} (h : Obj W b t cs) (o : Go.Obj) : Obj (W.alloc o) b t cs := (Below.heap_alloc W o b h.lt).trans h
theorem Obj.set {W : World} {b : Nat} {t : TypeId} {cs : List Value} (h : Obj W b t cs) (j : Nat) (v : Value) : Obj (W.setCell ⟨b, j, none⟩ v) b t (cs.set j v) := by
  obtain ⟨hlt, hk⟩ := Array.getElem?_eq_some_iff.1 h
  show (W.heap.modify b _)[b]? = _
  rw [Array.getElem?_eq_getElem (by rw [Array.size_modify]; exact hlt), Array.getElem_modify_self, hk]
  simp
theorem Obj.other {W : World} {b : Nat} {t : TypeId} {cs : List Value} (h : Obj W b t cs) {p : Addr} (hp : b ≠ p.block) (v : Value) : Obj (W.setCell p v) b t cs := (Below.heap_setCell W p v b hp).trans h
theorem Obj.kept {T : Sq.Blocks} {W W' : World} {b : Nat} {t : TypeId} {cs : List Value} (h : Obj W b t cs) (hk : Sq.Kept T W W') (hT : T b) : Obj W' b t cs := (hk.block b hT h.lt).trans h
theorem Obj.below {W W' : World} {b : Nat} {t : TypeId} {cs : List Value} (h : Obj W b t cs) (hk : Below W.heap.size W W') : Obj W' b t cs := (hk.block b h.lt).trans h
theorem Obj.grown {W W' : World} {row : Option Nat} {b : Nat} {t : TypeId} {cs : List Value} (h : Obj W b t cs) (hg : W.grownBy W' row) (hr : row ≠ some b) : Obj W' b t cs := (hg.block b h.lt (Ne.symm hr)).trans h
theorem Obj.drew {W : World} {b : Nat} {t : TypeId} {cs : List Value} (h : Obj W b t cs) : Obj W.drew b t cs := h
/-- an object is no row of another type -/
theorem Obj.not_row {W : World} {b : Nat} {t e : TypeId} {cs : List Value} (h : Obj W b t cs) (hte : t ≠ e) {base size m : Nat} {v : Value} {xs : List Value} (hr : W.ownsRow base e size v m xs) : v.ownBlock ≠ some b := by
  rcases hr.2 with ⟨rfl, _⟩ | ⟨g, cap, cur, rfl, _, hgb, _⟩
  · simp [Value.ownBlock]
  · intro e'
    obtain rfl : g = b := by simpa [Value.ownBlock] using e'
    have := (show W.heap[g]? = _ from h).symm.trans hgb
    simp at this
    exact hte this.2
/-- two rows of different types are not one -/
theorem rows_apart {W : World} {b1 b2 : Nat} {t e : TypeId} {n1 n2 m1 m2 : Nat} {u v : Value} {xs ys : List Value} (h1 : W.ownsRow b1 t n1 u m1 xs) (h2 : W.ownsRow b2 e n2 v m2 ys) (hte : t ≠ e) : ∀ g, u.ownBlock = some g → v.ownBlock ≠ some g := by
  intro g hu hv
  rcases h1.2 with ⟨rfl, _⟩ | ⟨g1, cap1, cur1, rfl, _, hg1, _⟩
  · simp [Value.ownBlock] at hu
  · rcases h2.2 with ⟨rfl, _⟩ | ⟨g2, cap2, cur2, rfl, _, hg2, _⟩
    · simp [Value.ownBlock] at hv
    · obtain rfl : g1 = g := by simpa [Value.ownBlock] using hu
      obtain rfl : g2 = g1 := by simpa [Value.ownBlock] using hv
      rw [hg1] at hg2
      simp at hg2
      exact hte hg2.2
/-- a row lies on while another block is written -/
theorem row_other {W : World} {base size m : Nat} {e : TypeId} {v : Value} {xs : List Value} (h : W.ownsRow base e size v m xs) {p : Addr} (hp : v.ownBlock ≠ some p.block) (u : Value) : (W.setCell p u).ownsRow base e size v m xs := by
  rcases h with ⟨h0, h1 | ⟨g, cap, cur, h1, h2, h3, h4⟩⟩
  · exact ⟨h0, .inl h1⟩
  · exact ⟨h0, .inr ⟨g, cap, cur, h1, h2, (Below.heap_setCell W p u g (fun e => hp (by rw [h1, ← e]; rfl))).trans h3, h4⟩⟩
theorem row_lt {W : World} {base size m : Nat} {e : TypeId} {v : Value} {xs : List Value} (h : W.ownsRow base e size v m xs) {g : Nat} (hg : v.ownBlock = some g) : base ≤ g ∧ g < W.heap.size := by
  rcases h.2 with ⟨h1, _⟩ | ⟨g', cap', cur, h1, h2, h3, _⟩
  · rw [h1] at hg; simp [Value.ownBlock] at hg
  · rw [h1] at hg
    obtain rfl : g' = g := by simpa [Value.ownBlock] using hg
    exact ⟨h2, (Array.getElem?_eq_some_iff.1 h3).1⟩
end Ob
end Go.Proofs.YtoldjbgojjafdaaGreatDoor

/-
  The document's answers on logs' names (tapestryref05): Digits, Numbered, Name, Number.
-/
namespace Go.Proofs.YtoldjbgojjafdaaGreatDoor
open Go.RowKit
set_option linter.unusedSimpArgs false
set_option linter.unusedVariables false
namespace Wa
theorem info_u8 : (Tryz.prog.info? 5).map (fun i => (i.zero, i.size, i.bytes)) = some (some (.int .u8 0), 1, 1) := by kernel_rfl
theorem made_u8 (n : Nat) : (madeCells (Value.int .u8 0).cells (n * 1)).toList = List.replicate n (.int .u8 0) := by
  rw [show (Value.int .u8 0).cells = #[Value.int .u8 0] from rfl, Nat.mul_one, toList_madeCells_one]
/-- the cells amid Digits -/
def digC (m : Nat) (T : List UInt8) : List Value := List.replicate m (.int .u8 0) ++ Lib.byteCells T
theorem digC_set (m : Nat) (T : List UInt8) (c : UInt8) : (digC (m + 1) T).set m (.int .u8 (c.toNat : Int)) = digC m (c :: T) := by
  unfold digC
  rw [List.set_append_left _ _ (by simp), List.replicate_succ', List.set_append_right _ _ (by simp)]
  simp [Lib.byteCells]

theorem hex_at (k : Nat) (h : k < 16) : (({ data := #[48, 49, 50, 51, 52, 53, 54, 55, 56, 57, 97, 98, 99, 100, 101, 102] } : ByteArray)[k]'h).toNat = (hexd k).toNat := by
  have : ∀ j : Fin 16, (({ data := #[48, 49, 50, 51, 52, 53, 54, 55, 56, 57, 97, 98, 99, 100, 101, 102] } : ByteArray)[j.1]'j.2).toNat = (hexd j.1).toNat := by decide
  exact this ⟨k, h⟩

theorem num_eq {k : IntKind} {a b : Int} (h : a = b) : Value.int k a = .int k b := by rw [h]
/-- what Numbered answers -/
def numV (r : Option Nat) : Value := match r with | some n => .tuple #[.int .u64 (n : Int), .bool true] | none => .tuple #[.int .u64 0, .bool false]

theorem lit_log : (Cd.bs logB) = ({ data := #[108, 111, 103, 45] } : ByteArray) := rfl

end Wa
end Go.Proofs.YtoldjbgojjafdaaGreatDoor
/-
  Plain mathematics of chapter 2 (frame): check sums, frames as bytes.
-/
namespace Go.Proofs.YtoldjbgojjafdaaGreatDoor
namespace Fr
open Go.RowKit

/-- P2.1: one of eight steps -/
def step (n : Nat) : Nat := if n % 2 = 1 then n / 2 ^^^ 3988292384 else n / 2
def steps : Nat → Nat → Nat
  | 0, n => n
  | k + 1, n => step (steps k n)
/-- what a byte does -/
def byte (n : Nat) (c : UInt8) : Nat := steps 8 (n ^^^ c.toNat)
def run (n : Nat) (l : List UInt8) : Nat := l.foldl byte n
/-- the check sum -/
def sum (l : List UInt8) : Nat := 4294967295 ^^^ run 4294967295 l

theorem step_odd {n : Nat} (h : n % 2 = 1) : step n = n / 2 ^^^ 3988292384 := by rw [step, if_pos h]
theorem step_even {n : Nat} (h : ¬ n % 2 = 1) : step n = n / 2 := by rw [step, if_neg h]
theorem xor_lt32 {a b : Nat} (ha : a < 4294967296) (hb : b < 4294967296) : a ^^^ b < 4294967296 := Nat.xor_lt_two_pow (n := 32) ha hb
theorem step_lt {n : Nat} (h : n < 4294967296) : step n < 4294967296 := by
  unfold step; split
  · exact xor_lt32 (by omega) (by omega)
  · omega
theorem steps_lt {n : Nat} (h : n < 4294967296) : ∀ k, steps k n < 4294967296
  | 0 => h
  | k + 1 => step_lt (steps_lt h k)
theorem byte_lt {n : Nat} (h : n < 4294967296) (c : UInt8) : byte n c < 4294967296 := steps_lt (xor_lt32 h (by have := c.toNat_lt; omega)) 8
theorem run_lt (l : List UInt8) : ∀ {n : Nat}, n < 4294967296 → run n l < 4294967296 := by
  induction l with
  | nil => intro n h; exact h
  | cons c l ih => intro n h; exact ih (byte_lt h c)
theorem run_snoc (n : Nat) (l : List UInt8) (c : UInt8) : run n (l ++ [c]) = byte (run n l) c := by simp [run]
theorem run_app (n : Nat) (l m : List UInt8) : run n (l ++ m) = run (run n l) m := by simp [run]
theorem sum_lt (l : List UInt8) : sum l < 4294967296 := xor_lt32 (by omega) (run_lt l (by omega))

/-- the steps as the walk spells them -/
theorem walk_odd {n : Nat} (hn : n < 4294967296) (h : n % 2 = 1) : bits BinOp.xor IntKind.u32 ((n : Int) / 2 % 4294967296) 3988292384 = (step n : Int) := by
  rw [show ((n : Int) / 2 % 4294967296) = ((n / 2 : Nat) : Int) from by omega, show (3988292384 : Int) = ((3988292384 : Nat) : Int) from rfl, u32_xor_nat _ _ (by omega) (by omega), step_odd h]
theorem walk_even {n : Nat} (hn : n < 4294967296) (h : ¬ n % 2 = 1) : ((n : Int) / 2 % 4294967296) = (step n : Int) := by rw [step_even h]; omega
theorem walk_in {n : Nat} (hn : n < 4294967296) (c : UInt8) : bits BinOp.xor IntKind.u32 (n : Int) (c.toNat : Int) = ((n ^^^ c.toNat : Nat) : Int) := by
  rw [u32_xor_nat _ _ hn (by have := c.toNat_lt; omega)]
theorem walk_out {n : Nat} (hn : n < 4294967296) : bits BinOp.xor IntKind.u32 IntKind.u32.max (n : Int) = ((4294967295 ^^^ n : Nat) : Int) := by
  rw [show IntKind.u32.max = ((4294967295 : Nat) : Int) from rfl, u32_xor_nat _ _ (by omega) hn]
theorem wrap32_byte (c : UInt8) : IntKind.u32.wrap (c.toNat : Int) = (c.toNat : Int) := by
  have := c.toNat_lt
  rw [IntKind.wrap_u32']; omega
/-- P2.2: four bytes, the lowest one first -/
def litByte (n j : Nat) : UInt8 := UInt8.ofNat (n / 256 ^ j % 256)
def lit (n : Nat) : List UInt8 := (List.range 4).map (litByte n)
def litPart (n k : Nat) : List UInt8 := (List.range 4).map fun j => if j < k then litByte n j else 0
theorem litPart_zero (n : Nat) : litPart n 0 = [0, 0, 0, 0] := by simp [litPart, List.range, List.range.loop]
theorem litPart_done (n : Nat) : litPart n 4 = lit n := by
  unfold litPart lit; apply List.map_congr_left; intro j hj; rw [if_pos (by simpa using hj)]
theorem litPart_len (n k : Nat) : (litPart n k).length = 4 := by simp [litPart]
theorem lit_len (n : Nat) : (lit n).length = 4 := by simp [lit]
theorem litPart_get (n k j : Nat) (h : j < 4) : (litPart n k).getD j 0 = if j < k then litByte n j else 0 := by
  rw [List.getD_eq_getElem?_getD, List.getElem?_eq_getElem (by rw [litPart_len]; exact h)]
  simp [litPart]
theorem litByte_val (n k m : Nat) (hm : m = n / 256 ^ k) : Value.int .u8 ((m : Int) % 256) = .int .u8 ((litByte n k).toNat : Int) := by
  congr 1; unfold litByte; rw [UInt8.toNat_ofNat', ← hm]; omega
theorem lit_down (n k m : Nat) (hm : m = n / 256 ^ k) : m / 256 = n / 256 ^ (k + 1) := by
  rw [hm, Nat.div_div_eq_div_mul, ← Nat.pow_succ]
theorem lit_wrap (n k m : Nat) (hn : n < 4294967296) (hm : m = n / 256 ^ k) : ((m : Int) / 256 % 4294967296) = ((m / 256 : Nat) : Int) := by
  have := Nat.div_le_self n (256 ^ k); omega
/-- the four bytes say the number -/
theorem lit_inj {a b : Nat} (ha : a < 4294967296) (hb : b < 4294967296) (h : lit a = lit b) : a = b := by
  have e : ∀ n, lit n = [litByte n 0, litByte n 1, litByte n 2, litByte n 3] := fun n => by simp [lit, List.range, List.range.loop]
  have v : ∀ n j, (litByte n j).toNat = n / 256 ^ j % 256 := fun n j => by unfold litByte; rw [UInt8.toNat_ofNat']; omega
  rw [e a, e b] at h
  simp only [List.cons.injEq, and_true] at h
  have h0 := congrArg UInt8.toNat h.1
  have h1 := congrArg UInt8.toNat h.2.1
  have h2 := congrArg UInt8.toNat h.2.2.1
  have h3 := congrArg UInt8.toNat h.2.2.2
  rw [v, v] at h0 h1 h2 h3
  simp only [Nat.pow_zero, Nat.reducePow] at h0 h1 h2 h3
  omega
/-- P2.2: a frame's bytes, or why it has none -/
def put (c : UInt8) (l : List UInt8) : List UInt8 × Nat :=
  if c.toNat = 0 ∨ 262144 < l.length then ([], 1) else (lit (sum (c :: Cd.putT l)) ++ c :: Cd.putT l, 0)
theorem put_zero {c : UInt8} {l : List UInt8} (h : c.toNat = 0) : put c l = ([], 1) := by unfold put; rw [if_pos (.inl h)]
theorem put_long {c : UInt8} {l : List UInt8} (h : 262144 < l.length) : put c l = ([], 1) := by unfold put; rw [if_pos (.inr h)]
theorem put_ok {c : UInt8} {l : List UInt8} (h : ¬ c.toNat = 0) (hl : l.length ≤ 262144) : put c l = (lit (sum (c :: Cd.putT l)) ++ c :: Cd.putT l, 0) := by
  unfold put; rw [if_neg (by omega)]
/-- P2.3: reading a frame: ((kind, load), bytes, what is wrong) -/
def take (l : List UInt8) : (UInt8 × List UInt8) × Nat × Nat :=
  if l.length < 5 then ((0, []), 0, 2)
  else if (l.getD 4 0).toNat = 0 then ((0, []), 0, 3)
  else if (Cd.takeT (l.drop 5) 262144).2.2 ≠ 0 then ((0, []), 0, (Cd.takeT (l.drop 5) 262144).2.2)
  else if lit (sum ((l.drop 4).take ((Cd.takeT (l.drop 5) 262144).2.1 + 1))) ≠ l.take 4 then ((0, []), 0, 3)
  else ((l.getD 4 0, (Cd.takeT (l.drop 5) 262144).1), 5 + (Cd.takeT (l.drop 5) 262144).2.1, 0)
theorem take_few {l : List UInt8} (h : l.length < 5) : take l = ((0, []), 0, 2) := by unfold take; rw [if_pos h]
theorem take_zero {l : List UInt8} (h : 5 ≤ l.length) (h0 : (l.getD 4 0).toNat = 0) : take l = ((0, []), 0, 3) := by unfold take; rw [if_neg (by omega), if_pos h0]
theorem take_err {l t : List UInt8} {n e : Nat} (h : 5 ≤ l.length) (h0 : ¬ (l.getD 4 0).toNat = 0) (ht : Cd.takeT (l.drop 5) 262144 = (t, n, e)) (he : e ≠ 0) : take l = ((0, []), 0, e) := by
  unfold take; rw [if_neg (by omega), if_neg h0, ht, if_pos he]
theorem take_bad {l t : List UInt8} {n : Nat} (h : 5 ≤ l.length) (h0 : ¬ (l.getD 4 0).toNat = 0) (ht : Cd.takeT (l.drop 5) 262144 = (t, n, 0)) (hs : lit (sum ((l.drop 4).take (n + 1))) ≠ l.take 4) : take l = ((0, []), 0, 3) := by
  unfold take; rw [if_neg (by omega), if_neg h0, ht]; simp only [ne_eq, not_true_eq_false, if_false]; rw [if_pos hs]
theorem take_ok {l t : List UInt8} {n : Nat} (h : 5 ≤ l.length) (h0 : ¬ (l.getD 4 0).toNat = 0) (ht : Cd.takeT (l.drop 5) 262144 = (t, n, 0)) (hs : lit (sum ((l.drop 4).take (n + 1))) = l.take 4) : take l = ((l.getD 4 0, t), 5 + n, 0) := by
  unfold take; rw [if_neg (by omega), if_neg h0, ht]; simp only [ne_eq, not_true_eq_false, if_false]; rw [if_neg (by simpa using hs)]
theorem takeT_len (l : List UInt8) (m : Int) : (Cd.takeT l m).2.1 ≤ l.length ∧ ((Cd.takeT l m).2.2 = 0 → (Cd.takeT l m).1.length ≤ m.toNat) ∧ (Cd.takeT l m).2.2 ≤ 3 := by
  obtain ⟨o1, o2, o3, o4⟩ := Cd.takeU_ok l
  unfold Cd.takeT
  split
  · exact ⟨Nat.zero_le _, fun _ => Nat.zero_le _, o4⟩
  · split
    · exact ⟨Nat.zero_le _, fun _ => Nat.zero_le _, by simp⟩
    · split
      · exact ⟨Nat.zero_le _, fun _ => Nat.zero_le _, by simp⟩
      · refine ⟨by simp only; omega, fun _ => ?_, by simp⟩
        simp only [List.length_take]; omega
/-- P2.4: the frames from a place on, each with its place; and where they end -/
def allGo (l : List UInt8) (p : Nat) : List (Nat × (UInt8 × List UInt8)) × Nat :=
  if _h : p < l.length ∧ (take (l.drop p)).2.2 = 0 ∧ 0 < (take (l.drop p)).2.1 then
    ((p, (take (l.drop p)).1) :: (allGo l (p + (take (l.drop p)).2.1)).1, (allGo l (p + (take (l.drop p)).2.1)).2)
  else ([], p)
termination_by l.length - p
decreasing_by all_goals omega
def all (l : List UInt8) : List (Nat × (UInt8 × List UInt8)) × Nat := allGo l 0
theorem allGo_stop {l : List UInt8} {p : Nat} (h : ¬ (p < l.length ∧ (take (l.drop p)).2.2 = 0 ∧ 0 < (take (l.drop p)).2.1)) : allGo l p = ([], p) := by rw [allGo]; rw [dif_neg h]
theorem allGo_more {l : List UInt8} {p : Nat} (h : p < l.length ∧ (take (l.drop p)).2.2 = 0 ∧ 0 < (take (l.drop p)).2.1) :
    allGo l p = ((p, (take (l.drop p)).1) :: (allGo l (p + (take (l.drop p)).2.1)).1, (allGo l (p + (take (l.drop p)).2.1)).2) := by
  conv => lhs; rw [allGo]
  rw [dif_pos h]
/-- a frame that is taken has bytes, no more than are there -/
theorem take_len (l : List UInt8) : (take l).2.1 ≤ l.length ∧ ((take l).2.2 = 0 → 5 ≤ (take l).2.1) ∧ (take l).2.2 ≤ 3 := by
  obtain ⟨q1, q2, q3⟩ := takeT_len (l.drop 5) 262144
  unfold take
  split
  · exact ⟨Nat.zero_le _, fun h => by simp at h, by simp⟩
  · split
    · exact ⟨Nat.zero_le _, fun h => by simp at h, by simp⟩
    · split
      · exact ⟨Nat.zero_le _, fun h => by rename_i h2; exact absurd h h2, q3⟩
      · split
        · exact ⟨Nat.zero_le _, fun h => by simp at h, by simp⟩
        · refine ⟨?_, fun _ => by simp, by simp⟩
          rw [List.length_drop] at q1; simp only; omega
end Fr
end Go.Proofs.YtoldjbgojjafdaaGreatDoor

/-
  Plain mathematics of P1.6: the order of texts, and the text behind all that begin with a given one.
-/
namespace Go.Proofs.YtoldjbgojjafdaaGreatDoor
namespace Cd
open Op (bytesLess)

theorem bl_cons (a b : UInt8) (x y : List UInt8) : bytesLess (a :: x) (b :: y) = (decide (a.toNat < b.toNat) || (decide (a.toNat = b.toNat) && bytesLess x y)) := by
  rw [bytesLess]
  have h1 : decide (a < b) = decide (a.toNat < b.toNat) := by rw [decide_eq_decide, UInt8.lt_iff_toNat_lt]
  have h2 : (a == b) = decide (a.toNat = b.toNat) := by
    rw [Bool.eq_iff_iff]; simp [UInt8.toNat_inj]
  rw [h1, h2]
theorem bl_nil_r (x : List UInt8) : bytesLess x [] = false := by cases x <;> rfl
theorem bl_nil_l (a : UInt8) (x : List UInt8) : bytesLess [] (a :: x) = true := rfl

/-- 't > s', as the walk spells it -/
def gt (t s : List UInt8) : Bool := !bytesLess t s && !(t == s)
theorem gt_nil (a : UInt8) (x : List UInt8) : gt [] (a :: x) = false := by simp [gt, bl_nil_l]
theorem gt_cons (a b : UInt8) (x y : List UInt8) : gt (a :: x) (b :: y) = (decide (b.toNat < a.toNat) || (decide (a.toNat = b.toNat) && gt x y)) := by
  unfold gt
  have h2 : ((a :: x) == (b :: y)) = (decide (a.toNat = b.toNat) && (x == y)) := by
    rw [Bool.eq_iff_iff]; simp [UInt8.toNat_inj]
  rw [bl_cons, h2]
  rcases Nat.lt_trichotomy a.toNat b.toNat with h | h | h
  · have e1 : decide (a.toNat < b.toNat) = true := by simpa using h
    have e2 : decide (a.toNat = b.toNat) = false := by simp; omega
    have e3 : decide (b.toNat < a.toNat) = false := by simp; omega
    rw [e1, e2, e3]; simp
  · have e1 : decide (a.toNat < b.toNat) = false := by simp; omega
    have e2 : decide (a.toNat = b.toNat) = true := by simpa using h
    have e3 : decide (b.toNat < a.toNat) = false := by simp; omega
    rw [e1, e2, e3]; simp
  · have e1 : decide (a.toNat < b.toNat) = false := by simp; omega
    have e2 : decide (a.toNat = b.toNat) = false := by simp; omega
    have e3 : decide (b.toNat < a.toNat) = true := by simpa using h
    rw [e1, e2, e3]; simp

theorem up_toNat {c : UInt8} (h : c.toNat ≠ 255) : (c + 1).toNat = c.toNat + 1 := by
  have := c.toNat_lt
  rw [UInt8.toNat_add]; simp; omega

theorem behindGo_shape (l : List UInt8) : ∀ n, n ≤ l.length →
    (behindGo l n = [] ∧ hasLow (l.take n) = false) ∨ ∃ p c m, l.take n = p ++ c :: List.replicate m 255 ∧ c.toNat ≠ 255 ∧ behindGo l n = p ++ [c + 1] := by
  intro n
  induction n with
  | zero => intro _; exact .inl ⟨rfl, rfl⟩
  | succ n ih =>
    intro h
    have hg : l.getD n 0 = l[n] := by rw [List.getD_eq_getElem?_getD, List.getElem?_eq_getElem (by omega)]; rfl
    have ht : l.take (n + 1) = l.take n ++ [l[n]] := List.take_succ_eq_append_getElem (by omega)
    by_cases he : l[n].toNat = 255
    · have e : behindGo l (n + 1) = behindGo l n := by rw [behindGo, hg, if_pos he]
      rw [e, ht]
      rcases ih (by omega) with ⟨h1, h2⟩ | ⟨p, c, m, h1, h2, h3⟩
      · refine .inl ⟨h1, ?_⟩
        clear h1 ht
        revert h2
        induction l.take n with
        | nil => intro _; simp [hasLow, he]
        | cons a r ih => intro h; by_cases ha : a.toNat = 255 <;> simp_all [hasLow]
      · refine .inr ⟨p, c, m + 1, ?_, h2, h3⟩
        have h255 : l[n] = 255 := UInt8.toNat_inj.1 (by simpa using he)
        rw [h1, h255, List.replicate_succ', List.append_assoc, List.cons_append]
    · exact .inr ⟨l.take n, l[n], 0, by rw [ht]; rfl, he, by rw [behindGo, hg, if_neg he]⟩
theorem behind_shape (l : List UInt8) : (behind l = [] ∧ hasLow l = false) ∨ ∃ p c m, l = p ++ c :: List.replicate m 255 ∧ c.toNat ≠ 255 ∧ behind l = p ++ [c + 1] := by
  have := behindGo_shape l l.length (Nat.le_refl _)
  rwa [List.take_of_length_le (Nat.le_refl _)] at this

theorem gt_rep : ∀ (m : Nat) (t : List UInt8), common (List.replicate m 255) t ≠ m → gt t (List.replicate m 255) = false
  | 0, t, h => absurd (by rw [List.replicate_zero, common_nil_l]) h
  | m + 1, [], _ => by rw [List.replicate_succ]; exact gt_nil _ _
  | m + 1, d :: t, h => by
    rw [List.replicate_succ] at h ⊢
    rw [gt_cons]
    have hd := d.toNat_lt
    have h255 : (255 : UInt8).toNat = 255 := rfl
    by_cases e : d.toNat = 255
    · have e' : (255 : UInt8).toNat = d.toNat := by omega
      rw [common_eq e'] at h
      rw [gt_rep m t (by omega)]
      simp [h255, e]
    · have e1 : decide ((255 : UInt8).toNat < d.toNat) = false := by simp [h255]; omega
      have e2 : decide (d.toNat = (255 : UInt8).toNat) = false := by simp [h255]; omega
      rw [e1, e2]; rfl

/-- what the law asks of the text behind -/
def Fits (s t b : List UInt8) : Prop :=
  (common s t = s.length → bytesLess t b = true) ∧ (common s t ≠ s.length → (gt t s = true → bytesLess t b = false) ∧ (gt t s = false → bytesLess t b = true))

theorem fits (c : UInt8) (m : Nat) (hc : c.toNat ≠ 255) : ∀ (p t : List UInt8), Fits (p ++ c :: List.replicate m 255) t (p ++ [c + 1])
  | [], [] => by
    refine ⟨fun h => ?_, fun _ => ⟨fun h => ?_, fun _ => rfl⟩⟩
    · rw [common_nil_r] at h; simp at h
    · rw [List.nil_append, gt_nil] at h; cases h
  | [], d :: t => by
    have hu := up_toNat hc
    have hb : bytesLess (d :: t) ([] ++ [c + 1]) = decide (d.toNat < c.toNat + 1) := by
      rw [List.nil_append, bl_cons, bl_nil_r, hu]; simp
    unfold Fits
    rw [hb, List.nil_append, gt_cons]
    rcases Nat.lt_trichotomy d.toNat c.toNat with h | h | h
    · have e1 : decide (c.toNat < d.toNat) = false := by simp; omega
      have e2 : decide (d.toNat = c.toNat) = false := by simp; omega
      have e3 : decide (d.toNat < c.toNat + 1) = true := by simp; omega
      rw [e1, e2, e3]; simp
    · have e1 : decide (c.toNat < d.toNat) = false := by simp; omega
      have e2 : decide (d.toNat = c.toNat) = true := by simpa using h
      have e3 : decide (d.toNat < c.toNat + 1) = true := by simp; omega
      rw [e1, e2, e3, common_eq (by omega)]
      refine ⟨fun _ => rfl, fun hn => ?_⟩
      have := gt_rep m t (by intro e; apply hn; rw [e]; simp)
      rw [this]; simp
    · have e1 : decide (c.toNat < d.toNat) = true := by simpa using h
      have e3 : decide (d.toNat < c.toNat + 1) = false := by simp; omega
      rw [e1, e3, common_ne (by omega)]
      simp
  | a :: p, [] => by
    refine ⟨fun h => ?_, fun _ => ⟨fun h => ?_, fun _ => rfl⟩⟩
    · rw [common_nil_r] at h; simp at h
    · rw [List.cons_append, gt_nil] at h; cases h
  | a :: p, d :: t => by
    have ih := fits c m hc p t
    unfold Fits at ih ⊢
    rw [List.cons_append, List.cons_append, bl_cons, gt_cons]
    rcases Nat.lt_trichotomy d.toNat a.toNat with h | h | h
    · have e1 : decide (a.toNat < d.toNat) = false := by simp; omega
      have e2 : decide (d.toNat = a.toNat) = false := by simp; omega
      have e3 : decide (d.toNat < a.toNat) = true := by simpa using h
      rw [e1, e2, e3]; simp
    · have e1 : decide (a.toNat < d.toNat) = false := by simp; omega
      have e2 : decide (d.toNat = a.toNat) = true := by simpa using h
      have e3 : decide (d.toNat < a.toNat) = false := by simp; omega
      rw [e1, e2, e3, common_eq (by omega), List.length_cons]
      simp only [Bool.false_or, Bool.true_and]
      refine ⟨fun h => ih.1 (by omega), fun h => ih.2 (by omega)⟩
    · have e1 : decide (a.toNat < d.toNat) = true := by simpa using h
      have e2 : decide (d.toNat = a.toNat) = false := by simp; omega
      have e3 : decide (d.toNat < a.toNat) = false := by simp; omega
      rw [e1, e2, e3, common_ne (by omega)]
      simp
theorem behind_fits (s t : List UInt8) (h : behind s ≠ []) : Fits s t (behind s) := by
  rcases behind_shape s with ⟨h1, _⟩ | ⟨p, c, m, h1, h2, h3⟩
  · exact absurd h1 h
  · rw [h3]
    have := fits c m h2 p t
    rwa [← h1] at this
theorem behind_none (s : List UInt8) (h : behind s = []) : hasLow s = false := by
  rcases behind_shape s with ⟨_, h1⟩ | ⟨p, c, m, _, _, h3⟩
  · exact h1
  · rw [h] at h3; simp at h3
end Cd
end Go.Proofs.YtoldjbgojjafdaaGreatDoor

/-
  What a bound on the bulk gives of lists of data.
-/
namespace Go.Proofs.YtoldjbgojjafdaaGreatDoor
namespace Bk
theorem all_range {H : Type} (D : Nat → DataW H) (n : Nat) : Rows.uptoBulkAll ((List.range n).map D) = ((List.range n).map fun i => Rows.uptoBulk (D i)).sum := by
  generalize List.range n = l
  induction l with
  | nil => rfl
  | cons x r ih => simp only [List.map_cons, Rows.uptoBulkAll, List.sum_cons, ih]
end Bk
end Go.Proofs.YtoldjbgojjafdaaGreatDoor
