/-
  Plain mathematics of chapter 1 (codec): the functions on lists of bytes and numbers that the walks come to. No program is named here.
-/
import Derived.WalkKit
import Derived.Laws.Bits64
import Derived.Laws.BitsAllLaws
import Derived.Lib.BufferRead
import Derived.Lib.Strings
import Derived.Maps.AppendAt
namespace Go.Proofs.YteckjhhbljoklaaDoor
namespace Cd
open Go.RowKit

/-- A list of bytes as a Go string's bytes. -/
abbrev bs (l : List UInt8) : ByteArray := ⟨l.toArray⟩

/-- P1.1: a number, seven bits a byte. -/
def putU (n : Nat) : List UInt8 := if n < 128 then [UInt8.ofNat n] else UInt8.ofNat (n % 128 + 128) :: putU (n / 128)
termination_by n
decreasing_by omega

/-- P1.1: reading: what is left, the place, what has been read: (number, bytes, what is wrong). -/
def takeGo : List UInt8 → Nat → Nat → Nat × Nat × Nat
  | [], _, _ => (0, 0, 2)
  | c :: r, i, acc =>
    if (i = 9 ∧ 1 < c.toNat) ∨ (0 < i ∧ c.toNat = 0) then (0, 0, 3)
    else if c.toNat < 128 then (acc + c.toNat % 128 * 128 ^ i, i + 1, 0)
    else takeGo r (i + 1) (acc + c.toNat % 128 * 128 ^ i)
def takeU (l : List UInt8) : Nat × Nat × Nat := takeGo l 0 0

theorem drop_cons (l : List UInt8) (k : Nat) (h : k < l.length) : l.drop k = l[k] :: l.drop (k + 1) := List.drop_eq_getElem_cons h
theorem drop_cons_b (s : ByteArray) (k : Nat) (h : k < s.size) : s.data.toList.drop k = s[k] :: s.data.toList.drop (k + 1) := by
  rw [List.drop_eq_getElem_cons (by simpa using h)]; rfl

theorem drop_all {s : ByteArray} {k : Nat} (h : s.size ≤ k) : s.data.toList.drop k = [] := List.drop_eq_nil_of_le (by simpa using h)

theorem pow_le (k : Nat) (h : k ≤ 9) : 128 ^ k ≤ 9223372036854775808 := by
  have : 128 ^ k ≤ 128 ^ 9 := Nat.pow_le_pow_right (by omega) h
  simpa using this
theorem pow_pos' (k : Nat) : 0 < 128 ^ k := Nat.pow_pos (by omega)
theorem pow_s (k : Nat) : 128 ^ (k + 1) = 128 * 128 ^ k := by rw [Nat.pow_succ]; omega

/-- a step's number stays below 2^64: at the tenth byte only 0 and 1 come so far -/
theorem step_lt (k acc c : Nat) (hk : k ≤ 9) (ha : acc < 128 ^ k) (hc : k = 9 → c ≤ 1) : acc + c % 128 * 128 ^ k < 18446744073709551616 := by
  have hp := pow_le k hk
  by_cases h9 : k = 9
  · have := hc h9
    have hcc : c % 128 ≤ 1 := by omega
    have : c % 128 * 128 ^ k ≤ 1 * 128 ^ k := Nat.mul_le_mul_right _ hcc
    omega
  · have hp2 : 128 ^ k ≤ 128 ^ 8 := Nat.pow_le_pow_right (by omega) (by omega)
    have hp3 : (128 : Nat) ^ 8 = 72057594037927936 := by decide
    have : c % 128 * 128 ^ k ≤ 127 * 128 ^ k := Nat.mul_le_mul_right _ (by omega)
    omega
theorem step_pow (k acc c : Nat) (ha : acc < 128 ^ k) : acc + c % 128 * 128 ^ k < 128 ^ (k + 1) := by
  have : c % 128 * 128 ^ k ≤ 127 * 128 ^ k := Nat.mul_le_mul_right _ (by omega)
  rw [pow_s]; omega

theorem go_bad {c : UInt8} {r : List UInt8} {i acc : Nat} (h : (i = 9 ∧ 1 < c.toNat) ∨ (0 < i ∧ c.toNat = 0)) : takeGo (c :: r) i acc = (0, 0, 3) := by
  rw [takeGo, if_pos h]
theorem go_last {c : UInt8} {r : List UInt8} {i acc : Nat} (h : ¬((i = 9 ∧ 1 < c.toNat) ∨ (0 < i ∧ c.toNat = 0))) (hc : c.toNat < 128) : takeGo (c :: r) i acc = (acc + c.toNat % 128 * 128 ^ i, i + 1, 0) := by
  rw [takeGo, if_neg h, if_pos hc]
theorem go_more {c : UInt8} {r : List UInt8} {i acc : Nat} (h : ¬((i = 9 ∧ 1 < c.toNat) ∨ (0 < i ∧ c.toNat = 0))) (hc : 128 ≤ c.toNat) : takeGo (c :: r) i acc = takeGo r (i + 1) (acc + c.toNat % 128 * 128 ^ i) := by
  rw [takeGo, if_neg h, if_neg (by omega)]

theorem wrapU_byte (c : UInt8) : IntKind.u64.wrap (c.toNat : Int) = (c.toNat : Int) := by
  have := c.toNat_lt
  rw [IntKind.wrap_u64]; omega
theorem wrapU_nat {n : Nat} (h : n < 18446744073709551616) : IntKind.u64.wrap (n : Int) = n := by
  rw [IntKind.wrap_u64]; omega
/-- the number behind a step, as the walk spells it -/
theorem wrap_step {k acc c P : Nat} (hk : k ≤ 9) (ha : acc < 128 ^ k) (hP : P = 128 ^ k) (hc : k = 9 → c ≤ 1) :
    IntKind.u64.wrap ((acc : Int) + IntKind.u64.wrap ((c : Int) % 128 * (P : Int))) = ((acc + c % 128 * 128 ^ k : Nat) : Int) := by
  have h1 := step_lt k acc c hk ha hc
  have e : ((c : Int) % 128 * (P : Int)) = ((c % 128 * 128 ^ k : Nat) : Int) := by subst hP; simp
  rw [e, wrapU_nat (by omega)]
  have e2 : (acc : Int) + ((c % 128 * 128 ^ k : Nat) : Int) = ((acc + c % 128 * 128 ^ k : Nat) : Int) := by simp
  rw [e2, wrapU_nat h1]
theorem wrap_pow {k P : Nat} (hk : k < 9) (hP : P = 128 ^ k) : IntKind.u64.wrap ((P : Int) * 128) = ((128 ^ (k + 1) : Nat) : Int) := by
  have h := pow_le (k + 1) (by omega)
  have e : ((P : Int) * 128) = ((128 ^ (k + 1) : Nat) : Int) := by subst hP; rw [pow_s]; simp [Int.mul_comm]
  rw [e, wrapU_nat (by omega)]

theorem andNot128 (c : UInt8) : bits BinOp.andNot IntKind.u8 (c.toNat : Int) 128 = ((c.toNat % 128 : Nat) : Int) := by
  have h := u8_andNot_nat c.toNat 128 c.toNat_lt (by omega)
  have e : c.toNat &&& (255 - 128) = c.toNat % 128 := by
    have := Nat.and_two_pow_sub_one_eq_mod c.toNat 7
    simpa using this
  rw [e] at h
  exact_mod_cast h
theorem pow_two (k : Nat) : 2 ^ (7 * k) = 128 ^ k := by rw [Nat.pow_mul]
/-- the number behind a step of the code's own loop, as the walk spells it -/
theorem or_step {k acc : Nat} {c : UInt8} (hk : k ≤ 9) (ha : acc < 128 ^ k) (hc : k = 9 → c.toNat ≤ 1) :
    bits BinOp.or IntKind.u64 (acc : Int) (IntKind.u64.wrap (IntKind.u64.wrap (bits BinOp.andNot IntKind.u8 (c.toNat : Int) 128) * 2 ^ (7 * k))) = ((acc + c.toNat % 128 * 128 ^ k : Nat) : Int) := by
  have h1 := step_lt k acc c.toNat hk ha hc
  have hcb := c.toNat_lt
  rw [andNot128, wrapU_nat (by omega)]
  have e : ((c.toNat % 128 : Nat) : Int) * 2 ^ (7 * k) = ((c.toNat % 128 * 128 ^ k : Nat) : Int) := by
    rw [← pow_two]; simp
  rw [e, wrapU_nat (by omega), u64_or_nat _ _ (by omega) (by omega)]
  have e2 : acc ||| c.toNat % 128 * 128 ^ k = acc + c.toNat % 128 * 128 ^ k := by
    rw [← pow_two] at ha ⊢
    have := Nat.shiftLeft_add_eq_or_of_lt ha (c.toNat % 128)
    rw [Nat.shiftLeft_eq] at this
    rw [Nat.or_comm, ← this, Nat.add_comm]
  rw [e2]

/-- what a step of takeGo answers, whatever is read: the number fits; with an error it is nothing; no more is read than is there -/
theorem takeGo_ok (l : List UInt8) : ∀ (i acc : Nat), i ≤ 9 → acc < 128 ^ i →
    (takeGo l i acc).1 < 18446744073709551616 ∧ ((takeGo l i acc).2.2 ≠ 0 → (takeGo l i acc).1 = 0 ∧ (takeGo l i acc).2.1 = 0) ∧ (takeGo l i acc).2.1 ≤ i + l.length ∧ (takeGo l i acc).2.2 ≤ 3 := by
  induction l with
  | nil => intro i acc _ _; simp [takeGo]
  | cons c r ih =>
    intro i acc hi ha
    by_cases hbad : (i = 9 ∧ 1 < c.toNat) ∨ (0 < i ∧ c.toNat = 0)
    · rw [go_bad hbad]; simp
    · by_cases hc : c.toNat < 128
      · rw [go_last hbad hc]
        have := step_lt i acc c.toNat hi ha (by omega)
        refine ⟨this, fun h => absurd rfl h, by simp only [List.length_cons]; omega, by simp⟩
      · rw [go_more hbad (by omega)]
        have := ih (i + 1) (acc + c.toNat % 128 * 128 ^ i) (by omega) (step_pow i acc c.toNat ha)
        refine ⟨this.1, this.2.1, by have := this.2.2.1; simp only [List.length_cons]; omega, this.2.2.2⟩
theorem takeU_ok (l : List UInt8) : (takeU l).1 < 18446744073709551616 ∧ ((takeU l).2.2 ≠ 0 → (takeU l).1 = 0 ∧ (takeU l).2.1 = 0) ∧ (takeU l).2.1 ≤ l.length ∧ (takeU l).2.2 ≤ 3 := by
  have := takeGo_ok l 0 0 (by omega) (by simp)
  simpa [takeU] using this

/-- P1.2: twice the number, or twice what is left of it below 0, and 1 -/
def unzig (n : Nat) : Int := if n % 2 = 1 then -((n / 2 : Nat) : Int) - 1 else ((n / 2 : Nat) : Int)
def zig (n : Int) : Nat := if 0 ≤ n then (2 * n).toNat else (2 * (-(n + 1)) + 1).toNat
theorem unzig_zig (n : Int) : unzig (zig n) = n := by
  unfold unzig zig
  by_cases h : 0 ≤ n
  · rw [if_pos h]; rw [if_neg (by omega)]; omega
  · rw [if_neg h]; rw [if_pos (by omega)]; omega
theorem zig_lt (n : Int) (h1 : -9223372036854775808 ≤ n) (h2 : n ≤ 9223372036854775807) : zig n < 18446744073709551616 := by
  unfold zig; split <;> omega

theorem wrapU_half {n : Nat} (h : n < 18446744073709551616) : wrap64 (IntKind.u64.wrap ((n : Int) / 2)) = ((n / 2 : Nat) : Int) := by
  rw [show ((n : Int) / 2) = ((n / 2 : Nat) : Int) from by omega, wrapU_nat (by omega)]
  exact IntWalk.wrap64_in _ ⟨by omega, by omega⟩
theorem unzig_odd {n : Nat} (h : n < 18446744073709551616) (ho : n % 2 = 1) : wrap64 (wrap64 (-wrap64 (IntKind.u64.wrap ((n : Int) / 2))) - 1) = unzig n := by
  rw [wrapU_half h, IntWalk.wrap64_in (-((n / 2 : Nat) : Int)) ⟨by omega, by omega⟩, IntWalk.wrap64_in _ ⟨by omega, by omega⟩, unzig, if_pos ho]
theorem unzig_even {n : Nat} (h : n < 18446744073709551616) (ho : ¬ n % 2 = 1) : wrap64 (IntKind.u64.wrap ((n : Int) / 2)) = unzig n := by
  rw [wrapU_half h, unzig, if_neg ho]

/-- P1.5: reading a KeyText: (text, bytes, what is wrong). -/
def takeKGo : List UInt8 → List UInt8 → Nat → List UInt8 × Nat × Nat
  | [], _, _ => ([], 0, 2)
  | c :: r, acc, k =>
    if c.toNat ≠ 0 then takeKGo r (acc ++ [c]) (k + 1)
    else match r with
      | [] => ([], 0, 2)
      | d :: r' => if d.toNat = 1 then (acc, k + 2, 0) else if d.toNat = 255 then takeKGo r' (acc ++ [0]) (k + 2) else ([], 0, 3)
def takeK (l : List UInt8) : List UInt8 × Nat × Nat := takeKGo l [] 0
theorem tk_plain {c : UInt8} {r acc : List UInt8} {k : Nat} (h : c.toNat ≠ 0) : takeKGo (c :: r) acc k = takeKGo r (acc ++ [c]) (k + 1) := by rw [takeKGo.eq_def]; simp [h]
theorem tk_last {c : UInt8} {acc : List UInt8} {k : Nat} (h : c.toNat = 0) : takeKGo [c] acc k = ([], 0, 2) := by rw [takeKGo.eq_def]; simp [h]
theorem tk_end {c d : UInt8} {r acc : List UInt8} {k : Nat} (h : c.toNat = 0) (hd : d.toNat = 1) : takeKGo (c :: d :: r) acc k = (acc, k + 2, 0) := by rw [takeKGo.eq_def]; simp [h, hd]
theorem tk_zero {c d : UInt8} {r acc : List UInt8} {k : Nat} (h : c.toNat = 0) (hd : d.toNat = 255) : takeKGo (c :: d :: r) acc k = takeKGo r (acc ++ [0]) (k + 2) := by rw [takeKGo.eq_def]; simp [h, hd]
theorem tk_bad {c d : UInt8} {r acc : List UInt8} {k : Nat} (h : c.toNat = 0) (hd1 : d.toNat ≠ 1) (hd : d.toNat ≠ 255) : takeKGo (c :: d :: r) acc k = ([], 0, 3) := by rw [takeKGo.eq_def]; simp [h, hd, hd1]

/-- P1.3: reading a text of at most so many bytes. -/
def takeT (l : List UInt8) (most : Int) : List UInt8 × Nat × Nat :=
  if (takeU l).2.2 ≠ 0 then ([], 0, (takeU l).2.2)
  else if most.toNat < (takeU l).1 then ([], 0, 3)
  else if l.length - (takeU l).2.1 < (takeU l).1 then ([], 0, 2)
  else ((l.drop (takeU l).2.1).take (takeU l).1, (takeU l).2.1 + (takeU l).1, 0)

theorem takeT_err {l : List UInt8} {most : Int} {n k e : Nat} (h : takeU l = (n, k, e)) (he : e ≠ 0) : takeT l most = ([], 0, e) := by unfold takeT; rw [h]; simp [he]
theorem takeT_most {l : List UInt8} {most : Int} {n k : Nat} (h : takeU l = (n, k, 0)) (h1 : most.toNat < n) : takeT l most = ([], 0, 3) := by unfold takeT; rw [h]; simp [h1]
theorem takeT_more {l : List UInt8} {most : Int} {n k : Nat} (h : takeU l = (n, k, 0)) (h1 : n ≤ most.toNat) (h2 : l.length - k < n) : takeT l most = ([], 0, 2) := by
  unfold takeT; rw [h]; simp only [ne_eq, not_true_eq_false, if_false]; rw [if_neg (by omega), if_pos h2]
theorem takeT_text {l : List UInt8} {most : Int} {n k : Nat} (h : takeU l = (n, k, 0)) (h1 : n ≤ most.toNat) (h2 : n ≤ l.length - k) : takeT l most = ((l.drop k).take n, k + n, 0) := by
  unfold takeT; rw [h]; simp only [ne_eq, not_true_eq_false, if_false]; rw [if_neg (by omega), if_neg (by omega)]

/-- P1.4: eight bytes as a word. -/
def wordGo (l : List UInt8) : Nat := l.foldl (fun n c => 256 * n + c.toNat) 0
theorem wordGo_snoc (l : List UInt8) (c : UInt8) : wordGo (l ++ [c]) = 256 * wordGo l + c.toNat := by simp [wordGo]
theorem foldl_lt (l : List UInt8) : ∀ a : Nat, l.foldl (fun n c => 256 * n + c.toNat) a < (a + 1) * 256 ^ l.length := by
  induction l with
  | nil => intro a; simp
  | cons c l ih =>
    intro a
    have h := ih (256 * a + c.toNat)
    have hc := c.toNat_lt
    have h2 : (256 * a + c.toNat + 1) * 256 ^ l.length ≤ (256 * (a + 1)) * 256 ^ l.length := Nat.mul_le_mul_right _ (by omega)
    rw [List.foldl_cons, List.length_cons, Nat.pow_succ]
    have h3 : (256 * (a + 1)) * 256 ^ l.length = (a + 1) * (256 ^ l.length * 256) := by
      rw [Nat.mul_comm 256 (a + 1), Nat.mul_assoc, Nat.mul_comm 256]
    omega
theorem wordGo_lt (l : List UInt8) : wordGo l < 256 ^ l.length := by
  have := foldl_lt l 0
  simpa [wordGo] using this
theorem take_s (s : ByteArray) (k : Nat) (h : k < s.size) : s.data.toList.take (k + 1) = s.data.toList.take k ++ [s[k]] := by
  rw [List.take_succ_eq_append_getElem (by simpa using h)]; rfl
theorem word_s (s : ByteArray) (k : Nat) (h : k < s.size) : wordGo (s.data.toList.take (k + 1)) = 256 * wordGo (s.data.toList.take k) + s[k].toNat := by
  rw [take_s s k h, wordGo_snoc]
theorem word_lt (l : List UInt8) (k : Nat) (h : k ≤ 7) : wordGo (l.take k) < 72057594037927936 := by
  have h1 := wordGo_lt (l.take k)
  have h2 : 256 ^ (l.take k).length ≤ 256 ^ 7 := Nat.pow_le_pow_right (by omega) (by have := List.length_take_le k l; omega)
  have h3 : (256 : Nat) ^ 7 = 72057594037927936 := by decide
  omega
/-- the word as a number with a sign, its highest bit turned -/
def keyOf (n : Nat) : Int := wrap64 (bits BinOp.xor IntKind.u64 (n : Int) 9223372036854775808)

def takeKI (l : List UInt8) : Int × Nat × Nat := if l.length < 8 then (0, 0, 2) else (keyOf (wordGo (l.take 8)), 8, 0)
theorem takeKI_few {l : List UInt8} (h : l.length < 8) : takeKI l = (0, 0, 2) := by unfold takeKI; rw [if_pos h]
theorem takeKI_eight {l : List UInt8} (h : 8 ≤ l.length) : takeKI l = (keyOf (wordGo (l.take 8)), 8, 0) := by unfold takeKI; rw [if_neg (by omega)]
theorem word_wrap {n : Nat} {c : UInt8} (h : n < 72057594037927936) : IntKind.u64.wrap (IntKind.u64.wrap (256 * (n : Int)) + IntKind.u64.wrap (c.toNat : Int)) = ((256 * n + c.toNat : Nat) : Int) := by
  have := c.toNat_lt
  rw [wrapU_byte, show (256 * (n : Int)) = ((256 * n : Nat) : Int) from by omega, wrapU_nat (by omega), ← Int.natCast_add, wrapU_nat (by omega)]
theorem word_or {n : Nat} {c : UInt8} (h : n < 72057594037927936) : bits BinOp.or IntKind.u64 (IntKind.u64.wrap ((n : Int) * 256)) (IntKind.u64.wrap (c.toNat : Int)) = ((256 * n + c.toNat : Nat) : Int) := by
  have hc := c.toNat_lt
  rw [wrapU_byte, show ((n : Int) * 256) = ((256 * n : Nat) : Int) from by omega, wrapU_nat (by omega), u64_or_nat _ _ (by omega) (by omega)]
  have := Nat.shiftLeft_add_eq_or_of_lt (i := 8) hc n
  rw [Nat.shiftLeft_eq] at this
  rw [Nat.mul_comm 256 n, ← this]

/-- P1.6: how many bytes both begin with alike -/
def common : List UInt8 → List UInt8 → Nat
  | c :: r, d :: t => if c.toNat = d.toNat then common r t + 1 else 0
  | _, _ => 0
theorem common_eq {c d : UInt8} {r t : List UInt8} (h : c.toNat = d.toNat) : common (c :: r) (d :: t) = common r t + 1 := by rw [common, if_pos h]
theorem common_ne {c d : UInt8} {r t : List UInt8} (h : ¬ c.toNat = d.toNat) : common (c :: r) (d :: t) = 0 := by rw [common, if_neg h]
theorem common_nil_l (t : List UInt8) : common [] t = 0 := by rw [common]; simp
theorem common_nil_r (r : List UInt8) : common r [] = 0 := by cases r <;> simp [common]

/-- P1.6: the text behind all that begin with this one: of the first n bytes. -/
def behindGo (l : List UInt8) : Nat → List UInt8
  | 0 => []
  | n + 1 => if (l.getD n 0).toNat = 255 then behindGo l n else l.take n ++ [l.getD n 0 + 1]
def behind (l : List UInt8) : List UInt8 := behindGo l l.length
theorem getD_b (s : ByteArray) (k : Nat) (h : k < s.size) : s.data.toList.getD k 0 = s[k] := by
  have h' : k < s.data.toList.length := by simpa using h
  rw [List.getD_eq_getElem?_getD, List.getElem?_eq_getElem h']; rfl
theorem behind_ff {s : ByteArray} {k : Nat} (h : k < s.size) (hf : s[k].toNat = 255) : behindGo s.data.toList (k + 1) = behindGo s.data.toList k := by rw [behindGo, getD_b s k h, if_pos hf]
theorem behind_up {s : ByteArray} {k : Nat} (h : k < s.size) (hf : ¬ s[k].toNat = 255) : behindGo s.data.toList (k + 1) = s.data.toList.take k ++ [s[k] + 1] := by rw [behindGo, getD_b s k h, if_neg hf]

/-- is there a byte that is not the greatest one? -/
def hasLow : List UInt8 → Bool
  | [] => false
  | c :: r => if c.toNat = 255 then hasLow r else true
theorem low_ff {c : UInt8} {r : List UInt8} (h : c.toNat = 255) : hasLow (c :: r) = hasLow r := by rw [hasLow, if_pos h]
theorem low_yes {c : UInt8} {r : List UInt8} (h : ¬ c.toNat = 255) : hasLow (c :: r) = true := by rw [hasLow, if_neg h]

theorem putU_last {m : Nat} (h : m < 128) : putU m = [UInt8.ofNat m] := by rw [putU, if_pos h]
theorem putU_more {m : Nat} (h : 128 ≤ m) : putU m = UInt8.ofNat (m % 128 + 128) :: putU (m / 128) := by rw [putU, if_neg (by omega)]
theorem put_room {m k N : Nat} (h : m * 128 ^ k ≤ N) (hN : N < 18446744073709551616) (hm : 1 ≤ m) : k ≤ 9 := by
  rcases Nat.lt_or_ge 9 k with h9 | h9
  · have h1 : 128 ^ 10 ≤ 128 ^ k := Nat.pow_le_pow_right (by omega) h9
    have h2 : 1 * 128 ^ k ≤ m * 128 ^ k := Nat.mul_le_mul_right _ hm
    have h3 : (128 : Nat) ^ 10 = 1180591620717411303424 := by decide
    omega
  · exact h9
theorem put_step {m k N : Nat} (h : m * 128 ^ k ≤ N) : m / 128 * 128 ^ (k + 1) ≤ N := by
  have h1 : m / 128 * 128 ≤ m := Nat.div_mul_le_self m 128
  have h2 : m / 128 * 128 * 128 ^ k ≤ m * 128 ^ k := Nat.mul_le_mul_right _ h1
  rw [pow_s, ← Nat.mul_assoc]; omega

/-- P1.4: the eight bytes of a word, the highest one first -/
def bigByte (n j : Nat) : UInt8 := UInt8.ofNat (n / 256 ^ (7 - j) % 256)
def big (n : Nat) : List UInt8 := (List.range 8).map (bigByte n)
/-- .. of which the last ones stand already, and the first k ones are 0 -/
def bigPart (n k : Nat) : List UInt8 := (List.range 8).map fun j => if j < k then 0 else bigByte n j
theorem bigPart_zero (n : Nat) : bigPart n 8 = [0, 0, 0, 0, 0, 0, 0, 0] := by simp [bigPart, List.range, List.range.loop]
theorem bigPart_done (n : Nat) : bigPart n 0 = big n := by simp [bigPart, big]
theorem bigPart_len (n k : Nat) : (bigPart n k).length = 8 := by simp [bigPart]
theorem bigPart_get (n k j : Nat) (h : j < 8) : (bigPart n k).getD j 0 = if j < k then 0 else bigByte n j := by
  rw [List.getD_eq_getElem?_getD, List.getElem?_eq_getElem (by rw [bigPart_len]; exact h)]
  simp [bigPart]
theorem bigByte_val (n k m : Nat) (hk : k < 8) (hm : m = n / 256 ^ (8 - (k + 1))) : Value.int .u8 ((m : Int) % 256) = .int .u8 ((bigByte n k).toNat : Int) := by
  congr 1; unfold bigByte; rw [UInt8.toNat_ofNat', show 7 - k = 8 - (k + 1) from by omega, ← hm]; omega
theorem big_down (n k m : Nat) (hk : k < 8) (hm : m = n / 256 ^ (8 - (k + 1))) : m / 256 = n / 256 ^ (8 - k) := by
  rw [hm, Nat.div_div_eq_div_mul, ← Nat.pow_succ, show (8 - (k + 1)).succ = 8 - k from by omega]
theorem big_m_lt (n k m : Nat) (hn : n < 18446744073709551616) (hm : m = n / 256 ^ (8 - (k + 1))) : m < 18446744073709551616 := by
  have := Nat.div_le_self n (256 ^ (8 - (k + 1))); omega
/-- the highest bit turned -/
def turn (m : Int) : Nat := (m + 9223372036854775808).toNat
theorem xor_top (n : Nat) (h : n < 18446744073709551616) : n ^^^ 9223372036854775808 = if n < 9223372036854775808 then n + 9223372036854775808 else n - 9223372036854775808 := by
  have hm : (n ^^^ 2 ^ 63) % 2 ^ 63 = n % 2 ^ 63 := by rw [Nat.xor_mod_two_pow]; simp
  have hd : (n ^^^ 2 ^ 63) / 2 ^ 63 = (n / 2 ^ 63) ^^^ 1 := by rw [Nat.xor_div_two_pow]
  have e : (2 : Nat) ^ 63 = 9223372036854775808 := by decide
  rw [e] at hm hd
  generalize hx : n ^^^ 9223372036854775808 = x at *
  by_cases hn : n < 9223372036854775808
  · rw [if_pos hn]
    have h0 : n / 9223372036854775808 = 0 := by omega
    rw [h0] at hd
    have : (0 ^^^ 1 : Nat) = 1 := by decide
    omega
  · rw [if_neg hn]
    have h0 : n / 9223372036854775808 = 1 := by omega
    rw [h0] at hd
    have : (1 ^^^ 1 : Nat) = 0 := by decide
    omega
theorem turn_eq (m : Int) (h1 : -9223372036854775808 ≤ m) (h2 : m ≤ 9223372036854775807) : bits BinOp.xor IntKind.u64 (IntKind.u64.wrap m) 9223372036854775808 = (turn m : Int) := by
  have e : IntKind.u64.wrap m = (((m % 18446744073709551616).toNat : Nat) : Int) := by rw [IntKind.wrap_u64]; omega
  have h := u64_xor_nat (m % 18446744073709551616).toNat 9223372036854775808 (by omega) (by omega)
  rw [e, show (9223372036854775808 : Int) = ((9223372036854775808 : Nat) : Int) from rfl, h, xor_top _ (by omega)]
  unfold turn
  split <;> omega
theorem turn_lt (m : Int) (h2 : m ≤ 9223372036854775807) : turn m < 18446744073709551616 := by unfold turn; omega

/-- a text, and two numbers handed back -/
theorem retS {k2 k3 : IntKind} {a a' : ByteArray} {b c b' c' : Int} (h1 : a = a') (h2 : b = b') (h3 : c = c') :
    Ending.returned (.tuple #[.string a, .int k2 b, .int k3 c]) = Ending.returned (.tuple #[.string a', .int k2 b', .int k3 c']) := by rw [h1, h2, h3]

/-- three numbers handed back -/
theorem ret3 {k1 k2 k3 : IntKind} {a b c a' b' c' : Int} (h1 : a = a') (h2 : b = b') (h3 : c = c') :
    Ending.returned (.tuple #[.int k1 a, .int k2 b, .int k3 c]) = Ending.returned (.tuple #[.int k1 a', .int k2 b', .int k3 c']) := by rw [h1, h2, h3]

/-- the cells of bytes -/
abbrev cs (l : List UInt8) : List Value := Lib.byteCells l
theorem cs_snoc (l : List UInt8) (c : UInt8) : cs (l ++ [c]) = cs l ++ [.int .u8 (c.toNat : Int)] := by simp [cs, Lib.byteCells]
theorem cs_len (l : List UInt8) : (cs l).length = l.length := by simp [cs, Lib.byteCells]
theorem byte_more (m : Nat) : Value.int .u8 ((m : Int) % 128 + 128) = .int .u8 ((UInt8.ofNat (m % 128 + 128)).toNat : Int) := by
  congr 1; rw [UInt8.toNat_ofNat']; omega
theorem byte_low {m : Nat} (h : m < 256) : Value.int .u8 (m : Int) = .int .u8 ((UInt8.ofNat m).toNat : Int) := by
  congr 1; rw [UInt8.toNat_ofNat']; omega
theorem byte_or (m : Nat) : Value.int .u8 (bits BinOp.or IntKind.u8 (IntKind.u8.wrap (m : Int)) 128) = .int .u8 ((UInt8.ofNat (m % 128 + 128)).toNat : Int) := by
  have e : IntKind.u8.wrap (m : Int) = ((m % 256 : Nat) : Int) := by rw [IntKind.wrap_u8]; omega
  have h := u8_or_nat (m % 256) 128 (by omega) (by omega)
  rw [e, show (128 : Int) = ((128 : Nat) : Int) from rfl, h, UInt8.toNat_ofNat']
  congr 2
  have h2 : m % 256 % 2 ^ 7 = m % 128 := by omega
  have h1 : (m % 256 ||| 128) = m % 128 + 128 := by
    have ha := Nat.shiftLeft_add_eq_or_of_lt (i := 7) (b := m % 128) (by omega) 1
    have hb : (1 : Nat) <<< 7 = 128 := by decide
    rw [hb] at ha
    by_cases hx : m % 256 < 128
    · rw [Nat.or_comm, show m % 256 = m % 128 from by omega, ← ha]; omega
    · have e2 : m % 256 = 128 ||| m % 128 := by rw [← ha]; omega
      rw [e2, Nat.or_comm, ← Nat.or_assoc, Nat.or_self, ← ha]; omega
  rw [h1]; omega

/-- what an append leaves, said of the longer list -/
theorem own_snoc {w : World} {base : Nat} {e : TypeId} {v : Value} {l : List UInt8} {n : Nat} {c : UInt8} {x : Value} (hx : x = .int .u8 (c.toNat : Int)) (hn : n = l.length + 1) (h : w.ownsRow base e 1 v n (cs l ++ [x])) :
    w.ownsRow base e 1 v (l ++ [c]).length (cs (l ++ [c])) := by
  rw [cs_snoc, List.length_append, List.length_singleton, ← hx, ← hn]; exact h
/-- 'string(b)' of bytes that the call itself gathered -/
theorem conv_own {P : Program} {w : World} {src dst e : TypeId} {base : Nat} {v : Value} {l : List UInt8} (hs : P.underlying src = some (.slice e)) (he : P.underlying e = some (.int .u8)) (hd : P.underlying dst = some .string)
    (h : w.ownsRow base e 1 v l.length (cs l)) : (convert src dst v).run P w = .ok (.string (bs l)) w := by
  rcases h.2 with ⟨rfl, h0⟩ | ⟨g, cap, cur, rfl, _, hg, _, _, _, htk⟩
  · have : l = [] := List.length_eq_zero_iff.1 h0
    subst this
    exact Lib.run_convert_nil_bytes w src dst e 0 hs he hd
  · exact run_convert_bytes_back w src dst e ⟨g, 0, none⟩ cap l hs he hd (Lib.bytes_of_row hg (by simpa using htk))

end Cd
end Go.Proofs.YteckjhhbljoklaaDoor
