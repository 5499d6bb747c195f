/-
  Plain mathematics of P5.1: sixteen digits of sixteen, and the number that they say. No program is named here.
-/
import Derived.Test.YteckjhhbljoklaaDoorCodecPlainB
namespace Go.Proofs.YteckjhhbljoklaaDoor
namespace Wa
/-- a digit -/
def hexd (k : Nat) : UInt8 := if k < 10 then UInt8.ofNat (48 + k) else UInt8.ofNat (87 + k)
/-- the last digits of a number, so many, the highest first -/
def hexs : Nat → Nat → List UInt8
  | 0, _ => []
  | k + 1, n => hexs k (n / 16) ++ [hexd (n % 16)]
theorem hexs_len : ∀ k n, (hexs k n).length = k
  | 0, _ => rfl
  | k + 1, n => by rw [hexs, List.length_append, hexs_len k]; rfl
/-- a digit's number -/
def hexv (c : UInt8) : Option Nat := if 48 ≤ c.toNat ∧ c.toNat ≤ 57 then some (c.toNat - 48) else if 97 ≤ c.toNat ∧ c.toNat ≤ 102 then some (c.toNat - 87) else none
def hexGo : List UInt8 → Nat → Option Nat
  | [], n => some n
  | c :: r, n => match hexv c with | some v => hexGo r (16 * n + v) | none => none
/-- the number of a name that begins so -/
def numOf (a s : List UInt8) : Option Nat := if s.length = a.length + 16 ∧ s.take a.length = a then hexGo (s.drop a.length) 0 else none
def logB : List UInt8 := [108, 111, 103, 45]
def name (n : Nat) : List UInt8 := logB ++ hexs 16 n
theorem hexv_hexd (k : Nat) (h : k < 16) : hexv (hexd k) = some k := by
  have : ∀ j : Fin 16, hexv (hexd j.1) = some j.1 := by decide
  exact this ⟨k, h⟩
theorem hexv_lt {c : UInt8} {v : Nat} (h : hexv c = some v) : v < 16 := by
  unfold hexv at h
  split at h
  · injection h; omega
  · split at h
    · injection h; omega
    · cases h
theorem hexGo_app : ∀ (l r : List UInt8) (n : Nat), hexGo (l ++ r) n = (hexGo l n).bind fun m => hexGo r m
  | [], r, n => rfl
  | c :: l, r, n => by
    rw [List.cons_append, hexGo, hexGo]
    cases hexv c with
    | none => rfl
    | some v => exact hexGo_app l r _
theorem hexGo_hexs : ∀ (k n a : Nat), hexGo (hexs k n) a = some (a * 16 ^ k + n % 16 ^ k)
  | 0, n, a => by simp [hexs, hexGo, Nat.mod_one]
  | k + 1, n, a => by
    rw [hexs, hexGo_app, hexGo_hexs k]
    simp only [Option.bind_some, hexGo, hexv_hexd (n % 16) (Nat.mod_lt _ (by omega))]
    congr 1
    have h1 : n % 16 ^ (k + 1) = 16 * (n / 16 % 16 ^ k) + n % 16 := by
      rw [Nat.pow_succ, Nat.mul_comm (16 ^ k) 16, Nat.mod_mul]; omega
    rw [h1, Nat.pow_succ]
    have : 16 * (a * 16 ^ k) = a * (16 ^ k * 16) := by rw [Nat.mul_comm (16 ^ k) 16, ← Nat.mul_assoc, ← Nat.mul_assoc, Nat.mul_comm 16 a]
    omega
theorem hexGo_lt : ∀ (l : List UInt8) (a n : Nat), hexGo l a = some n → n < (a + 1) * 16 ^ l.length
  | [], a, n, h => by simp [hexGo] at h; subst h; simp
  | c :: r, a, n, h => by
    rw [hexGo] at h
    cases hv : hexv c with
    | none => rw [hv] at h; cases h
    | some v =>
      rw [hv] at h
      have h1 := hexGo_lt r _ n h
      have h2 := hexv_lt hv
      have h3 : (16 * a + v + 1) * 16 ^ r.length ≤ (16 * (a + 1)) * 16 ^ r.length := Nat.mul_le_mul_right _ (by omega)
      rw [List.length_cons, Nat.pow_succ, Nat.mul_comm (16 ^ r.length) 16, ← Nat.mul_assoc, Nat.mul_comm (a + 1) 16]
      omega
theorem numOf_name (n : Nat) (h : n < 18446744073709551616) : numOf logB (name n) = some n := by
  unfold numOf name
  rw [if_pos ⟨by rw [List.length_append, hexs_len], by rw [List.take_left' rfl]⟩, List.drop_left' rfl, hexGo_hexs]
  congr 1
  rw [Nat.zero_mul, Nat.zero_add]
  exact Nat.mod_eq_of_lt (by have : (16 : Nat) ^ 16 = 18446744073709551616 := by decide
                             omega)
theorem numOf_lt {a s : List UInt8} {n : Nat} (h : numOf a s = some n) : n < 18446744073709551616 := by
  unfold numOf at h
  split at h
  · rename_i hx
    have h1 := hexGo_lt _ _ _ h
    have h2 : (s.drop a.length).length = 16 := by rw [List.length_drop]; omega
    rw [h2] at h1
    have : (16 : Nat) ^ 16 = 18446744073709551616 := by decide
    omega
  · cases h
/-- no other name says any number -/
theorem numOf_some {s : List UInt8} {n : Nat} (h : numOf logB s = some n) : s.length = 20 ∧ s.take 4 = logB := by
  unfold numOf at h
  split at h
  · rename_i hx; exact ⟨hx.1, hx.2⟩
  · cases h
/-! step by step -/
theorem hexGo_some {l : List UInt8} {k : Nat} (hk : k < l.length) {v : Nat} (hv : hexv l[k] = some v) (a : Nat) : hexGo (l.drop k) a = hexGo (l.drop (k + 1)) (16 * a + v) := by
  rw [List.drop_eq_getElem_cons hk, hexGo, hv]
theorem hexGo_none {l : List UInt8} {k : Nat} (hk : k < l.length) (hv : hexv l[k] = none) (a : Nat) : hexGo (l.drop k) a = none := by
  rw [List.drop_eq_getElem_cons hk, hexGo, hv]
end Wa
end Go.Proofs.YteckjhhbljoklaaDoor
