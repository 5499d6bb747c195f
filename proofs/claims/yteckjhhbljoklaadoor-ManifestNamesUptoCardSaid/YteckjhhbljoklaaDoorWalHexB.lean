/-
  Plain mathematics of P5.1: the digits of sixteen that a number needs, and the noughts ahead of them. No program is named here.
-/
import Derived.Test.YteckjhhbljoklaaDoorWalHex
namespace Go.Proofs.YteckjhhbljoklaaDoor
namespace Wa
/-- the digits that a number needs, the highest first -/
def hexm (n : Nat) : List UInt8 := if n < 16 then [hexd n] else hexm (n / 16) ++ [hexd (n % 16)]
decreasing_by omega
theorem hexm_small {n : Nat} (h : n < 16) : hexm n = [hexd n] := by rw [hexm, if_pos h]
theorem hexm_big {n : Nat} (h : 16 ≤ n) : hexm n = hexm (n / 16) ++ [hexd (n % 16)] := by rw [hexm, if_neg (by omega)]
theorem hexs_zero : ∀ k, hexs k 0 = List.replicate k 48
  | 0 => rfl
  | k + 1 => by rw [hexs, show 0 / 16 = 0 from rfl, hexs_zero k, List.replicate_succ']; rfl
theorem hexm_len : ∀ (k n : Nat), n < 16 ^ (k + 1) → 1 ≤ (hexm n).length ∧ (hexm n).length ≤ k + 1
  | 0, n, h => by rw [hexm_small (by simpa using h)]; simp
  | k + 1, n, h => by
    by_cases hn : n < 16
    · rw [hexm_small hn]; simp
    · rw [hexm_big (by omega), List.length_append]
      have := hexm_len k (n / 16) (by rw [Nat.pow_succ] at h; omega)
      simp; omega
theorem hexs_hexm : ∀ (k n : Nat), n < 16 ^ (k + 1) → hexs (k + 1) n = List.replicate (k + 1 - (hexm n).length) 48 ++ hexm n
  | 0, n, h => by rw [hexm_small (by simpa using h), hexs, hexs, Nat.mod_eq_of_lt (by simpa using h)]; rfl
  | k + 1, n, h => by
    rw [hexs]
    by_cases hn : n < 16
    · rw [hexm_small hn, show n / 16 = 0 by omega, Nat.mod_eq_of_lt hn, hexs_zero]; rfl
    · have h2 : n / 16 < 16 ^ (k + 1) := by rw [Nat.pow_succ] at h; omega
      rw [hexm_big (by omega), hexs_hexm k _ h2, List.length_append, List.append_assoc]
      have := hexm_len k _ h2
      simp
theorem name_hexm {n : Nat} (h : n < 18446744073709551616) : name n = logB ++ (List.replicate (16 - (hexm n).length) 48 ++ hexm n) := by
  unfold name
  rw [hexs_hexm 15 n (by have : (16 : Nat) ^ (15 + 1) = 18446744073709551616 := by decide
                         omega)]
theorem hexm_in {n : Nat} (h : n < 18446744073709551616) : 1 ≤ (hexm n).length ∧ (hexm n).length ≤ 16 :=
  hexm_len 15 n (by have : (16 : Nat) ^ (15 + 1) = 18446744073709551616 := by decide
                    omega)
/-- what sixteen digits say lies below this -/
theorem hexGo_of_name {l : List UInt8} {n : Nat} (h : n < 18446744073709551616) (hl : l = name n) : l.take 4 = logB ∧ (l.drop 4).length = 16 ∧ hexGo (l.drop 4) 0 = some n := by
  subst hl
  have h1 := numOf_name n h
  unfold numOf at h1
  split at h1
  · rename_i hx
    exact ⟨hx.2, by rw [List.length_drop, hx.1]; rfl, h1⟩
  · cases h1
theorem hexd_hexv {c : UInt8} {v : Nat} (h : hexv c = some v) : hexd v = c := by
  have hc := c.toNat_lt
  have key : ∀ k, k = c.toNat → UInt8.ofNat k = c := fun k e => by rw [e]; simp
  unfold hexv at h
  split at h
  · injection h with h; subst h; unfold hexd; rw [if_pos (by omega)]; exact key _ (by omega)
  · split at h
    · injection h with h; subst h; unfold hexd; rw [if_neg (by omega)]; exact key _ (by omega)
    · cases h
theorem hexs_go : ∀ (l : List UInt8) (j a n : Nat), hexGo l a = some n → hexs (l.length + j) n = hexs j a ++ l
  | [], j, a, n, h => by
    rw [hexGo] at h; injection h with h; subst h; simp
  | c :: r, j, a, n, h => by
    rw [hexGo] at h
    cases hv : hexv c with
    | none => rw [hv] at h; cases h
    | some v =>
      rw [hv] at h
      have hv16 := hexv_lt hv
      have := hexs_go r (j + 1) _ n h
      rw [hexs, show (16 * a + v) / 16 = a by omega, show (16 * a + v) % 16 = v by omega, hexd_hexv hv] at this
      rw [List.length_cons, show r.length + 1 + j = r.length + (j + 1) by omega, this, List.append_assoc]
      rfl
theorem hexs_of_hexGo {l : List UInt8} {n : Nat} (h : hexGo l 0 = some n) (hl : l.length = 16) : hexs 16 n = l := by
  have := hexs_go l 0 0 n h
  rw [hl] at this
  exact this
/-- a name tells its number: by the number's own name -/
theorem numOf_by {l : List UInt8} {n : Nat} (h : n < 18446744073709551616) (hn : ∀ m, m < 18446744073709551616 → l = name m → n = m) : numOf logB l = if name n = l then some n else none := by
  by_cases hl : name n = l
  · rw [if_pos hl, ← hl, numOf_name n h]
  · rw [if_neg hl]
    cases hx : numOf logB l with
    | none => rfl
    | some m =>
      exfalso
      have hm := numOf_lt hx
      have hlm : l = name m := by
        unfold numOf at hx
        split at hx
        · rename_i hc
          have hs := hexs_of_hexGo hx (by rw [List.length_drop]; omega)
          have ht := List.take_append_drop logB.length l
          rw [hc.2] at ht
          rw [show name m = logB ++ hexs 16 m from rfl, hs]
          exact ht.symm
        · cases hx
      exact hl (by rw [hn m hm hlm, ← hlm])
end Wa
end Go.Proofs.YteckjhhbljoklaaDoor
