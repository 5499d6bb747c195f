/-
  Plain mathematics of chapter 2 (frame): check sums, frames as bytes.
-/
import Derived.Test.YtenjjfiojackaaaCodecPlainB
namespace Go.Proofs.Ytenjjfiojackaaa
namespace Fr
open Go.RowKit

/-- P2.1: one of eight steps -/
def step (n : Nat) : Nat := if n % 2 = 1 then n / 2 ^^^ 3988292384 else n / 2
def steps : Nat → Nat → Nat
  | 0, n => n
  | k + 1, n => step (steps k n)
/-- what a byte does -/
def byte (n : Nat) (c : UInt8) : Nat := steps 8 (n ^^^ c.toNat)
def run (n : Nat) (l : List UInt8) : Nat := l.foldl byte n
/-- the check sum -/
def sum (l : List UInt8) : Nat := 4294967295 ^^^ run 4294967295 l

theorem step_odd {n : Nat} (h : n % 2 = 1) : step n = n / 2 ^^^ 3988292384 := by rw [step, if_pos h]
theorem step_even {n : Nat} (h : ¬ n % 2 = 1) : step n = n / 2 := by rw [step, if_neg h]
theorem xor_lt32 {a b : Nat} (ha : a < 4294967296) (hb : b < 4294967296) : a ^^^ b < 4294967296 := Nat.xor_lt_two_pow (n := 32) ha hb
theorem step_lt {n : Nat} (h : n < 4294967296) : step n < 4294967296 := by
  unfold step; split
  · exact xor_lt32 (by omega) (by omega)
  · omega
theorem steps_lt {n : Nat} (h : n < 4294967296) : ∀ k, steps k n < 4294967296
  | 0 => h
  | k + 1 => step_lt (steps_lt h k)
theorem byte_lt {n : Nat} (h : n < 4294967296) (c : UInt8) : byte n c < 4294967296 := steps_lt (xor_lt32 h (by have := c.toNat_lt; omega)) 8
theorem run_lt (l : List UInt8) : ∀ {n : Nat}, n < 4294967296 → run n l < 4294967296 := by
  induction l with
  | nil => intro n h; exact h
  | cons c l ih => intro n h; exact ih (byte_lt h c)
theorem run_snoc (n : Nat) (l : List UInt8) (c : UInt8) : run n (l ++ [c]) = byte (run n l) c := by simp [run]
theorem run_app (n : Nat) (l m : List UInt8) : run n (l ++ m) = run (run n l) m := by simp [run]
theorem sum_lt (l : List UInt8) : sum l < 4294967296 := xor_lt32 (by omega) (run_lt l (by omega))

/-- the steps as the walk spells them -/
theorem walk_odd {n : Nat} (hn : n < 4294967296) (h : n % 2 = 1) : bits BinOp.xor IntKind.u32 ((n : Int) / 2 % 4294967296) 3988292384 = (step n : Int) := by
  rw [show ((n : Int) / 2 % 4294967296) = ((n / 2 : Nat) : Int) from by omega, show (3988292384 : Int) = ((3988292384 : Nat) : Int) from rfl, u32_xor_nat _ _ (by omega) (by omega), step_odd h]
theorem walk_even {n : Nat} (hn : n < 4294967296) (h : ¬ n % 2 = 1) : ((n : Int) / 2 % 4294967296) = (step n : Int) := by rw [step_even h]; omega
theorem walk_in {n : Nat} (hn : n < 4294967296) (c : UInt8) : bits BinOp.xor IntKind.u32 (n : Int) (c.toNat : Int) = ((n ^^^ c.toNat : Nat) : Int) := by
  rw [u32_xor_nat _ _ hn (by have := c.toNat_lt; omega)]
theorem walk_out {n : Nat} (hn : n < 4294967296) : bits BinOp.xor IntKind.u32 IntKind.u32.max (n : Int) = ((4294967295 ^^^ n : Nat) : Int) := by
  rw [show IntKind.u32.max = ((4294967295 : Nat) : Int) from rfl, u32_xor_nat _ _ (by omega) hn]
theorem wrap32_byte (c : UInt8) : IntKind.u32.wrap (c.toNat : Int) = (c.toNat : Int) := by
  have := c.toNat_lt
  rw [IntKind.wrap_u32']; omega
/-- P2.2: four bytes, the lowest one first -/
def litByte (n j : Nat) : UInt8 := UInt8.ofNat (n / 256 ^ j % 256)
def lit (n : Nat) : List UInt8 := (List.range 4).map (litByte n)
def litPart (n k : Nat) : List UInt8 := (List.range 4).map fun j => if j < k then litByte n j else 0
theorem litPart_zero (n : Nat) : litPart n 0 = [0, 0, 0, 0] := by simp [litPart, List.range, List.range.loop]
theorem litPart_done (n : Nat) : litPart n 4 = lit n := by
  unfold litPart lit; apply List.map_congr_left; intro j hj; rw [if_pos (by simpa using hj)]
theorem litPart_len (n k : Nat) : (litPart n k).length = 4 := by simp [litPart]
theorem lit_len (n : Nat) : (lit n).length = 4 := by simp [lit]
theorem litPart_get (n k j : Nat) (h : j < 4) : (litPart n k).getD j 0 = if j < k then litByte n j else 0 := by
  rw [List.getD_eq_getElem?_getD, List.getElem?_eq_getElem (by rw [litPart_len]; exact h)]
  simp [litPart]
theorem litByte_val (n k m : Nat) (hm : m = n / 256 ^ k) : Value.int .u8 ((m : Int) % 256) = .int .u8 ((litByte n k).toNat : Int) := by
  congr 1; unfold litByte; rw [UInt8.toNat_ofNat', ← hm]; omega
theorem lit_down (n k m : Nat) (hm : m = n / 256 ^ k) : m / 256 = n / 256 ^ (k + 1) := by
  rw [hm, Nat.div_div_eq_div_mul, ← Nat.pow_succ]
theorem lit_wrap (n k m : Nat) (hn : n < 4294967296) (hm : m = n / 256 ^ k) : ((m : Int) / 256 % 4294967296) = ((m / 256 : Nat) : Int) := by
  have := Nat.div_le_self n (256 ^ k); omega
/-- the four bytes say the number -/
theorem lit_inj {a b : Nat} (ha : a < 4294967296) (hb : b < 4294967296) (h : lit a = lit b) : a = b := by
  have e : ∀ n, lit n = [litByte n 0, litByte n 1, litByte n 2, litByte n 3] := fun n => by simp [lit, List.range, List.range.loop]
  have v : ∀ n j, (litByte n j).toNat = n / 256 ^ j % 256 := fun n j => by unfold litByte; rw [UInt8.toNat_ofNat']; omega
  rw [e a, e b] at h
  simp only [List.cons.injEq, and_true] at h
  have h0 := congrArg UInt8.toNat h.1
  have h1 := congrArg UInt8.toNat h.2.1
  have h2 := congrArg UInt8.toNat h.2.2.1
  have h3 := congrArg UInt8.toNat h.2.2.2
  rw [v, v] at h0 h1 h2 h3
  simp only [Nat.pow_zero, Nat.reducePow] at h0 h1 h2 h3
  omega
/-- P2.2: a frame's bytes, or why it has none -/
def put (c : UInt8) (l : List UInt8) : List UInt8 × Nat :=
  if c.toNat = 0 ∨ 262144 < l.length then ([], 1) else (lit (sum (c :: Cd.putT l)) ++ c :: Cd.putT l, 0)
theorem put_zero {c : UInt8} {l : List UInt8} (h : c.toNat = 0) : put c l = ([], 1) := by unfold put; rw [if_pos (.inl h)]
theorem put_long {c : UInt8} {l : List UInt8} (h : 262144 < l.length) : put c l = ([], 1) := by unfold put; rw [if_pos (.inr h)]
theorem put_ok {c : UInt8} {l : List UInt8} (h : ¬ c.toNat = 0) (hl : l.length ≤ 262144) : put c l = (lit (sum (c :: Cd.putT l)) ++ c :: Cd.putT l, 0) := by
  unfold put; rw [if_neg (by omega)]
/-- P2.3: reading a frame: ((kind, load), bytes, what is wrong) -/
def take (l : List UInt8) : (UInt8 × List UInt8) × Nat × Nat :=
  if l.length < 5 then ((0, []), 0, 2)
  else if (l.getD 4 0).toNat = 0 then ((0, []), 0, 3)
  else if (Cd.takeT (l.drop 5) 262144).2.2 ≠ 0 then ((0, []), 0, (Cd.takeT (l.drop 5) 262144).2.2)
  else if lit (sum ((l.drop 4).take ((Cd.takeT (l.drop 5) 262144).2.1 + 1))) ≠ l.take 4 then ((0, []), 0, 3)
  else ((l.getD 4 0, (Cd.takeT (l.drop 5) 262144).1), 5 + (Cd.takeT (l.drop 5) 262144).2.1, 0)
theorem take_few {l : List UInt8} (h : l.length < 5) : take l = ((0, []), 0, 2) := by unfold take; rw [if_pos h]
theorem take_zero {l : List UInt8} (h : 5 ≤ l.length) (h0 : (l.getD 4 0).toNat = 0) : take l = ((0, []), 0, 3) := by unfold take; rw [if_neg (by omega), if_pos h0]
theorem take_err {l t : List UInt8} {n e : Nat} (h : 5 ≤ l.length) (h0 : ¬ (l.getD 4 0).toNat = 0) (ht : Cd.takeT (l.drop 5) 262144 = (t, n, e)) (he : e ≠ 0) : take l = ((0, []), 0, e) := by
  unfold take; rw [if_neg (by omega), if_neg h0, ht, if_pos he]
theorem take_bad {l t : List UInt8} {n : Nat} (h : 5 ≤ l.length) (h0 : ¬ (l.getD 4 0).toNat = 0) (ht : Cd.takeT (l.drop 5) 262144 = (t, n, 0)) (hs : lit (sum ((l.drop 4).take (n + 1))) ≠ l.take 4) : take l = ((0, []), 0, 3) := by
  unfold take; rw [if_neg (by omega), if_neg h0, ht]; simp only [ne_eq, not_true_eq_false, if_false]; rw [if_pos hs]
theorem take_ok {l t : List UInt8} {n : Nat} (h : 5 ≤ l.length) (h0 : ¬ (l.getD 4 0).toNat = 0) (ht : Cd.takeT (l.drop 5) 262144 = (t, n, 0)) (hs : lit (sum ((l.drop 4).take (n + 1))) = l.take 4) : take l = ((l.getD 4 0, t), 5 + n, 0) := by
  unfold take; rw [if_neg (by omega), if_neg h0, ht]; simp only [ne_eq, not_true_eq_false, if_false]; rw [if_neg (by simpa using hs)]
theorem takeT_len (l : List UInt8) (m : Int) : (Cd.takeT l m).2.1 ≤ l.length ∧ ((Cd.takeT l m).2.2 = 0 → (Cd.takeT l m).1.length ≤ m.toNat) ∧ (Cd.takeT l m).2.2 ≤ 3 := by
  obtain ⟨o1, o2, o3, o4⟩ := Cd.takeU_ok l
  unfold Cd.takeT
  split
  · exact ⟨Nat.zero_le _, fun _ => Nat.zero_le _, o4⟩
  · split
    · exact ⟨Nat.zero_le _, fun _ => Nat.zero_le _, by simp⟩
    · split
      · exact ⟨Nat.zero_le _, fun _ => Nat.zero_le _, by simp⟩
      · refine ⟨by simp only; omega, fun _ => ?_, by simp⟩
        simp only [List.length_take]; omega
/-- P2.4: the frames from a place on, each with its place; and where they end -/
def allGo (l : List UInt8) (p : Nat) : List (Nat × (UInt8 × List UInt8)) × Nat :=
  if _h : p < l.length ∧ (take (l.drop p)).2.2 = 0 ∧ 0 < (take (l.drop p)).2.1 then
    ((p, (take (l.drop p)).1) :: (allGo l (p + (take (l.drop p)).2.1)).1, (allGo l (p + (take (l.drop p)).2.1)).2)
  else ([], p)
termination_by l.length - p
decreasing_by all_goals omega
def all (l : List UInt8) : List (Nat × (UInt8 × List UInt8)) × Nat := allGo l 0
theorem allGo_stop {l : List UInt8} {p : Nat} (h : ¬ (p < l.length ∧ (take (l.drop p)).2.2 = 0 ∧ 0 < (take (l.drop p)).2.1)) : allGo l p = ([], p) := by rw [allGo]; rw [dif_neg h]
theorem allGo_more {l : List UInt8} {p : Nat} (h : p < l.length ∧ (take (l.drop p)).2.2 = 0 ∧ 0 < (take (l.drop p)).2.1) :
    allGo l p = ((p, (take (l.drop p)).1) :: (allGo l (p + (take (l.drop p)).2.1)).1, (allGo l (p + (take (l.drop p)).2.1)).2) := by
  conv => lhs; rw [allGo]
  rw [dif_pos h]
/-- a frame that is taken has bytes, no more than are there -/
theorem take_len (l : List UInt8) : (take l).2.1 ≤ l.length ∧ ((take l).2.2 = 0 → 5 ≤ (take l).2.1) ∧ (take l).2.2 ≤ 3 := by
  obtain ⟨q1, q2, q3⟩ := takeT_len (l.drop 5) 262144
  unfold take
  split
  · exact ⟨Nat.zero_le _, fun h => by simp at h, by simp⟩
  · split
    · exact ⟨Nat.zero_le _, fun h => by simp at h, by simp⟩
    · split
      · exact ⟨Nat.zero_le _, fun h => by rename_i h2; exact absurd h h2, q3⟩
      · split
        · exact ⟨Nat.zero_le _, fun h => by simp at h, by simp⟩
        · refine ⟨?_, fun _ => by simp, by simp⟩
          rw [List.length_drop] at q1; simp only; omega
end Fr
end Go.Proofs.Ytenjjfiojackaaa
