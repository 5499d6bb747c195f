/-
  P6.1, P6.2: the order of versions, towers' heights: plain, the document's answers (tapestryref06), the law MemtableOrder over what the program owes.
-/
import Derived.Test.YtenjjfiojackaaaCodecBig
import Derived.Test.YtenjjfiojackaaaFilesRootR
import Derived.Test.YtenjjfiojackaaaGen
import Derived.Test.YtenjjfiojackaaaObj
import Derived.LoopTactic
import Derived.BigQuiet
import Derived.Deep.QuietTactic
namespace Go.Proofs.Ytenjjfiojackaaa
open Go.RowKit
set_option linter.unusedSimpArgs false
set_option linter.unusedVariables false
namespace Mt
open Op (bytesLess)
/-- a version: its key, its sequence number, whether it takes away, its value -/
structure Ver where
  key : List UInt8
  seq : Int
  del : Bool
  val : List UInt8
def lessB (a b : Ver) : Bool := if a.key = b.key then decide (b.seq < a.seq) else bytesLess a.key b.key
def placeB (a b : Ver) : Bool := decide (a.key = b.key ∧ a.seq = b.seq)
theorem less_total (a b : Ver) : (lessB a b && lessB b a) = false ∧ (lessB a b || lessB b a) = !placeB a b := by
  unfold lessB placeB
  by_cases h : a.key = b.key
  · rw [if_pos h, if_pos h.symm]
    by_cases h1 : a.seq < b.seq
    · have h2 : ¬ b.seq < a.seq := by omega
      have h3 : ¬ a.seq = b.seq := by omega
      simp [h, h1, h2, h3]
    · by_cases h2 : b.seq < a.seq
      · have h3 : ¬ a.seq = b.seq := by omega
        simp [h, h1, h2, h3]
      · have h3 : a.seq = b.seq := by omega
        simp [h, h3]
  · rw [if_neg h, if_neg (fun e => h e.symm)]
    have ht := Fi.bl_total a.key b.key
    have hne : (b.key == a.key) = false := by simpa using fun e => h e.symm
    rw [hne, Bool.or_false] at ht
    rw [ht]
    have : decide (a.key = b.key ∧ a.seq = b.seq) = false := by simp [h]
    rw [this]
    cases bytesLess b.key a.key <;> simp
/-- P6.2 -/
def hgtGo : Nat → Nat → Int → Nat
  | 0, n, _ => n
  | f + 1, n, x => if n < 8 ∧ x % 4 = 0 then hgtGo f (n + 1) (x / 4) else n
def seedOf (seed seq : Int) : Int := mixOf (bits BinOp.xor IntKind.u64 seed (mixOf seq))
def height (seed seq : Int) : Nat := hgtGo 7 1 (seedOf seed seq)
def VerIn (a : Ver) : Prop := a.key.length ≤ 1048576 ∧ a.val.length ≤ 1048576 ∧ 0 ≤ a.seq ∧ a.seq < 18446744073709551616
/-- however long -/
def VerW (a : Ver) : Prop := a.key.length ≤ 140737488351232 ∧ a.val.length ≤ 140737488351232 ∧ 0 ≤ a.seq ∧ a.seq < 18446744073709551616
theorem VerIn.wide {a : Ver} (h : VerIn a) : VerW a := ⟨Nat.le_trans h.1 (by omega), Nat.le_trans h.2.1 (by omega), h.2.2.1, h.2.2.2⟩
def verV (a : Ver) : Value := .agg #[.string (Cd.bs a.key), .int .u64 a.seq, .bool a.del, .string (Cd.bs a.val)]

theorem xor_in {a b : Int} (ha : 0 ≤ a ∧ a < 18446744073709551616) (hb : 0 ≤ b ∧ b < 18446744073709551616) : 0 ≤ bits BinOp.xor IntKind.u64 a b ∧ bits BinOp.xor IntKind.u64 a b < 18446744073709551616 := by
  obtain ⟨m, rfl⟩ := Int.eq_ofNat_of_zero_le ha.1
  obtain ⟨n, rfl⟩ := Int.eq_ofNat_of_zero_le hb.1
  rw [u64_xor_nat m n (by omega) (by omega)]
  have := Nat.xor_lt_two_pow (x := m) (y := n) (n := 64) (by omega) (by omega)
  omega
theorem mix_in (N : Int) : 0 ≤ mixOf N ∧ mixOf N < 18446744073709551616 := by
  unfold mixOf
  simp only
  have key : ∀ x : Int, 0 ≤ IntKind.u64.wrap x ∧ IntKind.u64.wrap x < 18446744073709551616 := fun x => by rw [IntKind.wrap_u64]; omega
  have h := key (bits BinOp.xor IntKind.u64 (IntKind.u64.wrap (bits BinOp.xor IntKind.u64 (IntKind.u64.wrap (N + 11400714819323198485)) (IntKind.u64.wrap (N + 11400714819323198485) / 1073741824) * 13787848793156543929)) (IntKind.u64.wrap (bits BinOp.xor IntKind.u64 (IntKind.u64.wrap (N + 11400714819323198485)) (IntKind.u64.wrap (N + 11400714819323198485) / 1073741824) * 13787848793156543929) / 134217728) * 10723151780598845931)
  exact xor_in h (by omega)

end Mt
end Go.Proofs.Ytenjjfiojackaaa