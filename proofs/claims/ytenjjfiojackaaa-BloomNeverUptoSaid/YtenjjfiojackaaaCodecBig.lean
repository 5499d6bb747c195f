import Derived.Test.YtenjjfiojackaaaCodecPut
namespace Go.Proofs.Ytenjjfiojackaaa
open Go.RowKit
set_option linter.unusedSimpArgs false
set_option linter.unusedVariables false

/-- P1.7, as the walk spells it -/
def mixOf (N : Int) : Int :=
  let a := IntKind.u64.wrap (N + 11400714819323198485)
  let b := IntKind.u64.wrap (bits BinOp.xor IntKind.u64 a (a / 1073741824) * 13787848793156543929)
  let c := IntKind.u64.wrap (bits BinOp.xor IntKind.u64 b (b / 134217728) * 10723151780598845931)
  bits BinOp.xor IntKind.u64 c (c / 2147483648)
theorem byte_at (n i : Nat) (hi : i < 8) : Value.int .u8 ((n : Int) / 2 ^ (8 * i) % 256) = .int .u8 ((Cd.bigByte n (7 - i)).toNat : Int) := by
  congr 1
  unfold Cd.bigByte
  rw [UInt8.toNat_ofNat', show 7 - (7 - i) = i from by omega, show (256 : Nat) ^ i = 2 ^ (8 * i) from by rw [Nat.pow_mul]]
  have : ((n : Int) / 2 ^ (8 * i)) = ((n / 2 ^ (8 * i) : Nat) : Int) := by simp
  rw [this]; omega

/-- eight cells that hold these bytes, and may be written -/
def Row8 (w : World) (g : Nat) (l : List UInt8) : Prop := ∀ j, j < 8 → w.cell? ⟨g, j, none⟩ = some (.int .u8 ((l.getD j 0).toNat : Int)) ∧ w.frozen? ⟨g, j, none⟩ = false
theorem Row8.store {w : World} {g n k : Nat} {x : Value} (h : Row8 w g (Cd.bigPart n (k + 1))) (hk : k < 8) (hx : x = .int .u8 ((Cd.bigByte n k).toNat : Int)) :
    Row8 (w.setCell ⟨g, k, none⟩ x) g (Cd.bigPart n k) := by
  intro j hj
  rw [World.frozen?_setCell]
  refine ⟨?_, (h j hj).2⟩
  rw [Cd.bigPart_get _ _ _ hj]
  by_cases hjk : j = k
  · subst hjk
    rw [World.cell?_setCell_same (h := (h j hj).1), hx, if_neg (by omega)]
  · rw [World.cell?_setCell_other (h := by simp only [ne_eq, Addr.mk.injEq, true_and, and_true]; omega), (h j hj).1, Cd.bigPart_get _ _ _ hj]
    by_cases h1 : j < k
    · rw [if_pos h1, if_pos (by omega)]
    · rw [if_neg h1, if_neg (by omega)]
theorem Row8.conv {w : World} {g c : Nat} {l : List UInt8} (h : Row8 w g l) (hl : l.length = 8) : (convert 34 9 (.slice (some ⟨g, 0, none⟩) 8 c)).run Try.prog w = .ok (.string (Cd.bs l)) w := by
  have := run_convert_bytes_back (P := Try.prog) w 34 9 5 ⟨g, 0, none⟩ c l Try.underlying34 Try.underlying5 Try.underlying9 (fun j hj => by
    have := (h j (by omega)).1
    rw [List.getD_eq_getElem?_getD, List.getElem?_eq_getElem hj] at this
    have hp : (⟨g, 0, none⟩ : Addr).add j = ⟨g, j, none⟩ := by unfold Addr.add; split <;> simp_all
    rw [hp]; simpa using this)
  rwa [hl] at this
theorem Row8.new (w : World) (n : Nat) (T : TypeId) : Row8 (w.alloc (.cells #[.int .u8 0, .int .u8 0, .int .u8 0, .int .u8 0, .int .u8 0, .int .u8 0, .int .u8 0, .int .u8 0] T)) w.heap.size (Cd.bigPart n 8) := by
  intro j hj
  rw [Cd.bigPart_zero]
  match j, hj with
  | 0, _ => exact ⟨by go_simp, by go_simp⟩
  | 1, _ => exact ⟨by go_simp, by go_simp⟩
  | 2, _ => exact ⟨by go_simp, by go_simp⟩
  | 3, _ => exact ⟨by go_simp, by go_simp⟩
  | 4, _ => exact ⟨by go_simp, by go_simp⟩
  | 5, _ => exact ⟨by go_simp, by go_simp⟩
  | 6, _ => exact ⟨by go_simp, by go_simp⟩
  | 7, _ => exact ⟨by go_simp, by go_simp⟩

set_option maxRecDepth 100000 in
set_option maxHeartbeats 1000000 in
theorem mixc_any (N : Int) (w : World) (h0 : 0 ≤ N) (h1 : N ≤ 18446744073709551615) :
    Calls Try.prog 18 #[.int .u64 N] w fun e w' => e = .returned (.int .u64 (mixOf N)) ∧ w = w' := by
  go_enter Try.func18, Try.ntmps18
  go_wp2
  go_ret
  exact ⟨rfl, rfl⟩

set_option maxRecDepth 100000 in
set_option maxHeartbeats 1000000 in
theorem mixr_any (N : Int) (w : World) (h0 : 0 ≤ N) (h1 : N ≤ 18446744073709551615) :
    Calls Try.prog 20 #[.int .u64 N] w fun e w' => e = .returned (.int .u64 (mixOf N)) ∧ w = w' := by
  go_enter Try.func20, Try.ntmps20
  go_wp2
  go_ret
  exact ⟨rfl, rfl⟩
end Go.Proofs.Ytenjjfiojackaaa
