import Derived.Test.YtikpjaibfjcgnaaCodecPut
namespace Go.Proofs.Ytikpjaibfjcgnaa
open Go.RowKit
set_option linter.unusedSimpArgs false
set_option linter.unusedVariables false

/-- P1.7, as the walk spells it -/
def mixOf (N : Int) : Int :=
  let a := IntKind.u64.wrap (N + 11400714819323198485)
  let b := IntKind.u64.wrap (bits BinOp.xor IntKind.u64 a (a / 1073741824) * 13787848793156543929)
  let c := IntKind.u64.wrap (bits BinOp.xor IntKind.u64 b (b / 134217728) * 10723151780598845931)
  bits BinOp.xor IntKind.u64 c (c / 2147483648)
theorem byte_at (n i : Nat) (hi : i < 8) : Value.int .u8 ((n : Int) / 2 ^ (8 * i) % 256) = .int .u8 ((Cd.bigByte n (7 - i)).toNat : Int) := by
  congr 1
  unfold Cd.bigByte
  rw [UInt8.toNat_ofNat', show 7 - (7 - i) = i from by omega, show (256 : Nat) ^ i = 2 ^ (8 * i) from by rw [Nat.pow_mul]]
  have : ((n : Int) / 2 ^ (8 * i)) = ((n / 2 ^ (8 * i) : Nat) : Int) := by simp
  rw [this]; omega

/-- eight cells that hold these bytes, and may be written -/
def Row8 (w : World) (g : Nat) (l : List UInt8) : Prop := ∀ j, j < 8 → w.cell? ⟨g, j, none⟩ = some (.int .u8 ((l.getD j 0).toNat : Int)) ∧ w.frozen? ⟨g, j, none⟩ = false
theorem Row8.store {w : World} {g n k : Nat} {x : Value} (h : Row8 w g (Cd.bigPart n (k + 1))) (hk : k < 8) (hx : x = .int .u8 ((Cd.bigByte n k).toNat : Int)) :
    Row8 (w.setCell ⟨g, k, none⟩ x) g (Cd.bigPart n k) := by
  intro j hj
  rw [World.frozen?_setCell]
  refine ⟨?_, (h j hj).2⟩
  rw [Cd.bigPart_get _ _ _ hj]
  by_cases hjk : j = k
  · subst hjk
    rw [World.cell?_setCell_same (h := (h j hj).1), hx, if_neg (by omega)]
  · rw [World.cell?_setCell_other (h := by simp only [ne_eq, Addr.mk.injEq, true_and, and_true]; omega), (h j hj).1, Cd.bigPart_get _ _ _ hj]
    by_cases h1 : j < k
    · rw [if_pos h1, if_pos (by omega)]
    · rw [if_neg h1, if_neg (by omega)]
theorem Row8.conv {w : World} {g c : Nat} {l : List UInt8} (h : Row8 w g l) (hl : l.length = 8) : (convert 44 9 (.slice (some ⟨g, 0, none⟩) 8 c)).run Try.prog w = .ok (.string (Cd.bs l)) w := by
  have := run_convert_bytes_back (P := Try.prog) w 44 9 5 ⟨g, 0, none⟩ c l Try.underlying44 Try.underlying5 Try.underlying9 (fun j hj => by
    have := (h j (by omega)).1
    rw [List.getD_eq_getElem?_getD, List.getElem?_eq_getElem hj] at this
    have hp : (⟨g, 0, none⟩ : Addr).add j = ⟨g, j, none⟩ := by unfold Addr.add; split <;> simp_all
    rw [hp]; simpa using this)
  rwa [hl] at this
theorem Row8.new (w : World) (n : Nat) (T : TypeId) : Row8 (w.alloc (.cells #[.int .u8 0, .int .u8 0, .int .u8 0, .int .u8 0, .int .u8 0, .int .u8 0, .int .u8 0, .int .u8 0] T)) w.heap.size (Cd.bigPart n 8) := by
  intro j hj
  rw [Cd.bigPart_zero]
  match j, hj with
  | 0, _ => exact ⟨by go_simp, by go_simp⟩
  | 1, _ => exact ⟨by go_simp, by go_simp⟩
  | 2, _ => exact ⟨by go_simp, by go_simp⟩
  | 3, _ => exact ⟨by go_simp, by go_simp⟩
  | 4, _ => exact ⟨by go_simp, by go_simp⟩
  | 5, _ => exact ⟨by go_simp, by go_simp⟩
  | 6, _ => exact ⟨by go_simp, by go_simp⟩
  | 7, _ => exact ⟨by go_simp, by go_simp⟩

set_option maxRecDepth 100000 in
set_option maxHeartbeats 1000000 in
theorem bigr_any (N : Int) (w : World) (h0 : 0 ≤ N) (h1 : N ≤ 18446744073709551615) :
    Calls Try.prog 38 #[.int .u64 N] w fun e w' => e = .returned (.string (Cd.bs (Cd.big N.toNat))) ∧ Below w.heap.size w w' := by
  have hmk : ∀ w, (Instr.makeSlice 44 (.int .i64 8) (.int .i64 8)).run Try.prog w = .ok (.slice (some ⟨w.heap.size, 0, none⟩) 8 8) (w.alloc (.cells #[.int .u8 0, .int .u8 0, .int .u8 0, .int .u8 0, .int .u8 0, .int .u8 0, .int .u8 0, .int .u8 0] 5)) := fun _ => by kernel_rfl
  obtain ⟨n, rfl⟩ := Int.eq_ofNat_of_zero_le h0
  rw [Int.toNat_natCast]
  have HN := Lib.hid (show n < 18446744073709551616 by omega)
  clear h0 h1
  go_enter Try.func38, Try.ntmps38
  go_wp2_with fail
  go_loopw [0, 4] (fun u i wr => ∃ (k m : Nat), k ≤ 8 ∧ i = .int .i64 ((k : Int) - 1) ∧ u = .int .u64 m ∧ m = n / 256 ^ (8 - k) ∧ Row8 wr w.heap.size (Cd.bigPart n k) ∧ Below w.heap.size w wr) (fun _ i _ => (intOf i + 1).toNat)
  case atStart => exact ⟨8, n, Nat.le_refl _, by simp, rfl, by simp, Row8.new _ _ _, (Below.refl _ _).alloc (Nat.le_refl _) _⟩
  case round =>
    obtain ⟨k, m, hk, rfl, rfl, hm, hr, hb⟩ := hrel
    have HM := Lib.hid hm
    clear hm
    cases k with
    | zero =>
      have hcv := hr.conv (c := 8) (Cd.bigPart_len _ _)
      go_wp2
      go_ret
      exact ⟨by rw [Cd.bigPart_done]; rfl, hb⟩
    | succ k =>
      have hk8 : k < 8 := by omega
      have hc := (hr k hk8).1
      have hf := (hr k hk8).2
      have hi : ((k + 1 : Nat) : Int) - 1 = (k : Int) := by omega
      rw [hi]
      clear hi
      have HR := Lib.hid hr
      clear hr
      go_wp2
      go_roundw
      case rel => exact ⟨k, m / 256, by omega, rfl, by rw [show ((m : Int) / 256) = ((m / 256 : Nat) : Int) from by omega, Cd.wrapU_nat (by have := Cd.big_m_lt n k m HN.out HM.out; omega)], Cd.big_down n k m hk8 HM.out, HR.out.store hk8 (Cd.bigByte_val n k m hk8 HM.out), hb.setCell (p := ⟨w.heap.size, k, none⟩) (Nat.le_refl _) _⟩
      case measure => first | (simp [intOf]; done) | (simp [intOf]; omega)

set_option maxRecDepth 100000 in
set_option maxHeartbeats 1000000 in
theorem keyIr_any (M : Int) (w : World) (h0 : -9223372036854775808 ≤ M) (h1 : M ≤ 9223372036854775807) :
    Calls Try.prog 18 #[.int .i64 M] w fun e w' => e = .returned (.string (Cd.bs (Cd.big (Cd.turn M)))) ∧ Below w.heap.size w w' := by
  have ht := Cd.turn_eq M h0 h1
  have hl := Cd.turn_lt M h1
  have hb := fun W => bigr_any (Cd.turn M : Int) W (by omega) (by omega)
  rw [Int.toNat_natCast] at hb
  have HB := Lib.hid hb
  clear hb hl
  generalize Cd.turn M = T at *
  go_enter Try.func18, Try.ntmps18
  go_wp2_with (go_at_call 38; refine (HB.out _).mono ?_; rintro e w1 ⟨rfl, hb1⟩)
  go_ret
  exact ⟨rfl, hb1⟩

set_option maxRecDepth 100000 in
set_option maxHeartbeats 1000000 in
theorem keyIc_any (M : Int) (w : World) (h0 : -9223372036854775808 ≤ M) (h1 : M ≤ 9223372036854775807) :
    Calls Try.prog 11 #[.int .i64 M] w fun e w' => e = .returned (.string (Cd.bs (Cd.big (Cd.turn M)))) ∧ Below w.heap.size w w' := by
  have ht := Cd.turn_eq M h0 h1
  have hl := Cd.turn_lt M h1
  generalize Cd.turn M = n at *
  have HN := Lib.hid hl
  clear hl
  go_enter Try.func11, Try.ntmps11
  go_wp2_with fail
  go_loopw [9] (fun i wr => ∃ k : Nat, k ≤ 8 ∧ i = .int .i64 (8 - (k : Int)) ∧ Row8 wr w.heap.size (Cd.bigPart n k) ∧ Below w.heap.size w wr) (fun i _ => (8 - intOf i).toNat)
  case atStart => exact ⟨8, Nat.le_refl _, by simp, Row8.new _ _ _, (Below.refl _ _).alloc (Nat.le_refl _) _⟩
  case round =>
    obtain ⟨k, hk, rfl, hr, hb⟩ := hrel
    cases k with
    | zero =>
      have hcv := hr.conv (c := 8) (Cd.bigPart_len _ _)
      go_wp2
      go_ret
      exact ⟨by rw [Cd.bigPart_done]; rfl, hb⟩
    | succ k =>
      obtain ⟨i, rfl, hi8⟩ : ∃ i : Nat, k = 7 - i ∧ i < 8 := ⟨7 - k, by omega, by omega⟩
      have hk8 : 7 - i < 8 := by omega
      have hc := (hr (7 - i) hk8).1
      have hf := (hr (7 - i) hk8).2
      have hi2 : (8 : Int) - ((7 - i + 1 : Nat) : Int) = (i : Int) := by omega
      rw [hi2]
      clear hi2
      have HR := Lib.hid hr
      clear hr
      go_wp2
      go_roundw
      case rel => exact ⟨7 - i, by omega, by congr 1; omega, HR.out.store hk8 (byte_at n i hi8), hb.setCell (p := ⟨w.heap.size, 7 - i, none⟩) (Nat.le_refl _) _⟩
      case measure => first | (simp [intOf]; done) | (simp [intOf]; omega)

set_option maxRecDepth 100000 in
set_option maxHeartbeats 1000000 in
theorem mixc_any (N : Int) (w : World) (h0 : 0 ≤ N) (h1 : N ≤ 18446744073709551615) :
    Calls Try.prog 14 #[.int .u64 N] w fun e w' => e = .returned (.int .u64 (mixOf N)) ∧ w = w' := by
  go_enter Try.func14, Try.ntmps14
  go_wp2
  go_ret
  exact ⟨rfl, rfl⟩

set_option maxRecDepth 100000 in
set_option maxHeartbeats 1000000 in
theorem mixr_any (N : Int) (w : World) (h0 : 0 ≤ N) (h1 : N ≤ 18446744073709551615) :
    Calls Try.prog 21 #[.int .u64 N] w fun e w' => e = .returned (.int .u64 (mixOf N)) ∧ w = w' := by
  go_enter Try.func21, Try.ntmps21
  go_wp2
  go_ret
  exact ⟨rfl, rfl⟩
end Go.Proofs.Ytikpjaibfjcgnaa
