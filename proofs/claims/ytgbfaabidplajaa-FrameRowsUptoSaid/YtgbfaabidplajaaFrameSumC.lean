import Derived.Test.YtgbfaabidplajaaFramePutR
namespace Go.Proofs.Ytgbfaabidplajaa
open Go.RowKit
set_option linter.unusedSimpArgs false
set_option linter.unusedVariables false

theorem and_one {q : Nat} (h : q < 4294967296) : bits BinOp.and IntKind.u32 (q : Int) 1 = ((q % 2 : Nat) : Int) := by
  rw [show (1 : Int) = ((1 : Nat) : Int) from rfl, u32_and_nat _ _ h (by omega), Nat.and_one_is_mod]
theorem walk_oddc {n : Nat} (hn : n < 4294967296) (h : n % 2 = 1) : bits BinOp.xor IntKind.u32 ((n : Int) / 2) 3988292384 = (Fr.step n : Int) := by
  rw [← Fr.walk_odd hn h]; congr 1; omega

set_option maxRecDepth 100000 in
set_option maxHeartbeats 1000000 in
theorem sumc_same (s : ByteArray) (w : World) (hs : s.size ≤ maxLen) :
    Calls Try.prog 9 #[.string s] w fun e w' => e = .returned (.int .u32 (Fr.sum s.data.toList)) ∧ w = w' := by
  unfold maxLen at hs
  go_enter Try.func9, Try.ntmps9
  go_wp2_with fail
  go_loop [3, 8] (fun n i => ∃ k m : Nat, k ≤ s.size ∧ i = .int .i64 k ∧ n = .int .u32 m ∧ m = Fr.run 4294967295 (s.data.toList.take k)) (fun _ i => s.size - (intOf i).toNat)
  case atStart => exact ⟨0, _, Nat.zero_le _, rfl, rfl, rfl⟩
  case round =>
    obtain ⟨k, m, hk, rfl, rfl, hm⟩ := hrel
    have hlt0 : m < 4294967296 := by rw [hm]; exact Fr.run_lt _ (by omega)
    have HM := Lib.hid hm
    have HL := Lib.hid hlt0
    clear hm hlt0
    by_cases hlt : k < s.size
    · have hx := Fr.walk_in HL.out s[k]
      have hw := Fr.wrap32_byte s[k]
      have HT := Lib.hid (Cd.take_s s k hlt)
      go_wp2_with fail
      clear hw
      go_loop [3, 17] (fun n j => ∃ i q : Nat, i ≤ 8 ∧ j = .int .i64 i ∧ n = .int .u32 q ∧ q = Fr.steps i (m ^^^ s[k].toNat)) (fun _ j => 8 - (intOf j).toNat)
      case atStart => exact ⟨0, _, Nat.zero_le _, rfl, by first | rfl | rw [hx], rfl⟩
      case round =>
        obtain ⟨i, q, hi, rfl, rfl, hq⟩ := hrel
        have hlq : q < 4294967296 := by rw [hq]; exact Fr.steps_lt (Fr.xor_lt32 HL.out (by have := s[k].toNat_lt; omega)) _
        have HQ := Lib.hid hq
        have HLQ := Lib.hid hlq
        clear hq hlq hx
        by_cases h8 : i < 8
        · have hand := and_one (q := q) HLQ.out
          by_cases ho : q % 2 = 1
          · have hob : (bits BinOp.and IntKind.u32 (q : Int) 1 == 1) = true := by rw [hand]; simp; omega
            have hs1 := walk_oddc HLQ.out ho
            clear hand
            go_wp2
            go_round
            case rel => exact ⟨i + 1, Fr.step q, by omega, by go_num, by first | rfl | rw [hs1], by rw [HQ.out]; rfl⟩
            case measure => simp [intOf]; omega
          · have hob : (bits BinOp.and IntKind.u32 (q : Int) 1 == 1) = false := by rw [hand]; simp; omega
            have HO := Lib.hid ho
            clear ho hand
            go_wp2
            go_round
            case rel => exact ⟨i + 1, Fr.step q, by omega, by go_num, by rw [Fr.step_even HO.out]; simp, by rw [HQ.out]; rfl⟩
            case measure => simp [intOf]; omega
        · obtain rfl : i = 8 := by omega
          go_wp2
          go_round
          case rel => exact ⟨k + 1, q, by omega, by go_num, rfl, by rw [HT.out, Fr.run_snoc, ← HM.out]; exact HQ.out⟩
          case measure => simp [intOf]; omega
    · obtain rfl : k = s.size := by omega
      go_wp2
      go_ret
      exact ⟨by rw [Fr.sum, ← Cd.take_all s, ← HM.out, ← Fr.walk_out HL.out]; rfl, rfl⟩

theorem litByte_shr (n k : Nat) : Value.int .u8 ((n : Int) / 2 ^ (8 * k) % 256) = .int .u8 ((Fr.litByte n k).toNat : Int) := by
  congr 1; unfold Fr.litByte; rw [UInt8.toNat_ofNat', show (256 : Nat) ^ k = 2 ^ (8 * k) from by rw [Nat.pow_mul]]
  have : ((2 : Int) ^ (8 * k)) = ((2 ^ (8 * k) : Nat) : Int) := by simp
  rw [this]; omega

set_option maxRecDepth 100000 in
set_option maxHeartbeats 1000000 in
theorem putSum_any (N : Int) (n : Nat) (w : World) (hN : N = n) (h1 : n < 4294967296) :
    Calls Try.prog 20 #[.int .u32 N] w fun e w' => e = .returned (.string (Cd.bs (Fr.lit n))) ∧ Below w.heap.size w w' := by
  subst hN
  have HN := Lib.hid h1
  clear h1
  go_enter Try.func20, Try.ntmps20
  go_wp2_with fail
  go_loopw [5] (fun i wr => ∃ (k : Nat), k ≤ 4 ∧ i = .int .i64 k ∧ Row4 wr w.heap.size (Fr.litPart n k) ∧ Below w.heap.size w wr) (fun i _ => 4 - (intOf i).toNat)
  case atStart => exact ⟨0, Nat.zero_le _, rfl, Row4.new _ _ _, (Below.refl _ _).alloc (Nat.le_refl _) _⟩
  case round =>
    obtain ⟨k, hk, rfl, hr, hb⟩ := hrel
    by_cases hk4 : k < 4
    · have hc := (hr k hk4).1
      have hf := (hr k hk4).2
      have HR := Lib.hid hr
      clear hr
      go_wp2
      go_roundw
      case rel => exact ⟨k + 1, by omega, by go_num, HR.out.store hk4 (litByte_shr n k), hb.setCell (p := ⟨w.heap.size, k, none⟩) (Nat.le_refl _) _⟩
      case measure => simp [intOf]; omega
    · obtain rfl : k = 4 := by omega
      have hcv := hr.conv (c := 4) (Fr.litPart_len _ _)
      go_wp2
      go_ret
      exact ⟨by rw [Fr.litPart_done]; rfl, hb⟩
end Go.Proofs.Ytgbfaabidplajaa
