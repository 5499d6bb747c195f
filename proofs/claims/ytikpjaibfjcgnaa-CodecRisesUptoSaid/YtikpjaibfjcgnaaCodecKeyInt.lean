import Derived.Test.YtikpjaibfjcgnaaCodecText
import Derived.Test.YtikpjaibfjcgnaaCodecInt
namespace Go.Proofs.Ytikpjaibfjcgnaa
open Go.RowKit
set_option linter.unusedSimpArgs false
set_option linter.unusedVariables false

set_option maxRecDepth 100000 in
set_option maxHeartbeats 1000000 in
theorem word_any (s : ByteArray) (w : World) (hs : 8 ≤ s.size) (hm : s.size ≤ maxLen) :
    Calls Try.prog 40 #[.string s] w fun e w' => e = .returned (.int .u64 (Cd.wordGo (s.data.toList.take 8))) ∧ w = w' := by
  unfold maxLen at hm
  go_enter Try.func40, Try.ntmps40
  go_wp2
  go_loop [3, 4] (fun n i => ∃ k : Nat, k ≤ 8 ∧ i = .int .i64 k ∧ n = .int .u64 (Cd.wordGo (s.data.toList.take k))) (fun _ i => 8 - (intOf i).toNat)
  case atStart => exact ⟨0, Nat.zero_le _, rfl, rfl⟩
  case round =>
    obtain ⟨k, hk, rfl, rfl⟩ := hrel
    by_cases hlt : k < 8
    · have hks : k < s.size := by omega
      have HW := Lib.hid (Cd.word_s s k hks)
      have HL := Lib.hid (Cd.word_lt s.data.toList k (by omega))
      obtain ⟨n, hn⟩ : ∃ n, n = Cd.wordGo (s.data.toList.take k) := ⟨_, rfl⟩
      rw [← hn]
      rw [← hn] at HW HL
      clear hn
      go_wp2
      go_round
      case rel => exact ⟨k + 1, by omega, by go_num, by rw [HW.out, Cd.word_wrap HL.out]⟩
      case measure => simp [intOf]; omega
    · obtain rfl : k = 8 := by omega
      go_wp2
      go_ret
      exact ⟨rfl, rfl⟩

set_option maxRecDepth 100000 in
set_option maxHeartbeats 1000000 in
theorem takeKIr_any (s : ByteArray) (w : World) (hm : s.size ≤ maxLen) :
    Calls Try.prog 29 #[.string s] w fun e w' => e = .returned (.tuple #[.int .i64 (Cd.takeKI s.data.toList).1, .int .i64 (Cd.takeKI s.data.toList).2.1, .int .i64 (Cd.takeKI s.data.toList).2.2]) ∧ w = w' := by
  have hm' := hm
  unfold maxLen at hm
  by_cases h8 : s.size < 8
  · rw [Cd.takeKI_few (by rw [← Lib.size_eq]; exact h8)]
    go_enter Try.func29, Try.ntmps29
    go_wp2_with fail
    go_ret3
    exact ⟨rfl, rfl⟩
  · rw [Cd.takeKI_eight (by rw [← Lib.size_eq]; omega)]
    go_enter Try.func29, Try.ntmps29
    go_wp2_with (go_at_call 40; refine (word_any _ _ (by omega) hm').mono ?_; rintro e w' ⟨rfl, rfl⟩)
    go_ret3
    exact ⟨rfl, rfl⟩

set_option maxRecDepth 100000 in
set_option maxHeartbeats 1000000 in
theorem takeKIc_any (s : ByteArray) (w : World) (hm : s.size ≤ maxLen) :
    Calls Try.prog 28 #[.string s] w fun e w' => e = .returned (.tuple #[.int .i64 (Cd.takeKI s.data.toList).1, .int .i64 (Cd.takeKI s.data.toList).2.1, .int .i64 (Cd.takeKI s.data.toList).2.2]) ∧ w = w' := by
  unfold maxLen at hm
  by_cases h8 : s.size < 8
  · rw [Cd.takeKI_few (by rw [← Lib.size_eq]; exact h8)]
    go_enter Try.func28, Try.ntmps28
    go_wp2_with fail
    go_ret3
    exact ⟨rfl, rfl⟩
  · rw [Cd.takeKI_eight (by rw [← Lib.size_eq]; omega)]
    go_enter Try.func28, Try.ntmps28
    go_wp2_with fail
    go_loop [5, 10] (fun n i => ∃ k : Nat, k ≤ 8 ∧ i = .int .i64 k ∧ n = .int .u64 (Cd.wordGo (s.data.toList.take k))) (fun _ i => 8 - (intOf i).toNat)
    case atStart => exact ⟨0, Nat.zero_le _, rfl, rfl⟩
    case round =>
      obtain ⟨k, hk, rfl, rfl⟩ := hrel
      by_cases hlt : k < 8
      · have hks : k < s.size := by omega
        have HW := Lib.hid (Cd.word_s s k hks)
        have HL := Lib.hid (Cd.word_lt s.data.toList k (by omega))
        obtain ⟨n, hn⟩ : ∃ n, n = Cd.wordGo (s.data.toList.take k) := ⟨_, rfl⟩
        rw [← hn]
        rw [← hn] at HW HL
        clear hn
        go_wp2
        go_round
        case rel => exact ⟨k + 1, by omega, by go_num, by rw [HW.out, Cd.word_or HL.out]⟩
        case measure => simp [intOf]; omega
      · obtain rfl : k = 8 := by omega
        go_wp2
        go_ret3
        exact ⟨rfl, rfl⟩
end Go.Proofs.Ytikpjaibfjcgnaa
