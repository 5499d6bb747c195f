import Derived.Test.YtgbfaabidplajaaProg
import Derived.Test.YtgbfaabidplajaaCodecPlain
import Derived.WalkKit
import Derived.WalkSpells
import Derived.WalkLawsBesides
import Derived.Outline
import Derived.Lib.Hide
import Derived.Deep.LoopGhost
namespace Go.Proofs.Ytgbfaabidplajaa
open Go.RowKit
set_option linter.unusedSimpArgs false
set_option linter.unusedVariables false

set_option maxRecDepth 100000 in
set_option maxHeartbeats 400000 in
theorem taker_any (s : ByteArray) (w : World) (hs : s.size ≤ maxLen) :
    Calls Try.prog 33 #[.string s] w fun e w' => e = .returned (.tuple #[.int .u64 (Cd.takeU s.data.toList).1, .int .i64 (Cd.takeU s.data.toList).2.1, .int .i64 (Cd.takeU s.data.toList).2.2]) ∧ w = w' := by
  unfold maxLen at hs
  go_enter Try.func33, Try.ntmps33
  go_wp2
  go_loop [5, 6, 7] (fun n p i => ∃ k acc P : Nat, k ≤ s.size ∧ k ≤ 9 ∧ acc < 128 ^ k ∧ P = 128 ^ k ∧ i = .int .i64 k ∧ n = .int .u64 acc ∧ p = .int .u64 P ∧ Cd.takeU s.data.toList = Cd.takeGo (s.data.toList.drop k) k acc) (fun _ _ i => s.size - (intOf i).toNat)
  case atStart => exact ⟨0, 0, 1, Nat.zero_le _, by omega, by simp, rfl, rfl, rfl, rfl, rfl⟩
  case round =>
    obtain ⟨k, acc, P, hk, hk9, hacc, hP, rfl, rfl, rfl, hgo⟩ := hrel
    have HP := Lib.hid hP
    have HG := Lib.hid hgo
    have HA := Lib.hid hacc
    have hP1 : 0 < P := by rw [hP]; exact Cd.pow_pos' k
    clear hP hgo hacc
    by_cases hlt : k < s.size
    · have hw := Cd.wrapU_byte s[k]
      have HD := Lib.hid (Cd.drop_cons_b s k hlt)
      go_wp2
      all_goals clear hw
      all_goals first
        | (go_round
           case rel =>
             try simp only [beq_iff_eq, beq_eq_false_iff_ne, ne_eq] at *
             exact ⟨k + 1, _, _, by omega, by omega, Cd.step_pow k acc s[k].toNat HA.out, rfl, by go_num, by rw [Cd.wrap_step hk9 HA.out HP.out (by omega)], by rw [Cd.wrap_pow (by omega) HP.out], by rw [HG.out, HD.out, Cd.go_more (by omega) (by omega)]⟩
           case measure => simp [intOf]; omega)
        | ((try simp only [beq_iff_eq, beq_eq_false_iff_ne, ne_eq] at *); go_ret3; exact ⟨by rw [HG.out, HD.out, Cd.go_bad (by omega)]; rfl, rfl⟩)
        | ((try simp only [beq_iff_eq, beq_eq_false_iff_ne, ne_eq] at *); go_ret3; exact ⟨by rw [HG.out, HD.out, Cd.go_last (by omega) (by omega)]; exact Cd.ret3 (Cd.wrap_step hk9 HA.out HP.out (by omega)) (by first | rfl | omega | (simp; omega)) rfl, rfl⟩)
    · go_wp2
      go_ret3
      have : k = s.size := by omega
      exact ⟨by rw [HG.out, List.drop_eq_nil_of_le (by simp; omega)]; rfl, rfl⟩

set_option maxRecDepth 100000 in
set_option maxHeartbeats 400000 in
theorem takec_any (s : ByteArray) (w : World) (hs : s.size ≤ maxLen) :
    Calls Try.prog 31 #[.string s] w fun e w' => e = .returned (.tuple #[.int .u64 (Cd.takeU s.data.toList).1, .int .i64 (Cd.takeU s.data.toList).2.1, .int .i64 (Cd.takeU s.data.toList).2.2]) ∧ w = w' := by
  unfold maxLen at hs
  go_enter Try.func31, Try.ntmps31
  go_wp2
  go_step3
  go_wp2
  go_step3
  go_wp2
  go_loopg [5, 10] s.size (fun g n i wr => w = wr ∧ ∃ k acc : Nat, k ≤ s.size ∧ k ≤ 9 ∧ acc < 128 ^ k ∧ i = .int .i64 k ∧ n = .int .u64 acc ∧ Cd.takeU s.data.toList = Cd.takeGo (s.data.toList.drop k) k acc ∧ g = s.size - k)
  case atStart => exact ⟨rfl, 0, 0, Nat.zero_le _, by omega, by simp, rfl, rfl, rfl, rfl⟩
  case round =>
    obtain ⟨rfl, k, acc, hk, hk9, hacc, rfl, rfl, hgo, rfl⟩ := hrel
    have HG := Lib.hid hgo
    have HA := Lib.hid hacc
    clear hgo hacc
    by_cases hlt : k < s.size
    · have HD := Lib.hid (Cd.drop_cons_b s k hlt)
      go_wp2
      all_goals first
        | (go_roundg (s.size - (k + 1))
           case rel =>
             try simp only [beq_iff_eq, beq_eq_false_iff_ne, ne_eq] at *
             exact ⟨by trivial, k + 1, _, by omega, by omega, Cd.step_pow k acc s[k].toNat HA.out, by go_num, by rw [Cd.or_step hk9 HA.out (by omega)], by rw [HG.out, HD.out, Cd.go_more (by omega) (by omega)], rfl⟩
           case measure => omega)
        | ((try simp only [beq_iff_eq, beq_eq_false_iff_ne, ne_eq] at *); rw [Exit.noGoto_ret]; go_ret3; exact ⟨by rw [HG.out, HD.out, Cd.go_bad (by omega)]; rfl, rfl⟩)
        | ((try simp only [beq_iff_eq, beq_eq_false_iff_ne, ne_eq] at *); rw [Exit.noGoto_ret]; go_ret3; exact ⟨by rw [HG.out, HD.out, Cd.go_last (by omega) (by omega)]; exact Cd.ret3 (Cd.or_step hk9 HA.out (by omega)) (by first | rfl | omega | (simp; omega)) rfl, rfl⟩)
    · go_wp2
      rw [Exit.noGoto_ret]
      go_ret3
      have : k = s.size := by omega
      exact ⟨by rw [HG.out, List.drop_eq_nil_of_le (by simp; omega)]; rfl, rfl⟩
end Go.Proofs.Ytgbfaabidplajaa
