import Derived.Test.YtikpjaibfjcgnaaCodecKeyInt
import Derived.BigQuiet
import Derived.Deep.QuietTactic
import Derived.WalkSmall
namespace Go.Proofs.Ytikpjaibfjcgnaa
open Go.RowKit
set_option linter.unusedSimpArgs false
set_option linter.unusedVariables false

set_option maxRecDepth 100000 in
set_option maxHeartbeats 1000000 in
theorem commonc_any (s t : ByteArray) (w : World) (hs : s.size ≤ maxLen) (ht : t.size ≤ maxLen) :
    Calls Try.prog 33 #[.string s, .string t] w fun e w' => e = .returned (.int .i64 (Cd.common s.data.toList t.data.toList)) ∧ Below w.heap.size w w' := by
  unfold maxLen at hs ht
  obtain ⟨m, hm⟩ : ∃ m, m = min s.size t.size := ⟨_, rfl⟩
  have hms : m ≤ s.size := by omega
  have hmt : m ≤ t.size := by omega
  have hmm : min (s.size : Int) (t.size : Int) = (m : Int) := by omega
  have HM := Lib.hid hm
  clear hm
  go_enter Try.func33, Try.ntmps33
  go_wp2_with fail
  go_loopw [13] (fun i wr => ∃ k : Nat, k ≤ m ∧ i = .int .i64 k ∧ Below w.heap.size w wr ∧ Cd.common s.data.toList t.data.toList = k + Cd.common (s.data.toList.drop k) (t.data.toList.drop k)) (fun i _ => m - (intOf i).toNat)
  case atStart => exact ⟨0, Nat.zero_le _, rfl, Below.refl _ _, by simp⟩
  case round =>
    obtain ⟨k, hk, rfl, hb, hc⟩ := hrel
    have HC := Lib.hid hc
    clear hc
    by_cases hlt : k < m
    · have hks : k < s.size := by omega
      have hkt : k < t.size := by omega
      have HS := Lib.hid (Cd.drop_cons_b s k hks)
      have HT := Lib.hid (Cd.drop_cons_b t k hkt)
      by_cases he : s[k].toNat = t[k].toNat
      · have heb : ((s[k].toNat : Int) == (t[k].toNat : Int)) = true := by simp [he]
        have HE := Lib.hid he
        clear he
        go_wp2
        go_quiet (fail)
        go_wp2
        go_roundw
        case rel => exact ⟨k + 1, by omega, by go_num, below_drewN hb _, by rw [HC.out, HS.out, HT.out, Cd.common_eq HE.out]; omega⟩
        case measure => simp [intOf]; omega
      · have heb : ((s[k].toNat : Int) == (t[k].toNat : Int)) = false := by simp; omega
        have HE := Lib.hid he
        clear he
        go_wp2
        go_quiet (fail)
        go_wp2
        go_ret
        exact ⟨by rw [HC.out, HS.out, HT.out, Cd.common_ne HE.out]; rfl, below_drewN hb _⟩
    · obtain rfl : k = m := by omega
      go_wp2
      go_ret
      refine ⟨?_, hb⟩
      have hm := HM.out
      rcases Nat.le_total s.size t.size with h | h
      · rw [HC.out, Cd.drop_all (s := s) (by omega), Cd.common_nil_l]; rfl
      · rw [HC.out, Cd.drop_all (s := t) (by omega), Cd.common_nil_r]; rfl

set_option maxRecDepth 100000 in
set_option maxHeartbeats 1000000 in
theorem commonr_any (s t : ByteArray) (w : World) (hs : s.size ≤ maxLen) (ht : t.size ≤ maxLen) :
    Calls Try.prog 32 #[.string s, .string t] w fun e w' => e = .returned (.int .i64 (Cd.common s.data.toList t.data.toList)) ∧ Below w.heap.size w w' := by
  unfold maxLen at hs ht
  go_enter Try.func32, Try.ntmps32
  go_wp2_with fail
  go_loopw [5] (fun i wr => ∃ k : Nat, k ≤ s.size ∧ k ≤ t.size ∧ i = .int .i64 k ∧ Below w.heap.size w wr ∧ Cd.common s.data.toList t.data.toList = k + Cd.common (s.data.toList.drop k) (t.data.toList.drop k)) (fun i _ => s.size - (intOf i).toNat)
  case atStart => exact ⟨0, Nat.zero_le _, Nat.zero_le _, rfl, Below.refl _ _, by simp⟩
  case round =>
    obtain ⟨k, hk, hk2, rfl, hb, hc⟩ := hrel
    have HC := Lib.hid hc
    clear hc
    by_cases hks : k < s.size
    · have hksb : decide ((k : Int) < (s.size : Int)) = true := by simp; omega
      by_cases hkt : k < t.size
      · have hktb : decide ((k : Int) < (t.size : Int)) = true := by simp; omega
        have HS := Lib.hid (Cd.drop_cons_b s k hks)
        have HT := Lib.hid (Cd.drop_cons_b t k hkt)
        by_cases he : s[k].toNat = t[k].toNat
        · have heb : ((s[k].toNat : Int) == (t[k].toNat : Int)) = true := by simp [he]
          have HE := Lib.hid he
          clear he
          go_wp2
          go_quiet (fail)
          go_wp2
          go_roundw
          case rel => exact ⟨k + 1, by omega, by omega, by go_num, below_drewN hb _, by rw [HC.out, HS.out, HT.out, Cd.common_eq HE.out]; omega⟩
          case measure => simp [intOf]; omega
        · have heb : ((s[k].toNat : Int) == (t[k].toNat : Int)) = false := by simp; omega
          have HE := Lib.hid he
          clear he
          go_wp2
          go_quiet (fail)
          go_wp2
          go_ret
          exact ⟨by rw [HC.out, HS.out, HT.out, Cd.common_ne HE.out]; rfl, below_drewN hb _⟩
      · have hktb : decide ((k : Int) < (t.size : Int)) = false := by simp; omega
        go_wp2
        go_quiet (fail)
        go_wp2
        go_ret
        exact ⟨by rw [HC.out, Cd.drop_all (s := t) (by omega), Cd.common_nil_r]; rfl, below_drewN hb _⟩
    · have hksb : decide ((k : Int) < (s.size : Int)) = false := by simp; omega
      go_wp2
      go_quiet (fail)
      go_wp2
      go_ret
      exact ⟨by rw [HC.out, Cd.drop_all (s := s) (by omega), Cd.common_nil_l]; rfl, below_drewN hb _⟩
end Go.Proofs.Ytikpjaibfjcgnaa
