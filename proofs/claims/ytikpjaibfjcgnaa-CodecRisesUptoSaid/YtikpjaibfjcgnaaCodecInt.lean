import Derived.Test.YtikpjaibfjcgnaaCodecNum
namespace Go.Proofs.Ytikpjaibfjcgnaa
open Go.RowKit
set_option linter.unusedSimpArgs false
set_option linter.unusedVariables false

set_option maxRecDepth 100000 in
set_option maxHeartbeats 400000 in
theorem takeIc_any (s : ByteArray) (w : World) (hs : s.size ≤ maxLen) :
    Calls Try.prog 24 #[.string s] w fun e w' => e = .returned (.tuple #[.int .i64 (Cd.unzig (Cd.takeU s.data.toList).1), .int .i64 (Cd.takeU s.data.toList).2.1, .int .i64 (Cd.takeU s.data.toList).2.2]) ∧ w = w' := by
  have hc := takec_any s w hs
  obtain ⟨ok1, ok2, ok3, ok4⟩ := Cd.takeU_ok s.data.toList
  generalize Cd.takeU s.data.toList = t at *
  obtain ⟨n, k, e⟩ := t
  simp only at *
  have H1 := Lib.hid ok1
  have HC := Lib.hid hc
  clear ok1 hc
  by_cases he : e = 0
  · subst he
    clear ok2 ok4
    go_enter Try.func24, Try.ntmps24
    go_wp2_with (go_at_call 22; refine HC.out.mono ?_; rintro e w' ⟨rfl, rfl⟩)
    all_goals
      simp only [beq_iff_eq, beq_eq_false_iff_ne, ne_eq] at *
      go_ret3
      exact ⟨Cd.ret3 (by first | exact Cd.unzig_odd H1.out (by omega) | exact Cd.unzig_even H1.out (by omega)) rfl rfl, rfl⟩
  · obtain ⟨rfl, rfl⟩ := ok2 he
    have hb : (((e : Nat) : Int) == 0) = false := by simp; omega
    go_enter Try.func24, Try.ntmps24
    go_wp2_with (go_at_call 22; refine HC.out.mono ?_; rintro e w' ⟨rfl, rfl⟩)
    go_ret3
    exact ⟨rfl, rfl⟩

set_option maxRecDepth 100000 in
set_option maxHeartbeats 400000 in
theorem takeIr_any (s : ByteArray) (w : World) (hs : s.size ≤ maxLen) :
    Calls Try.prog 25 #[.string s] w fun e w' => e = .returned (.tuple #[.int .i64 (Cd.unzig (Cd.takeU s.data.toList).1), .int .i64 (Cd.takeU s.data.toList).2.1, .int .i64 (Cd.takeU s.data.toList).2.2]) ∧ w = w' := by
  have hc := taker_any s w hs
  obtain ⟨ok1, ok2, ok3, ok4⟩ := Cd.takeU_ok s.data.toList
  generalize Cd.takeU s.data.toList = t at *
  obtain ⟨n, k, e⟩ := t
  simp only at *
  have H1 := Lib.hid ok1
  have HC := Lib.hid hc
  clear ok1 hc
  by_cases he : e = 0
  · subst he
    clear ok2 ok4
    go_enter Try.func25, Try.ntmps25
    go_wp2_with (go_at_call 23; refine HC.out.mono ?_; rintro e w' ⟨rfl, rfl⟩)
    all_goals
      simp only [beq_iff_eq, beq_eq_false_iff_ne, ne_eq] at *
      go_ret3
      exact ⟨Cd.ret3 (by first | exact Cd.unzig_odd H1.out (by omega) | exact Cd.unzig_even H1.out (by omega)) rfl rfl, rfl⟩
  · obtain ⟨rfl, rfl⟩ := ok2 he
    have hb : (((e : Nat) : Int) == 0) = false := by simp; omega
    go_enter Try.func25, Try.ntmps25
    go_wp2_with (go_at_call 23; refine HC.out.mono ?_; rintro e w' ⟨rfl, rfl⟩)
    go_ret3
    exact ⟨rfl, rfl⟩
end Go.Proofs.Ytikpjaibfjcgnaa
