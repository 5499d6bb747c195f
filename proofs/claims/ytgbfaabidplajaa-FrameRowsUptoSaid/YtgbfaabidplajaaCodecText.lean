import Derived.Test.YtgbfaabidplajaaCodecKey
namespace Go.Proofs.Ytgbfaabidplajaa
open Go.RowKit
set_option linter.unusedSimpArgs false
set_option linter.unusedVariables false

set_option maxRecDepth 100000 in
set_option maxHeartbeats 1000000 in
theorem takeTr_any (s : ByteArray) (most : Int) (w : World) (hs : s.size ≤ 140737488351232) (hm1 : -9223372036854775808 ≤ most) (hm2 : most ≤ 9223372036854775807) :
    Calls Try.prog 24 #[.string s, .int .i64 most] w fun e w' => e = .returned (.tuple #[.string (Cd.bs (Cd.takeT s.data.toList most).1), .int .i64 (Cd.takeT s.data.toList most).2.1, .int .i64 (Cd.takeT s.data.toList most).2.2]) ∧ Below w.heap.size w w' := by
  have hc := taker_any s w (by unfold maxLen; omega)
  obtain ⟨ok1, ok2, ok3, ok4⟩ := Cd.takeU_ok s.data.toList
  obtain ⟨n, k, e, ht⟩ : ∃ n k e, Cd.takeU s.data.toList = (n, k, e) := ⟨_, _, _, rfl⟩
  rw [ht] at hc ok1 ok2 ok3 ok4
  simp only at *
  rw [← Lib.size_eq] at ok3
  have HN := Lib.size_eq s
  have HC := Lib.hid hc
  clear hc
  by_cases he : e = 0
  · subst he
    clear ok2 ok4
    by_cases h1 : n ≤ most.toNat
    · by_cases h2 : n ≤ s.size - k
      · rw [Cd.takeT_text ht h1 (by omega)]
        clear ok1 ht HN
        go_enter Try.func24, Try.ntmps24
        go_wp2_with (go_at_call 33; refine HC.out.mono ?_; rintro e w' ⟨rfl, rfl⟩)
        all_goals go_ret3
        all_goals exact ⟨Cd.retS (by rw [Lib.extract_eq]; congr 3; omega) (by first | rfl | (simp; done) | (simp; omega) | omega) rfl, by first | exact hb | exact Below.refl _ _⟩
      · rw [Cd.takeT_more ht h1 (by omega)]
        clear ok1 ht HN
        go_enter Try.func24, Try.ntmps24
        go_wp2_with (go_at_call 33; refine HC.out.mono ?_; rintro e w' ⟨rfl, rfl⟩)
        all_goals go_ret3
        all_goals exact ⟨rfl, Below.refl _ _⟩
    · rw [Cd.takeT_most ht (by omega)]
      have h1' : most < (n : Int) := by omega
      have h0 : 0 < n := by omega
      clear ok1 ht HN
      go_enter Try.func24, Try.ntmps24
      go_wp2_with (go_at_call 33; refine HC.out.mono ?_; rintro e w' ⟨rfl, rfl⟩)
      all_goals go_ret3
      all_goals exact ⟨rfl, Below.refl _ _⟩
  · rw [Cd.takeT_err ht he]
    have hb : (((e : Nat) : Int) == 0) = false := by simp; omega
    clear ok1 ht HN
    go_enter Try.func24, Try.ntmps24
    go_wp2_with (go_at_call 33; refine HC.out.mono ?_; rintro e w' ⟨rfl, rfl⟩)
    go_ret3
    exact ⟨rfl, Below.refl _ _⟩

set_option maxRecDepth 100000 in
set_option maxHeartbeats 1000000 in
theorem takeTc_any (s : ByteArray) (most : Int) (w : World) (hs : s.size ≤ 140737488351232) (hm1 : -9223372036854775808 ≤ most) (hm2 : most ≤ 9223372036854775807) :
    Calls Try.prog 23 #[.string s, .int .i64 most] w fun e w' => e = .returned (.tuple #[.string (Cd.bs (Cd.takeT s.data.toList most).1), .int .i64 (Cd.takeT s.data.toList most).2.1, .int .i64 (Cd.takeT s.data.toList most).2.2]) ∧ Below w.heap.size w w' := by
  have hc := takec_any s w (by unfold maxLen; omega)
  obtain ⟨ok1, ok2, ok3, ok4⟩ := Cd.takeU_ok s.data.toList
  obtain ⟨n, k, e, ht⟩ : ∃ n k e, Cd.takeU s.data.toList = (n, k, e) := ⟨_, _, _, rfl⟩
  rw [ht] at hc ok1 ok2 ok3 ok4
  simp only at *
  rw [← Lib.size_eq] at ok3
  have HN := Lib.size_eq s
  have HC := Lib.hid hc
  clear hc
  by_cases he : e = 0
  · subst he
    clear ok2 ok4
    by_cases h1 : n ≤ most.toNat
    · by_cases h2 : n ≤ s.size - k
      · rw [Cd.takeT_text ht h1 (by omega)]
        clear ok1 ht HN
        go_enter Try.func23, Try.ntmps23
        go_wp2_with (first | (go_at_call 31; refine HC.out.mono ?_; rintro e w' ⟨rfl, rfl⟩) | (go_at_call 32; refine (clone_any _ _ (by simp; omega)).mono ?_; rintro e w' ⟨rfl, hb⟩))
        all_goals go_ret3
        all_goals exact ⟨Cd.retS (by rw [Lib.extract_eq]; congr 3; omega) (by first | rfl | (simp; done) | (simp; omega) | omega) rfl, by first | exact hb | exact Below.refl _ _⟩
      · rw [Cd.takeT_more ht h1 (by omega)]
        clear ok1 ht HN
        go_enter Try.func23, Try.ntmps23
        go_wp2_with (go_at_call 31; refine HC.out.mono ?_; rintro e w' ⟨rfl, rfl⟩)
        all_goals go_ret3
        all_goals exact ⟨rfl, Below.refl _ _⟩
    · rw [Cd.takeT_most ht (by omega)]
      have h1' : most < (n : Int) := by omega
      have h0 : 0 < n := by omega
      clear ok1 ht HN
      go_enter Try.func23, Try.ntmps23
      go_wp2_with (go_at_call 31; refine HC.out.mono ?_; rintro e w' ⟨rfl, rfl⟩)
      all_goals go_ret3
      all_goals exact ⟨rfl, Below.refl _ _⟩
  · rw [Cd.takeT_err ht he]
    have hb : (((e : Nat) : Int) == 0) = false := by simp; omega
    clear ok1 ht HN
    go_enter Try.func23, Try.ntmps23
    go_wp2_with (go_at_call 31; refine HC.out.mono ?_; rintro e w' ⟨rfl, rfl⟩)
    go_ret3
    exact ⟨rfl, Below.refl _ _⟩
end Go.Proofs.Ytgbfaabidplajaa
