import Derived.Test.YtikpjaibfjcgnaaCodecKeyInt
import Derived.BigQuiet
import Derived.Deep.QuietTactic
namespace Go.Proofs.Ytikpjaibfjcgnaa
open Go.RowKit
set_option linter.unusedSimpArgs false
set_option linter.unusedVariables false

set_option maxRecDepth 100000 in
set_option maxHeartbeats 1000000 in
theorem codecTakes_walk (s : ByteArray) (most : Int) (w : World) (hs : s.size ≤ 140737488351232) (hm1 : -9223372036854775808 ≤ most) (hm2 : most ≤ 9223372036854775807) :
    Calls Try.prog 4 #[.string s, .int .i64 most] w fun e w' => e = .returned (.bool true) ∧ Below w.heap.size w w' := by
  have hm : s.size ≤ maxLen := by unfold maxLen; omega
  go_enter Try.func4, Try.ntmps4
  go_wp2_with (first
    | (go_at_call 22; refine (takec_any s _ hm).mono ?_; rintro e w' ⟨rfl, rfl⟩)
    | (go_at_call 23; refine (taker_any s _ hm).mono ?_; rintro e w' ⟨rfl, rfl⟩)
    | (go_at_call 24; refine (takeIc_any s _ hm).mono ?_; rintro e w' ⟨rfl, rfl⟩)
    | (go_at_call 25; refine (takeIr_any s _ hm).mono ?_; rintro e w' ⟨rfl, rfl⟩)
    | (go_at_call 28; refine (takeKIc_any s _ hm).mono ?_; rintro e w' ⟨rfl, rfl⟩)
    | (go_at_call 29; refine (takeKIr_any s _ hm).mono ?_; rintro e w' ⟨rfl, rfl⟩)
    | (go_at_call 26; refine (takeTc_any s most _ hs hm1 hm2).mono ?_; rintro e w1 ⟨rfl, hb1⟩)
    | (go_at_call 27; refine (takeTr_any s most _ hs hm1 hm2).mono ?_; rintro e w2 ⟨rfl, hb2⟩)
    | (go_at_call 30; refine (takeKc_any s _ hs).mono ?_; rintro e w3 ⟨rfl, hb3⟩)
    | (go_at_call 31; refine (takeKr_any s _ hs).mono ?_; rintro e w4 ⟨rfl, hb4⟩))
  go_ret
  exact ⟨rfl, ((hb1.trans (hb2.mono hb1.size)).trans (hb3.mono (Nat.le_trans hb1.size hb2.size))).trans (hb4.mono (Nat.le_trans hb1.size (Nat.le_trans hb2.size hb3.size)))⟩
end Go.Proofs.Ytikpjaibfjcgnaa
