import Derived.Test.YtgbfaabidplajaaCodecBig
import Derived.Test.YtgbfaabidplajaaCodecPlainB
import Derived.WalkSmall
namespace Go.Proofs.Ytgbfaabidplajaa
open Go.RowKit
set_option linter.unusedSimpArgs false
set_option linter.unusedVariables false


theorem putUr_at (N : Int) (n : Nat) (w : World) (h : N = n) (h1 : n < 18446744073709551616) :
    Calls Try.prog 30 #[.int .u64 N] w fun e w' => e = .returned (.string (Cd.bs (Cd.putU n))) ∧ Below w.heap.size w w' := by
  have := putUr_any N w (by omega) (by omega)
  rwa [show N.toNat = n from by omega] at this

theorem putUc_at (N : Int) (n : Nat) (w : World) (h : N = n) (h1 : n < 18446744073709551616) :
    Calls Try.prog 29 #[.int .u64 N] w fun e w' => e = .returned (.string (Cd.bs (Cd.putU n))) ∧ Below w.heap.size w w' := by
  have := putUc_any N w (by omega) (by omega)
  rwa [show N.toNat = n from by omega] at this

set_option maxRecDepth 100000 in
set_option maxHeartbeats 1000000 in
theorem putTr_any (s : ByteArray) (w : World) (hs : s.size ≤ 140737488351232) :
    Calls Try.prog 21 #[.string s] w fun e w' => e = .returned (.string (Cd.bs (Cd.putT s.data.toList))) ∧ Below w.heap.size w w' := by
  have hb := fun W => putUr_any (s.size : Int) W (by omega) (by omega)
  rw [Int.toNat_natCast] at hb
  have HB := Lib.hid hb
  clear hb
  have hl := Cd.putU_len10 s.size (by omega)
  have hw : IntKind.u64.wrap (s.size : Int) = s.size := Cd.wrapU_nat (by omega)
  have HE := Lib.hid (show Cd.bs (Cd.putU s.size) ++ s = Cd.bs (Cd.putT s.data.toList) by
    have := Lib.mk_data s
    rw [Cd.putT, ← Lib.size_eq]
    conv => lhs; rw [← this]
    exact ByteArray.mk_append_mk _ _)
  go_enter Try.func21, Try.ntmps21
  go_wp2_with (go_at_call 30; refine (HB.out _).mono ?_; rintro e w1 ⟨rfl, hb1⟩)
  go_ret
  exact ⟨by rw [← HE.out]; rfl, hb1⟩

end Go.Proofs.Ytgbfaabidplajaa