import Derived.Test.YtikpjaibfjcgnaaCodecBig
import Derived.Test.YtikpjaibfjcgnaaCodecPlainB
import Derived.WalkSmall
namespace Go.Proofs.Ytikpjaibfjcgnaa
open Go.RowKit
set_option linter.unusedSimpArgs false
set_option linter.unusedVariables false


theorem putUr_at (N : Int) (n : Nat) (w : World) (h : N = n) (h1 : n < 18446744073709551616) :
    Calls Try.prog 15 #[.int .u64 N] w fun e w' => e = .returned (.string (Cd.bs (Cd.putU n))) ∧ Below w.heap.size w w' := by
  have := putUr_any N w (by omega) (by omega)
  rwa [show N.toNat = n from by omega] at this

set_option maxRecDepth 100000 in
set_option maxHeartbeats 1000000 in
theorem putIr_any (M : Int) (w : World) (h0 : -9223372036854775808 ≤ M) (h1 : M ≤ 9223372036854775807) :
    Calls Try.prog 16 #[.int .i64 M] w fun e w' => e = .returned (.string (Cd.bs (Cd.putU (Cd.zig M)))) ∧ Below w.heap.size w w' := by
  have hz := Lib.hid (Cd.zig_lt M h0 h1)
  by_cases hm : 0 ≤ M
  · go_enter Try.func16, Try.ntmps16
    go_wp2_with (go_at_call 15; refine (putUr_at _ (Cd.zig M) _ (by unfold Cd.zig; split <;> omega) hz.out).mono ?_; rintro e w1 ⟨rfl, hb1⟩)
    go_ret
    exact ⟨rfl, hb1⟩
  · go_enter Try.func16, Try.ntmps16
    go_wp2_with (go_at_call 15; refine (putUr_at _ (Cd.zig M) _ (by unfold Cd.zig; split <;> omega) hz.out).mono ?_; rintro e w1 ⟨rfl, hb1⟩)
    go_ret
    exact ⟨rfl, hb1⟩

theorem putUc_at (N : Int) (n : Nat) (w : World) (h : N = n) (h1 : n < 18446744073709551616) :
    Calls Try.prog 8 #[.int .u64 N] w fun e w' => e = .returned (.string (Cd.bs (Cd.putU n))) ∧ Below w.heap.size w w' := by
  have := putUc_any N w (by omega) (by omega)
  rwa [show N.toNat = n from by omega] at this

set_option maxRecDepth 100000 in
set_option maxHeartbeats 1000000 in
theorem putIc_any (M : Int) (w : World) (h0 : -9223372036854775808 ≤ M) (h1 : M ≤ 9223372036854775807) :
    Calls Try.prog 9 #[.int .i64 M] w fun e w' => e = .returned (.string (Cd.bs (Cd.putU (Cd.zig M)))) ∧ Below w.heap.size w w' := by
  have hz := Lib.hid (Cd.zig_lt M h0 h1)
  by_cases hm : 0 ≤ M
  · go_enter Try.func9, Try.ntmps9
    go_wp2_with (go_at_call 8; refine (putUc_at _ (Cd.zig M) _ (by unfold Cd.zig; split <;> omega) hz.out).mono ?_; rintro e w1 ⟨rfl, hb1⟩)
    go_ret
    exact ⟨rfl, hb1⟩
  · go_enter Try.func9, Try.ntmps9
    go_wp2_with (go_at_call 8; refine (putUc_at _ (Cd.zig M) _ (by unfold Cd.zig; split <;> omega) hz.out).mono ?_; rintro e w1 ⟨rfl, hb1⟩)
    go_ret
    exact ⟨rfl, hb1⟩

set_option maxRecDepth 100000 in
set_option maxHeartbeats 1000000 in
theorem putTr_any (s : ByteArray) (w : World) (hs : s.size ≤ 140737488351232) :
    Calls Try.prog 17 #[.string s] w fun e w' => e = .returned (.string (Cd.bs (Cd.putT s.data.toList))) ∧ Below w.heap.size w w' := by
  have hb := fun W => putUr_any (s.size : Int) W (by omega) (by omega)
  rw [Int.toNat_natCast] at hb
  have HB := Lib.hid hb
  clear hb
  have hl := Cd.putU_len10 s.size (by omega)
  have hw : IntKind.u64.wrap (s.size : Int) = s.size := Cd.wrapU_nat (by omega)
  have HE := Lib.hid (show Cd.bs (Cd.putU s.size) ++ s = Cd.bs (Cd.putT s.data.toList) by
    have := Lib.mk_data s
    rw [Cd.putT, ← Lib.size_eq]
    conv => lhs; rw [← this]
    exact ByteArray.mk_append_mk _ _)
  go_enter Try.func17, Try.ntmps17
  go_wp2_with (go_at_call 15; refine (HB.out _).mono ?_; rintro e w1 ⟨rfl, hb1⟩)
  go_ret
  exact ⟨by rw [← HE.out]; rfl, hb1⟩

set_option maxRecDepth 100000 in
set_option maxHeartbeats 1000000 in
theorem keyTr_any (s : ByteArray) (w : World) (hs : s.size ≤ 70368744175616) :
    Calls Try.prog 19 #[.string s] w fun e w' => e = .returned (.string (Cd.bs (Cd.keyT s.data.toList))) ∧ Below w.heap.size w w' := by
  obtain ⟨i0, hi, hz0, hz1, hz2⟩ := info_parts info_u8
  go_enter Try.func19, Try.ntmps19
  go_wp2_with fail
  go_loopw [3, 4] (fun v i wr => ∃ (k : Nat) (acc : List UInt8), k ≤ s.size ∧ i = .int .i64 k ∧ acc.length ≤ 2 * k ∧ wr.ownsRow w.heap.size 5 1 v acc.length (Cd.cs acc) ∧ Below w.heap.size w wr ∧ Cd.keyGo s.data.toList = acc ++ Cd.keyGo (s.data.toList.drop k)) (fun _ i _ => s.size - (intOf i).toNat)
  case atStart => exact ⟨0, [], Nat.zero_le _, rfl, Nat.zero_le _, World.ownsRow_nil _ _ _ _, Below.refl _ _, rfl⟩
  case round =>
    obtain ⟨k, acc, hk, rfl, hal, hown, hb, hgo⟩ := hrel
    have HG := Lib.hid hgo
    clear hgo
    have hbs := hb.size
    by_cases hlt : k < s.size
    · have HD := Lib.hid (Cd.drop_cons_b s k hlt)
      by_cases hc : s[k].toNat = 0
      · have hcb : ((s[k].toNat : Int) == 0) = true := by simp [hc]
        have HC := Lib.hid hc
        clear hc
        go_wp2_with (first
          | (at_builtin; have _t := hbs; refine wpList_append_own _ rfl (.tmp 11) (.tmp 15) 44 rfl w.heap.size 5 i0 (.int .u8 0) 1 1 Try.underlying44 hi hz0 hz1 hz2 rfl (by decide) _ _ _ rfl (hown.alloc _) ⟨wr.heap.size, 0, none⟩ 1 1 [_] rfl rfl (cell_one_new _ _ _) (by simp [Value.oneCell']) (by unfold maxLen; omega) (by omega) (by simp; omega) ?_; intro v1 w1 hown1 hgrow _; have hb1 := (hb.alloc hbs (.cells #[_] 5)).grown hgrow (by simp; omega) (fun j hj => (hown.lt j hj).1); clear hgrow; have hs1 := hb1.size; have own1 := Cd.own_snoc (c := s[k]) rfl rfl hown1; clear hown1)
          | (at_builtin; refine wpList_append_own _ rfl (.tmp 21) (.tmp 22) 44 rfl w.heap.size 5 i0 (.int .u8 0) 1 1 Try.underlying44 hi hz0 hz1 hz2 rfl (by decide) _ _ _ rfl (own1.alloc _) ⟨w1.heap.size, 0, none⟩ 1 1 [_] rfl rfl (cell_one_new _ _ _) (by simp [Value.oneCell']) (by simp; unfold maxLen; omega) (by simp; omega) (by simp; omega) ?_; intro v2 w2 hown2 hgrow _; have hb2 := (hb1.alloc hs1 (.cells #[_] 5)).grown hgrow (by simp; omega) (fun j hj => (own1.lt j hj).1); clear hgrow; have own2 := Cd.own_snoc (c := 255) rfl (by simp) hown2; clear hown2))
        go_roundw
        case rel => exact ⟨k + 1, acc ++ [s[k]] ++ [255], by omega, by go_num, by simp; omega, own2, hb2, by rw [HG.out, HD.out, Cd.key_zero HC.out]; simp⟩
        case measure => simp [intOf]; omega
      · have hcb : ((s[k].toNat : Int) == 0) = false := by simp; omega
        have HC := Lib.hid hc
        clear hc
        go_wp2_with (at_builtin; refine wpList_append_own _ rfl _ _ 44 rfl w.heap.size 5 i0 (.int .u8 0) 1 1 Try.underlying44 hi hz0 hz1 hz2 rfl (by decide) _ _ _ rfl (hown.alloc _) ⟨wr.heap.size, 0, none⟩ 1 1 [_] rfl rfl (cell_one_new _ _ _) (by simp [Value.oneCell']) (by unfold maxLen; omega) (by omega) (by simp; omega) ?_; intro v1 w1 hown1 hgrow _; have hb1 := (hb.alloc hbs (.cells #[_] 5)).grown hgrow (by simp; omega) (fun j hj => (hown.lt j hj).1); clear hgrow; have own1 := Cd.own_snoc (c := s[k]) rfl rfl hown1; clear hown1)
        go_roundw
        case rel => exact ⟨k + 1, acc ++ [s[k]], by omega, by go_num, by simp; omega, own1, hb1, by rw [HG.out, HD.out, Cd.key_plain HC.out]; simp⟩
        case measure => simp [intOf]; omega
    · have HE := Lib.hid (Cd.drop_all (s := s) (k := k) (by omega))
      go_wp2_with (at_builtin; refine wpList_append_own _ rfl _ _ 44 rfl w.heap.size 5 i0 (.int .u8 0) 1 1 Try.underlying44 hi hz0 hz1 hz2 rfl (by decide) _ _ _ rfl (hown.alloc _) ⟨wr.heap.size, 0, none⟩ 2 2 [_, _] rfl rfl (cell_two_new _ _ _ _) (by simp [Value.oneCell']) (by unfold maxLen; omega) (by omega) (by simp; omega) ?_; intro v1 w1 hown1 hgrow _; have hb1 := (hb.alloc hbs (.cells #[_, _] 5)).grown hgrow (by simp; omega) (fun j hj => (hown.lt j hj).1); clear hgrow; have hcv := conv_any (Cd.own_app (l' := [0, 1]) rfl rfl hown1))
      go_ret
      exact ⟨by rw [Cd.keyT, HG.out, HE.out]; simp [Cd.keyGo], hb1⟩
end Go.Proofs.Ytikpjaibfjcgnaa
