import Derived.Test.YtgbfaabidplajaaCodecBehind
namespace Go.Proofs.Ytgbfaabidplajaa
open Go.RowKit
set_option linter.unusedSimpArgs false
set_option linter.unusedVariables false

set_option maxRecDepth 100000 in
set_option maxHeartbeats 1000000 in
theorem putUr_any (N : Int) (w : World) (h0 : 0 ≤ N) (h1 : N ≤ 18446744073709551615) :
    Calls Try.prog 30 #[.int .u64 N] w fun e w' => e = .returned (.string (Cd.bs (Cd.putU N.toNat))) ∧ Below w.heap.size w w' := by
  obtain ⟨i0, hi, hz0, hz1, hz2⟩ := info_parts info_u8
  obtain ⟨n, rfl⟩ := Int.eq_ofNat_of_zero_le h0
  have hN : n < 18446744073709551616 := by omega
  have HN := Lib.hid hN
  rw [Int.toNat_natCast]
  clear h0 h1 hN
  go_enter Try.func30, Try.ntmps30
  go_wp2_with fail
  go_loopw [0, 3] (fun i v wr => ∃ (m : Nat) (acc : List UInt8), i = .int .u64 m ∧ acc.length ≤ 9 ∧ wr.ownsRow w.heap.size 5 1 v acc.length (Cd.cs acc) ∧ Below w.heap.size w wr ∧ m * 128 ^ acc.length ≤ n ∧ Cd.putU n = acc ++ Cd.putU m) (fun i _ _ => (intOf i).toNat)
  case atStart => exact ⟨n, [], rfl, Nat.zero_le _, World.ownsRow_nil _ _ _ _, Below.refl _ _, by simp, rfl⟩
  case round =>
    obtain ⟨m, acc, rfl, hal, hown, hb, hroom, hgo⟩ := hrel
    have HG := Lib.hid hgo
    have HR := Lib.hid hroom
    clear hgo hroom
    have hbs := hb.size
    by_cases hm : 128 ≤ m
    · go_wp2_with (at_builtin; refine wpList_append_own _ rfl _ _ 34 rfl w.heap.size 5 i0 (.int .u8 0) 1 1 Try.underlying34 hi hz0 hz1 hz2 rfl (by decide) _ _ _ rfl (hown.alloc _) ⟨wr.heap.size, 0, none⟩ 1 1 [_] rfl rfl (cell_one_new _ _ _) (by simp [Value.oneCell']) (by unfold maxLen; omega) (by omega) (by simp; omega) ?_; intro v' w1 hown' hgrow _; have hb' := (hb.alloc hbs (.cells #[_] 5)).grown hgrow (by simp; omega) (fun j hj => (hown.lt j hj).1); clear hgrow)
      have hr := Cd.put_step HR.out
      have hk := Cd.put_room hr HN.out (by omega)
      have hw : IntKind.u64.wrap ((m : Int) / 128) = ((m / 128 : Nat) : Int) := by
        have hle : m * 1 ≤ m * 128 ^ acc.length := Nat.mul_le_mul_left _ (Cd.pow_pos' _)
        have := HR.out
        have := HN.out
        rw [show ((m : Int) / 128) = ((m / 128 : Nat) : Int) from by omega, Cd.wrapU_nat (by omega)]
      have HR2 := Lib.hid hr
      have HK := Lib.hid hk
      clear hr hk
      go_roundw
      case rel => exact ⟨m / 128, acc ++ [UInt8.ofNat (m % 128 + 128)], by first | rfl | rw [hw], by simpa using HK.out, Cd.own_snoc (c := UInt8.ofNat (m % 128 + 128)) (Cd.byte_more m) rfl hown', hb', by simpa using HR2.out, by rw [HG.out, Cd.putU_more hm]; simp⟩
      case measure => (try rw [hw]); simp [intOf]; omega
    · have hlt : m < 128 := by omega
      go_wp2_with (at_builtin; refine wpList_append_own _ rfl _ _ 34 rfl w.heap.size 5 i0 (.int .u8 0) 1 1 Try.underlying34 hi hz0 hz1 hz2 rfl (by decide) _ _ _ rfl (hown.alloc _) ⟨wr.heap.size, 0, none⟩ 1 1 [_] rfl rfl (cell_one_new _ _ _) (by simp [Value.oneCell']) (by unfold maxLen; omega) (by omega) (by simp; omega) ?_; intro v' w1 hown' hgrow _; have hb' := (hb.alloc hbs (.cells #[_] 5)).grown hgrow (by simp; omega) (fun j hj => (hown.lt j hj).1); clear hgrow; have hcv := conv_any (Cd.own_snoc (c := UInt8.ofNat m) (Cd.byte_low (by omega)) rfl hown'))
      go_ret
      exact ⟨by rw [HG.out, Cd.putU_last hlt]; rfl, hb'⟩

set_option maxRecDepth 100000 in
set_option maxHeartbeats 1000000 in
theorem putUc_any (N : Int) (w : World) (h0 : 0 ≤ N) (h1 : N ≤ 18446744073709551615) :
    Calls Try.prog 29 #[.int .u64 N] w fun e w' => e = .returned (.string (Cd.bs (Cd.putU N.toNat))) ∧ Below w.heap.size w w' := by
  obtain ⟨i0, hi, hz0, hz1, hz2⟩ := info_parts info_u8
  obtain ⟨n, rfl⟩ := Int.eq_ofNat_of_zero_le h0
  have hN : n < 18446744073709551616 := by omega
  have HN := Lib.hid hN
  rw [Int.toNat_natCast]
  clear h0 h1 hN
  go_enter Try.func29, Try.ntmps29
  go_wp2_with fail
  go_loopw [0, 3] (fun i v wr => ∃ (m : Nat) (acc : List UInt8), i = .int .u64 m ∧ acc.length ≤ 9 ∧ wr.ownsRow w.heap.size 5 1 v acc.length (Cd.cs acc) ∧ Below w.heap.size w wr ∧ m * 128 ^ acc.length ≤ n ∧ Cd.putU n = acc ++ Cd.putU m) (fun i _ _ => (intOf i).toNat)
  case atStart => exact ⟨n, [], rfl, Nat.zero_le _, World.ownsRow_nil _ _ _ _, Below.refl _ _, by simp, rfl⟩
  case round =>
    obtain ⟨m, acc, rfl, hal, hown, hb, hroom, hgo⟩ := hrel
    have HG := Lib.hid hgo
    have HR := Lib.hid hroom
    clear hgo hroom
    have hbs := hb.size
    by_cases hm : 128 ≤ m
    · go_wp2_with (at_builtin; refine wpList_append_own _ rfl _ _ 34 rfl w.heap.size 5 i0 (.int .u8 0) 1 1 Try.underlying34 hi hz0 hz1 hz2 rfl (by decide) _ _ _ rfl (hown.alloc _) ⟨wr.heap.size, 0, none⟩ 1 1 [_] rfl rfl (cell_one_new _ _ _) (by simp [Value.oneCell']) (by unfold maxLen; omega) (by omega) (by simp; omega) ?_; intro v' w1 hown' hgrow _; have hb' := (hb.alloc hbs (.cells #[_] 5)).grown hgrow (by simp; omega) (fun j hj => (hown.lt j hj).1); clear hgrow)
      have hr := Cd.put_step HR.out
      have hk := Cd.put_room hr HN.out (by omega)
      have hw : IntKind.u64.wrap ((m : Int) / 128) = ((m / 128 : Nat) : Int) := by
        have hle : m * 1 ≤ m * 128 ^ acc.length := Nat.mul_le_mul_left _ (Cd.pow_pos' _)
        have := HR.out
        have := HN.out
        rw [show ((m : Int) / 128) = ((m / 128 : Nat) : Int) from by omega, Cd.wrapU_nat (by omega)]
      have HR2 := Lib.hid hr
      have HK := Lib.hid hk
      clear hr hk
      go_roundw
      case rel => exact ⟨m / 128, acc ++ [UInt8.ofNat (m % 128 + 128)], by first | rfl | rw [hw], by simpa using HK.out, Cd.own_snoc (c := UInt8.ofNat (m % 128 + 128)) (Cd.byte_or m) rfl hown', hb', by simpa using HR2.out, by rw [HG.out, Cd.putU_more hm]; simp⟩
      case measure => (try rw [hw]); simp [intOf]; omega
    · have hlt : m < 128 := by omega
      go_wp2_with (at_builtin; refine wpList_append_own _ rfl _ _ 34 rfl w.heap.size 5 i0 (.int .u8 0) 1 1 Try.underlying34 hi hz0 hz1 hz2 rfl (by decide) _ _ _ rfl (hown.alloc _) ⟨wr.heap.size, 0, none⟩ 1 1 [_] rfl rfl (cell_one_new _ _ _) (by simp [Value.oneCell']) (by unfold maxLen; omega) (by omega) (by simp; omega) ?_; intro v' w1 hown' hgrow _; have hb' := (hb.alloc hbs (.cells #[_] 5)).grown hgrow (by simp; omega) (fun j hj => (hown.lt j hj).1); clear hgrow; have hcv := conv_any (Cd.own_snoc (c := UInt8.ofNat m) (Cd.byte_low (by omega)) rfl hown'))
      go_ret
      exact ⟨by rw [HG.out, Cd.putU_last hlt]; rfl, hb'⟩
end Go.Proofs.Ytgbfaabidplajaa
