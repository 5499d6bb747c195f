import Derived.Test.YtikpjaibfjcgnaaCodecCommon
import Derived.BigRegion
namespace Go.Proofs.Ytikpjaibfjcgnaa
open Go.RowKit
set_option linter.unusedSimpArgs false
set_option linter.unusedVariables false

theorem conv_one (w : World) (x : Int) (c : UInt8) (hx : x = (c.toNat : Int)) :
    (convert 44 9 (.slice (some ⟨w.heap.size, 0, none⟩) 1 1)).run Try.prog (w.alloc (.cells #[.int .u8 x] 5)).drew = .ok (.string (Cd.bs [c])) (w.alloc (.cells #[.int .u8 x] 5)).drew := by
  subst hx
  have h := run_convert_bytes_back (P := Try.prog) (w.alloc (.cells #[.int .u8 (c.toNat : Int)] 5)).drew 44 9 5 ⟨w.heap.size, 0, none⟩ 1 [c] Try.underlying44 Try.underlying5 Try.underlying9
    (fun j hj => by
      simp at hj; subst hj
      simpa using cell_one_new w (.int .u8 (c.toNat : Int)) 5 0 _ rfl)
  simpa using h
theorem up_byte (c : UInt8) : ((c.toNat : Int) + 1) % 256 = ((c + 1).toNat : Int) := by
  rw [UInt8.toNat_add]; simp
theorem behind_end {s : ByteArray} {k : Nat} (hk : k ≤ s.size) (c : UInt8) : s.extract 0 k ++ Cd.bs [c] = Cd.bs (s.data.toList.take k ++ [c]) := by
  rw [Lib.extract_eq, ByteArray.mk_append_mk]; simp

set_option maxRecDepth 100000 in
set_option maxHeartbeats 1000000 in
theorem behindc_any (s : ByteArray) (w : World) (hs : s.size ≤ 140737488351232) :
    Calls Try.prog 13 #[.string s] w fun e w' => e = .returned (.string (Cd.bs (Cd.behind s.data.toList))) ∧ Below w.heap.size w w' := by
  go_enter Try.func13, Try.ntmps13
  go_wp2_with fail
  go_loop [3] (fun i => ∃ k : Nat, k ≤ s.size ∧ i = .int .i64 k ∧ Cd.behind s.data.toList = Cd.behindGo s.data.toList k) (fun i => (intOf i).toNat)
  case atStart => exact ⟨s.size, Nat.le_refl _, rfl, by rw [Cd.behind, ← Lib.size_eq]⟩
  case round =>
    obtain ⟨k, hk, rfl, hc⟩ := hrel
    have HC := Lib.hid hc
    clear hc
    cases k with
    | zero =>
      go_wp2
      go_ret
      exact ⟨by rw [HC.out]; rfl, Below.refl _ _⟩
    | succ k =>
      have hks : k < s.size := by omega
      have hw : IntKind.i64.wrap (k : Int) = k := by rw [IntKind.wrap_i64]; omega
      have hk0 : (0 : Int) ≤ k ∧ (k : Int) ≤ s.size := by omega
      by_cases he : s[k].toNat = 255
      · have heb : ((s[k].toNat : Int) == 255) = true := by simp [he]
        have HE := Lib.hid he
        clear he
        go_wp2
        go_round
        case rel => exact ⟨k, by omega, rfl, by rw [HC.out, Cd.behind_ff hks HE.out]⟩
        case measure => simp [intOf]
      · have heb : ((s[k].toNat : Int) == 255) = false := by simp; omega
        have HE := Lib.hid he
        clear he
        have hcv := conv_one w ((s[k].toNat + 1) % 256) (s[k] + 1) (up_byte s[k])
        go_wp2
        go_region
        all_goals go_wp2
        all_goals go_ret
        all_goals exact ⟨by rw [HC.out, Cd.behind_up hks HE.out, ← behind_end (by omega)]; rfl, by repeat (first | exact Below.refl _ _ | apply Below.drew | apply Below.alloc (hB := Nat.le_refl _))⟩

set_option maxRecDepth 100000 in
set_option maxHeartbeats 1000000 in
theorem behindr_any (s : ByteArray) (w : World) (hs : s.size ≤ 140737488351232) :
    Calls Try.prog 20 #[.string s] w fun e w' => e = .returned (.string (Cd.bs (Cd.behind s.data.toList))) ∧ Below w.heap.size w w' := by
  go_enter Try.func20, Try.ntmps20
  go_wp2_with fail
  go_loop [3] (fun i => ∃ k : Nat, k ≤ s.size ∧ i = .int .i64 k ∧ Cd.behind s.data.toList = Cd.behindGo s.data.toList k) (fun i => (intOf i).toNat)
  case atStart => exact ⟨s.size, Nat.le_refl _, rfl, by rw [Cd.behind, ← Lib.size_eq]⟩
  case round =>
    obtain ⟨k, hk, rfl, hc⟩ := hrel
    have HC := Lib.hid hc
    clear hc
    cases k with
    | zero =>
      go_wp2
      go_ret
      exact ⟨by rw [HC.out]; rfl, Below.refl _ _⟩
    | succ k =>
      have hks : k < s.size := by omega
      have hw : IntKind.i64.wrap (k : Int) = k := by rw [IntKind.wrap_i64]; omega
      have hw1 : IntKind.i64.wrap ((k : Int) + 1) = k + 1 := by rw [IntKind.wrap_i64]; omega
      have hk0 : (0 : Int) ≤ k ∧ (k : Int) ≤ s.size := by omega
      have hne : (((k : Int) + 1) == 0) = false := by simp; omega
      by_cases he : s[k].toNat = 255
      · have heb : ((s[k].toNat : Int) == 255) = true := by simp [he]
        have HE := Lib.hid he
        clear he
        go_wp2
        go_round
        case rel => exact ⟨k, by omega, rfl, by rw [HC.out, Cd.behind_ff hks HE.out]⟩
        case measure => simp [intOf]
      · have heb : ((s[k].toNat : Int) == 255) = false := by simp; omega
        have HE := Lib.hid he
        clear he
        have hcv := conv_one w ((s[k].toNat + 1) % 256) (s[k] + 1) (up_byte s[k])
        go_wp2
        go_region
        all_goals go_wp2
        all_goals go_ret
        all_goals exact ⟨by rw [HC.out, Cd.behind_up hks HE.out, ← behind_end (by omega)]; rfl, by repeat (first | exact Below.refl _ _ | apply Below.drew | apply Below.alloc (hB := Nat.le_refl _))⟩

set_option maxRecDepth 100000 in
set_option maxHeartbeats 1000000 in
theorem below_any (s : ByteArray) (w : World) (hs : s.size ≤ maxLen) :
    Calls Try.prog 34 #[.string s] w fun e w' => e = .returned (.bool (Cd.hasLow s.data.toList)) ∧ w = w' := by
  unfold maxLen at hs
  go_enter Try.func34, Try.ntmps34
  go_wp2_with fail
  go_loop [3] (fun i => ∃ k : Nat, k ≤ s.size ∧ i = .int .i64 k ∧ Cd.hasLow s.data.toList = Cd.hasLow (s.data.toList.drop k)) (fun i => s.size - (intOf i).toNat)
  case atStart => exact ⟨0, Nat.zero_le _, rfl, rfl⟩
  case round =>
    obtain ⟨k, hk, rfl, hc⟩ := hrel
    have HC := Lib.hid hc
    clear hc
    by_cases hks : k < s.size
    · have HS := Lib.hid (Cd.drop_cons_b s k hks)
      by_cases he : s[k].toNat = 255
      · have heb : ((s[k].toNat : Int) == 255) = true := by simp [he]
        have HE := Lib.hid he
        clear he
        go_wp2
        go_round
        case rel => exact ⟨k + 1, by omega, by go_num, by rw [HC.out, HS.out, Cd.low_ff HE.out]⟩
        case measure => simp [intOf]; omega
      · have heb : ((s[k].toNat : Int) == 255) = false := by simp; omega
        have HE := Lib.hid he
        clear he
        go_wp2
        go_ret
        exact ⟨by rw [HC.out, HS.out, Cd.low_yes HE.out]; rfl, rfl⟩
    · go_wp2
      go_ret
      exact ⟨by rw [HC.out, Cd.drop_all (s := s) (by omega)]; rfl, rfl⟩
end Go.Proofs.Ytikpjaibfjcgnaa
