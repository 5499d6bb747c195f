import Derived.Test.YtikpjaibfjcgnaaCodecNum
import Derived.Test.YtikpjaibfjcgnaaCodecClone
import Derived.WalkSpells
import Derived.Deep.LoopGhost
namespace Go.Proofs.Ytikpjaibfjcgnaa
open Go.RowKit
set_option linter.unusedSimpArgs false
set_option linter.unusedVariables false

theorem conv_any {w : World} {base : Nat} {v : Value} {l : List UInt8} (h : w.ownsRow base 5 1 v l.length (Cd.cs l)) : (convert 44 9 v).run Try.prog w = .ok (.string (Cd.bs l)) w :=
  Cd.conv_own Try.underlying44 Try.underlying5 Try.underlying9 h

set_option maxRecDepth 100000 in
set_option maxHeartbeats 1000000 in
theorem takeKr_any (s : ByteArray) (w : World) (hs : s.size ≤ 140737488351232) :
    Calls Try.prog 31 #[.string s] w fun e w' => e = .returned (.tuple #[.string (Cd.bs (Cd.takeK s.data.toList).1), .int .i64 (Cd.takeK s.data.toList).2.1, .int .i64 (Cd.takeK s.data.toList).2.2]) ∧ Below w.heap.size w w' := by
  obtain ⟨i0, hi, hz0, hz1, hz2⟩ := info_parts info_u8
  go_enter Try.func31, Try.ntmps31
  go_wp2
  go_loopw [5, 6] (fun v i wr => ∃ (k : Nat) (acc : List UInt8), k ≤ s.size ∧ i = .int .i64 k ∧ acc.length ≤ k ∧ wr.ownsRow w.heap.size 5 1 v acc.length (Cd.cs acc) ∧ Below w.heap.size w wr ∧ Cd.takeK s.data.toList = Cd.takeKGo (s.data.toList.drop k) acc k) (fun _ i _ => s.size - (intOf i).toNat)
  case atStart => exact ⟨0, [], Nat.zero_le _, rfl, Nat.zero_le _, World.ownsRow_nil _ _ _ _, Below.refl _ _, rfl⟩
  case round =>
    obtain ⟨k, acc, hk, rfl, hal, hown, hb, hgo⟩ := hrel
    have HG := Lib.hid hgo
    clear hgo
    have hbs := hb.size
    by_cases hlt : k < s.size
    · have HD := Lib.hid (Cd.drop_cons_b s k hlt)
      by_cases hc : s[k].toNat = 0
      · have hcb : ((s[k].toNat : Int) == 0) = true := by simp [hc]
        have HC := Lib.hid hc
        clear hc
        by_cases hl2 : k + 1 < s.size
        · have HD2 := Lib.hid (Cd.drop_cons_b s (k + 1) hl2)
          by_cases h1 : s[k + 1].toNat = 1
          · have h1b : ((s[k + 1].toNat : Int) == 1) = true := by simp [h1]
            have H1 := Lib.hid h1
            clear h1
            have hcv := conv_any hown
            go_wp2
            go_ret3
            exact ⟨by rw [HG.out, HD.out, HD2.out, Cd.tk_end HC.out H1.out]; exact Cd.retS rfl (by simp) rfl, hb⟩
          · have h1b : ((s[k + 1].toNat : Int) == 1) = false := by simp; omega
            have H1 := Lib.hid h1
            clear h1
            by_cases h2 : s[k + 1].toNat = 255
            · have h2b : ((s[k + 1].toNat : Int) == 255) = true := by simp [h2]
              have H2 := Lib.hid h2
              clear h2
              go_wp2_with (at_builtin; refine wpList_append_own _ rfl _ _ 44 rfl w.heap.size 5 i0 (.int .u8 0) 1 1 Try.underlying44 hi hz0 hz1 hz2 rfl (by decide) _ _ _ rfl (hown.alloc _) ⟨wr.heap.size, 0, none⟩ 1 1 [.int .u8 0] rfl rfl (cell_one_new _ _ _) (by simp [Value.oneCell']) (by unfold maxLen; omega) (by omega) (by simp; omega) ?_; intro v' w1 hown' hgrow _)
              have hb' := (hb.alloc hbs (.cells #[.int .u8 0] 5)).grown hgrow (by simp; omega) (fun j hj => (hown.lt j hj).1)
              clear hgrow
              go_roundw
              case rel => exact ⟨k + 2, acc ++ [0], by omega, by go_num, by simp; omega, Cd.own_snoc (c := 0) rfl rfl hown', hb', by rw [HG.out, HD.out, HD2.out, Cd.tk_zero HC.out H2.out]⟩
              case measure => simp [intOf]; omega
            · have h2b : ((s[k + 1].toNat : Int) == 255) = false := by simp; omega
              have H2 := Lib.hid h2
              clear h2
              go_wp2
              go_ret3
              exact ⟨by rw [HG.out, HD.out, HD2.out, Cd.tk_bad HC.out H1.out H2.out]; rfl, hb⟩
        · go_wp2
          go_ret3
          exact ⟨by rw [HG.out, HD.out, List.drop_eq_nil_of_le (by simp; omega), Cd.tk_last HC.out]; rfl, hb⟩
      · have hcb : ((s[k].toNat : Int) == 0) = false := by simp; omega
        have HC := Lib.hid hc
        clear hc
        go_wp2_with (at_builtin; refine wpList_append_own _ rfl _ _ 44 rfl w.heap.size 5 i0 (.int .u8 0) 1 1 Try.underlying44 hi hz0 hz1 hz2 rfl (by decide) _ _ _ rfl (hown.alloc _) ⟨wr.heap.size, 0, none⟩ 1 1 [.int .u8 (s[k].toNat : Int)] rfl rfl (cell_one_new _ _ _) (by simp [Value.oneCell']) (by unfold maxLen; omega) (by omega) (by simp; omega) ?_; intro v' w1 hown' hgrow _)
        have hb' := (hb.alloc hbs (.cells #[.int .u8 (s[k].toNat : Int)] 5)).grown hgrow (by simp; omega) (fun j hj => (hown.lt j hj).1)
        clear hgrow
        go_roundw
        case rel => exact ⟨k + 1, acc ++ [s[k]], by omega, by go_num, by simp; omega, Cd.own_snoc rfl rfl hown', hb', by rw [HG.out, HD.out, Cd.tk_plain HC.out]⟩
        case measure => simp [intOf]; omega
    · have : k = s.size := by omega
      go_wp2
      go_ret3
      exact ⟨by rw [HG.out, List.drop_eq_nil_of_le (by simp; omega)]; rfl, hb⟩
set_option maxRecDepth 100000 in
set_option maxHeartbeats 1000000 in
theorem takeKc_any (s : ByteArray) (w : World) (hs : s.size ≤ 140737488351232) :
    Calls Try.prog 30 #[.string s] w fun e w' => e = .returned (.tuple #[.string (Cd.bs (Cd.takeK s.data.toList).1), .int .i64 (Cd.takeK s.data.toList).2.1, .int .i64 (Cd.takeK s.data.toList).2.2]) ∧ Below w.heap.size w w' := by
  obtain ⟨i0, hi, hz0, hz1, hz2⟩ := info_parts info_u8
  go_enter Try.func30, Try.ntmps30
  go_wp2
  go_step3
  go_wp2
  go_step3
  go_wp2
  go_loopg [5, 6] s.size (fun g v i wr => ∃ (k : Nat) (acc : List UInt8), g = s.size - k ∧ k ≤ s.size ∧ i = .int .i64 k ∧ acc.length ≤ k ∧ wr.ownsRow w.heap.size 5 1 v acc.length (Cd.cs acc) ∧ Below w.heap.size w wr ∧ Cd.takeK s.data.toList = Cd.takeKGo (s.data.toList.drop k) acc k)
  case atStart => exact ⟨0, [], rfl, Nat.zero_le _, rfl, Nat.zero_le _, World.ownsRow_nil _ _ _ _, Below.refl _ _, rfl⟩
  case round =>
    obtain ⟨k, acc, rfl, hk, rfl, hal, hown, hb, hgo⟩ := hrel
    have HG := Lib.hid hgo
    clear hgo
    have hbs := hb.size
    by_cases hlt : k < s.size
    · have HD := Lib.hid (Cd.drop_cons_b s k hlt)
      by_cases hc : s[k].toNat = 0
      · have hcb : ((s[k].toNat : Int) == 0) = true := by simp [hc]
        have HC := Lib.hid hc
        clear hc
        by_cases hl2 : k + 1 < s.size
        · have HD2 := Lib.hid (Cd.drop_cons_b s (k + 1) hl2)
          by_cases h1 : s[k + 1].toNat = 1
          · have h1b : ((s[k + 1].toNat : Int) == 1) = true := by simp [h1]
            have H1 := Lib.hid h1
            clear h1
            have hcv := conv_any hown
            go_wp2
            (try rw [Exit.noGoto_ret])
            go_ret3
            exact ⟨by rw [HG.out, HD.out, HD2.out, Cd.tk_end HC.out H1.out]; exact Cd.retS rfl (by first | (simp; done) | (simp; omega) | omega) rfl, hb⟩
          · have h1b : ((s[k + 1].toNat : Int) == 1) = false := by simp; omega
            have H1 := Lib.hid h1
            clear h1
            by_cases h2 : s[k + 1].toNat = 255
            · have h2b : ((s[k + 1].toNat : Int) == 255) = true := by simp [h2]
              have H2 := Lib.hid h2
              clear h2
              go_wp2_with (at_builtin; refine wpList_append_own _ rfl _ _ 44 rfl w.heap.size 5 i0 (.int .u8 0) 1 1 Try.underlying44 hi hz0 hz1 hz2 rfl (by decide) _ _ _ rfl (hown.alloc _) ⟨wr.heap.size, 0, none⟩ 1 1 [.int .u8 0] rfl rfl (cell_one_new _ _ _) (by simp [Value.oneCell']) (by unfold maxLen; omega) (by omega) (by simp; omega) ?_; intro v' w1 hown' hgrow _)
              have hb' := (hb.alloc hbs (.cells #[.int .u8 0] 5)).grown hgrow (by simp; omega) (fun j hj => (hown.lt j hj).1)
              clear hgrow
              go_roundg (s.size - (k + 2))
              case rel => exact ⟨k + 2, acc ++ [0], rfl, by omega, by go_num, by simp; omega, Cd.own_snoc (c := 0) rfl rfl hown', hb', by rw [HG.out, HD.out, HD2.out, Cd.tk_zero HC.out H2.out]⟩
              case measure => omega
            · have h2b : ((s[k + 1].toNat : Int) == 255) = false := by simp; omega
              have H2 := Lib.hid h2
              clear h2
              go_wp2
              (try rw [Exit.noGoto_ret])
              go_ret3
              exact ⟨by rw [HG.out, HD.out, HD2.out, Cd.tk_bad HC.out H1.out H2.out]; rfl, hb⟩
        · go_wp2
          (try rw [Exit.noGoto_ret])
          go_ret3
          exact ⟨by rw [HG.out, HD.out, List.drop_eq_nil_of_le (by simp; omega), Cd.tk_last HC.out]; rfl, hb⟩
      · have hcb : ((s[k].toNat : Int) == 0) = false := by simp; omega
        have HC := Lib.hid hc
        clear hc
        go_wp2_with (at_builtin; refine wpList_append_own _ rfl _ _ 44 rfl w.heap.size 5 i0 (.int .u8 0) 1 1 Try.underlying44 hi hz0 hz1 hz2 rfl (by decide) _ _ _ rfl (hown.alloc _) ⟨wr.heap.size, 0, none⟩ 1 1 [.int .u8 (s[k].toNat : Int)] rfl rfl (cell_one_new _ _ _) (by simp [Value.oneCell']) (by unfold maxLen; omega) (by omega) (by simp; omega) ?_; intro v' w1 hown' hgrow _)
        have hb' := (hb.alloc hbs (.cells #[.int .u8 (s[k].toNat : Int)] 5)).grown hgrow (by simp; omega) (fun j hj => (hown.lt j hj).1)
        clear hgrow
        go_roundg (s.size - (k + 1))
        case rel => exact ⟨k + 1, acc ++ [s[k]], rfl, by omega, by go_num, by simp; omega, Cd.own_snoc rfl rfl hown', hb', by rw [HG.out, HD.out, Cd.tk_plain HC.out]⟩
        case measure => omega
    · have : k = s.size := by omega
      go_wp2
      (try rw [Exit.noGoto_ret])
      go_ret3
      exact ⟨by rw [HG.out, List.drop_eq_nil_of_le (by simp; omega)]; rfl, hb⟩
end Go.Proofs.Ytikpjaibfjcgnaa
