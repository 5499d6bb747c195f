/-
  What the program's memtable owes for MemtableOrder: Less, Height.
-/
import Derived.Test.YtgfpkbdinfdkfaaMemPlain
namespace Go.Proofs.Ytgfpkbdinfdkfaa
open Go.RowKit
set_option linter.unusedSimpArgs false
set_option linter.unusedVariables false
namespace Md
open Op (bytesLess)
open Mt (Ver VerIn verV lessB LessOk HeightOk height seedOf hgtGo xor_in mix_in)

set_option maxRecDepth 100000 in
set_option maxHeartbeats 2000000 in
theorem lessOk : LessOk := by
  intro a b w ha hb
  obtain ⟨ak, aq, ad, av⟩ := a
  obtain ⟨bk, bq, bd, bv⟩ := b
  unfold verV
  simp only
  obtain ⟨_, _, _, _⟩ := ha
  obtain ⟨_, _, _, _⟩ := hb
  by_cases h : ak = bk
  · subst h
    have hir := Mt.bl_irrefl ak
    by_cases h1 : bq < aq
    · have e : lessB ⟨ak, aq, ad, av⟩ ⟨ak, bq, bd, bv⟩ = true := by simp [lessB, h1]
      rw [e]
      clear e
      go_enter Try.func17, Try.ntmps17
      go_wp2_with fail
      go_ret
      exact ⟨rfl, ((Below.refl _ _).alloc (Nat.le_refl _) _).alloc (by simp) _⟩
    · have e : lessB ⟨ak, aq, ad, av⟩ ⟨ak, bq, bd, bv⟩ = false := by simp [lessB, h1]
      have h2 : decide (bq < aq) = false := decide_eq_false h1
      rw [e]
      clear e
      go_enter Try.func17, Try.ntmps17
      go_wp2_with fail
      go_ret
      exact ⟨rfl, ((Below.refl _ _).alloc (Nat.le_refl _) _).alloc (by simp) _⟩
  · have hne : (ak == bk) = false := by simpa using h
    have e : lessB ⟨ak, aq, ad, av⟩ ⟨bk, bq, bd, bv⟩ = bytesLess ak bk := by simp [lessB, h]
    rw [e]
    clear e h
    cases hl : bytesLess ak bk
    all_goals
      go_enter Try.func17, Try.ntmps17
      go_wp2_with fail
      go_ret
      exact ⟨rfl, ((Below.refl _ _).alloc (Nat.le_refl _) _).alloc (by simp) _⟩

set_option maxRecDepth 100000 in
set_option maxHeartbeats 2000000 in
theorem heightOk : HeightOk := by
  intro sd sq w hs hq
  have HM1 := Lib.hid (fun W => mixc_any sq W hq.1 (by omega))
  have hm := mix_in sq
  have hsd : seedOf sd sq = mixOf (bits BinOp.xor IntKind.u64 sd (mixOf sq)) := rfl
  have hh : height sd sq = hgtGo 7 1 (seedOf sd sq) := rfl
  generalize mixOf sq = m at *
  have hx := xor_in hs hm
  have HM2 := Lib.hid (fun W => mixc_any (bits BinOp.xor IntKind.u64 sd m) W hx.1 (by omega))
  have hr := mix_in (bits BinOp.xor IntKind.u64 sd m)
  rw [← hsd] at HM2 hr
  generalize seedOf sd sq = X at *
  have HH := Lib.hid hh
  clear hsd hx hm hh
  go_enter Try.func18, Try.ntmps18
  go_wp2_with (first
    | (go_at_call 34; (with_reducible refine (HM1.out _).mono ?_); rintro e w1 ⟨rfl, rfl⟩)
    | (go_at_call 34; (with_reducible refine (HM2.out _).mono ?_); rintro e w1 ⟨rfl, rfl⟩))
  go_loop [5, 6] (fun xv nv => ∃ (n : Nat) (x : Int), 1 ≤ n ∧ n ≤ 8 ∧ xv = .int .u64 x ∧ nv = .int .i64 (n : Int) ∧ (0 ≤ x ∧ x < 18446744073709551616) ∧ Hid (hgtGo 7 1 X = hgtGo (8 - n) n x)) (fun _ nv => 8 - (intOf nv).toNat)
  case atStart => exact ⟨1, X, Nat.le_refl _, by omega, rfl, rfl, hr, rfl⟩
  case round =>
    obtain ⟨n, x, hn1, hn2, rfl, rfl, ⟨hx0, hx1⟩, hgo⟩ := hrel
    by_cases h1 : n < 8
    · have h1i : (n : Int) < 8 := by omega
      by_cases h2 : x % 4 = 0
      · have h2b : (x % 4 == 0) = true := by simpa using h2
        have HG := Lib.hid (show hgtGo 7 1 X = hgtGo (8 - (n + 1)) (n + 1) (x / 4) by rw [hgo.out, show 8 - n = (8 - (n + 1)) + 1 by omega, hgtGo, if_pos ⟨h1, h2⟩])
        clear hgo h2
        go_wp2_with fail
        go_round
        case rel => exact ⟨n + 1, x / 4, by omega, by omega, by go_num, by go_num, ⟨by omega, by omega⟩, HG⟩
        case measure => simp [intOf]; omega
      · have h2b : (x % 4 == 0) = false := by simpa using h2
        have HE := Lib.hid (show height sd sq = n by rw [HH.out, hgo.out, show 8 - n = (8 - (n + 1)) + 1 by omega, hgtGo, if_neg (fun h => h2 h.2)])
        clear hgo h2
        go_wp2_with fail
        go_ret
        exact ⟨by rw [HE.out]; rfl, Below.refl _ _⟩
    · obtain rfl : n = 8 := by omega
      have HE := Lib.hid (show height sd sq = 8 by rw [HH.out, hgo.out]; rfl)
      clear hgo
      by_cases h2 : x % 4 = 0
      · have h2b : (x % 4 == 0) = true := by simpa using h2
        go_wp2_with fail
        go_ret
        exact ⟨by rw [HE.out]; rfl, Below.refl _ _⟩
      · have h2b : (x % 4 == 0) = false := by simpa using h2
        go_wp2_with fail
        go_ret
        exact ⟨by rw [HE.out]; rfl, Below.refl _ _⟩
end Md
end Go.Proofs.Ytgfpkbdinfdkfaa
