/-
  Chapter 7, the developers' side: Hash, Valid, countBits, the bits of a byte, Load, places.
-/
import Derived.Test.YtenjjfiojackaaaBloomOwes
namespace Go.Proofs.Ytenjjfiojackaaa
open Go.RowKit
set_option linter.unusedSimpArgs false
set_option linter.unusedVariables false
namespace Bm

set_option maxRecDepth 100000 in
set_option maxHeartbeats 2000000 in
theorem hashOk : HashOk := by
  intro l w hl
  go_enter Try.func8, Try.ntmps8
  go_wp2_with fail
  go_loop [3, 7] (fun hv iv => ∃ (p : Nat) (h : Int), p ≤ l.length ∧ hv = .int .u64 h ∧ iv = .int .i64 (p : Int) ∧ (0 ≤ h ∧ h < 18446744073709551616) ∧ Hid (hashGo l 14695981039346656037 = hashGo (l.drop p) h)) (fun _ iv => l.length - (intOf iv).toNat)
  case atStart => exact ⟨0, _, Nat.zero_le _, rfl, rfl, by omega, rfl⟩
  case round =>
    obtain ⟨p, h, hp, rfl, rfl, ⟨hh0, hh1⟩, hgo⟩ := hrel
    by_cases hlt : p < l.length
    · have hi1 : (0 : Int) ≤ (p : Int) ∧ (p : Int) < (l.length : Int) := by omega
      have hcw : IntKind.u64.wrap (((Cd.bs l)[p]'hlt).toNat : Int) = (l[p].toNat : Int) := by
        have := (l[p]).toNat_lt
        show IntKind.u64.wrap (l[p].toNat : Int) = _
        rw [IntKind.wrap_u64]; omega
      have HG := Lib.hid (show hashGo l 14695981039346656037 = hashGo (l.drop (p + 1)) (IntKind.u64.wrap (bits BinOp.xor IntKind.u64 h (l[p].toNat : Int) * 1099511628211)) by
        rw [hgo.out, List.drop_eq_getElem_cons hlt, hashGo])
      clear hgo
      go_wp2_with fail
      go_round
      case rel => exact ⟨p + 1, _, by omega, rfl, by go_num, by rw [IntKind.wrap_u64]; omega, HG⟩
      case measure => simp [intOf]; omega
    · obtain rfl : p = l.length := by omega
      have HE := Lib.hid (show hash l = mixOf h by unfold hash; rw [hgo.out, List.drop_length]; rfl)
      have HM := Lib.hid (fun W => mixc_any h W hh0 (by omega))
      clear hgo
      go_wp2_with (go_at_call 18; (with_reducible refine (HM.out _).mono ?_); rintro e w1 ⟨rfl, rfl⟩)
      go_ret
      exact ⟨by rw [HE.out]; rfl, Below.refl _ _⟩

set_option maxRecDepth 100000 in
set_option maxHeartbeats 2000000 in
theorem valid_any (s : List UInt8) (w : World) (hs : s.length ≤ 140737488351232) :
    Calls Try.prog 12 #[.string (Cd.bs s)] w fun e w' => e = .returned (.bool (valid s)) ∧ w = w' := by
  have hsz : (Cd.bs s).size = s.length := rfl
  by_cases h0 : s = []
  · subst h0
    go_enter Try.func12, Try.ntmps12
    go_wp2_with fail
    go_ret
    exact ⟨rfl, rfl⟩
  · have h0b : s.isEmpty = false := by simpa using h0
    have hl : 0 < s.length := List.length_pos_iff.2 h0
    have hi : (0 : Int) < (s.length : Int) := by omega
    have hg : s.getD 0 0 = s[0] := by rw [List.getD_eq_getElem?_getD, List.getElem?_eq_getElem hl, Option.getD_some]
    have HE := Lib.hid (show valid s = (decide ((1 : Int) ≤ ((s[0]'hl).toNat : Int)) && decide (((s[0]'hl).toNat : Int) ≤ 30) && decide ((9 : Int) ≤ (s.length : Int))) by
      unfold valid; rw [hg, Bool.eq_iff_iff]; simp [h0]; omega)
    clear hg h0
    go_enter Try.func12, Try.ntmps12
    go_wp2_with fail
    all_goals go_ret
    all_goals refine ⟨congrArg (fun b => Ending.returned (.bool b)) ?_, rfl⟩
    all_goals (rw [HE.out]; have e : ∀ h, ((Cd.bs s)[0]'h).toNat = (s[0]'hl).toNat := fun _ => rfl; simp only [e] at *; generalize (s[0]'hl).toNat = x at *; simp_all; try omega)
theorem validOk : ValidOk := fun s w hs => (valid_any s w hs).mono fun _ _ ⟨h1, h2⟩ => ⟨h1, h2 ▸ Below.refl _ _⟩

set_option maxRecDepth 100000 in
set_option maxHeartbeats 2000000 in
theorem countBits_any (s : List UInt8) (w : World) (h0 : 1 ≤ s.length) (hs : s.length ≤ 140737488351232) :
    Calls Try.prog 21 #[.string (Cd.bs s)] w fun e w' => e = .returned (.int .u64 (8 * ((s.length : Int) - 1))) ∧ w = w' := by
  have hsz : (Cd.bs s).size = s.length := rfl
  have hw : IntKind.u64.wrap ((s.length : Int) - 1) = (s.length : Int) - 1 := by rw [IntKind.wrap_u64]; omega
  have hw2 : IntKind.u64.wrap (((s.length : Int) - 1) * 8) = ((s.length : Int) - 1) * 8 := by rw [IntKind.wrap_u64]; omega
  go_enter Try.func21, Try.ntmps21
  go_wp2_with fail
  go_ret
  exact ⟨by rw [show (8 * ((s.length : Int) - 1)) = ((s.length : Int) - 1) * 8 by omega]; rfl, rfl⟩

/-- how many bits of a byte are 1 -/
def ones (c : UInt8) : Nat := ((List.range 8).filter fun e => decide (c.toNat / 2 ^ e % 2 = 1)).length

set_option maxRecDepth 100000 in
set_option maxHeartbeats 2000000 in
theorem onesCount_any (c : UInt8) (w : World) :
    Calls Try.prog 22 #[.int .u8 (c.toNat : Int)] w fun e w' => e = .returned (.int .i64 (ones c : Int)) ∧ w = w' := by
  have hc := c.toNat_lt
  have hi : (0 : Int) ≤ (c.toNat : Int) ∧ (c.toNat : Int) < 256 := by omega
  go_enter Try.func22, Try.ntmps22
  go_wp2_with fail
  go_ret
  refine ⟨congrArg (fun n => Ending.returned (Value.int .i64 n)) ?_, rfl⟩
  unfold ones
  generalize c.toNat = n at *
  clear w
  revert n
  decide +kernel

/-! ### how many bits are 1 -/
def onesTo (s : List UInt8) (q : Nat) : Nat := ((List.range (8 * q)).filter fun i => bitB s i).length
theorem onesTo_succ (s : List UInt8) (q : Nat) (hq : 1 + q < s.length) : onesTo s (q + 1) = onesTo s q + ones s[1 + q] := by
  have hg : ∀ e, e < 8 → bitB s (8 * q + e) = decide (s[1 + q].toNat / 2 ^ e % 2 = 1) := fun e he => by
    unfold bitB
    rw [show 1 + (8 * q + e) / 8 = 1 + q by omega, show (8 * q + e) % 8 = e by omega, List.getD_eq_getElem?_getD, List.getElem?_eq_getElem hq, Option.getD_some]
  unfold onesTo ones
  rw [show 8 * (q + 1) = 8 * q + 7 + 1 by omega, filter_snoc, filter_snoc, filter_snoc, filter_snoc, filter_snoc, filter_snoc, filter_snoc, show 8 * q + 1 = 8 * q + 0 + 1 by omega, filter_snoc (q := 8 * q + 0)]
  have e8 : ∀ (f : Nat → Bool), ((List.range 8).filter f).length = (if f 0 then 1 else 0) + (if f 1 then 1 else 0) + (if f 2 then 1 else 0) + (if f 3 then 1 else 0) + (if f 4 then 1 else 0) + (if f 5 then 1 else 0) + (if f 6 then 1 else 0) + (if f 7 then 1 else 0) := fun f => by
    rw [filter_snoc, filter_snoc, filter_snoc, filter_snoc, filter_snoc, filter_snoc, filter_snoc, filter_snoc]; simp
  rw [e8, ← hg 0 (by omega), ← hg 1 (by omega), ← hg 2 (by omega), ← hg 3 (by omega), ← hg 4 (by omega), ← hg 5 (by omega), ← hg 6 (by omega), ← hg 7 (by omega)]
  simp only [Nat.add_zero]
  omega
theorem onesTo_le (s : List UInt8) (q : Nat) : onesTo s q ≤ 8 * q := by
  unfold onesTo
  have := List.length_filter_le (fun i => bitB s i) (List.range (8 * q))
  simpa using this

set_option maxRecDepth 100000 in
set_option maxHeartbeats 4000000 in
theorem loadOk : LoadOk := by
  intro s w hs
  suffices h : Calls Try.prog 13 #[.string (Cd.bs s)] w fun e w' => e = .returned (.tuple #[.int .i64 ((load s).1 : Int), .int .i64 ((load s).2 : Int)]) ∧ w = w' from h.mono fun _ _ ⟨h1, h2⟩ => ⟨h1, h2 ▸ Below.refl _ _⟩
  have hsz : (Cd.bs s).size = s.length := rfl
  have HV := Lib.hid (fun W => valid_any s W hs)
  by_cases h0 : s = []
  · subst h0
    go_enter Try.func13, Try.ntmps13
    go_wp2_with fail
    go_ret2
    exact ⟨rfl, rfl⟩
  · have h0b : s.isEmpty = false := by simpa using h0
    cases hv : valid s with
    | false =>
      have HE := Lib.hid (show load s = (0, 0) from if_pos (.inl hv))
      rw [hv] at HV
      clear h0
      go_enter Try.func13, Try.ntmps13
      go_wp2_with (go_at_call 12; (with_reducible refine (HV.out _).mono ?_); rintro e w1 ⟨rfl, rfl⟩)
      go_ret2
      exact ⟨by rw [HE.out]; rfl, rfl⟩
    | true =>
      have hl9 : 9 ≤ s.length := by
        have := hv; unfold valid at this
        simp [h0] at this
        omega
      have HE := Lib.hid (show load s = (onesTo s (s.length - 1), 8 * (s.length - 1)) from if_neg (fun h => h.elim (fun h => by rw [hv] at h; cases h) h0))
      have HC := Lib.hid (fun W => countBits_any s W (by omega) hs)
      rw [hv] at HV
      clear h0 hv
      go_enter Try.func13, Try.ntmps13
      go_wp2_with (go_at_call 12; (with_reducible refine (HV.out _).mono ?_); rintro e w1 ⟨rfl, rfl⟩)
      go_loop [4, 5] (fun nv iv => ∃ q : Nat, 1 + q ≤ s.length ∧ nv = .int .i64 ((onesTo s q : Nat) : Int) ∧ iv = .int .i64 ((1 + q : Nat) : Int)) (fun _ iv => s.length - (intOf iv).toNat)
      case atStart => exact ⟨0, by omega, rfl, rfl⟩
      case round =>
        obtain ⟨q, hq, rfl, rfl⟩ := hrel
        have hle := onesTo_le s q
        by_cases hlt : 1 + q < s.length
        · have hi1 : (0 : Int) ≤ ((1 + q : Nat) : Int) ∧ ((1 + q : Nat) : Int) < (s.length : Int) := by omega
          have HO := Lib.hid (fun W => onesCount_any (s[1 + q]'hlt) W)
          have HS := Lib.hid (onesTo_succ s q hlt)
          have ho8 : ones (s[1 + q]'hlt) ≤ 8 := by unfold ones; have := List.length_filter_le (fun e => decide ((s[1 + q]'hlt).toNat / 2 ^ e % 2 = 1)) (List.range 8); simpa using this
          have hx : ∀ h, ((Cd.bs s)[1 + q]'h) = s[1 + q]'hlt := fun _ => rfl
          generalize onesTo s q = c at *
          generalize s[1 + q]'hlt = x at *
          generalize ones x = o at *
          generalize hp : 1 + q = p at *
          go_wp2_with (go_at_call 22; (try rw [hx]); (with_reducible refine (HO.out _).mono ?_); rintro e w1 ⟨rfl, rfl⟩)
          go_round
          case rel => exact ⟨q + 1, by omega, by rw [HS.out]; go_num, by subst hp; go_num⟩
          case measure => simp [intOf]; omega
        · obtain rfl : q = s.length - 1 := by omega
          generalize onesTo s (s.length - 1) = c at *
          have hd : decide (((1 + (s.length - 1) : Nat) : Int) < (s.length : Int)) = false := by simp; omega
          have hcw : IntKind.i64.wrap (8 * ((s.length : Int) - 1)) = 8 * ((s.length : Int) - 1) := by rw [IntKind.wrap_i64]; omega
          go_wp2_with (go_at_call 21; (with_reducible refine (HC.out _).mono ?_); rintro e w1 ⟨rfl, rfl⟩)
          go_ret2
          exact ⟨by rw [HE.out, show ((8 * (s.length - 1) : Nat) : Int) = 8 * ((s.length : Int) - 1) by omega]; rfl, rfl⟩
end Bm
end Go.Proofs.Ytenjjfiojackaaa
