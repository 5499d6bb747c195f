import Derived.Shelf.Abstract
import Derived.Shelf.RegionOpen
import Derived.OwnWalkIn
import Derived.TacticsInMore
import Derived.LoopNIn
import Derived.LoopIn
import Derived.Deep.AppendLies
import Derived.Deep.RegionHeld3
import Derived.Deep.RegionLaw
import Derived.Deep.Quiet
import Derived.Deep.QuietTactic
import Derived.BigQuiet
import Derived.OrdersIn
import Derived.CallsIn
import Derived.RangeFuncCalls
import Derived.Test.YtmfeeampbmandaaPart4
namespace Go.Proofs.Ytmfeeampbmandaa
open Go.RowKit
set_option linter.unusedSimpArgs false
set_option linter.unusedVariables false

theorem and_one {q : Nat} (h : q < 4294967296) : bits BinOp.and IntKind.u32 (q : Int) 1 = ((q % 2 : Nat) : Int) := by
  rw [show (1 : Int) = ((1 : Nat) : Int) from rfl, u32_and_nat _ _ h (by omega), Nat.and_one_is_mod]
theorem walk_oddc {n : Nat} (hn : n < 4294967296) (h : n % 2 = 1) : bits BinOp.xor IntKind.u32 ((n : Int) / 2) 3988292384 = (Fr.step n : Int) := by
  rw [← Fr.walk_odd hn h]; congr 1; omega

set_option maxRecDepth 100000 in
set_option maxHeartbeats 1000000 in
theorem sumc_same (s : ByteArray) (w : World) (hs : s.size ≤ maxLen) :
    Calls Try.prog 39 #[.string s] w fun e w' => e = .returned (.int .u32 (Fr.sum s.data.toList)) ∧ w = w' := by
  unfold maxLen at hs
  go_enter Try.func39, Try.ntmps39
  go_wp2_with fail
  go_loop [3, 8] (fun n i => ∃ k m : Nat, k ≤ s.size ∧ i = .int .i64 k ∧ n = .int .u32 m ∧ m = Fr.run 4294967295 (s.data.toList.take k)) (fun _ i => s.size - (intOf i).toNat)
  case atStart => exact ⟨0, _, Nat.zero_le _, rfl, rfl, rfl⟩
  case round =>
    obtain ⟨k, m, hk, rfl, rfl, hm⟩ := hrel
    have hlt0 : m < 4294967296 := by rw [hm]; exact Fr.run_lt _ (by omega)
    have HM := Lib.hid hm
    have HL := Lib.hid hlt0
    clear hm hlt0
    by_cases hlt : k < s.size
    · have hx := Fr.walk_in HL.out s[k]
      have hw := Fr.wrap32_byte s[k]
      have HT := Lib.hid (Cd.take_s s k hlt)
      go_wp2_with fail
      clear hw
      go_loop [3, 17] (fun n j => ∃ i q : Nat, i ≤ 8 ∧ j = .int .i64 i ∧ n = .int .u32 q ∧ q = Fr.steps i (m ^^^ s[k].toNat)) (fun _ j => 8 - (intOf j).toNat)
      case atStart => exact ⟨0, _, Nat.zero_le _, rfl, by first | rfl | rw [hx], rfl⟩
      case round =>
        obtain ⟨i, q, hi, rfl, rfl, hq⟩ := hrel
        have hlq : q < 4294967296 := by rw [hq]; exact Fr.steps_lt (Fr.xor_lt32 HL.out (by have := s[k].toNat_lt; omega)) _
        have HQ := Lib.hid hq
        have HLQ := Lib.hid hlq
        clear hq hlq hx
        by_cases h8 : i < 8
        · have hand := and_one (q := q) HLQ.out
          by_cases ho : q % 2 = 1
          · have hob : (bits BinOp.and IntKind.u32 (q : Int) 1 == 1) = true := by rw [hand]; simp; omega
            have hs1 := walk_oddc HLQ.out ho
            clear hand
            go_wp2
            go_round
            case rel => exact ⟨i + 1, Fr.step q, by omega, by go_num, by first | rfl | rw [hs1], by rw [HQ.out]; rfl⟩
            case measure => simp [intOf]; omega
          · have hob : (bits BinOp.and IntKind.u32 (q : Int) 1 == 1) = false := by rw [hand]; simp; omega
            have HO := Lib.hid ho
            clear ho hand
            go_wp2
            go_round
            case rel => exact ⟨i + 1, Fr.step q, by omega, by go_num, by rw [Fr.step_even HO.out]; simp, by rw [HQ.out]; rfl⟩
            case measure => simp [intOf]; omega
        · obtain rfl : i = 8 := by omega
          go_wp2
          go_round
          case rel => exact ⟨k + 1, q, by omega, by go_num, rfl, by rw [HT.out, Fr.run_snoc, ← HM.out]; exact HQ.out⟩
          case measure => simp [intOf]; omega
    · obtain rfl : k = s.size := by omega
      go_wp2
      go_ret
      exact ⟨by rw [Fr.sum, ← Cd.take_all s, ← HM.out, ← Fr.walk_out HL.out]; rfl, rfl⟩

theorem litByte_shr (n k : Nat) : Value.int .u8 ((n : Int) / 2 ^ (8 * k) % 256) = .int .u8 ((Fr.litByte n k).toNat : Int) := by
  congr 1; unfold Fr.litByte; rw [UInt8.toNat_ofNat', show (256 : Nat) ^ k = 2 ^ (8 * k) from by rw [Nat.pow_mul]]
  have : ((2 : Int) ^ (8 * k)) = ((2 ^ (8 * k) : Nat) : Int) := by simp
  rw [this]; omega

set_option maxRecDepth 100000 in
set_option maxHeartbeats 1000000 in
theorem putSum_any (N : Int) (n : Nat) (w : World) (hN : N = n) (h1 : n < 4294967296) :
    Calls Try.prog 38 #[.int .u32 N] w fun e w' => e = .returned (.string (Cd.bs (Fr.lit n))) ∧ Below w.heap.size w w' := by
  subst hN
  have HN := Lib.hid h1
  clear h1
  go_enter Try.func38, Try.ntmps38
  go_wp2_with fail
  go_loopw [5] (fun i wr => ∃ (k : Nat), k ≤ 4 ∧ i = .int .i64 k ∧ Row4 wr w.heap.size (Fr.litPart n k) ∧ Below w.heap.size w wr) (fun i _ => 4 - (intOf i).toNat)
  case atStart => exact ⟨0, Nat.zero_le _, rfl, Row4.new _ _ _, (Below.refl _ _).alloc (Nat.le_refl _) _⟩
  case round =>
    obtain ⟨k, hk, rfl, hr, hb⟩ := hrel
    by_cases hk4 : k < 4
    · have hc := (hr k hk4).1
      have hf := (hr k hk4).2
      have HR := Lib.hid hr
      clear hr
      go_wp2
      go_roundw
      case rel => exact ⟨k + 1, by omega, by go_num, HR.out.store hk4 (litByte_shr n k), hb.setCell (p := ⟨w.heap.size, k, none⟩) (Nat.le_refl _) _⟩
      case measure => simp [intOf]; omega
    · obtain rfl : k = 4 := by omega
      have hcv := hr.conv (c := 4) (Fr.litPart_len _ _)
      go_wp2
      go_ret
      exact ⟨by rw [Fr.litPart_done]; rfl, hb⟩
end Go.Proofs.Ytmfeeampbmandaa

namespace Go.Proofs.Ytmfeeampbmandaa
open Go.RowKit
set_option linter.unusedSimpArgs false
set_option linter.unusedVariables false

theorem sumc_any (s : ByteArray) (w : World) (hs : s.size ≤ maxLen) :
    Calls Try.prog 39 #[.string s] w fun e w' => e = .returned (.int .u32 (Fr.sum s.data.toList)) ∧ Below w.heap.size w w' :=
  (sumc_same s w hs).mono fun e w' ⟨he, hw⟩ => ⟨he, by subst hw; exact Below.refl _ _⟩

set_option maxRecDepth 100000 in
set_option maxHeartbeats 1000000 in
theorem framePutc_any (K : Int) (c : UInt8) (hK : K = (c.toNat : Int)) (l : List UInt8) (w : World) (hs : l.length ≤ 140737488351232) :
    Calls Try.prog 22 #[.agg #[.int .u8 K, .string (Cd.bs l)]] w fun e w' => e = .returned (.tuple #[.string (Cd.bs (Fr.put c l).1), .int .i64 (Fr.put c l).2]) ∧ Below w.heap.size w w' := by
  have hsz : (Cd.bs l).size = l.length := rfl
  have HSZ := Lib.hid hsz
  clear hsz
  by_cases h0 : c.toNat = 0
  · have hb : (K == 0) = true := by subst hK; simp [h0]
    rw [Fr.put_zero h0]
    clear hK h0
    go_enter Try.func22, Try.ntmps22
    go_wp2
    go_ret2
    exact ⟨rfl, (Below.refl _ _).alloc (Nat.le_refl _) _⟩
  · have hb : (K == 0) = false := by subst hK; simp; omega
    by_cases hl : l.length ≤ 262144
    · rw [Fr.put_ok h0 hl]
      have HK := Lib.hid hK
      have hcv := fun W g h => conv_cell W g K c hK h
      clear hK h0
      have hT := fun W => putTc_any (Cd.bs l) W (by rw [HSZ.out]; omega)
      have HT := Lib.hid hT
      clear hT
      have hlen : (Cd.putT l).length ≤ 262154 := by have := Cd.putU_len10 l.length (by omega); rw [Cd.putT, List.length_append]; omega
      go_enter Try.func22, Try.ntmps22
      go_wp2_with fail
      go_cut [4] (fun r wx => r = .string (Cd.bs (c :: Cd.putT l)) ∧ Below w.heap.size w wx)
      case first =>
        go_region_with (go_at_call 36; refine (HT.out _).mono ?_; rintro e w1 ⟨rfl, hb1⟩; obtain ⟨hkc, hkf⟩ := bcell hb1; have hsz1 := hb1.size; simp at hsz1)
        all_goals (try go_wp2_with fail)
        all_goals go_meet
        all_goals refine ⟨by rw [ByteArray.mk_append_mk]; rfl, ?_⟩
        all_goals repeat (first
          | exact Below.refl _ _
          | (refine Below.trans ?_ (hb1.mono ?_))
          | apply Below.drew
          | (refine Below.alloc ?_ ?_ _)
          | exact Nat.le_refl _
          | omega
          | (focus (simp; done))
          | (focus (simp; omega)))
      case rest =>
        obtain ⟨rfl, hbc⟩ := hcut
        have hS := fun W => sumc_same (Cd.bs (c :: Cd.putT l)) W (by show (c :: Cd.putT l).length ≤ maxLen; unfold maxLen; rw [List.length_cons]; omega)
        have HS := Lib.hid hS
        have HL := Lib.hid (fun W => putSum_any (Fr.sum (c :: Cd.putT l) : Int) (Fr.sum (c :: Cd.putT l)) W rfl (Fr.sum_lt _))
        clear hS hcv
        have hll : (Fr.lit (Fr.sum (c :: Cd.putT l))).length ≤ 4 := by rw [Fr.lit_len]; omega
        have hsl : (Cd.bs (c :: Cd.putT l)).size ≤ 262155 := by show (c :: Cd.putT l).length ≤ 262155; rw [List.length_cons]; omega
        go_wp2_with (first
          | (go_at_call 39; refine (HS.out _).mono ?_; rintro e w' ⟨rfl, rfl⟩)
          | (go_at_call 38; refine (HL.out _).mono ?_; rintro e w3 ⟨rfl, hb3⟩))
        go_ret2
        exact ⟨by rw [ByteArray.mk_append_mk]; rfl, hbc.trans (hb3.mono hbc.size)⟩
    · have hlb : (262144 : Int) < l.length := by omega
      rw [Fr.put_long (by omega)]
      clear hK h0
      go_enter Try.func22, Try.ntmps22
      go_wp2
      go_ret2
      exact ⟨rfl, (Below.refl _ _).alloc (Nat.le_refl _) _⟩
end Go.Proofs.Ytmfeeampbmandaa

/-
  The program's batches: Check, mayBe, Encode.
-/
namespace Go.Proofs.Ytmfeeampbmandaa
open Go.RowKit
set_option linter.unusedSimpArgs false
set_option linter.unusedVariables false
namespace Wd
open Wa

set_option maxRecDepth 100000 in
set_option maxHeartbeats 4000000 in
theorem checkOk : CheckOk := by
  intro v L w hP hm hL
  have HPP := Lib.hid hP
  obtain ⟨a, cap, fb, fo, rfl, ha, hcells⟩ := hP
  have HC := Lib.hid hcells
  clear hcells
  by_cases h1 : L.length ≤ 256
  · have h1i : ¬ (256 : Int) < (L.length : Int) := by omega
    go_enter Try.func7, Try.ntmps7
    go_wp2_with fail
    go_loopw [10] (fun i wr => ∃ q : Nat, q ≤ L.length ∧ i = .int .i64 (q : Int) ∧ Hid (∀ p ∈ L.take q, mayB p = true) ∧ Below w.heap.size w wr) (fun i _ => L.length - (intOf i).toNat)
    case atStart => exact ⟨0, Nat.zero_le _, rfl, fun p hp => by simp at hp, Below.refl _ _⟩
    case round =>
      obtain ⟨q, hq, rfl, hall, hB⟩ := hrel
      have hbs := hB.size
      by_cases hlt : q < L.length
      · obtain ⟨rfl, hfb⟩ := ha (by omega)
        obtain ⟨d0, d1, d2⟩ := HC.out q hlt
        have e0 := (hB.cell (p := ⟨fb, fo + q * 3, none⟩) hfb).trans d0
        have e1 := (hB.cell (p := ⟨fb, fo + q * 3 + 1, none⟩) hfb).trans d1
        have e2 := (hB.cell (p := ⟨fb, fo + q * 3 + 2, none⟩) hfb).trans d2
        have hi1 : (0 : Int) ≤ (q : Int) ∧ (q : Int) < (L.length : Int) := by omega
        have hpi := hm L[q] (List.getElem_mem hlt)
        have hmem : L[q] ∈ L := List.getElem_mem hlt
        have hall2 : mayB L[q] = true → ∀ p ∈ L.take (q + 1), mayB p = true := fun h p hp => by
          rw [List.take_succ_eq_append_getElem hlt] at hp
          rcases List.mem_append.1 hp with hp | hp
          · exact hall.out p hp
          · simp at hp; subst hp; exact h
        have HA2 := Lib.hid hall2
        have HBD := Lib.hid (fun h => check_bad hmem h)
        have hwb : fb < wr.heap.size := by omega
        clear d0 d1 d2 hall2 hmem hall
        generalize L[q] = p at *
        obtain ⟨k, vv, dl, _⟩ := p
        have HMY := Lib.hid (fun W => putMayBe_any k vv dl W hpi.1 hpi.2)
        simp only at e0 e1 e2
        clear hpi
        cases hmy : mayB (k, vv, dl, ()) with
        | true =>
          rw [hmy] at HMY
          have HA3 := Lib.hid (HA2.out hmy)
          clear hmy
          go_wp2_with (go_at_call 19; (with_reducible refine (HMY.out _).mono ?_); rintro e w3 ⟨rfl, hb3⟩)
          go_roundw
          case rel => exact ⟨q + 1, by omega, by go_num, HA3, by repeat (first | exact hB | (refine Below.trans ?_ (hb3.mono ?_)) | (refine Below.setCell ?_ ?_ _) | (refine Below.alloc ?_ ?_ _) | omega | (focus (simp; omega)))⟩
          case measure => simp [intOf]; omega
        | false =>
          rw [hmy] at HMY
          have HE := Lib.hid (HBD.out hmy)
          clear hmy
          go_wp2_with (go_at_call 19; (with_reducible refine (HMY.out _).mono ?_); rintro e w3 ⟨rfl, hb3⟩)
          go_ret
          exact ⟨by rw [HE.out]; rfl, by repeat (first | exact hB | (refine Below.trans ?_ (hb3.mono ?_)) | (refine Below.setCell ?_ ?_ _) | (refine Below.alloc ?_ ?_ _) | omega | (focus (simp; omega)))⟩
      · obtain rfl : q = L.length := by omega
        have hm2 : ∀ p ∈ L, mayB p = true := by have := hall.out; rwa [List.take_length] at this
        have HCK := Lib.hid (check_load h1 hm2)
        have HLD := Lib.hid (fun W (h : Below w.heap.size w W) => putBatch_any 1125899906842624 MaxSeq rfl (.slice a L.length cap) L W (by decide) (HPP.out.grow h h.size) hm2 h1)
        have hll := load_len (s := MaxSeq) (by decide) h1 hm2
        generalize Wa.load MaxSeq L = ld at *
        have hsz : (Cd.bs ld).size = ld.length := rfl
        clear hall hm2
        by_cases h2 : ld.length ≤ 262144
        · have h2i : ¬ (262144 : Int) < (ld.length : Int) := by omega
          have HE := Lib.hid (HCK.out.trans (if_pos h2))
          clear h2
          go_wp2_with (go_at_call 20; (with_reducible refine (HLD.out _ hB).mono ?_); rintro e w3 ⟨rfl, hb3⟩)
          go_ret
          exact ⟨by rw [HE.out]; rfl, hB.trans (hb3.mono hbs)⟩
        · have h2i : (262144 : Int) < (ld.length : Int) := by omega
          have HE := Lib.hid (HCK.out.trans (if_neg h2))
          clear h2
          go_wp2_with (go_at_call 20; (with_reducible refine (HLD.out _ hB).mono ?_); rintro e w3 ⟨rfl, hb3⟩)
          go_ret
          exact ⟨by rw [HE.out]; rfl, hB.trans (hb3.mono hbs)⟩
  · have h1i : (256 : Int) < (L.length : Int) := by omega
    have HE := Lib.hid (check_long h1)
    clear h1
    go_enter Try.func7, Try.ntmps7
    go_wp2_with fail
    go_ret
    exact ⟨by rw [HE.out]; rfl, Below.refl _ _⟩

set_option maxRecDepth 100000 in
set_option maxHeartbeats 2000000 in
theorem last_any (s : Int) (L : List Pt) (a : Option Addr) (cap : Nat) (w : World) (h1 : 1 ≤ s) (h2 : s ≤ 1125899906842624) (h3 : L.length ≤ 1048576) :
    Calls Try.prog 30 #[.agg #[.int .u64 s, .slice a L.length cap]] w fun e w' => e = .returned (.int .u64 (s + L.length - 1)) ∧ Below w.heap.size w w' := by
  have hw1 : IntKind.u64.wrap (L.length : Int) = (L.length : Int) := Cd.wrapU_nat (by omega)
  have hw2 : IntKind.u64.wrap (s + (L.length : Int)) = s + (L.length : Int) := by rw [show IntKind.u64.wrap (s + (L.length : Int)) = (s + (L.length : Int)) % 18446744073709551616 from rfl]; omega
  have hw3 : IntKind.u64.wrap (s + (L.length : Int) - 1) = s + (L.length : Int) - 1 := by rw [show IntKind.u64.wrap (s + (L.length : Int) - 1) = (s + (L.length : Int) - 1) % 18446744073709551616 from rfl]; omega
  go_enter Try.func30, Try.ntmps30
  go_wp2_with fail
  go_ret
  exact ⟨rfl, (Below.refl _ _).alloc (Nat.le_refl _) _⟩

set_option maxRecDepth 100000 in
set_option maxHeartbeats 4000000 in
theorem mayBe_any (s : Int) (L : List Pt) (v : Value) (w : World) (hP : Puts w.heap.size w v L) (hb : BatchIn (s, L, ())) :
    Calls Try.prog 21 #[.agg #[.int .u64 s, v]] w fun e w' => e = .returned (.bool (rightB (s, L, ()))) ∧ Below w.heap.size w w' := by
  have hW : Below w.heap.size w (w.alloc (.cells #[.int .u64 s, v] 25)) := (Below.refl _ _).alloc (Nat.le_refl _) _
  have bx := Ob.Obj.new w 25 [.int .u64 s, v]
  have HCK := Lib.hid (checkOk v L _ (hP.grow hW hW.size) hb.puts hb.many)
  have hmany := hb.many
  obtain ⟨hs1, hs2⟩ := hb.seq
  simp only at hmany hs1 hs2
  have hR : rightB (s, L, ()) = decide (check L = 0 ∧ 0 < L.length ∧ 1 ≤ s ∧ s ≤ 1125899906842624 ∧ s + L.length - 1 ≤ 1125899906842624) := rfl
  have hck : check L = 0 ∨ check L = 1 := by unfold check; split <;> simp
  obtain ⟨a, cap, fb, fo, rfl, ha, hcells⟩ := hP
  clear hcells hb ha
  generalize check L = c at *
  by_cases h1 : 0 < L.length
  · have h1i : (0 : Int) < (L.length : Int) := by omega
    rcases hck with rfl | rfl
    · by_cases h2 : 1 ≤ s
      · have h2i : (0 : Int) < s := by omega
        by_cases h3 : s ≤ 1125899906842624
        · have HLS := Lib.hid (fun W => last_any s L a cap W h2 h3 hmany)
          by_cases h4 : s + L.length - 1 ≤ 1125899906842624
          · have HE := Lib.hid (hR.trans (decide_eq_true ⟨rfl, h1, h2, h3, h4⟩))
            clear hR h1
            go_enter Try.func21, Try.ntmps21
            go_wp2_with (first
              | (go_at_call 7; (with_reducible refine HCK.out.mono ?_); rintro e w1 ⟨rfl, hb1⟩; have bx1 := bx.below hb1; have c0 := bx1.cell 0; have c1 := bx1.cell 1; have hzz := bx1.lt; simp at c0 c1)
              | (go_at_call 30; (with_reducible refine (HLS.out _).mono ?_); rintro e w2 ⟨rfl, hb2⟩))
            go_ret
            exact ⟨by rw [HE.out]; rfl, hW.trans ((hb1.trans (hb2.mono hb1.size)).mono (by simp))⟩
          · have HE := Lib.hid (hR.trans (decide_eq_false (fun h => h4 h.2.2.2.2)))
            have h4d : decide (s + (L.length : Int) - 1 ≤ 1125899906842624) = false := decide_eq_false h4
            clear hR h1
            go_enter Try.func21, Try.ntmps21
            go_wp2_with (first
              | (go_at_call 7; (with_reducible refine HCK.out.mono ?_); rintro e w1 ⟨rfl, hb1⟩; have bx1 := bx.below hb1; have c0 := bx1.cell 0; have c1 := bx1.cell 1; have hzz := bx1.lt; simp at c0 c1)
              | (go_at_call 30; (with_reducible refine (HLS.out _).mono ?_); rintro e w2 ⟨rfl, hb2⟩))
            go_ret
            exact ⟨by rw [HE.out]; rfl, hW.trans ((hb1.trans (hb2.mono hb1.size)).mono (by simp))⟩
        · have HE := Lib.hid (hR.trans (decide_eq_false (fun h => h3 h.2.2.2.1)))
          clear hR h1
          go_enter Try.func21, Try.ntmps21
          go_wp2_with (go_at_call 7; (with_reducible refine HCK.out.mono ?_); rintro e w1 ⟨rfl, hb1⟩; have bx1 := bx.below hb1; have c0 := bx1.cell 0; have c1 := bx1.cell 1; have hzz := bx1.lt; simp at c0 c1)
          go_ret
          exact ⟨by rw [HE.out]; rfl, hW.trans (hb1.mono (by simp))⟩
      · have h2i : ¬ (0 : Int) < s := by omega
        have HE := Lib.hid (hR.trans (decide_eq_false (fun h => h2 h.2.2.1)))
        clear hR h1
        go_enter Try.func21, Try.ntmps21
        go_wp2_with (go_at_call 7; (with_reducible refine HCK.out.mono ?_); rintro e w1 ⟨rfl, hb1⟩; have bx1 := bx.below hb1; have c0 := bx1.cell 0; have c1 := bx1.cell 1; have hzz := bx1.lt; simp at c0 c1)
        go_ret
        exact ⟨by rw [HE.out]; rfl, hW.trans (hb1.mono (by simp))⟩
    · have HE := Lib.hid (hR.trans (decide_eq_false (fun h => absurd h.1 (by decide))))
      clear hR h1
      go_enter Try.func21, Try.ntmps21
      go_wp2_with (go_at_call 7; (with_reducible refine HCK.out.mono ?_); rintro e w1 ⟨rfl, hb1⟩)
      go_ret
      exact ⟨by rw [HE.out]; rfl, hW.trans (hb1.mono (by simp))⟩
  · have h1i : ¬ (0 : Int) < (L.length : Int) := by omega
    have HE := Lib.hid (hR.trans (decide_eq_false (fun h => h1 h.2.1)))
    clear hR h1
    go_enter Try.func21, Try.ntmps21
    go_wp2_with fail
    go_ret
    exact ⟨by rw [HE.out]; rfl, hW⟩

set_option maxRecDepth 100000 in
set_option maxHeartbeats 4000000 in
theorem encOk : EncOk5 := by
  intro s L v w hP hb
  have hW : Below w.heap.size w (w.alloc (.cells #[.int .u64 s, v] 25)) := (Below.refl _ _).alloc (Nat.le_refl _) _
  have bx := Ob.Obj.new w 25 [.int .u64 s, v]
  have HPP := Lib.hid hP
  have HMB := Lib.hid (mayBe_any s L v _ (hP.grow hW hW.size) hb)
  have hsq := hb.seq
  have hR : rightB (s, L, ()) = decide (Right (s, L, ())) := rfl
  obtain ⟨a, cap, fb, fo, rfl, ha, hcells⟩ := hP
  clear hcells ha
  by_cases h1 : Right (s, L, ())
  · rw [hR, decide_eq_true h1] at HMB
    have HE := Lib.hid (show encode (s, L, ()) = Fr.put 2 (Wa.load s.toNat L) from if_pos h1)
    obtain ⟨r1, r2, r3, r4, r5⟩ := h1
    simp only at r1 r3 r4
    obtain ⟨k1, k2, k3⟩ := check_ok r1
    have hMM : (MaxSeq : Nat) = 1125899906842624 := rfl
    have hs6 : s.toNat < 18446744073709551616 := by omega
    have HPB := Lib.hid (fun W (h : Below w.heap.size w W) => putBatch_any s s.toNat (by omega) (.slice a L.length cap) L W hs6 (HPP.out.grow h h.size) k2 k1)
    have hll := load_len (s := s.toNat) hs6 k1 k2
    have HPUT := Lib.hid (fun W => framePutc_any 2 2 rfl (Wa.load s.toNat L) W (by omega))
    clear hR r1 r2 r3 r4 r5 k1 k2 k3 hsq hMM hs6
    obtain ⟨ld, hld⟩ : ∃ ld, Wa.load s.toNat L = ld := ⟨_, rfl⟩
    rw [hld] at HE HPB HPUT hll
    obtain ⟨pr, hpr⟩ : ∃ pr, Fr.put 2 ld = pr := ⟨_, rfl⟩
    rw [hpr] at HE HPUT
    clear hld hpr
    obtain ⟨pb, pe⟩ := pr
    go_enter Try.func8, Try.ntmps8
    go_wp2_with (first
      | (go_at_call 21; (with_reducible refine HMB.out.mono ?_); rintro e w1 ⟨rfl, hb1⟩; have bx1 := bx.below hb1; have c0 := bx1.cell 0; have c1 := bx1.cell 1; have hzz := bx1.lt; simp at c0 c1; have hB1 := hW.trans (hb1.mono (by simp)))
      | (go_at_call 20; (with_reducible refine (HPB.out _ hB1).mono ?_); rintro e w2 ⟨rfl, hb2⟩; have hB2 := hB1.trans (hb2.mono hB1.size))
      | (go_at_call 22; refine (HPUT.out _).mono ?_; rintro e w3 ⟨rfl, hb3⟩))
    go_ret2
    exact ⟨by rw [HE.out]; rfl, hB2.trans (hb3.mono hB2.size)⟩
  · rw [hR, decide_eq_false h1] at HMB
    have HE := Lib.hid (show encode (s, L, ()) = ([], 1) from if_neg h1)
    clear hR h1
    go_enter Try.func8, Try.ntmps8
    go_wp2_with (go_at_call 21; (with_reducible refine HMB.out.mono ?_); rintro e w1 ⟨rfl, hb1⟩; have bx1 := bx.below hb1; have c0 := bx1.cell 0; have c1 := bx1.cell 1; have hzz := bx1.lt; simp at c0 c1; have hB1 := hW.trans (hb1.mono (by simp)))
    go_ret2
    exact ⟨by rw [HE.out]; rfl, hB1⟩
end Wd
end Go.Proofs.Ytmfeeampbmandaa

/-
  The program's batches: takePut.
-/
namespace Go.Proofs.Ytmfeeampbmandaa
open Go.RowKit
set_option linter.unusedSimpArgs false
set_option linter.unusedVariables false
namespace Wd
open Wa
/-- what takePut answers -/
def putV (x : Pt × Nat × Bool) : Value := .tuple #[.agg #[.string (Cd.bs x.1.1), .string (Cd.bs x.1.2.1), .bool x.1.2.2.1], .int .i64 (x.2.1 : Int), .bool x.2.2]
theorem head_at {s : List UInt8} {c : UInt8} (hs : s = c :: s.drop 1) (h : 0 < s.length) : s[0] = c := by
  cases s with
  | nil => simp at h
  | cons a r => simp at hs ⊢; exact hs
theorem ecase (e : Nat) : ((e : Int) == 0) = decide (e = 0) := by
  by_cases h : e = 0
  · subst h; rfl
  · rw [decide_eq_false h]; simp; omega
theorem ext_drop (l : List UInt8) (k : Nat) : ((Cd.bs l).extract k l.length).data.toList = l.drop k := by
  rw [Lib.extract_data]; exact List.take_of_length_le (by simp)

set_option maxRecDepth 100000 in
set_option maxHeartbeats 4000000 in
theorem takePut_any (s : List UInt8) (w : World) (hl : s.length ≤ 140737488351232) :
    Calls Try.prog 45 #[.string (Cd.bs s)] w fun e w' => e = .returned (putV (dPut s)) ∧ Below w.heap.size w w' := by
  have bx := Ob.Obj.new w 42 [.string ⟨#[]⟩, .string ⟨#[]⟩, .bool false]
  have hW : Below w.heap.size w (w.alloc (.cells #[.string ⟨#[]⟩, .string ⟨#[]⟩, .bool false] 42)) := (Below.refl _ _).alloc (Nat.le_refl _) _
  have hsz : (Cd.bs s).size = s.length := rfl
  rcases dPut_cases s with hc | ⟨hc, hs⟩ | ⟨hc, hs⟩
  · rw [dPut_no hc]
    cases s with
    | nil =>
      clear hc hW
      go_enter Try.func45, Try.ntmps45
      go_wp2_with fail
      exact bodyPost_ret (v := putV (([], [], false, ()), 0, false)) (by simp [results, Try.results45, go_sem, putV]) rfl ⟨rfl, by repeat (first | exact Below.refl _ _ | (refine Below.setCell ?_ ?_ _) | (refine Below.alloc ?_ ?_ _) | exact Nat.le_refl _ | (focus (simp; done)))⟩
    | cons c r =>
      have hc' : c.toNat ≠ 0 ∧ c.toNat ≠ 1 := hc
      have hb0 : (((c.toNat : Nat) : Int) != 0) = true := by simp; omega
      have hb1 : (((c.toNat : Nat) : Int) != 1) = true := by simp; omega
      have hidx : ((Cd.bs (c :: r))[0]'(by show 0 < (c :: r).length; simp)) = c := rfl
      have hne : ((c :: r) == []) = false := rfl
      have hlen : (0 : Int) < ((c :: r).length : Int) := by simp only [List.length_cons]; omega
      clear hc hc' hW
      go_enter Try.func45, Try.ntmps45
      go_wp2_with fail
      exact bodyPost_ret (v := putV (([], [], false, ()), 0, false)) (by simp [results, Try.results45, go_sem, putV]) rfl ⟨rfl, by repeat (first | exact Below.refl _ _ | (refine Below.setCell ?_ ?_ _) | (refine Below.alloc ?_ ?_ _) | exact Nat.le_refl _ | (focus (simp; done)))⟩
  · obtain ⟨k, n, e, hk⟩ : ∃ k n e, Cd.takeT (s.drop 1) 96 = (k, n, e) := ⟨_, _, _, rfl⟩
    have hlen : 1 ≤ s.length := by rw [hs]; simp
    have k2 := (Fr.takeT_len (s.drop 1) 96).1
    rw [hk] at k2
    simp only at k2
    rw [List.length_drop] at k2
    have HT := Lib.hid (fun W => show Calls Try.prog 50 #[.string ((Cd.bs s).extract 1 s.length), .int .i64 96] W fun e' w' => e' = .returned (.tuple #[.string (Cd.bs k), .int .i64 n, .int .i64 e]) ∧ Below W.heap.size W w' from by
      have := takeTc_any ((Cd.bs s).extract 1 s.length) 96 W (by rw [Lib.size_eq, ext_drop, List.length_drop]; omega) (by omega) (by omega)
      rw [ext_drop, hk] at this
      exact this)
    have hidx : ((Cd.bs s)[0]'(by show 0 < s.length; omega)).toNat = 0 := by
      have : (Cd.bs s)[0]'(by show 0 < s.length; omega) = s[0]'(by omega) := rfl
      rw [this]
      have h0 : s[0]'(by omega) = 0 := head_at hs (by omega)
      rw [h0]; rfl
    have hne : (s == []) = false := by cases s with
      | nil => simp at hlen
      | cons c r => rfl
    have hne2 : s.isEmpty = false := by cases s with
      | nil => simp at hlen
      | cons c r => rfl
    have hl1 : (1 : Int) ≤ (s.length : Int) ∧ (0 : Int) < (s.length : Int) := by omega
    have hw1 : IntKind.i64.wrap (1 + (n : Int)) = 1 + n := by rw [IntKind.wrap_i64]; omega
    by_cases he : e = 0
    · subst he
      obtain ⟨v, m, e, hv⟩ : ∃ v m e, Cd.takeT (s.drop (1 + n)) 16384 = (v, m, e) := ⟨_, _, _, rfl⟩
      have v2 := (Fr.takeT_len (s.drop (1 + n)) 16384).1
      rw [hv] at v2
      simp only at v2
      rw [dPut_val hc hk hv]
      have HV := Lib.hid (fun W => show Calls Try.prog 50 #[.string ((Cd.bs s).extract (1 + n) s.length), .int .i64 16384] W fun e' w' => e' = .returned (.tuple #[.string (Cd.bs v), .int .i64 m, .int .i64 e]) ∧ Below W.heap.size W w' from by
        have := takeTc_any ((Cd.bs s).extract (1 + n) s.length) 16384 W (by rw [Lib.size_eq, ext_drop, List.length_drop]; omega) (by omega) (by omega)
        rw [ext_drop, hv] at this
        exact this)
      simp only [List.length_drop] at v2
      have hw0 : (0 : Int) ≤ 1 + (n : Int) ∧ 1 + (n : Int) ≤ (s.length : Int) := by omega
      have hw2 : (1 + (n : Int)).toNat = 1 + n := by omega
      have hw3 : IntKind.i64.wrap (1 + (n : Int) + (m : Int)) = 1 + n + m := by rw [IntKind.wrap_i64]; omega
      have HBX := Lib.hid bx
      have HW := Lib.hid hW
      clear hk hv hs hc bx hW
      go_enter Try.func45, Try.ntmps45
      go_wp2_with (first
        | (go_at_call 50; (with_reducible refine (HT.out _).mono ?_); rintro e w1 ⟨rfl, hb1⟩; have bx1 := HBX.out.below hb1; have hz1 : w.heap.size < w1.heap.size := bx1.lt; have HA1 := Lib.hid (HW.out.trans (hb1.mono (by simp))))
        | (go_at_call 50; (with_reducible refine (HV.out _).mono ?_); rintro e w2 ⟨rfl, hb2⟩; have px2 := (Ob.Obj.new w1 42 [.string (Cd.bs k), .string ⟨#[]⟩, .bool false]).below hb2; have q0 := px2.cell 0; have q1 := px2.cell 1; have q2 := px2.cell 2; have g0 := px2.frozen 1; have hpz := px2.lt; have rx2 := (bx1.alloc (.cells #[.string (Cd.bs k), .string ⟨#[]⟩, .bool false] 42)).below hb2; have r0 := rx2.cell 0; have r1 := rx2.cell 1; have r2 := rx2.cell 2; have hrz := rx2.lt; have f0 := rx2.frozen 0; have f1 := rx2.frozen 1; have f2 := rx2.frozen 2; simp at q0 q1 q2 r0 r1 r2; have HA2 := Lib.hid ((HA1.out.alloc HA1.out.size (.cells #[.string (Cd.bs k), .string ⟨#[]⟩, .bool false] 42)).trans (hb2.mono (by have := HA1.out.size; simp; omega)))))
      refine bodyPost_ret (v := putV ((k, v, false, ()), 1 + n + m, decide (e = 0))) (by simp [results, Try.results45, go_sem, putV, r0, r1, r2, hrz, f0, f1, f2, ecase]) rfl ⟨rfl, ?_⟩
      repeat (first | exact HA2.out | (refine Below.setCell ?_ ?_ _) | (focus (simp; omega)) | (focus (simp; done)))
    · rw [dPut_err hc hk he]
      have heb : (((e : Nat) : Int) == 0) = false := by simp; omega
      have HBX := Lib.hid bx
      have HW := Lib.hid hW
      clear hk hs hc bx hW he
      go_enter Try.func45, Try.ntmps45
      go_wp2_with (go_at_call 50; (with_reducible refine (HT.out _).mono ?_); rintro e w1 ⟨rfl, hb1⟩; have bx1 := HBX.out.below hb1; have r0 := bx1.cell 0; have r1 := bx1.cell 1; have r2 := bx1.cell 2; have hz1 : w.heap.size < w1.heap.size := bx1.lt; have f0 := bx1.frozen 0; have f1 := bx1.frozen 1; have f2 := bx1.frozen 2; simp at r0 r1 r2; have HA1 := Lib.hid (HW.out.trans (hb1.mono (by simp))))
      refine bodyPost_ret (v := putV ((k, [], false, ()), 1 + n, false)) (by simp [results, Try.results45, go_sem, putV, r0, r1, r2, hz1, f0, f1, f2]) rfl ⟨rfl, ?_⟩
      repeat (first | exact HA1.out | (refine Below.setCell ?_ ?_ _) | (refine Below.alloc ?_ ?_ _) | exact HA1.out.size | (focus (simp; omega)) | (focus (simp; done)))
  · obtain ⟨k, n, e, hk⟩ : ∃ k n e, Cd.takeT (s.drop 1) 96 = (k, n, e) := ⟨_, _, _, rfl⟩
    have hlen : 1 ≤ s.length := by rw [hs]; simp
    have k2 := (Fr.takeT_len (s.drop 1) 96).1
    rw [hk] at k2
    simp only at k2
    rw [List.length_drop] at k2
    have HT := Lib.hid (fun W => show Calls Try.prog 50 #[.string ((Cd.bs s).extract 1 s.length), .int .i64 96] W fun e' w' => e' = .returned (.tuple #[.string (Cd.bs k), .int .i64 n, .int .i64 e]) ∧ Below W.heap.size W w' from by
      have := takeTc_any ((Cd.bs s).extract 1 s.length) 96 W (by rw [Lib.size_eq, ext_drop, List.length_drop]; omega) (by omega) (by omega)
      rw [ext_drop, hk] at this
      exact this)
    have hidx : ((Cd.bs s)[0]'(by show 0 < s.length; omega)).toNat = 1 := by
      have : (Cd.bs s)[0]'(by show 0 < s.length; omega) = s[0]'(by omega) := rfl
      rw [this]
      have h0 : s[0]'(by omega) = 1 := head_at hs (by omega)
      rw [h0]; rfl
    have hne : (s == []) = false := by cases s with
      | nil => simp at hlen
      | cons c r => rfl
    have hne2 : s.isEmpty = false := by cases s with
      | nil => simp at hlen
      | cons c r => rfl
    have hl1 : (1 : Int) ≤ (s.length : Int) ∧ (0 : Int) < (s.length : Int) := by omega
    have hw1 : IntKind.i64.wrap (1 + (n : Int)) = 1 + n := by rw [IntKind.wrap_i64]; omega
    rw [dPut_del hc hk]
    have HBX := Lib.hid bx
    have HW := Lib.hid hW
    clear hk hs hc bx hW
    by_cases he : e = 0
    · subst he
      go_enter Try.func45, Try.ntmps45
      go_wp2_with (go_at_call 50; (with_reducible refine (HT.out _).mono ?_); rintro e w1 ⟨rfl, hb1⟩; have bx1 := HBX.out.below hb1; have r0 := bx1.cell 0; have r1 := bx1.cell 1; have r2 := bx1.cell 2; have hz1 : w.heap.size < w1.heap.size := bx1.lt; have f0 := bx1.frozen 0; have f1 := bx1.frozen 1; have f2 := bx1.frozen 2; simp at r0 r1 r2; have HA1 := Lib.hid (HW.out.trans (hb1.mono (by simp))))
      refine bodyPost_ret (v := putV ((k, [], true, ()), 1 + n, true)) (by simp [results, Try.results45, go_sem, putV, r0, r1, r2, hz1, f0, f1, f2]) rfl ⟨rfl, ?_⟩
      repeat (first | exact HA1.out | (refine Below.setCell ?_ ?_ _) | (refine Below.alloc ?_ ?_ _) | exact HA1.out.size | (focus (simp; omega)) | (focus (simp; done)))
    · have heb : (((e : Nat) : Int) == 0) = false := by simp; omega
      rw [decide_eq_false he]
      go_enter Try.func45, Try.ntmps45
      go_wp2_with (go_at_call 50; (with_reducible refine (HT.out _).mono ?_); rintro e w1 ⟨rfl, hb1⟩; have bx1 := HBX.out.below hb1; have r0 := bx1.cell 0; have r1 := bx1.cell 1; have r2 := bx1.cell 2; have hz1 : w.heap.size < w1.heap.size := bx1.lt; have f0 := bx1.frozen 0; have f1 := bx1.frozen 1; have f2 := bx1.frozen 2; simp at r0 r1 r2; have HA1 := Lib.hid (HW.out.trans (hb1.mono (by simp))))
      refine bodyPost_ret (v := putV ((k, [], true, ()), 1 + n, false)) (by simp [results, Try.results45, go_sem, putV, r0, r1, r2, hz1, f0, f1, f2]) rfl ⟨rfl, ?_⟩
      repeat (first | exact HA1.out | (refine Below.setCell ?_ ?_ _) | (refine Below.alloc ?_ ?_ _) | exact HA1.out.size | (focus (simp; omega)) | (focus (simp; done)))
end Wd
end Go.Proofs.Ytmfeeampbmandaa

namespace Go.Proofs.Ytmfeeampbmandaa
open Go.RowKit
set_option linter.unusedSimpArgs false
set_option linter.unusedVariables false

set_option maxRecDepth 100000 in
set_option maxHeartbeats 1000000 in
theorem frameTakec_any (l : List UInt8) (w : World) (hs : l.length ≤ 140737488351232) :
    Calls Try.prog 31 #[.string (Cd.bs l)] w fun e w' => e = .returned (frameV (Fr.take l)) ∧ Below w.heap.size w w' := by
  by_cases h5 : l.length < 5
  · rw [Fr.take_few h5]
    go_enter Try.func31, Try.ntmps31
    go_wp2_with fail
    exact bodyPost_ret (v := frameV ((0, []), 0, 2)) (by simp [results, Try.results31, go_sem]) rfl ⟨rfl, by repeat (first | exact Below.refl _ _ | (refine Below.setCell ?_ ?_ _) | (refine Below.alloc ?_ ?_ _) | exact Nat.le_refl _ | (focus (simp; done)))⟩
  · have h5' : 5 ≤ l.length := by omega
    have hg : l.getD 4 0 = (Cd.bs l)[4]'(by show 4 < l.length; omega) := by rw [List.getD_eq_getElem?_getD, List.getElem?_eq_getElem (by omega)]; rfl
    obtain ⟨c, hc⟩ : ∃ c, c = l.getD 4 0 := ⟨_, rfl⟩
    have hidx : ((Cd.bs l)[4]'(by show 4 < l.length; omega)) = c := by rw [hc, hg]
    by_cases h0 : c.toNat = 0
    · have hb : ((c.toNat : Int) == 0) = true := by simp [h0]
      rw [Fr.take_zero h5' (by rw [← hc]; exact h0)]
      clear hg hc
      go_enter Try.func31, Try.ntmps31
      go_wp2_with fail
      exact bodyPost_ret (v := frameV ((0, []), 0, 3)) (by simp [results, Try.results31, go_sem]) rfl ⟨rfl, by repeat (first | exact Below.refl _ _ | (refine Below.setCell ?_ ?_ _) | (refine Below.alloc ?_ ?_ _) | exact Nat.le_refl _ | (focus (simp; done)))⟩
    · have hb : ((c.toNat : Int) == 0) = false := by simp; omega
      obtain ⟨t, n, e, ht⟩ : ∃ t n e, Cd.takeT (l.drop 5) 262144 = (t, n, e) := ⟨_, _, _, rfl⟩
      obtain ⟨q1, q2, q3⟩ := Fr.takeT_len (l.drop 5) 262144
      rw [ht] at q1 q2 q3
      simp only [List.length_drop] at q1 q2 q3
      have hex : ((Cd.bs l).extract 5 l.length).data.toList = l.drop 5 := by
        rw [Lib.extract_data]; exact List.take_of_length_le (by simp)
      have hT : ∀ W, Calls Try.prog 50 #[.string ((Cd.bs l).extract 5 l.length), .int .i64 262144] W fun e' w' => e' = .returned (.tuple #[.string (Cd.bs t), .int .i64 n, .int .i64 e]) ∧ Below W.heap.size W w' := fun W => by
        have := takeTc_any ((Cd.bs l).extract 5 l.length) 262144 W (by rw [Lib.size_eq, hex, List.length_drop]; omega) (by omega) (by omega)
        rw [hex, ht] at this
        exact this
      have HT := Lib.hid hT
      clear hT hex
      by_cases he : e = 0
      · subst he
        have hS : ∀ W, Calls Try.prog 39 #[.string ((Cd.bs l).extract 4 (5 + n))] W fun e' w' => e' = .returned (.int .u32 (Fr.sum ((l.drop 4).take (n + 1)))) ∧ W = w' := fun W => by
          have hx : ((Cd.bs l).extract 4 (5 + n)).data.toList = (l.drop 4).take (n + 1) := by rw [Lib.extract_data]; congr 1; omega
          have := sumc_same ((Cd.bs l).extract 4 (5 + n)) W (by rw [Lib.size_eq, hx, List.length_take]; unfold maxLen; omega)
          rwa [hx] at this
        have HS := Lib.hid hS
        have HL := Lib.hid (fun W => putSum_any (Fr.sum ((l.drop 4).take (n + 1)) : Int) (Fr.sum ((l.drop 4).take (n + 1))) W rfl (Fr.sum_lt _))
        clear hS
        have h4 : ((Cd.bs l).extract 0 4).toList = l.take 4 := by rw [Lib.extract_toList]; rfl
        have HQ2 := Lib.hid q2
        clear q2 q3
        have hn5 : 5 + n ≤ l.length := by omega
        generalize hsm : Fr.lit (Fr.sum ((l.drop 4).take (n + 1))) = m at *
        have HSM := Lib.hid hsm
        clear hsm
        have HTT := Lib.hid ht
        have HC := Lib.hid hc
        have HG := Lib.hid hg
        clear ht hc hg
        obtain ⟨sm, hsm2⟩ : ∃ sm, sm = Fr.sum ((l.drop 4).take (n + 1)) := ⟨_, rfl⟩
        rw [← hsm2] at HS HL HSM
        have HSM2 := Lib.hid hsm2
        clear hsm2
        have hml : (Cd.bs m).toList = m := by rw [ByteArray.toList_mk]
        by_cases hm : m = l.take 4
        · have hmb : (m == l.take 4) = true := by simp [hm]
          rw [Fr.take_ok h5' (by rw [← HC.out]; exact h0) HTT.out (by rw [← HSM2.out, HSM.out]; exact hm), ← HC.out]
          clear hm
          go_enter Try.func31, Try.ntmps31
          go_wp2_with (go_at_call 50; refine (HT.out _).mono ?_; rintro e w1 ⟨rfl, hb1⟩; obtain ⟨hkc, hkf⟩ := bcell hb1; have hz : w.heap.size < w1.heap.size := (by have := hb1.size; simp at this; omega))
          go_cut [39] (fun r wx => r = .bool false ∧ Below w1.heap.size w1 wx)
          case first =>
            have hw : IntKind.i64.wrap (5 + (n : Int)) = 5 + n := by rw [IntKind.wrap_i64]; omega
            have hw0 : (0 : Int) ≤ 5 + (n : Int) ∧ (4 : Int) ≤ 5 + (n : Int) ∧ 5 + (n : Int) ≤ (l.length : Int) := by omega
            have hw1 : (5 + (n : Int)).toNat = 5 + n := by omega
            go_region_with (first
              | (go_at_call 39; refine (HS.out _).mono ?_; rintro e w' ⟨rfl, rfl⟩)
              | (go_at_call 38; refine (HL.out _).mono ?_; rintro e w3 ⟨rfl, hb3⟩))
            all_goals clear hw hw0 hw1
            all_goals (try go_wp2_with fail)
            all_goals go_meet
            all_goals refine ⟨rfl, ?_⟩
            all_goals repeat (first | exact Below.refl _ _ | (refine Below.trans ?_ (hb3.mono ?_)) | apply Below.drew | exact Nat.le_refl _ | omega | (focus (simp; done)))
          case rest =>
            obtain ⟨rfl, hbc⟩ := hcut
            obtain ⟨hkc2, hkf2⟩ := bcell hbc
            have hz2 : w.heap.size < wc.heap.size := Nat.lt_of_lt_of_le hz hbc.size
            go_wp2_with fail
            exact bodyPost_ret (v := frameV ((c, t), 5 + n, 0)) (by simp [results, Try.results31, go_sem, hkc, hkc2, hz, hz2]) rfl ⟨rfl, by repeat (first | exact Below.refl _ _ | (refine Below.trans ?_ (hbc.mono ?_)) | (refine Below.trans ?_ (hb1.mono ?_)) | apply Below.drew | (refine Below.setCell ?_ ?_ _) | (refine Below.alloc ?_ ?_ _) | exact Nat.le_refl _ | omega | (focus (simp; done)) | (focus (simp; omega)))⟩
        · have hmb : (m == l.take 4) = false := by simpa using hm
          rw [Fr.take_bad h5' (by rw [← HC.out]; exact h0) HTT.out (by rw [← HSM2.out, HSM.out]; exact hm)]
          clear hm
          go_enter Try.func31, Try.ntmps31
          go_wp2_with (go_at_call 50; refine (HT.out _).mono ?_; rintro e w1 ⟨rfl, hb1⟩; obtain ⟨hkc, hkf⟩ := bcell hb1; have hz : w.heap.size < w1.heap.size := (by have := hb1.size; simp at this; omega))
          go_cut [39] (fun r wx => r = .bool true ∧ Below w1.heap.size w1 wx)
          case first =>
            have hw : IntKind.i64.wrap (5 + (n : Int)) = 5 + n := by rw [IntKind.wrap_i64]; omega
            have hw0 : (0 : Int) ≤ 5 + (n : Int) ∧ (4 : Int) ≤ 5 + (n : Int) ∧ 5 + (n : Int) ≤ (l.length : Int) := by omega
            have hw1 : (5 + (n : Int)).toNat = 5 + n := by omega
            go_region_with (first
              | (go_at_call 39; refine (HS.out _).mono ?_; rintro e w' ⟨rfl, rfl⟩)
              | (go_at_call 38; refine (HL.out _).mono ?_; rintro e w3 ⟨rfl, hb3⟩))
            all_goals clear hw hw0 hw1
            all_goals (try go_wp2_with fail)
            all_goals go_meet
            all_goals refine ⟨rfl, ?_⟩
            all_goals repeat (first | exact Below.refl _ _ | (refine Below.trans ?_ (hb3.mono ?_)) | apply Below.drew | exact Nat.le_refl _ | omega | (focus (simp; done)))
          case rest =>
            obtain ⟨rfl, hbc⟩ := hcut
            obtain ⟨hkc2, hkf2⟩ := bcell hbc
            have hz2 : w.heap.size < wc.heap.size := Nat.lt_of_lt_of_le hz hbc.size
            go_wp2_with fail
            exact bodyPost_ret (v := frameV ((0, []), 0, 3)) (by simp [results, Try.results31, go_sem, hkc, hkc2, hz, hz2]) rfl ⟨rfl, by repeat (first | exact Below.refl _ _ | (refine Below.trans ?_ (hbc.mono ?_)) | (refine Below.trans ?_ (hb1.mono ?_)) | apply Below.drew | (refine Below.setCell ?_ ?_ _) | (refine Below.alloc ?_ ?_ _) | exact Nat.le_refl _ | omega | (focus (simp; done)) | (focus (simp; omega)))⟩
      · rw [Fr.take_err h5' (by rw [← hc]; exact h0) ht he]
        have hbe : (((e : Nat) : Int) == 0) = false := by simp; omega
        clear hg hc ht q2
        go_enter Try.func31, Try.ntmps31
        go_wp2_with (go_at_call 50; refine (HT.out _).mono ?_; rintro e w1 ⟨rfl, hb1⟩; obtain ⟨hkc, hkf⟩ := bcell hb1; have hz : w.heap.size < w1.heap.size := (by have := hb1.size; simp at this; omega))
        exact bodyPost_ret (v := frameV ((0, []), 0, e)) (by simp [results, Try.results31, go_sem, hkc, hz]) rfl ⟨rfl, by repeat (first | exact Below.refl _ _ | (refine Below.trans ?_ (hb1.mono ?_)) | (refine Below.trans ?_ (hb3.mono ?_)) | apply Below.drew | (refine Below.setCell ?_ ?_ _) | (refine Below.alloc ?_ ?_ _) | exact Nat.le_refl _ | omega | (focus (simp; done)) | (focus (simp; omega)))⟩
end Go.Proofs.Ytmfeeampbmandaa

/-
  What frame.ends, frame.All owe as iterators; frame.End.
-/
namespace Go.Proofs.Ytmfeeampbmandaa
open Go.RowKit Go.Shelf
set_option linter.unusedSimpArgs false
set_option linter.unusedVariables false

attribute [local go_sem] Oper.semAt_some

/-- a place and a frame as Go hands them on -/
abbrev fEnc (x : Nat × Fr.Fm) : Array Value := #[.int .i64 (x.1 : Int), .agg #[.int .u8 (x.2.1.toNat : Int), .string (Cd.bs x.2.2)]]

set_option maxRecDepth 100000 in
set_option maxHeartbeats 2000000 in
theorem ends1_seq (n : Nat) (hn : 1 ≤ n) (l : List UInt8) (hs : l.length ≤ 140737488351232) (Bs : Nat) (w : World) (hB : Boxed w Bs 9 (.string (Cd.bs l))) :
    Sq.SeqC Fence.wide n Try.prog 55 #[.pointer (some ⟨Bs, 0, none⟩)] fEnc (· = Bs) (fun ys => ys = Fr.endsGo l 0) (fun pre => pre <+: Fr.endsGo l 0) w := by
  intro lp J Jx W hW hJ hJx hY h0
  have hBW := hW.boxed rfl hB
  refine callsIn_of_wp Try.func55 rfl trivial ?_ rfl
  simp only [Try.ntmps55, List.size_toArray, List.length_cons, List.length_nil, Nat.reduceAdd, Nat.reduceSub, Array.replicate_succ, Array.replicate_zero, List.push_toArray, List.append_toArray, List.nil_append, List.cons_append]
  gi_wp2_with fail
  gi_loopw [3] (fun i wr => ∃ (p : Nat) (pre : List (Nat × Fr.Fm)), i = .int .i64 p ∧ p ≤ l.length ∧ pre ++ Fr.endsGo l p = Fr.endsGo l 0 ∧ J (fun _ => False) pre wr ∧ Boxed wr Bs 9 (.string (Cd.bs l)))
    (fun i _ => l.length - (intOf i).toNat)
  case atStart => exact ⟨0, [], rfl, Nat.zero_le _, rfl, h0, hBW⟩
  case round =>
    obtain ⟨p, pre, rfl, hp, hpre, hJs, hb⟩ := hrel
    have HP := Lib.hid hpre
    clear hpre
    have hc := hb.cell
    obtain ⟨f, m, e, ht⟩ : ∃ f m e, Fr.take (l.drop p) = (f, m, e) := ⟨_, _, _, rfl⟩
    obtain ⟨q1, q2, q3⟩ := Fr.take_len (l.drop p)
    rw [ht] at q1 q2 q3
    simp only [List.length_drop] at q1 q2 q3
    have hT : ∀ W, Calls Try.prog 31 #[.string ((Cd.bs l).extract p l.length)] W fun e' w' => e' = .returned (frameV (f, m, e)) ∧ Below W.heap.size W w' := fun W => by
      have hx : (Cd.bs l).extract p l.length = Cd.bs (l.drop p) := by rw [ByteArray.extract_mk, List.take_of_length_le (by simp)]
      rw [hx]
      have := frameTakec_any (l.drop p) W (by rw [List.length_drop]; omega)
      rwa [ht] at this
    have HT := Lib.hid hT
    have HTT := Lib.hid ht
    clear hT ht
    have hsz : (Cd.bs l).size = l.length := rfl
    by_cases he : e = 0
    · subst he
      have h5 := q2 rfl
      clear q2 q3
      have hcond : p < l.length ∧ (Fr.take (l.drop p)).2.2 = 0 ∧ 0 < (Fr.take (l.drop p)).2.1 := by rw [HTT.out]; exact ⟨by omega, rfl, by show 0 < m; omega⟩
      have hmore := Fr.endsGo_more hcond
      rw [HTT.out] at hmore
      have HM := Lib.hid hmore
      clear hmore hcond
      have HSP := Lib.hid (show pre ++ [(p + m, f)] <+: Fr.endsGo l 0 by rw [← HP.out, HM.out]; exact ⟨Fr.endsGo l (p + m), by simp⟩)
      gi_wp2_with (first
        | (refine ⟨trivial, ?_⟩; gi_at_call 31; refine (callsIn_wide.2 (HT.out _)).mono ?_; rintro e w1 ⟨rfl, hb1⟩
           obtain ⟨fn, tmps, assign, body, hy, hR⟩ := hY (fun _ => False) pre (p + m, f) (w1.alloc (.cells #[.int .u8 f.1.toNat, .string (Cd.bs f.2)] 47)) (hJ _ _ _ _ _ hJs (Sq.Step.below (hb1.alloc hb1.size _))) (fun k h => h.elim) HSP.out
           have HR := Lib.hid hR
           have hbx := (Sq.Kept.of_below (T := fun _ => True) (hb1.alloc hb1.size (.cells #[.int .u8 f.1.toNat, .string (Cd.bs f.2)] 47))).boxed trivial hb
           clear hR
           simp only [fEnc, Int.natCast_add] at hy))
      refine HR.out.mono ?_
      rintro e W3 (⟨rfl, hJ3, hk3⟩ | ⟨rfl, hJx3, hk3⟩)
      · gi_wp2
        go_roundw
        case rel => exact ⟨p + m, pre ++ [(p + m, f)], by go_num, by omega, by rw [← HP.out, HM.out]; simp, hJ3, hk3.boxed (.inr rfl) hbx⟩
        case measure => simp [intOf]; omega
      · gi_wp2
        refine bodyPost_ret (results_none rfl _ _ _) rfl ?_
        exact ⟨⟨_, rfl⟩, .inr ⟨_, _, HSP.out, hJx3⟩⟩
    · have hbe : (((e : Nat) : Int) == 0) = false := by simp; omega
      clear q2 q3
      have hst := Fr.endsGo_stop (l := l) (p := p) (by rw [HTT.out]; rintro ⟨_, h, _⟩; exact he h)
      have HE := Lib.hid (show pre = Fr.endsGo l 0 by rw [← HP.out, hst, List.append_nil])
      clear hst
      gi_wp2_with (first
        | (refine ⟨trivial, ?_⟩; gi_at_call 31; refine (callsIn_wide.2 (HT.out _)).mono ?_; rintro e w1 ⟨rfl, hb1⟩))
      refine bodyPost_ret (results_none rfl _ _ _) rfl ?_
      exact ⟨⟨_, rfl⟩, .inl ⟨_, _, HE.out, hJ _ _ _ _ _ hJs (Sq.Step.below (hb1.alloc hb1.size _))⟩⟩
end Go.Proofs.Ytmfeeampbmandaa

/-
  What frame.All owes as an iterator; frame.End.
-/
namespace Go.Proofs.Ytmfeeampbmandaa
open Go.RowKit Go.Shelf
set_option linter.unusedSimpArgs false
set_option linter.unusedVariables false

attribute [local go_sem] Oper.semAt_some

set_option maxHeartbeats 1000000 in
theorem ends_in (n : Nat) (s : ByteArray) (w : World) :
    CallsIn Fence.wide n Try.prog 49 #[.string s] w fun e w' => e = .returned (.func (.func 55) #[] #[.pointer (some ⟨w.heap.size, 0, none⟩)]) ∧ w' = w.alloc (.cells #[.string s] 9) := by
  refine callsIn_of_wp Try.func49 rfl trivial ?_ rfl
  simp only [Try.ntmps49, List.size_toArray, List.length_cons, List.length_nil, Nat.reduceAdd, Nat.reduceSub, Array.replicate_succ, Array.replicate_zero, List.push_toArray, List.append_toArray, List.nil_append, List.cons_append]
  gi_wp2
  go_ret
  exact ⟨rfl, rfl⟩
set_option maxHeartbeats 1000000 in
theorem all_in (n : Nat) (s : ByteArray) (w : World) :
    CallsIn Fence.wide n Try.prog 29 #[.string s] w fun e w' => e = .returned (.func (.func 48) #[] #[.pointer (some ⟨w.heap.size, 0, none⟩)]) ∧ w' = w.alloc (.cells #[.string s] 9) := by
  refine callsIn_of_wp Try.func29 rfl trivial ?_ rfl
  simp only [Try.ntmps29, List.size_toArray, List.length_cons, List.length_nil, Nat.reduceAdd, Nat.reduceSub, Array.replicate_succ, Array.replicate_zero, List.push_toArray, List.append_toArray, List.nil_append, List.cons_append]
  gi_wp2
  go_ret
  exact ⟨rfl, rfl⟩

set_option maxRecDepth 100000 in
set_option maxHeartbeats 4000000 in
/-- frame.All(s) hands on the frames of s, each with its place. -/
theorem all1_seq (n : Nat) (hn : 5 ≤ n) (l : List UInt8) (hs : l.length ≤ 140737488351232) (Bs : Nat) (w : World) (hB : Boxed w Bs 9 (.string (Cd.bs l))) :
    Sq.SeqC Fence.wide n Try.prog 48 #[.pointer (some ⟨Bs, 0, none⟩)] fEnc (· = Bs) (fun ys => ys = (Fr.all l).1) (fun pre => pre <+: (Fr.all l).1) w := by
  intro lp J Jx W hW hJ hJx hY h0
  have hBW := hW.boxed rfl hB
  have hcB := hBW.cell
  have hlB := hBW.lt
  have hn1 : 1 ≤ n := by omega
  refine callsIn_of_wp_marks Try.func48 rfl trivial ?_ rfl
  simp only [Try.ntmps48, List.size_toArray, List.length_cons, List.length_nil, Nat.reduceAdd, Nat.reduceSub, Array.replicate_succ, Array.replicate_zero, List.push_toArray, List.append_toArray, List.nil_append, List.cons_append]
  gi_wp2_with (refine ⟨trivial, ?_⟩; gi_at_call 49; refine (ends_in _ _ _).mono ?_; rintro e w' ⟨rfl, rfl⟩)
  obtain ⟨W0, hW0⟩ : ∃ W0, ((W.alloc (.cells #[.func (.yield lp) #[] #[]] 87)).alloc (.cells #[.int .i64 0] 3)).alloc (.cells #[.string (Cd.bs l)] 9) = W0 := ⟨_, rfl⟩
  have hsz : W0.heap.size = W.heap.size + 3 := by rw [← hW0]; simp
  have bY : Boxed W0 W.heap.size 87 (.func (.yield lp) #[] #[]) := by rw [← hW0]; exact ((Boxed.new W _ _).alloc _).alloc _
  have bA : Boxed W0 (W.heap.size + 1) 3 (.int .i64 0) := by
    rw [← hW0]; have := Boxed.new (W.alloc (.cells #[.func (.yield lp) #[] #[]] 87)) 3 (.int .i64 0)
    rw [World.size_alloc] at this; exact this.alloc _
  have bS : Boxed W0 (W.heap.size + 2) 9 (.string (Cd.bs l)) := by
    rw [← hW0]; have := Boxed.new ((W.alloc (.cells #[.func (.yield lp) #[] #[]] 87)).alloc (.cells #[.int .i64 0] 3)) 9 (.string (Cd.bs l))
    rwa [World.size_alloc, World.size_alloc] at this
  obtain ⟨M, hM⟩ : ∃ M : Sq.Blocks, M = fun k => W.heap.size ≤ k ∧ k < W.heap.size + 3 := ⟨_, rfl⟩
  have hMm : ∀ k, M k ↔ W.heap.size ≤ k ∧ k < W.heap.size + 3 := fun k => by rw [hM]
  have hJ0 : J (fun k => False ∨ M k) [] W0 := hJ _ _ _ _ _ h0 ⟨by rw [← hW0]; exact ((Sq.Kept.alloc _ _ _).trans (Sq.Kept.alloc _ _ _)).trans (Sq.Kept.alloc _ _ _), fun _ h => h.elim, fun k h => h.elim (fun h => h.elim) (fun h => .inr ((hMm k).1 h).1)⟩
  rw [hW0]
  clear hW0 hM
  have hsub : ∀ pre : List (Nat × Fr.Fm), pre <+: Fr.endsGo l 0 → Fr.shift 0 pre <+: (Fr.all l).1 := fun pre h => by rw [Fr.all, Fr.allGo_shift]; exact Fr.shift_pre 0 h
  refine Sq.wp_range rfl (by omega) (gf := 55) (lb := #[.pointer (some ⟨W.heap.size + 2, 0, none⟩)]) rfl trivial (enters_of Try.func55 (by kernel_rfl) rfl)
    (ends1_seq (n - 1) (by omega) l hs (W.heap.size + 2) W0 bS) (by rintro k rfl; omega) (fun _ => rfl)
    (fun R pre X => J (fun k => R k ∨ M k) (Fr.shift 0 pre) X ∧ (Boxed X (W.heap.size + 1) 3 (.int .i64 (Fr.lastEnd 0 pre : Nat)) ∧ ¬ R (W.heap.size + 1)) ∧ (Boxed X W.heap.size 87 (.func (.yield lp) #[] #[]) ∧ ¬ R W.heap.size))
    (fun c R pre X => c = .ret ∧ Jx (fun k => R k ∨ M k) (Fr.shift 0 pre) X)
    (fun a' x R pre X => (J (fun k => R k ∨ M k) (Fr.shift 0 pre) X ∧ (Boxed X (W.heap.size + 1) 3 (.int .i64 (Fr.lastEnd 0 pre : Nat)) ∧ ¬ R (W.heap.size + 1)) ∧ (Boxed X W.heap.size 87 (.func (.yield lp) #[] #[]) ∧ ¬ R W.heap.size)) ∧
      ∃ Bf, (X.heap[Bf]? = some (.cells #[.int .u8 (x.2.1.toNat : Int), .string (Cd.bs x.2.2)] 47 (0, 0)) ∧ ¬ R Bf) ∧
      a' = { tmps := #[.func (.yield lp) #[] #[], .pointer (some ⟨Bs, 0, none⟩), .pointer (some ⟨W.heap.size, 0, none⟩), .pointer (some ⟨W.heap.size + 1, 0, none⟩), .int .i64 (x.1 : Int), .pointer (some ⟨Bf, 0, none⟩), .string (Cd.bs l), .func (.func 55) #[] #[.pointer (some ⟨W.heap.size + 2, 0, none⟩)], .int .i64 (x.1 : Int), .agg #[.int .u8 (x.2.1.toNat : Int), .string (Cd.bs x.2.2)], undef, undef, undef, undef, undef, undef], defers := [] })
    ((hJ.or M (Fr.shift 0)).and ((Sq.Steady.box _ _ _).and (Sq.Steady.box _ _ _)))
    (fun c => (Sq.Steady.pure _).and (hJx.or M (Fr.shift 0)))
    (fun a' x => ((hJ.or M (Fr.shift 0)).and ((Sq.Steady.box _ _ _).and (Sq.Steady.box _ _ _))).and (Sq.Steady.ex fun Bf => (Sq.Steady.obj _ _).and (fun _ _ _ _ _ hs _ => hs)))
    ⟨hJ0, ⟨bA, fun h => h⟩, bY, fun h => h⟩ ?assign ?body ?done ?stop
  case assign =>
    rintro lr R pre x X hbd hsp ⟨hj, ⟨hb, hnb⟩, hy, hny⟩
    gi_wp2
    refine ⟨Sq.Kept.alloc _ _ _, ⟨hJ _ _ _ _ _ hj (Sq.Step.alloc0 _ _ _), ⟨hb.alloc _, hnb⟩, hy.alloc _, hny⟩, X.heap.size, ⟨World.alloc_heap_new X _, fun h => by have := hbd _ h; omega⟩, ?_⟩
    first | rfl | trivial
  case body =>
    rintro lr R pre x a' X hRl hrec hbd hsp ⟨⟨hj, ⟨hb, hnb⟩, hy, hny⟩, Bf, ⟨hf, hnf⟩, rfl⟩
    have hcA := hb.cell
    have hfA := hb.frozen
    have hcY := hy.cell
    have hcf0 : X.cell? ⟨Bf, 0, none⟩ = some (.int .u8 (x.2.1.toNat : Int)) := by simp [World.cell?, hf]
    have hcf1 : X.cell? ⟨Bf, 1, none⟩ = some (.string (Cd.bs x.2.2)) := by simp [World.cell?, hf]
    have hszX : W.heap.size + 3 ≤ X.heap.size := by have := hbd lr hRl; omega
    have HSP := Lib.hid hsp
    have hsp2 := hsub _ hsp
    rw [Fr.shift_snoc] at hsp2
    obtain ⟨fn, tmps, assign, body, hyy, hR⟩ := Sq.anyDepth rfl (n - 1 - 1 - 1) (hY (fun k => R k ∨ M k) (Fr.shift 0 pre) (Fr.lastEnd 0 pre, x.2) X hj (fun k h => h.elim (fun h => by have := hbd k h; omega) (fun h => by have := (hMm k).1 h; omega)) hsp2)
    have HR := Lib.hid hR
    clear hR hsp hsp2
    simp only [fEnc] at hyy
    have hdep : 1 ≤ n - 1 - 1 := by omega
    gi_wp2
    refine (Sq.round_in lr HR.out).mono ?_
    rintro e X3 (⟨rfl, hj3, hk3⟩ | ⟨rfl, hjx3, hk3⟩)
    · have hb3 := hk3.boxed (.inl (.inr ((hMm _).2 (by omega)))) hb
      have hy3 := hk3.boxed (.inl (.inr ((hMm _).2 (by omega)))) hy
      have hc3 := hb3.cell
      have hf3 := hb3.frozen
      gi_wp2
      refine ⟨(hk3.less ?_).trans (Sq.Kept.setCell _ _ ?_), ?_, ⟨?_, hnb⟩, ?_, hny⟩
      · rintro k (h | h) _
        · exact .inl (.inl h)
        · subst h; exact .inl (.inr ((hMm _).2 (by omega)))
      · rintro (h | h)
        · exact hnb h
        · simp at h
      · rw [Fr.shift_snoc]; exact hJ _ _ _ _ _ hj3 (Sq.Step.setCell _ _ (.inr ((hMm _).2 (by simp))))
      · rw [Fr.lastEnd_snoc]; exact hb3.set _
      · exact hy3.other (by omega) _
    · gi_wp2
      refine ⟨hk3.less ?_, ?_⟩
      · rintro k (h | h) _
        · exact .inl (.inl h)
        · subst h; exact .inl (.inr ((hMm _).2 (by omega)))
      · refine ⟨rfl, ?_⟩; show Jx _ (Fr.shift 0 (pre ++ [x])) _; rw [Fr.shift_snoc]; exact hjx3
  case done =>
    rintro D R ys X hD hRD rfl ⟨hj, _, _⟩ hdf
    gi_wp2
    refine ⟨by simp, .inl ⟨_, _, rfl, run_takeDeferred hdf, ?_⟩⟩
    refine ⟨_, results_none rfl _ _ _, ⟨_, rfl⟩, .inl ⟨_, _, ?_, hJ _ _ _ _ _ hj (Sq.Step.putObj _ _ (.inl hRD))⟩⟩
    rw [Fr.all, Fr.allGo_shift]
  case stop =>
    rintro D R c pre X hD hRD hsp ⟨rfl, hj⟩ hdf
    gi_wp2
    refine ⟨by simp, .inl ⟨_, _, rfl, run_takeDeferred hdf, ?_⟩⟩
    exact ⟨_, results_none rfl _ _ _, ⟨_, rfl⟩, .inr ⟨_, _, hsub _ hsp, hJx _ _ _ _ _ hj (Sq.Step.putObj _ _ (.inl hRD))⟩⟩
end Go.Proofs.Ytmfeeampbmandaa

/-
  The program's batches: takeBatch, Decode.
-/
namespace Go.Proofs.Ytmfeeampbmandaa
open Go.RowKit
set_option linter.unusedSimpArgs false
set_option linter.unusedVariables false
namespace Wd
open Wa
/-- amid takeBatch -/
structure DB (B bb : Nat) (g : Int) (L : List Pt) (v : Value) (W : World) : Prop where
  box : Ob.Obj W bb 25 [.int .u64 g, v]
  res : Ob.Obj W B 25 [.int .u64 0, .slice none 0 0]
  row : OwnP B W v L
theorem DB.below {B bb : Nat} {g : Int} {L : List Pt} {v : Value} {W W' : World} (h : DB B bb g L v W) (hb : Below W.heap.size W W') : DB B bb g L v W' :=
  ⟨h.box.below hb, h.res.below hb, own_below h.row hb⟩
theorem DB.appended {B bb : Nat} {g : Int} {L : List Pt} {v v2 : Value} {W W2 : World} (h : DB B bb g L v W) (h3 : bb ≠ B) (p : Pt)
    (hown : W2.ownsRow B 42 3 v2 (L.length + 1) (pCells L ++ [.string (Cd.bs p.1), .string (Cd.bs p.2.1), .bool p.2.2.1])) (hg : W.grownBy W2 v.ownBlock) : DB B bb g (L ++ [p]) v2 (W2.setCell ⟨bb, 1, none⟩ v2) := by
  have hob : Ob.Obj W2 bb 25 [.int .u64 g, v] := h.box.grown hg (h.box.not_row (by decide) h.row)
  refine ⟨?_, Ob.Obj.other (h.res.grown hg (h.res.not_row (by decide) h.row)) (p := ⟨bb, 1, none⟩) h3.symm _, ?_⟩
  · have := hob.set 1 v2
    simpa using this
  · unfold OwnP
    rw [pCells_snoc, List.length_append, List.length_singleton]
    exact Ob.row_other hown (p := ⟨bb, 1, none⟩) (hob.not_row (by decide) hown) _
/-- what takeBatch leaves -/
def TakeOut (r : Option Bt) (w : World) (e : Ending) (w' : World) : Prop :=
  match r with
  | some b => ∃ v, e = .returned (.tuple #[.agg #[.int .u64 b.1, v], .bool true]) ∧ OwnP w.heap.size w' v b.2.1 ∧ Below w.heap.size w w'
  | none => ∃ (q : Int) (a : Option Addr) (n c : Nat), e = .returned (.tuple #[.agg #[.int .u64 q, .slice a n c], .bool false]) ∧ Below w.heap.size w w'

set_option maxRecDepth 100000 in
set_option maxHeartbeats 8000000 in
theorem takeBatch_any (l : List UInt8) (w : World) (hl : l.length ≤ 140737488351232) :
    Calls Try.prog 26 #[.string (Cd.bs l)] w (TakeOut (dBatch l) w) := by
  obtain ⟨i0, hi0, hz0, hz1, hz2⟩ := info_parts info_Put
  have hW : Below w.heap.size w (w.alloc (.cells #[.int .u64 0, .slice none 0 0] 25)) := (Below.refl _ _).alloc (Nat.le_refl _) _
  obtain ⟨s, k, e, h1⟩ : ∃ s k e, Cd.takeU l = (s, k, e) := ⟨_, _, _, rfl⟩
  have hok := Cd.takeU_ok l
  rw [h1] at hok
  obtain ⟨ok1, _, ok3, _⟩ := hok
  simp only at ok1 ok3
  have HT := Lib.hid (fun W => show Calls Try.prog 44 #[.string (Cd.bs l)] W fun e' w' => e' = .returned (.tuple #[.int .u64 s, .int .i64 k, .int .i64 e]) ∧ W = w' from by
    have := takec_any (Cd.bs l) W (by show l.length ≤ maxLen; unfold maxLen; omega)
    rw [show (Cd.bs l).data.toList = l from rfl, h1] at this
    exact this)
  by_cases he : e = 0
  · subst he
    obtain ⟨m, j, e, h2⟩ : ∃ m j e, Cd.takeU (l.drop k) = (m, j, e) := ⟨_, _, _, rfl⟩
    have hok2 := Cd.takeU_ok (l.drop k)
    rw [h2] at hok2
    obtain ⟨om1, _, om3, _⟩ := hok2
    simp only [List.length_drop] at om1 om3
    have hx : ((Cd.bs l).extract k l.length).data.toList = l.drop k := ext_drop l k
    have HT2 := Lib.hid (fun W => show Calls Try.prog 44 #[.string ((Cd.bs l).extract k l.length)] W fun e' w' => e' = .returned (.tuple #[.int .u64 m, .int .i64 j, .int .i64 e]) ∧ W = w' from by
      have := takec_any ((Cd.bs l).extract k l.length) W (by rw [Lib.size_eq, hx, List.length_drop]; unfold maxLen; omega)
      rw [hx, h2] at this
      exact this)
    have hk0 : (0 : Int) ≤ (k : Int) ∧ (k : Int) ≤ (l.length : Int) := by omega
    have hsz : (Cd.bs l).size = l.length := rfl
    by_cases h3 : e ≠ 0 ∨ 256 < m
    · rw [dBatch_no2 h1 h2 h3]
      by_cases he : e = 0
      · have h256 : (256 : Int) < (m : Int) := by omega
        subst he
        clear h1 h2 h3 hx
        go_enter Try.func26, Try.ntmps26
        go_wp2_with (first
          | (go_at_call 44; (with_reducible refine (HT.out _).mono ?_); rintro e w1 ⟨rfl, rfl⟩)
          | (go_at_call 44; (with_reducible refine (HT2.out _).mono ?_); rintro e w2 ⟨rfl, rfl⟩))
        refine bodyPost_ret (v := .tuple #[.agg #[.int .u64 0, .slice none 0 0], .bool false]) (by simp [results, Try.results26, go_sem]) rfl ⟨0, none, 0, 0, rfl, ?_⟩
        repeat (first | exact hW | (refine Below.setCell ?_ ?_ _) | (refine Below.alloc ?_ ?_ _) | (focus (simp; done)))
      · have heb : (((e : Nat) : Int) != 0) = true := by simp; omega
        have heb2 : (((e : Nat) : Int) == 0) = false := by simp; omega
        clear h1 h2 h3 hx he
        go_enter Try.func26, Try.ntmps26
        go_wp2_with (first
          | (go_at_call 44; (with_reducible refine (HT.out _).mono ?_); rintro e w1 ⟨rfl, rfl⟩)
          | (go_at_call 44; (with_reducible refine (HT2.out _).mono ?_); rintro e w2 ⟨rfl, rfl⟩))
        refine bodyPost_ret (v := .tuple #[.agg #[.int .u64 0, .slice none 0 0], .bool false]) (by simp [results, Try.results26, go_sem]) rfl ⟨0, none, 0, 0, rfl, ?_⟩
        repeat (first | exact hW | (refine Below.setCell ?_ ?_ _) | (refine Below.alloc ?_ ?_ _) | (focus (simp; done)))
    · have he : e = 0 := by omega
      subst he
      have hm : m ≤ 256 := by omega
      have HD := Lib.hid (dBatch_go h1 h2 hm)
      have hmi : ¬ (256 : Int) < (m : Int) := by omega
      have hwk : IntKind.i64.wrap ((k : Int) + (j : Int)) = ((k + j : Nat) : Int) := by rw [IntKind.wrap_i64]; omega
      have hkj : (0 : Int) ≤ ((k + j : Nat) : Int) ∧ ((k + j : Nat) : Int) ≤ (l.length : Int) := by omega
      have hdl : (l.drop (k + j)).length ≤ l.length := by rw [List.length_drop]; omega
      have hx2 : (Cd.bs l).extract (k + j) l.length = Cd.bs (l.drop (k + j)) := Rr.extract_drop l (k + j)
      obtain ⟨s2, hs2⟩ : ∃ s2, l.drop (k + j) = s2 := ⟨_, rfl⟩
      rw [hs2] at HD hdl hx2
      have HX2 := Lib.hid hx2
      clear hx2 hs2
      have hB0 : Below w.heap.size w ((w.alloc (.cells #[.int .u64 0, .slice none 0 0] 25)).alloc (.cells #[.int .u64 (s : Int), .slice none 0 0] 25)) := hW.alloc hW.size _
      have hS0 : DB w.heap.size (w.heap.size + 1) (s : Int) [] (.slice none 0 0) ((w.alloc (.cells #[.int .u64 0, .slice none 0 0] 25)).alloc (.cells #[.int .u64 (s : Int), .slice none 0 0] 25)) := by
        refine ⟨?_, (Ob.Obj.new w 25 [.int .u64 0, .slice none 0 0]).alloc _, World.ownsRow_nil _ _ _ _⟩
        have := Ob.Obj.new (w.alloc (.cells #[.int .u64 0, .slice none 0 0] 25)) 25 [.int .u64 (s : Int), .slice none 0 0]
        simpa using this
      have HS0 := Lib.hid hS0
      have HB0 := Lib.hid hB0
      clear h1 h2 h3 hx hW hS0 hB0
      go_enter Try.func26, Try.ntmps26
      go_wp2_with (first
        | (go_at_call 44; (with_reducible refine (HT.out _).mono ?_); rintro e w1 ⟨rfl, rfl⟩)
        | (go_at_call 44; (with_reducible refine (HT2.out _).mono ?_); rintro e w2 ⟨rfl, rfl⟩))
      clear hwk hkj
      go_loopw [9, 46] (fun rv iv wr => ∃ (q : Nat) (L : List Pt) (s' : List UInt8) (v : Value), q ≤ m ∧ iv = .int .u64 (q : Int) ∧ rv = .string (Cd.bs s') ∧ DB w.heap.size (w.heap.size + 1) (s : Int) L v wr ∧ Below w.heap.size w wr ∧ L.length ≤ q ∧ s'.length ≤ l.length ∧ Hid (dPuts m s2 = (dPuts (m - q) s').map (fun x => (L ++ x.1, x.2)))) (fun _ i _ => m - (intOf i).toNat)
      case atStart => exact ⟨0, [], s2, _, Nat.zero_le _, rfl, by rw [HX2.out], HS0.out, HB0.out, Nat.le_refl _, hdl, (show dPuts m s2 = (dPuts (m - 0) s2).map (fun x => ([] ++ x.1, x.2)) by simp)⟩
      case round =>
        obtain ⟨q, L, s', v, hq, rfl, rfl, hS, hB, hLq, hsl, hgo⟩ := hrel
        obtain ⟨wo, rfl⟩ : ∃ wo : World, wo = wr := ⟨_, rfl⟩
        obtain ⟨ao, cap, rfl, hg0⟩ := Sq.row_cases hS.row
        have hbs := hB.size
        have HS := Lib.hid hS
        have HB := Lib.hid hB
        have hzb : w.heap.size + 1 < wo.heap.size := hS.box.lt
        by_cases hlt : q < m
        · have hi1 : (q : Int) < (m : Int) := by omega
          obtain ⟨hp1, hp2, hp3⟩ := dPut_in s'
          have hpu := fun W => takePut_any s' W (by omega)
          have hstep : dPuts m s2 = (dPuts ((m - (q + 1)) + 1) s').map (fun x => (L ++ x.1, x.2)) := by rw [hgo.out, show m - q = (m - (q + 1)) + 1 by omega]
          have hmore := fun h => hstep.trans (dPuts_step (k := m - (q + 1)) (s := s') (L0 := L) h)
          have hstop := fun h => hstep.trans (congrArg (Option.map _) (dPuts_stop (k := m - (q + 1)) (s := s') h))
          obtain ⟨p, n, ok, hdp⟩ : ∃ p n ok, dPut s' = (p, n, ok) := ⟨_, _, _, rfl⟩
          rw [hdp] at hmore hstop hp1 hp2 hp3 hpu
          simp only at hmore hstop hp1 hp2 hp3
          obtain ⟨pk, pv, pd, _⟩ := p
          have HPU := Lib.hid (fun W => show Calls Try.prog 45 #[.string (Cd.bs s')] W fun e w' => e = .returned (.tuple #[.agg #[.string (Cd.bs pk), .string (Cd.bs pv), .bool pd], .int .i64 (n : Int), .bool ok]) ∧ Below W.heap.size W w' from hpu W)
          clear hpu
          clear hstep hdp hgo hS hB
          cases ok with
          | false =>
            have HE := Lib.hid (show dBatch l = none by rw [HD.out, hstop rfl]; rfl)
            clear hmore hstop
            go_wp2_with (go_at_call 45; (with_reducible refine (HPU.out _).mono ?_); rintro e w3 ⟨rfl, hb3⟩; have hr3 := HS.out.res.below hb3; have r0 := hr3.cell 0; have r1 := hr3.cell 1; have hrz := hr3.lt; have f0 := hr3.frozen 0; have f1 := hr3.frozen 1; simp at r0 r1; have HB3 := Lib.hid (HB.out.trans (hb3.mono hbs)))
            rw [HE.out]
            refine bodyPost_ret (v := .tuple #[.agg #[.int .u64 0, .slice none 0 0], .bool false]) (by simp [results, Try.results26, go_sem, r0, r1, hrz, f0, f1]) rfl ⟨0, none, 0, 0, rfl, ?_⟩
            repeat (first | exact HB3.out | exact HB3.out.size | (focus (simp; exact HB3.out.size)) | (focus (simp; done)) | (refine Below.setCell ?_ ?_ _) | (refine Below.alloc ?_ ?_ _))
          | true =>
            have HM := Lib.hid (hmore rfl)
            have hn0 : (0 : Int) ≤ (n : Int) ∧ (n : Int) ≤ (s'.length : Int) := by omega
            have hsz2 : (Cd.bs s').size = s'.length := rfl
            have hx2 : (Cd.bs s').extract n s'.length = Cd.bs (s'.drop n) := Rr.extract_drop s' n
            have hdl2 : (s'.drop n).length ≤ l.length := by rw [List.length_drop]; omega
            have HX3 := Lib.hid hx2
            clear hmore hstop hx2
            go_wp2_with (go_at_call 45; (with_reducible refine (HPU.out _).mono ?_); rintro e w3 ⟨rfl, hb3⟩; have HA3 := Lib.hid (hb3.alloc hb3.size (.cells #[.string (Cd.bs pk), .string (Cd.bs pv), .bool pd] 42)))
            have hp3' := Ob.Obj.new w3 42 [.string (Cd.bs pk), .string (Cd.bs pv), .bool pd]
            obtain ⟨wA, hwA⟩ : ∃ wA, wA = w3.alloc (.cells #[.string (Cd.bs pk), .string (Cd.bs pv), .bool pd] 42) := ⟨_, rfl⟩
            have HSA := Lib.hid (show DB w.heap.size (w.heap.size + 1) (s : Int) L (.slice ao L.length cap) wA from by rw [hwA]; exact HS.out.below HA3.out)
            have HBA := Lib.hid (show Below w.heap.size w wA from by rw [hwA]; exact HB.out.trans (HA3.out.mono hbs))
            have hpo : Ob.Obj wA w3.heap.size 42 [.string (Cd.bs pk), .string (Cd.bs pv), .bool pd] := by rw [hwA]; exact hp3'
            try rw [← hwA]
            have a1 := HSA.out.box.cell 1
            have azb := HSA.out.box.lt
            have b0 := hpo.cell 0
            have b1 := hpo.cell 1
            have b2 := hpo.cell 2
            have bz := hpo.lt
            simp at a1 b0 b1 b2
            clear hwA hp3' hpo
            have HSD := Lib.hid (HSA.out.below (Below.refl _ _).drew)
            refine wp_region_noPanic ?_
            go_region_law (first
              | (refine step_append_lies _ (by rfl) _ _ _ (by rfl) w.heap.size 42 i0 _ 3 40 Try.underlying23 hi0 hz0 hz1 hz2 rfl (by omega) (.slice ao L.length cap) L.length _ (by rfl) (HSD.out.row.alloc _) ⟨wA.heap.size, 0, none⟩ 1 1 [.string (Cd.bs pk), .string (Cd.bs pv), .bool pd] (by rfl) (by rfl) (World.news_of_block (cs := #[.string (Cd.bs pk), .string (Cd.bs pv), .bool pd]) (t := 42) (fr := (0, 0)) (heap_alloc_new wA _)) (by simp [Value.oneCell']) (by omega) (by unfold maxLen; omega) (by omega) (by have := HBA.out.size; simp at *; omega) (wA.heap.size + 1) (by simp) ?_; intro gb cap6 w6 hown6 hgrow6 hat6 hlt6; have hob6 := (HSD.out.box.alloc (.cells #[.string (Cd.bs pk), .string (Cd.bs pv), .bool pd] 42)).grown hgrow6 (HSD.out.box.not_row (by decide) HSD.out.row); have c6 := hob6.cell 1; have f6 := hob6.frozen 1; have z6 := hob6.lt; simp at c6; clear hob6))
            all_goals
              have hS6 := Lib.hid ((HSD.out.below ((Below.refl _ _).alloc (Nat.le_refl _) (.cells #[.string (Cd.bs pk), .string (Cd.bs pv), .bool pd] 42))).appended (by omega) (pk, pv, pd, ()) hown6 hgrow6)
              have hB6 := Lib.hid (((HBA.out.drew.alloc HBA.out.size (.cells #[.string (Cd.bs pk), .string (Cd.bs pv), .bool pd] 42)).grown hgrow6 (by have := HBA.out.size; simp; omega) (fun k hk => (Ob.row_lt HSD.out.row hk).1)).setCell (p := ⟨w.heap.size + 1, 1, none⟩) (by simp) (.slice (some ⟨gb, 0, none⟩) (L.length + 1) cap6))
              clear hown6 hgrow6 c6 f6
              refine NoPanic.normal ?_
              go_wp2_with fail
              go_roundw
              case rel => exact ⟨q + 1, L ++ [(pk, pv, pd, ())], s'.drop n, _, by omega, by go_num, by rw [HX3.out], hS6.out, hB6.out, by rw [List.length_append, List.length_singleton]; omega, hdl2, by rw [HM.out]; exact rfl⟩
              case measure => simp [intOf]; omega
        · obtain rfl : q = m := by omega
          have HE := Lib.hid (show dBatch l = endOf s (some (L, s')) by rw [HD.out, hgo.out, Nat.sub_self, dPuts]; simp)
          have x0 := hS.box.cell 0
          have x1 := hS.box.cell 1
          have e0 := hS.res.cell 0
          have e1 := hS.res.cell 1
          have f0 := hS.res.frozen 0
          have f1 := hS.res.frozen 1
          have hlr := hS.res.lt
          simp at x0 x1 e0 e1
          clear hgo hS hB
          by_cases hs0 : s' = []
          · subst hs0
            go_wp2_with fail
            rw [HE.out]
            refine bodyPost_ret (v := .tuple #[.agg #[.int .u64 (s : Int), .slice ao L.length cap], .bool true]) (by simp [results, Try.results26, go_sem, e0, e1, hlr, f0, f1]) rfl ⟨.slice ao L.length cap, rfl, ?_, (HB.out.setCell (by simp) _).setCell (by simp) _⟩
            exact Ob.row_other (Ob.row_other HS.out.row (p := ⟨w.heap.size, 0, none⟩) (HS.out.res.not_row (by decide) HS.out.row) _) (p := ⟨w.heap.size, 1, none⟩) (HS.out.res.not_row (by decide) HS.out.row) _
          · have hse : (s' == []) = false := by simpa using hs0
            have hse2 : s'.isEmpty = false := by simpa using hs0
            have HE2 := Lib.hid (show dBatch l = none by rw [HE.out]; cases s' with
              | nil => exact absurd rfl hs0
              | cons c r => rfl)
            clear HE hs0
            go_wp2_with fail
            rw [HE2.out]
            refine bodyPost_ret (v := .tuple #[.agg #[.int .u64 (s : Int), .slice ao L.length cap], .bool false]) (by simp [results, Try.results26, go_sem, e0, e1, hlr, f0, f1]) rfl ⟨(s : Int), ao, L.length, cap, rfl, (HB.out.setCell (by simp) _).setCell (by simp) _⟩
  · rw [dBatch_no1 h1 he]
    have heb : (((e : Nat) : Int) != 0) = true := by simp; omega
    have heb2 : (((e : Nat) : Int) == 0) = false := by simp; omega
    clear h1 he
    go_enter Try.func26, Try.ntmps26
    go_wp2_with (go_at_call 44; (with_reducible refine (HT.out _).mono ?_); rintro e w1 ⟨rfl, rfl⟩)
    refine bodyPost_ret (v := .tuple #[.agg #[.int .u64 0, .slice none 0 0], .bool false]) (by simp [results, Try.results26, go_sem]) rfl ⟨0, none, 0, 0, rfl, ?_⟩
    repeat (first | exact hW | (refine Below.setCell ?_ ?_ _) | (refine Below.alloc ?_ ?_ _) | (focus (simp; done)))

set_option maxRecDepth 100000 in
set_option maxHeartbeats 8000000 in
theorem decOk : DecOk5 := by
  intro l w hl
  have bx := Ob.Obj.new w 25 [.int .u64 0, .slice none 0 0]
  have hW : Below w.heap.size w (w.alloc (.cells #[.int .u64 0, .slice none 0 0] 25)) := (Below.refl _ _).alloc (Nat.le_refl _) _
  have HBX := Lib.hid bx
  have HW := Lib.hid hW
  have htb := takeBatch_any l (w.alloc (.cells #[.int .u64 0, .slice none 0 0] 25)) hl
  clear bx hW
  cases hd : dBatch l with
  | none =>
    rw [decode_no hd]
    rw [hd] at htb
    have HTB := Lib.hid htb
    clear hd htb
    go_enter Try.func12, Try.ntmps12
    go_wp2_with (go_at_call 26; (with_reducible refine HTB.out.mono ?_); rintro e w1 ⟨q, ao, n, c, rfl, hb1⟩; have rx1 := (HBX.out.below hb1).alloc (.cells #[.int .u64 q, .slice ao n c] 25); have r0 := rx1.cell 0; have r1 := rx1.cell 1; have hrz := rx1.lt; have f0 := rx1.frozen 0; have f1 := rx1.frozen 1; simp at r0 r1; have HB1 := Lib.hid (HW.out.trans (hb1.mono (by simp))))
    refine bodyPost_ret (v := .tuple #[.agg #[.int .u64 0, .slice none 0 0], .int .i64 3]) (by simp [results, Try.results12, go_sem, r0, r1, hrz, f0, f1]) rfl ⟨rfl, ?_⟩
    repeat (first | exact HB1.out | exact HB1.out.size | (focus (simp; exact HB1.out.size)) | (focus (simp; done)) | (refine Below.setCell ?_ ?_ _) | (refine Below.alloc ?_ ?_ _))
  | some b =>
    rw [decode_of hd]
    have hbi := (dBatch_some hd).1
    rw [hd] at htb
    obtain ⟨s, L, _⟩ := b
    have HTB := Lib.hid htb
    have HMB := Lib.hid (fun v W (h : Puts W.heap.size W v L) => mayBe_any s L v W h hbi)
    clear hd htb hbi
    by_cases hr : Right (s, L, ())
    · rw [if_pos hr]
      rw [show rightB (s, L, ()) = true from decide_eq_true hr] at HMB
      clear hr
      go_enter Try.func12, Try.ntmps12
      go_wp2_with (first
        | (go_at_call 26; (with_reducible refine HTB.out.mono ?_); rintro e w1 ⟨v1, rfl, hO1, hb1⟩; obtain ⟨ao, cap, rfl, _⟩ := Sq.row_cases (show w1.ownsRow _ 42 3 v1 L.length (pCells L) from hO1); have hO1b : OwnP _ _ (.slice ao L.length cap) L := own_below hO1 ((Below.refl _ _).alloc (Nat.le_refl _) (.cells #[.int .u64 s, .slice ao L.length cap] 25)); have HP1 := Lib.hid (OwnP.puts hO1b); have HO1 := Lib.hid hO1b; have rx1 := (HBX.out.below hb1).alloc (.cells #[.int .u64 s, .slice ao L.length cap] 25); have px1 := Ob.Obj.new w1 25 [.int .u64 s, .slice ao L.length cap]; have HB1 := Lib.hid ((HW.out.trans (hb1.mono (by simp))).alloc (HW.out.trans (hb1.mono (by simp))).size (.cells #[.int .u64 s, .slice ao L.length cap] 25)))
        | (go_at_call 21; (with_reducible refine (HMB.out _ _ HP1.out).mono ?_); rintro e w2 ⟨rfl, hb2⟩; have px2 := px1.below hb2; have q0 := px2.cell 0; have q1 := px2.cell 1; have hqz := px2.lt; have rx2 := rx1.below hb2; have r0 := rx2.cell 0; have r1 := rx2.cell 1; have hrz := rx2.lt; have f0 := rx2.frozen 0; have f1 := rx2.frozen 1; simp at q0 q1 r0 r1; have HO2 := Lib.hid (own_below HO1.out hb2); have HR2 := Lib.hid rx2; have HB2 := Lib.hid (HB1.out.trans (hb2.mono HB1.out.size))))
      refine bodyPost_ret (v := .tuple #[.agg #[.int .u64 s, .slice ao L.length cap], .int .i64 0]) (by simp [results, Try.results12, go_sem, r0, r1, hrz, f0, f1]) rfl ⟨.slice ao L.length cap, rfl, ?_, (HB2.out.setCell (by simp) _).setCell (by simp) _⟩
      have hO2 : OwnP w.heap.size w2 (.slice ao L.length cap) L := OwnP.lower HO2.out (by simp)
      exact Ob.row_other (Ob.row_other hO2 (p := ⟨w.heap.size, 0, none⟩) (HR2.out.not_row (by decide) hO2) _) (p := ⟨w.heap.size, 1, none⟩) (HR2.out.not_row (by decide) hO2) _
    · rw [if_neg hr]
      rw [show rightB (s, L, ()) = false from decide_eq_false hr] at HMB
      clear hr
      go_enter Try.func12, Try.ntmps12
      go_wp2_with (first
        | (go_at_call 26; (with_reducible refine HTB.out.mono ?_); rintro e w1 ⟨v1, rfl, hO1, hb1⟩; obtain ⟨ao, cap, rfl, _⟩ := Sq.row_cases (show w1.ownsRow _ 42 3 v1 L.length (pCells L) from hO1); have hO1b : OwnP _ _ (.slice ao L.length cap) L := own_below hO1 ((Below.refl _ _).alloc (Nat.le_refl _) (.cells #[.int .u64 s, .slice ao L.length cap] 25)); have HP1 := Lib.hid (OwnP.puts hO1b); have HO1 := Lib.hid hO1b; have rx1 := (HBX.out.below hb1).alloc (.cells #[.int .u64 s, .slice ao L.length cap] 25); have HB1 := Lib.hid ((HW.out.trans (hb1.mono (by simp))).alloc (HW.out.trans (hb1.mono (by simp))).size (.cells #[.int .u64 s, .slice ao L.length cap] 25)))
        | (go_at_call 21; (with_reducible refine (HMB.out _ _ HP1.out).mono ?_); rintro e w2 ⟨rfl, hb2⟩; have rx2 := rx1.below hb2; have r0 := rx2.cell 0; have r1 := rx2.cell 1; have hrz := rx2.lt; have f0 := rx2.frozen 0; have f1 := rx2.frozen 1; simp at r0 r1; have HB2 := Lib.hid (HB1.out.trans (hb2.mono HB1.out.size))))
      refine bodyPost_ret (v := .tuple #[.agg #[.int .u64 0, .slice none 0 0], .int .i64 3]) (by simp [results, Try.results12, go_sem, r0, r1, hrz, f0, f1]) rfl ⟨rfl, (HB2.out.setCell (by simp) _).setCell (by simp) _⟩
end Wd
end Go.Proofs.Ytmfeeampbmandaa

/-
  Plain mathematics of the program's Replay: batch by batch, from frame to frame; it is the chapter's. No program is named here.
-/
namespace Go.Proofs.Ytmfeeampbmandaa
set_option linter.unusedSimpArgs false
set_option linter.unusedVariables false
namespace Wd
open Wa
abbrev Fm := UInt8 × List UInt8
/-- the batches so far, where the last one began, the last sequence number -/
abbrev St := List Bt × Nat × Int
noncomputable def st1 (s : St) (x : Nat × Fm) : Option St :=
  match (if x.2.1 = 2 then Wa.decode x.2.2 else none) with
  | some b => if s.2.2 < b.1 then some (s.1 ++ [b], x.1, Wa.last b) else none
  | none => none
noncomputable def run : List (Nat × Fm) → St → Option St
  | [], s => some s
  | x :: r, s => (st1 s x).bind (run r)
theorem run_snoc (x : Nat × Fm) : ∀ (pre : List (Nat × Fm)) (s : St), run (pre ++ [x]) s = (run pre s).bind (fun t => st1 t x)
  | [], s => by simp [run]
  | y :: r, s => by
    rw [List.cons_append, run, run]
    cases h : st1 s y with
    | none => rfl
    | some t => exact run_snoc x r t
theorem st1_some {s t : St} {x : Nat × Fm} (h : st1 s x = some t) : ∃ b, (if x.2.1 = 2 then Wa.decode x.2.2 else none) = some b ∧ s.2.2 < b.1 ∧ t = (s.1 ++ [b], x.1, Wa.last b) := by
  unfold st1 at h
  cases hb : (if x.2.1 = 2 then Wa.decode x.2.2 else none) with
  | none => rw [hb] at h; cases h
  | some b =>
    rw [hb] at h
    simp only at h
    split at h
    · rename_i hq; exact ⟨b, rfl, hq, (Option.some.inj h).symm⟩
    · cases h
theorem st1_none {s : St} {x : Nat × Fm} (h : st1 s x = none) : (if x.2.1 = 2 then Wa.decode x.2.2 else none) = none ∨ ∃ b, (if x.2.1 = 2 then Wa.decode x.2.2 else none) = some b ∧ ¬ s.2.2 < b.1 := by
  unfold st1 at h
  cases hb : (if x.2.1 = 2 then Wa.decode x.2.2 else none) with
  | none => exact .inl rfl
  | some b =>
    rw [hb] at h
    simp only at h
    split at h
    · cases h
    · rename_i hq; exact .inr ⟨b, rfl, hq⟩
theorem run_rep : ∀ (pre : List (Nat × Fm)) (s t : St) (r : List (Nat × Fm)) (E : Nat), run pre s = some t →
    ∃ Bs, t.1 = s.1 ++ Bs ∧ repGo (pre ++ r) s.2.2 E = (Bs ++ (repGo r t.2.2 E).1, (repGo r t.2.2 E).2)
  | [], s, t, r, E, h => by simp [run] at h; subst h; exact ⟨[], by simp, by simp⟩
  | x :: pre, s, t, r, E, h => by
    rw [run] at h
    cases hs : st1 s x with
    | none => rw [hs] at h; cases h
    | some u =>
      rw [hs] at h
      obtain ⟨b, h1, h2, rfl⟩ := st1_some hs
      obtain ⟨Bs, h3, h4⟩ := run_rep pre _ t r E h
      refine ⟨b :: Bs, by rw [h3]; simp, ?_⟩
      rw [List.cons_append, repGo_more h1 h2, h4]
      rfl
theorem run_at {pre : List (Nat × Fm)} {Bs : List Bt} {at' : Nat} {q : Int} (h : run pre ([], 0, 0) = some (Bs, at', q)) : (pre = [] ∧ Bs = [] ∧ at' = 0) ∨ (∃ pre' y, pre = pre' ++ [y] ∧ at' = y.1 ∧ Bs ≠ []) := by
  rcases List.eq_nil_or_concat pre with rfl | ⟨pre', y, rfl⟩
  · simp [run] at h; exact .inl ⟨rfl, by simp [h], by simp [h]⟩
  · refine .inr ⟨pre', y, by simp, ?_⟩
    rw [List.concat_eq_append, run_snoc] at h
    obtain ⟨t, h1, h2⟩ := Option.bind_eq_some_iff.1 h
    obtain ⟨b, _, _, h3⟩ := st1_some h2
    simp only [Prod.mk.injEq] at h3
    obtain ⟨rfl, rfl, rfl⟩ := h3
    exact ⟨rfl, by simp⟩
theorem run_len_go : ∀ (pre : List (Nat × Fm)) (s t : St), run pre s = some t → t.1.length = s.1.length + pre.length
  | [], s, t, h => by simp [run] at h; subst h; simp
  | x :: pre, s, t, h => by
    rw [run] at h
    obtain ⟨u, h1, h2⟩ := Option.bind_eq_some_iff.1 h
    obtain ⟨b, _, _, rfl⟩ := st1_some h1
    have := run_len_go pre _ t h2
    simp at this ⊢
    omega
theorem run_len (pre : List (Nat × Fm)) {Bs : List Bt} {at' : Nat} {q : Int} (h : run pre ([], 0, 0) = some (Bs, at', q)) : Bs.length = pre.length := by
  have := run_len_go pre _ _ h
  simpa using this
/-! frames stand one behind the other -/
theorem all_head (l : List UInt8) (p : Nat) : match (Fr.allGo l p).1 with
    | [] => (Fr.allGo l p).2 = p
    | y :: _ => y.1 = p := by
  by_cases h : p < l.length ∧ (Fr.take (l.drop p)).2.2 = 0 ∧ 0 < (Fr.take (l.drop p)).2.1
  · rw [Fr.allGo_more h]
  · rw [Fr.allGo_stop h]
theorem all_next (l : List UInt8) : ∀ (pre : List (Nat × Fm)) (p : Nat) (x : Nat × Fm) (rest : List (Nat × Fm)), (Fr.allGo l p).1 = pre ++ x :: rest →
    x.1 ≤ l.length ∧ x.1 + (Fr.take (l.drop x.1)).2.1 = (match rest with
      | [] => (Fr.allGo l p).2
      | y :: _ => y.1)
  | [], p, x, rest, hE => by
    by_cases h : p < l.length ∧ (Fr.take (l.drop p)).2.2 = 0 ∧ 0 < (Fr.take (l.drop p)).2.1
    · rw [Fr.allGo_more h] at hE ⊢
      simp only [List.nil_append, List.cons.injEq] at hE
      obtain ⟨rfl, rfl⟩ := hE
      refine ⟨by simp only; omega, ?_⟩
      have := all_head l (p + (Fr.take (l.drop p)).2.1)
      simp only
      revert this
      cases (Fr.allGo l (p + (Fr.take (l.drop p)).2.1)).1 with
      | nil => intro h; exact h.symm
      | cons y r => intro h; exact h.symm
    · rw [Fr.allGo_stop h] at hE; simp at hE
  | z :: pre, p, x, rest, hE => by
    by_cases h : p < l.length ∧ (Fr.take (l.drop p)).2.2 = 0 ∧ 0 < (Fr.take (l.drop p)).2.1
    · rw [Fr.allGo_more h] at hE ⊢
      simp only [List.cons_append, List.cons.injEq] at hE
      exact all_next l pre _ x rest hE.2
    · rw [Fr.allGo_stop h] at hE; simp at hE
/-- what Replay's end leans on -/
def Fin (l : List UInt8) (Bs : List Bt) (at' : Nat) : Prop :=
  ∃ e, Wa.replay l = (Bs, e) ∧ e ≤ l.length ∧ (Bs = [] → e = 0) ∧ (Bs ≠ [] → at' ≤ l.length ∧ at' + (Fr.take (l.drop at')).2.1 = e)
theorem fin_done {l : List UInt8} {Bs : List Bt} {at' : Nat} {q : Int} (h : run (Fr.all l).1 ([], 0, 0) = some (Bs, at', q)) : Fin l Bs at' := by
  obtain ⟨Bs', h1, h2⟩ := run_rep (Fr.all l).1 ([], 0, 0) _ [] (Fr.all l).2 h
  simp only [List.nil_append, List.append_nil, repGo] at h1 h2
  subst h1
  refine ⟨(Fr.all l).2, h2, (allGo_facts l 0 (Nat.zero_le _)).2.2, fun hb => ?_, fun hb => ?_⟩
  · rcases run_at h with ⟨h3, _, _⟩ | ⟨_, _, _, _, h3⟩
    · have := all_head l 0
      rw [show (Fr.allGo l 0).1 = [] from h3] at this
      exact this
    · exact absurd hb h3
  · rcases run_at h with ⟨_, h3, _⟩ | ⟨pre', y, h3, h4, _⟩
    · exact absurd h3 hb
    · subst h4
      exact all_next l pre' 0 y [] h3
theorem fin_stop {l : List UInt8} {Bs : List Bt} {at' : Nat} {q : Int} {pre : List (Nat × Fm)} {x : Nat × Fm} (hsp : pre ++ [x] <+: (Fr.all l).1) (h : run pre ([], 0, 0) = some (Bs, at', q)) (hx : st1 (Bs, at', q) x = none) : Fin l Bs at' := by
  obtain ⟨r, hr⟩ := hsp
  rw [List.append_assoc, List.singleton_append] at hr
  obtain ⟨Bs', h1, h2⟩ := run_rep pre ([], 0, 0) _ (x :: r) (Fr.all l).2 h
  simp only [List.nil_append] at h1
  subst h1
  rw [repGo_stop (st1_none hx)] at h2
  simp only [List.append_nil] at h2
  rw [hr] at h2
  have hx1 := all_next l pre 0 x r hr.symm
  refine ⟨x.1, h2, hx1.1, fun hb => ?_, fun hb => ?_⟩
  · rcases run_at h with ⟨h3, _, _⟩ | ⟨_, _, _, _, h3⟩
    · have := all_head l 0
      rw [show (Fr.allGo l 0).1 = (Fr.all l).1 from rfl, ← hr, h3] at this
      exact this
    · exact absurd hb h3
  · rcases run_at h with ⟨_, h3, _⟩ | ⟨pre', y, h3, h4, _⟩
    · exact absurd h3 hb
    · subst h4
      rw [h3, List.append_assoc] at hr
      exact all_next l pre' 0 y (x :: r) hr.symm
end Wd
end Go.Proofs.Ytmfeeampbmandaa

/-
  A region that draws its order and only reads, walked once in the text's order, where the fence lets all in: also within a round of a range over a function.
-/
namespace Go.Proofs.Ytmfeeampbmandaa
namespace Qr
variable {F : Fence} {n : Nat} {P : Program} {ops : Array Oper} {md : Region.Mode} {C : World → Prop}

/-- the fence lets all in -/
structure Open (F : Fence) : Prop where
  fn : ∀ f, F.fn f
  depth : F.depth = none
  calls : ∀ {P : Program} {n : Nat} {f : FuncId} {args : Array Value} {w : World} {R : Ending → World → Prop}, Calls P f args w R → CallsIn F n P f args w R
theorem open_wide : Open Fence.wide := ⟨fun _ => trivial, rfl, fun h => callsIn_wide.2 h⟩
theorem open_round (l : Nat) : Open (Fence.wide.inRound l) := ⟨fun _ => trivial, rfl, fun h => CallsIn.inRound l (callsIn_wide.2 h)⟩

def notDefer (o : Oper) : Bool := match o.op with | .defer _ => false | _ => true
theorem notDefer_ne {o : Oper} (h : notDefer o = true) : ∀ c, o.op ≠ .defer c := fun c e => by unfold notDefer at h; rw [e] at h; cases h

theorem oper_of_quiet (hO : Open F) {o : Oper} {a : Act} {K : Act → Prop} {K' : Act → World → Prop} {Q' : Exit → Act → World → Prop} {w : World} (hnd : notDefer o = true) (hw : C w) (h : ∀ a w', C w' → K a → K' a w')
    (hh : o.quiet P a C K) : o.wpIn F n P a w K' Q' := by
  obtain ⟨v, h1, h2⟩ := hh
  have h3 := h1 w hw
  unfold Oper.quietAt at h3
  unfold Oper.wpIn
  refine ⟨fun f _ => hO.fn f, ?_⟩
  rw [Oper.semAt_eq _ _ _ (notDefer_ne hnd)]
  generalize (execOp a.eval o).run P w = r at *
  cases r with
  | ok x w' =>
    cases x <;> simp only [Oper.quietUpon] at h3 <;> simp only [Oper.uponIn]
    case value u => obtain ⟨e1, e2⟩ := h3; rw [e1, e2]; exact h _ _ hw h2
    case skip => obtain ⟨e1, e2⟩ := h3; rw [e1, ← e2]; exact h _ _ hw h2
    case enter f args =>
      obtain ⟨e1, hc⟩ := h3
      rw [e1]
      exact ⟨fun hd => (by rw [hO.depth] at hd; cases hd), (hO.calls hc).mono fun e w'' ⟨he, hw''⟩ => by subst he; exact h _ _ hw'' h2⟩
  | halt x w' => simp only [Oper.quietUpon] at h3

theorem op_of_quiet (hO : Open F) (hnd : ops.all notDefer = true) {i : Nat} {a : Act} {K : Act → Prop} {K' : Act → World → Prop} {Q' : Exit → Act → World → Prop} {w : World} (hC : C w) (h : ∀ a w', C w' → K a → K' a w')
    (hh : qOp P ops C i K a) : wpOpIn F n P ops Q' i K' a w := by
  unfold qOp at hh
  unfold wpOpIn
  cases ho : ops[i]? with
  | none => simp only [ho] at hh; exact h _ _ hC hh
  | some o =>
    simp only [ho] at hh
    have hno : notDefer o = true := Array.all_eq_true_iff_forall_mem.1 hnd o (Array.mem_of_getElem? ho)
    by_cases hw : Region.wanted o (yielded ops a.tmps) = true
    · simp only [hw, if_true] at hh ⊢; exact oper_of_quiet hO hno hC h hh
    · simp only [hw] at hh ⊢; exact ⟨fun f _ => hO.fn f, h _ _ hC hh⟩

theorem any_of_quiet (hO : Open F) (hnd : ops.all notDefer = true) {Q : Act → Prop} {Q' : Exit → Act → World → Prop} (hQ : ∀ a w, C w → Q a → Q' .normal a w) : ∀ (fuel : Nat) (listed : Array Bool) (a : Act) (w : World), C w →
    wpAnyQ P md ops C Q fuel listed a → wpAnyIn F n P md ops Q' fuel listed a w
  | 0, _, _, _, hw, h => ⟨h.1, hQ _ _ hw h.2⟩
  | fuel + 1, _, _, _, hw, h => ⟨fun h0 => hQ _ _ hw (h.1 h0), fun i hi => op_of_quiet hO hnd hw (fun a' w' hw' => any_of_quiet hO hnd hQ fuel _ a' w' hw') (h.2 i hi)⟩

/-- one walk of the text's order serves every order, also within a round -/
theorem region_quiet {id : Nat} {Q : Exit → Act → World → Prop} {a : Act} {w : World} {l : List Oper} (hO : Open F) (hm : P.follows .mixedOrders = true) (hB : Region.lexB .any l.toArray = true) (hnd : l.toArray.all notDefer = true)
    (h : wpQuiet P l.toArray (fun w' => ∃ n, w' = w.drewN n) (fun a' => ∀ w', (∃ n, w' = w.drewN n) → Q .normal a' w') l a) : (Code.region id l.toArray true).wpIn F n P Q a w := by
  simp only [Region.lexB, Bool.and_eq_true] at hB
  refine wpIn_region_any hm (any_of_quiet (C := fun w' => ∃ n, w' = w.drewN n) hO hnd (Q := fun a' => ∀ w', (∃ n, w' = w.drewN n) → Q .normal a' w') (fun _ w' hw' h => h w' hw') _ _ _ _ ⟨1, rfl⟩ ?_)
  have := wpAnyQ_lex (P := P) (C := fun w' => ∃ n, w' = w.drewN n) (md := .any) (ops := l.toArray) hB.1 l 0 (Array.replicate l.toArray.size false) a (by simp) (by simpa using hB.2) h
  simpa using this
end Qr
end Go.Proofs.Ytmfeeampbmandaa

/-
  A region that draws its order, shown by an invariant over what has been run: each operation once, whatever the order; also within a round of a range over a function.
-/
namespace Go.Proofs.Ytmfeeampbmandaa
namespace Qr
variable {F : Fence} {n : Nat} {P : Program} {ops : Array Oper} {md : Region.Mode}

theorem oper_of_wp (l : Nat) {o : Oper} {a : Act} {K : Act → World → Prop} {Q : Exit → Act → World → Prop} {w : World} (hnd : notDefer o = true) (h : o.wp P a w K Q) : o.wpIn (Fence.wide.inRound l) n P a w K Q := by
  unfold Oper.wp at h
  unfold Oper.wpIn
  refine ⟨fun f _ => trivial, ?_⟩
  rw [Oper.semAt_eq _ _ _ (notDefer_ne hnd)]
  generalize (execOp a.eval o).run P w = r at *
  cases r with
  | ok x w' =>
    cases x <;> simp only [Oper.upon] at h <;> simp only [Oper.uponIn]
    case value u => exact h
    case skip => exact h
    case defer d => exact h
    case enter f args => exact ⟨fun hd => (by cases hd), CallsIn.inRound l (callsIn_wide.2 h)⟩
    case row row args => exact ⟨fun hd => (by cases hd), fun c cs _ => let ⟨v, w2, r, s⟩ := h c cs; ⟨v, w2, r, stepsIn_wide.2 s⟩⟩
  | halt x w' =>
    cases x <;> simp only [Oper.upon] at h <;> simp only [Oper.uponIn]
    case panic v => exact h

/-- an operation, as the plain walk leaves it -/
theorem op_of_step (l : Nat) {i : Nat} {o : Oper} (ho : ops[i]? = some o) (hnd : notDefer o = true) {a : Act} {K : Act → World → Prop} {Q : Exit → Act → World → Prop} {w : World}
    (h : if Region.wanted o (yielded ops a.tmps) = true then Oper.wp P o a w K Q else K (a.put o.dst undef) w) : wpOpIn (Fence.wide.inRound l) n P ops Q i K a w := by
  unfold wpOpIn
  rw [ho]
  simp only
  split
  · rename_i hw; rw [if_pos hw] at h; exact oper_of_wp l hnd h
  · rename_i hw; rw [if_neg hw] at h; exact ⟨fun f _ => trivial, h⟩

/-- WHATEVER THE ORDER: what holds of what has been run, kept by each operation that may come up -/
theorem any_inv {Q : Exit → Act → World → Prop} (Inv : Array Bool → Act → World → Prop) (μ : Array Bool → Nat)
    (hstep : ∀ listed a w i, Inv listed a w → i ∈ Region.ready md ops listed → μ (listed.setIfInBounds i true) < μ listed ∧ ∀ K : Act → World → Prop, (∀ a' w', Inv (listed.setIfInBounds i true) a' w' → K a' w') → wpOpIn F n P ops Q i K a w)
    (hend : ∀ listed a w, Inv listed a w → Region.ready md ops listed = [] → Q .normal a w) :
    ∀ (fuel : Nat) (listed : Array Bool) (a : Act) (w : World), Inv listed a w → μ listed ≤ fuel → wpAnyIn F n P md ops Q fuel listed a w
  | 0, listed, a, w, hI, hμ => by
    have hr : Region.ready md ops listed = [] := List.eq_nil_iff_forall_not_mem.2 (fun i hi => by have := (hstep listed a w i hI hi).1; omega)
    exact ⟨hr, hend listed a w hI hr⟩
  | fuel + 1, listed, a, w, hI, hμ =>
    ⟨fun hr => hend listed a w hI hr, fun i hi => (hstep listed a w i hI hi).2 _ (fun a' w' h' => any_inv Inv μ hstep hend fuel _ a' w' h' (by have := (hstep listed a w i hI hi).1; omega))⟩
end Qr
end Go.Proofs.Ytmfeeampbmandaa
