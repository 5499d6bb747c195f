import Derived.Deep.LoopGhost
import Derived.LoopTactic
import Derived.BigQuiet
import Derived.Deep.QuietTactic
import Derived.Deep.RegionWith
import Derived.Deep.AppendLies
import Derived.Deep.RegionLaw
import Derived.Test.YtfkfckohajpcfaaPart3
/-
  The program's code.Operand, Pure, within, leaves, Find, optsMayBe.
-/
namespace Go.Proofs.Ytfkfckohajpcfaa
open Go.RowKit
set_option linter.unusedSimpArgs false
set_option linter.unusedVariables false
namespace Co

set_option maxRecDepth 100000 in
set_option maxHeartbeats 4000000 in
theorem operand_any (op : Int) (w : World) :
    Calls Try.prog 11 #[.int .i64 op] w fun e w' => e = .returned (.bool (operandB op)) ∧ w = w' := by
  go_enter Try.func11, Try.ntmps11
  go_wp2_with fail
  all_goals go_ret
  all_goals refine ⟨congrArg (fun b => Ending.returned (.bool b)) ?_, rfl⟩
  all_goals (first | (unfold operandB; simp_all; done) | skip)

theorem pure_high {op : Int} (h : 0 ≤ op) (h1 : (op == 17) = false) (h2 : (op == 18) = false) (h3 : (op == 26) = false) (h4 : (op == 36) = false) (h5 : (op == 37) = false) : decide (op ≤ 15) = pureB op := by
  unfold pureB
  rw [decide_eq_true h, h1, h2, h3, h4, h5]
  simp

set_option maxRecDepth 100000 in
set_option maxHeartbeats 4000000 in
theorem pure_any (op : Int) (w : World) :
    Calls Try.prog 13 #[.int .i64 op] w fun e w' => e = .returned (.bool (pureB op)) ∧ w = w' := by
  go_enter Try.func13, Try.ntmps13
  go_wp2_with fail
  all_goals go_ret
  all_goals refine ⟨congrArg (fun b => Ending.returned (.bool b)) ?_, rfl⟩
  all_goals (first | (unfold pureB; simp_all; done) | (unfold pureB; rw [decide_eq_false (show ¬ (0:Int) ≤ op by omega)]; simp_all; done) | exact pure_high (by assumption) (by assumption) (by assumption) (by assumption) (by assumption) (by assumption) | skip)

set_option maxRecDepth 100000 in
set_option maxHeartbeats 4000000 in
theorem leaves_any (op : Int) (w : World) :
    Calls Try.prog 46 #[.int .i64 op] w fun e w' => e = .returned (.bool (lastB op)) ∧ w = w' := by
  go_enter Try.func46, Try.ntmps46
  go_wp2_with fail
  all_goals go_ret
  all_goals refine ⟨congrArg (fun b => Ending.returned (.bool b)) ?_, rfl⟩
  all_goals (first | (unfold lastB; simp_all; done) | skip)

set_option maxRecDepth 100000 in
set_option maxHeartbeats 4000000 in
theorem within_any (n b : Int) (w : World) :
    Calls Try.prog 43 #[.int .i64 n, .int .i64 b] w fun e w' => e = .returned (.bool (decide (0 ≤ n) && decide (n < b))) ∧ w = w' := by
  by_cases h : 0 ≤ n
  · go_enter Try.func43, Try.ntmps43
    go_wp2_with fail
    all_goals go_ret
    all_goals exact ⟨by simp; omega, rfl⟩
  · go_enter Try.func43, Try.ntmps43
    go_wp2_with fail
    go_ret
    exact ⟨by simp; omega, rfl⟩
theorem within_at (n b : Int) (x : Bool) (h : x = (decide (0 ≤ n) && decide (n < b))) (w : World) :
    Calls Try.prog 43 #[.int .i64 n, .int .i64 b] w fun e w' => e = .returned (.bool x) ∧ w = w' := by rw [h]; exact within_any n b w
theorem waitB_at (x : Int) : waitB x = (decide (0 ≤ x) && decide (x < 1048577)) := by
  unfold waitB; rw [show decide (x < 1048577) = decide (x ≤ 1048576) by congr 1; apply propext; omega]

set_option maxRecDepth 100000 in
set_option maxHeartbeats 8000000 in
theorem optsMayBe_any (o : Opt) (w : World) :
    Calls Try.prog 26 #[optV o] w fun e w' => e = .returned (.bool (optB o)) ∧ Below w.heap.size w w' := by
  obtain ⟨qu, st, cl, tt, be, fi, nu, de, mo, tr, ne⟩ := o
  unfold optV
  obtain ⟨r, hr⟩ : ∃ r, r = optB ⟨qu, st, cl, tt, be, fi, nu, de, mo, tr, ne⟩ := ⟨_, rfl⟩
  rw [← hr]
  unfold optB at hr
  simp only at *
  have HR := Lib.hid hr
  clear hr
  have hA : Below w.heap.size w (w.alloc (.cells #[.int .i64 qu, .int .i64 st, .int .i64 cl, .int .i64 tt, .int .i64 be, .int .i64 fi, .int .i64 nu, .int .i64 de, .int .i64 mo, .int .i64 tr, .int .i64 ne] 54)) := (Below.refl _ _).alloc (Nat.le_refl _) _
  have HW := Lib.hid (fun W x => within_at x 1048577 (waitB x) (waitB_at x) W)
  have HQ := Lib.hid (fun W => within_any qu 8 W)
  have HT := Lib.hid (fun W => within_any tr 1001 W)
  have i0 : ∀ w : World, (Instr.index 76 (.agg #[.int .i64 st, .int .i64 cl, .int .i64 tt, .int .i64 be, .int .i64 fi, .int .i64 mo]) (.int .i64 0)).run Try.prog w = .ok (.int .i64 st) w := fun _ => by kernel_rfl
  have i1 : ∀ w : World, (Instr.index 76 (.agg #[.int .i64 st, .int .i64 cl, .int .i64 tt, .int .i64 be, .int .i64 fi, .int .i64 mo]) (.int .i64 1)).run Try.prog w = .ok (.int .i64 cl) w := fun _ => by kernel_rfl
  have i2 : ∀ w : World, (Instr.index 76 (.agg #[.int .i64 st, .int .i64 cl, .int .i64 tt, .int .i64 be, .int .i64 fi, .int .i64 mo]) (.int .i64 2)).run Try.prog w = .ok (.int .i64 tt) w := fun _ => by kernel_rfl
  have i3 : ∀ w : World, (Instr.index 76 (.agg #[.int .i64 st, .int .i64 cl, .int .i64 tt, .int .i64 be, .int .i64 fi, .int .i64 mo]) (.int .i64 3)).run Try.prog w = .ok (.int .i64 be) w := fun _ => by kernel_rfl
  have i4 : ∀ w : World, (Instr.index 76 (.agg #[.int .i64 st, .int .i64 cl, .int .i64 tt, .int .i64 be, .int .i64 fi, .int .i64 mo]) (.int .i64 4)).run Try.prog w = .ok (.int .i64 fi) w := fun _ => by kernel_rfl
  have i5 : ∀ w : World, (Instr.index 76 (.agg #[.int .i64 st, .int .i64 cl, .int .i64 tt, .int .i64 be, .int .i64 fi, .int .i64 mo]) (.int .i64 5)).run Try.prog w = .ok (.int .i64 mo) w := fun _ => by kernel_rfl
  go_enter Try.func26, Try.ntmps26
  go_wp2_with fail
  go_loopw [18] (fun i wr => ∃ q : Nat, q ≤ 6 ∧ i = .int .i64 (q : Int) ∧ Hid (([st, cl, tt, be, fi, mo].take q).all waitB = true) ∧ wr = w.alloc (.cells #[.int .i64 qu, .int .i64 st, .int .i64 cl, .int .i64 tt, .int .i64 be, .int .i64 fi, .int .i64 nu, .int .i64 de, .int .i64 mo, .int .i64 tr, .int .i64 ne] 54)) (fun i _ => 6 - (intOf i).toNat)
  case atStart => exact ⟨0, Nat.zero_le _, rfl, rfl, rfl⟩
  case round =>
    obtain ⟨q, hq, rfl, hall, rfl⟩ := hrel
    have h7 : q = 0 ∨ q = 1 ∨ q = 2 ∨ q = 3 ∨ q = 4 ∨ q = 5 ∨ q = 6 := by omega
    rcases h7 with rfl | rfl | rfl | rfl | rfl | rfl | rfl
    · have HX := Lib.hid (fun W => HW.out W st)
      cases hx : waitB st with
      | false =>
        rw [hx] at HX
        go_wp2_with (go_at_call 43; (with_reducible refine (HX.out _).mono ?_); rintro e w1 ⟨rfl, rfl⟩)
        go_ret
        exact ⟨by rw [HR.out]; simp [hx], hA⟩
      | true =>
        rw [hx] at HX
        have HN := Lib.hid (show ([st, cl, tt, be, fi, mo].take 1).all waitB = true from by
          have h0 := hall.out
          simp only [List.take_succ_cons, List.take_zero, List.all_cons, List.all_nil, Bool.and_true, Bool.and_eq_true, hx] at h0 ⊢
          try simp only [h0, and_self])
        clear hx
        go_wp2_with (go_at_call 43; (with_reducible refine (HX.out _).mono ?_); rintro e w1 ⟨rfl, rfl⟩)
        go_roundw
        case rel => exact ⟨1, by omega, by go_num, HN.out, by trivial⟩
        case measure => simp [intOf]
    · have HX := Lib.hid (fun W => HW.out W cl)
      cases hx : waitB cl with
      | false =>
        rw [hx] at HX
        go_wp2_with (go_at_call 43; (with_reducible refine (HX.out _).mono ?_); rintro e w1 ⟨rfl, rfl⟩)
        go_ret
        exact ⟨by rw [HR.out]; simp [hx], hA⟩
      | true =>
        rw [hx] at HX
        have HN := Lib.hid (show ([st, cl, tt, be, fi, mo].take 2).all waitB = true from by
          have h0 := hall.out
          simp only [List.take_succ_cons, List.take_zero, List.all_cons, List.all_nil, Bool.and_true, Bool.and_eq_true, hx] at h0 ⊢
          try simp only [h0, and_self])
        clear hx
        go_wp2_with (go_at_call 43; (with_reducible refine (HX.out _).mono ?_); rintro e w1 ⟨rfl, rfl⟩)
        go_roundw
        case rel => exact ⟨2, by omega, by go_num, HN.out, by trivial⟩
        case measure => simp [intOf]
    · have HX := Lib.hid (fun W => HW.out W tt)
      cases hx : waitB tt with
      | false =>
        rw [hx] at HX
        go_wp2_with (go_at_call 43; (with_reducible refine (HX.out _).mono ?_); rintro e w1 ⟨rfl, rfl⟩)
        go_ret
        exact ⟨by rw [HR.out]; simp [hx], hA⟩
      | true =>
        rw [hx] at HX
        have HN := Lib.hid (show ([st, cl, tt, be, fi, mo].take 3).all waitB = true from by
          have h0 := hall.out
          simp only [List.take_succ_cons, List.take_zero, List.all_cons, List.all_nil, Bool.and_true, Bool.and_eq_true, hx] at h0 ⊢
          try simp only [h0, and_self])
        clear hx
        go_wp2_with (go_at_call 43; (with_reducible refine (HX.out _).mono ?_); rintro e w1 ⟨rfl, rfl⟩)
        go_roundw
        case rel => exact ⟨3, by omega, by go_num, HN.out, by trivial⟩
        case measure => simp [intOf]
    · have HX := Lib.hid (fun W => HW.out W be)
      cases hx : waitB be with
      | false =>
        rw [hx] at HX
        go_wp2_with (go_at_call 43; (with_reducible refine (HX.out _).mono ?_); rintro e w1 ⟨rfl, rfl⟩)
        go_ret
        exact ⟨by rw [HR.out]; simp [hx], hA⟩
      | true =>
        rw [hx] at HX
        have HN := Lib.hid (show ([st, cl, tt, be, fi, mo].take 4).all waitB = true from by
          have h0 := hall.out
          simp only [List.take_succ_cons, List.take_zero, List.all_cons, List.all_nil, Bool.and_true, Bool.and_eq_true, hx] at h0 ⊢
          try simp only [h0, and_self])
        clear hx
        go_wp2_with (go_at_call 43; (with_reducible refine (HX.out _).mono ?_); rintro e w1 ⟨rfl, rfl⟩)
        go_roundw
        case rel => exact ⟨4, by omega, by go_num, HN.out, by trivial⟩
        case measure => simp [intOf]
    · have HX := Lib.hid (fun W => HW.out W fi)
      cases hx : waitB fi with
      | false =>
        rw [hx] at HX
        go_wp2_with (go_at_call 43; (with_reducible refine (HX.out _).mono ?_); rintro e w1 ⟨rfl, rfl⟩)
        go_ret
        exact ⟨by rw [HR.out]; simp [hx], hA⟩
      | true =>
        rw [hx] at HX
        have HN := Lib.hid (show ([st, cl, tt, be, fi, mo].take 5).all waitB = true from by
          have h0 := hall.out
          simp only [List.take_succ_cons, List.take_zero, List.all_cons, List.all_nil, Bool.and_true, Bool.and_eq_true, hx] at h0 ⊢
          try simp only [h0, and_self])
        clear hx
        go_wp2_with (go_at_call 43; (with_reducible refine (HX.out _).mono ?_); rintro e w1 ⟨rfl, rfl⟩)
        go_roundw
        case rel => exact ⟨5, by omega, by go_num, HN.out, by trivial⟩
        case measure => simp [intOf]
    · have HX := Lib.hid (fun W => HW.out W mo)
      cases hx : waitB mo with
      | false =>
        rw [hx] at HX
        go_wp2_with (go_at_call 43; (with_reducible refine (HX.out _).mono ?_); rintro e w1 ⟨rfl, rfl⟩)
        go_ret
        exact ⟨by rw [HR.out]; simp [hx], hA⟩
      | true =>
        rw [hx] at HX
        have HN := Lib.hid (show ([st, cl, tt, be, fi, mo].take 6).all waitB = true from by
          have h0 := hall.out
          simp only [List.take_succ_cons, List.take_zero, List.all_cons, List.all_nil, Bool.and_true, Bool.and_eq_true, hx] at h0 ⊢
          try simp only [h0, and_self])
        clear hx
        go_wp2_with (go_at_call 43; (with_reducible refine (HX.out _).mono ?_); rintro e w1 ⟨rfl, rfl⟩)
        go_roundw
        case rel => exact ⟨6, by omega, by go_num, HN.out, by trivial⟩
        case measure => simp [intOf]
    · have hA6 := hall.out
      simp only [List.take_succ_cons, List.take_zero, List.all_cons, List.all_nil, Bool.and_true] at hA6
      have HE := Lib.hid (show (waitB st && waitB cl && waitB tt && waitB be && waitB fi && waitB mo) = true by simp only [Bool.and_assoc]; exact hA6)
      clear hall hA6
      obtain ⟨b1, hb1⟩ : ∃ b1, b1 = (decide (0 ≤ qu) && decide (qu < 8)) := ⟨_, rfl⟩
      obtain ⟨b2, hb2⟩ : ∃ b2, b2 = (decide (0 ≤ tr) && decide (tr < 1001)) := ⟨_, rfl⟩
      have HF := Lib.hid (show r = (b1 && decide (1 ≤ de) && decide (de ≤ nu) && decide (nu ≤ 1000) && b2) by
        rw [HR.out, HE.out, Bool.true_and, hb1, hb2, Bool.eq_iff_iff]; simp; omega)
      rw [← hb1] at HQ
      rw [← hb2] at HT
      clear HE hb1 hb2
      have h6 : b1 = false ∨ (b1 = true ∧ ¬ 1 ≤ de) ∨ (b1 = true ∧ 1 ≤ de ∧ ¬ de ≤ nu) ∨ (b1 = true ∧ 1 ≤ de ∧ de ≤ nu ∧ ¬ nu ≤ 1000) ∨ (b1 = true ∧ 1 ≤ de ∧ de ≤ nu ∧ nu ≤ 1000) := by
        cases b1 <;> simp <;> omega
      rcases h6 with rfl | ⟨rfl, g1⟩ | ⟨rfl, g1, g2⟩ | ⟨rfl, g1, g2, g3⟩ | ⟨rfl, g1, g2, g3⟩
      all_goals go_wp2_with (first
        | (go_at_call 43; (with_reducible refine (HQ.out _).mono ?_); rintro e w1 ⟨rfl, rfl⟩)
        | (go_at_call 43; (with_reducible refine (HT.out _).mono ?_); rintro e w2 ⟨rfl, rfl⟩))
      all_goals go_ret
      all_goals refine ⟨congrArg (fun b => Ending.returned (.bool b)) ?_, hA⟩
      all_goals rw [HF.out]
      all_goals simp [*]
      all_goals (try (intros; exfalso; omega))
end Co
end Go.Proofs.Ytfkfckohajpcfaa

/-
  The program's reader: an instruction.
-/
namespace Go.Proofs.Ytfkfckohajpcfaa
open Go.RowKit
set_option linter.unusedSimpArgs false
set_option linter.unusedVariables false
namespace Co
/-- the blocks that a reader's call leaves alone -/
abbrev KT (w : World) (t : Nat) : Sq.Blocks := fun k => k < w.heap.size ∧ k ≠ t
theorem rdU_le (l : Dat) (most : Nat) (s : RS) : (rdU l most s).1 ≤ most := by
  unfold rdU
  split
  · exact Nat.zero_le _
  · split
    · exact Nat.zero_le _
    · split
      · exact Nat.zero_le _
      · omega
theorem rdI_in (l : Dat) (s : RS) : I64 (rdI l s).1 := by
  have ho := (Cd.takeU_ok (l.drop s.1)).1
  unfold rdI I64
  split
  · exact ⟨by simp only; omega, by simp only; omega⟩
  · split
    · exact ⟨by simp only; omega, by simp only; omega⟩
    · simp only
      unfold Cd.unzig
      split <;> exact ⟨by omega, by omega⟩

set_option maxRecDepth 100000 in
set_option maxHeartbeats 4000000 in
theorem op_any (t : Nat) (l : Dat) (s : RS) (w : World) (h : Tk w t l s) (hs : s.1 ≤ l.length) (hl : l.length ≤ 2097152) :
    Calls Try.prog 53 #[.pointer (some ⟨t, 0, none⟩)] w fun r w' => r = .returned (.agg #[.int .i64 (rdOp l s).1.code, .int .i64 (rdOp l s).1.a]) ∧ Tk w' t l (rdOp l s).2 ∧ Sq.Kept (fun k => k ≠ t) w w' := by
  have ht : t < w.heap.size := Ob.Obj.lt h
  have hle : (rdU l 1099511627776 s).2.1 ≤ l.length := (rdU_rd 1099511627776 (by decide)).le l s hs
  have hrd : rdOp l s = if operandB ((rdU l 1099511627776 s).1 : Int) = true then (⟨((rdU l 1099511627776 s).1 : Int), (rdI l (rdU l 1099511627776 s).2).1⟩, (rdI l (rdU l 1099511627776 s).2).2) else (⟨((rdU l 1099511627776 s).1 : Int), 0⟩, (rdU l 1099511627776 s).2) := rfl
  have HU := Lib.hid (fun W (h : Tk W t l s) => unsigned_any t l s 1099511627776 1099511627776 rfl W h hs hl (by decide))
  generalize rdU l 1099511627776 s = ru at *
  obtain ⟨n, s1⟩ := ru
  simp only at hle hrd HU
  have HI := Lib.hid (fun W (h : Tk W t l s1) => signed_any t l s1 W h hle hl)
  have HO := Lib.hid (fun W => operand_any (n : Int) W)
  have hne : w.heap.size ≠ t := by omega
  have hTA : Tk (w.alloc (.cells #[.int .i64 0, .int .i64 0] 59)) t l s := Ob.Obj.alloc h _
  have oR := Ob.Obj.new w 59 [.int .i64 0, .int .i64 0]
  have hk0 : Sq.Kept (KT w t) w (w.alloc (.cells #[.int .i64 0, .int .i64 0] 59)) := Sq.Kept.alloc _ _ _
  have hs0 : (w.alloc (.cells #[.int .i64 0, .int .i64 0] 59)).heap.size = w.heap.size + 1 := by simp
  have HTA := Lib.hid hTA
  have OR := Lib.hid oR
  have HK0 := Lib.hid hk0
  clear hTA oR hk0 h
  cases hop : operandB (n : Int) with
  | false =>
    rw [hop] at HO hrd
    rw [if_neg (by decide)] at hrd
    rw [hrd]
    go_enter Try.func53, Try.ntmps53
    go_wp2_with (first
      | (go_at_call 37; (with_reducible refine (HU.out _ HTA.out).mono ?_); rintro e w1 ⟨rfl, hT1, hk1⟩; have hz1 : w.heap.size + 1 ≤ w1.heap.size := Nat.le_trans (Nat.le_of_eq hs0.symm) hk1.size; have oR1 := OR.out.kept hk1 hne; have oR2 := oR1.alloc (.cells #[.int .i64 (n : Int), .int .i64 0] 59); have oB2 := Ob.Obj.new w1 59 [.int .i64 (n : Int), .int .i64 0]; have r0 := oR2.cell 0; have r1 := oR2.cell 1; have g0 := oR2.frozen 0; have g1 := oR2.frozen 1; have b0 := oB2.cell 0; have b1 := oB2.cell 1; simp at r0 r1 b0 b1; have hrz := oR2.lt; have HK1 := Lib.hid (((HK0.out.trans (hk1.less (fun k hk _ => hk.2))).trans (Sq.Kept.alloc _ _ (.cells #[.int .i64 (n : Int), .int .i64 0] 59)))); have HT1 := Lib.hid (show Tk _ t l s1 from Ob.Obj.alloc hT1 (.cells #[.int .i64 (n : Int), .int .i64 0] 59)))
      | (go_at_call 11; (with_reducible refine (HO.out _).mono ?_); rintro e w2 ⟨rfl, rfl⟩))
    refine bodyPost_ret (v := .agg #[.int .i64 (n : Int), .int .i64 0]) (by simp [results, Try.results53, go_sem, r0, r1, hrz]) rfl ?_
    refine ⟨rfl, ?_, ?_⟩
    · exact Ob.Obj.other (Ob.Obj.other HT1.out (p := ⟨w.heap.size, 0, none⟩) hne.symm _) (p := ⟨w.heap.size, 1, none⟩) hne.symm _
    · exact ((HK1.out.trans (Sq.Kept.setCell _ (p := ⟨w.heap.size, 0, none⟩) _ (fun hn => Nat.lt_irrefl _ hn.1))).trans (Sq.Kept.setCell _ (p := ⟨w.heap.size, 1, none⟩) _ (fun hn => Nat.lt_irrefl _ hn.1))).less (fun k hk hk2 => ⟨hk2, hk⟩)
  | true =>
    rw [hop] at HO hrd
    rw [if_pos rfl] at hrd
    rw [hrd]
    generalize rdI l s1 = ri at *
    obtain ⟨a, s2⟩ := ri
    simp only at HI
    go_enter Try.func53, Try.ntmps53
    go_wp2_with (first
      | (go_at_call 37; (with_reducible refine (HU.out _ HTA.out).mono ?_); rintro e w1 ⟨rfl, hT1, hk1⟩; have hz1 : w.heap.size + 1 ≤ w1.heap.size := Nat.le_trans (Nat.le_of_eq hs0.symm) hk1.size; have hne1 : w1.heap.size ≠ t := (by omega); have oR1 := OR.out.kept hk1 hne; have oR2 := oR1.alloc (.cells #[.int .i64 (n : Int), .int .i64 0] 59); have oB2 := Ob.Obj.new w1 59 [.int .i64 (n : Int), .int .i64 0]; have b0 := oB2.cell 0; simp at b0; have HK1 := Lib.hid (((HK0.out.trans (hk1.less (fun k hk _ => hk.2))).trans (Sq.Kept.alloc _ _ (.cells #[.int .i64 (n : Int), .int .i64 0] 59)))); have HT1 := Lib.hid (show Tk _ t l s1 from Ob.Obj.alloc hT1 (.cells #[.int .i64 (n : Int), .int .i64 0] 59)))
      | (go_at_call 11; (with_reducible refine (HO.out _).mono ?_); rintro e w2 ⟨rfl, rfl⟩)
      | (go_at_call 54; (with_reducible refine (HI.out _ HT1.out).mono ?_); rintro e w3 ⟨rfl, hT3, hk3⟩; have oR3 := oR2.kept hk3 hne; have oB3 := oB2.kept hk3 hne1; have r0 := oR3.cell 0; have r1 := oR3.cell 1; have g0 := oR3.frozen 0; have g1 := oR3.frozen 1; have c0 := oB3.cell 0; have c1 := oB3.cell 1; have d1 := oB3.frozen 1; simp at r0 r1 c0 c1; have hrz := oR3.lt; have hbz := oB3.lt; have HK3 := Lib.hid (HK1.out.trans (hk3.less (fun k hk _ => hk.2))); have HT3 := Lib.hid hT3))
    refine bodyPost_ret (v := .agg #[.int .i64 (n : Int), .int .i64 a]) (by simp [results, Try.results53, go_sem, r0, r1, hrz]) rfl ?_
    refine ⟨rfl, ?_, ?_⟩
    · exact Ob.Obj.other (Ob.Obj.other (Ob.Obj.other HT3.out (p := ⟨w1.heap.size, 1, none⟩) hne1.symm _) (p := ⟨w.heap.size, 0, none⟩) hne.symm _) (p := ⟨w.heap.size, 1, none⟩) hne.symm _
    · exact (((HK3.out.trans (Sq.Kept.setCell _ (p := ⟨w1.heap.size, 1, none⟩) _ (fun hn => by have := hn.1; simp at this; omega))).trans (Sq.Kept.setCell _ (p := ⟨w.heap.size, 0, none⟩) _ (fun hn => Nat.lt_irrefl _ hn.1))).trans (Sq.Kept.setCell _ (p := ⟨w.heap.size, 1, none⟩) _ (fun hn => Nat.lt_irrefl _ hn.1))).less (fun k hk hk2 => ⟨hk2, hk⟩)
end Co
end Go.Proofs.Ytfkfckohajpcfaa

namespace Go.Proofs.Ytfkfckohajpcfaa
open Go.RowKit
set_option linter.unusedSimpArgs false
set_option linter.unusedVariables false

/-- a frame's answer as Go hands it back -/
abbrev frameV (r : (UInt8 × List UInt8) × Nat × Nat) : Value := .tuple #[.agg #[.int .u8 (r.1.1.toNat : Int), .string (Cd.bs r.1.2)], .int .i64 r.2.1, .int .i64 r.2.2]

end Go.Proofs.Ytfkfckohajpcfaa
namespace Go.Proofs.Ytfkfckohajpcfaa
open Go.RowKit
set_option linter.unusedSimpArgs false
set_option linter.unusedVariables false

/-- frames with their places, as cells -/
def atCells (out : List (Nat × (UInt8 × List UInt8))) : List Value := (out.map fun x => [Value.int .i64 x.1, .int .u8 x.2.1.toNat, .string (Cd.bs x.2.2)]).flatten
theorem atCells_snoc (out : List (Nat × (UInt8 × List UInt8))) (x : Nat × (UInt8 × List UInt8)) : atCells (out ++ [x]) = atCells out ++ [.int .i64 x.1, .int .u8 x.2.1.toNat, .string (Cd.bs x.2.2)] := by simp [atCells]
theorem cell_three_new (w : World) (a b c : Value) (t : TypeId) : ∀ j u, [a, b, c][j]? = some u → (w.alloc (.cells #[a, b, c] t)).cell? ((⟨w.heap.size, 0, none⟩ : Addr).add j) = some u := by
  intro j u hj
  match j, hj with
  | 0, hj => simp at hj; subst hj; simp [Addr.add]
  | 1, hj => simp at hj; subst hj; simp [Addr.add]
  | 2, hj => simp at hj; subst hj; simp [Addr.add]
  | (j + 3), hj => simp at hj

/-- what is owned stays owned behind whatever keeps the blocks that there are -/
theorem own_below {W w : World} {base : Nat} {e : TypeId} {size : Nat} {v : Value} {n : Nat} {xs : List Value} (h : W.ownsRow base e size v n xs) (hb : Below W.heap.size W w) : w.ownsRow base e size v n xs := by
  refine ⟨h.1, ?_⟩
  rcases h.2 with h | ⟨g, cap, cur, h1, h2, h3, h4⟩
  · exact .inl h
  · exact .inr ⟨g, cap, cur, h1, h2, (hb.block g (Array.getElem?_eq_some_iff.1 h3).1).trans h3, h4⟩

end Go.Proofs.Ytfkfckohajpcfaa
/-
  The program's reader: a function.
-/
namespace Go.Proofs.Ytfkfckohajpcfaa
open Go.RowKit
set_option linter.unusedSimpArgs false
set_option linter.unusedVariables false
theorem info_Op13 : (Try.prog.info? 59).map (fun i => (i.zero, i.size, i.bytes)) = some (some (.agg #[.int .i64 0, .int .i64 0]), 2, 16) := by kernel_rfl
namespace Co
def oC (o : Op2) : List Value := [.int .i64 o.code, .int .i64 o.a]
def ocs (L : List Op2) : List Value := L.flatMap oC
theorem ocs_snoc (L : List Op2) (o : Op2) : ocs (L ++ [o]) = ocs L ++ oC o := by simp [ocs]
/-- amid the reading of a function, by a reader of type ty in block t -/
structure DF (ty : TypeId) (w : World) (t bb : Nat) (kind name : Int) (L : List Op2) (v : Value) (rs : List Value) (W : World) : Prop where
  box : Ob.Obj W bb 52 [.int .i64 kind, .int .i64 name, v]
  row : W.ownsRow w.heap.size 59 2 v L.length (ocs L)
  tk : Ob.Obj W t ty rs
  res : Ob.Obj W w.heap.size 52 [.int .i64 0, .int .i64 0, .slice none 0 0]
  kp : Sq.Kept (KT w t) w W
  lt : w.heap.size < bb
  tl : t < w.heap.size
  ne : ty ≠ 59
variable {ty : TypeId} {w : World} {t bb : Nat} {kind name : Int} {L : List Op2} {v : Value} {rs rs2 : List Value} {W W2 : World}
theorem DF.below (h : DF ty w t bb kind name L v rs W) (hb : Below W.heap.size W W2) : DF ty w t bb kind name L v rs W2 :=
  ⟨h.box.below hb, own_below h.row hb, h.tk.below hb, h.res.below hb, h.kp.trans (Sq.Kept.of_below hb), h.lt, h.tl, h.ne⟩
theorem DF.call (h : DF ty w t bb kind name L v rs W) (hk : Sq.Kept (fun k => k ≠ t) W W2) (ht : Ob.Obj W2 t ty rs2) : DF ty w t bb kind name L v rs2 W2 :=
  have h1 := h.lt
  have h2 := h.tl
  ⟨h.box.kept hk (by omega), Sq.row_kept h.row hk (fun k hk2 e => by subst e; exact h.tk.not_row h.ne h.row hk2), ht, h.res.kept hk (by omega), h.kp.trans (hk.less (fun k hk _ => hk.2)), h1, h2, h.ne⟩
theorem DF.add (h : DF ty w t bb kind name L v rs W) (o : Op2) {v2 : Value} (hown : W2.ownsRow w.heap.size 59 2 v2 (L.length + 1) (ocs L ++ oC o)) (hg : W.grownBy W2 v.ownBlock) : DF ty w t bb kind name (L ++ [o]) v2 rs (W2.setCell ⟨bb, 2, none⟩ v2) := by
  have h1 := h.lt
  have h2 := h.tl
  have hob : Ob.Obj W2 bb 52 [.int .i64 kind, .int .i64 name, v] := h.box.grown hg (h.box.not_row (by decide) h.row)
  refine ⟨?_, ?_, Ob.Obj.other (Ob.Obj.grown h.tk hg (Ob.Obj.not_row h.tk h.ne h.row)) (p := ⟨bb, 2, none⟩) (by show t ≠ bb; omega) _, Ob.Obj.other (h.res.grown hg (h.res.not_row (by decide) h.row)) (p := ⟨bb, 2, none⟩) (by show w.heap.size ≠ bb; omega) _, ?_, h1, h2, h.ne⟩
  · have := hob.set 2 v2
    simpa using this
  · rw [ocs_snoc, List.length_append, List.length_singleton]
    exact Ob.row_other hown (p := ⟨bb, 2, none⟩) (hob.not_row (by decide) hown) _
  · refine (h.kp.trans (Sq.Kept.grown hg (fun r hr hn => ?_))).trans (Sq.Kept.setCell _ (p := ⟨bb, 2, none⟩) _ (fun hn => ?_))
    · have := (Ob.row_lt h.row hr).1
      omega
    · have : bb < w.heap.size := hn.1
      omega
structure DFc (t bb : Nat) (kind name : Int) (v : Value) (W : World) : Prop where
  b0 : W.cell? ⟨bb, 0, none⟩ = some (.int .i64 kind)
  b1 : W.cell? ⟨bb, 1, none⟩ = some (.int .i64 name)
  b2 : W.cell? ⟨bb, 2, none⟩ = some v
  f0 : W.frozen? ⟨bb, 0, none⟩ = false
  f1 : W.frozen? ⟨bb, 1, none⟩ = false
  f2 : W.frozen? ⟨bb, 2, none⟩ = false
  z : bb < W.heap.size
theorem DF.cells (h : DF ty w t bb kind name L v rs W) : DFc t bb kind name v W :=
  ⟨h.box.cell 0, h.box.cell 1, h.box.cell 2, h.box.frozen 0, h.box.frozen 1, h.box.frozen 2, h.box.lt⟩
structure DFr (b : Nat) (W : World) : Prop where
  r0 : W.cell? ⟨b, 0, none⟩ = some (.int .i64 0)
  r1 : W.cell? ⟨b, 1, none⟩ = some (.int .i64 0)
  r2 : W.cell? ⟨b, 2, none⟩ = some (.slice none 0 0)
  g0 : W.frozen? ⟨b, 0, none⟩ = false
  g1 : W.frozen? ⟨b, 1, none⟩ = false
  g2 : W.frozen? ⟨b, 2, none⟩ = false
  z : b < W.heap.size
theorem DF.rcells (h : DF ty w t bb kind name L v rs W) : DFr w.heap.size W :=
  ⟨h.res.cell 0, h.res.cell 1, h.res.cell 2, h.res.frozen 0, h.res.frozen 1, h.res.frozen 2, h.res.lt⟩
/-- what the reading of a function leaves -/
def FnOut (ty : TypeId) (w : World) (t : Nat) (f : Fn) (rs : List Value) (r : Ending) (w' : World) : Prop :=
  ∃ v, r = .returned (.agg #[.int .i64 f.kind, .int .i64 f.name, v]) ∧ w'.ownsRow w.heap.size 59 2 v f.ops.length (ocs f.ops) ∧ Ob.Obj w' t ty rs ∧ Sq.Kept (fun k => k ≠ t) w w'
theorem DF.out (h : DF ty w t bb kind name L v rs W) (x y z : Value) (r : Ending) (hr : r = .returned (.agg #[.int .i64 kind, .int .i64 name, v])) :
    FnOut ty w t ⟨kind, name, L⟩ rs r (((W.setCell ⟨w.heap.size, 0, none⟩ x).setCell ⟨w.heap.size, 1, none⟩ y).setCell ⟨w.heap.size, 2, none⟩ z) := by
  have h1 := h.lt
  have h2 := h.tl
  have hn := h.res.not_row (show 52 ≠ 59 by decide) h.row
  refine ⟨v, hr, ?_, ?_, ?_⟩
  · exact Ob.row_other (Ob.row_other (Ob.row_other h.row (p := ⟨w.heap.size, 0, none⟩) hn _) (p := ⟨w.heap.size, 1, none⟩) hn _) (p := ⟨w.heap.size, 2, none⟩) hn _
  · exact Ob.Obj.other (Ob.Obj.other (Ob.Obj.other h.tk (p := ⟨w.heap.size, 0, none⟩) (by show t ≠ w.heap.size; omega) _) (p := ⟨w.heap.size, 1, none⟩) (by show t ≠ w.heap.size; omega) _) (p := ⟨w.heap.size, 2, none⟩) (by show t ≠ w.heap.size; omega) _
  · exact (((h.kp.trans (Sq.Kept.setCell _ (p := ⟨w.heap.size, 0, none⟩) _ (fun hn => Nat.lt_irrefl _ hn.1))).trans (Sq.Kept.setCell _ (p := ⟨w.heap.size, 1, none⟩) _ (fun hn => Nat.lt_irrefl _ hn.1))).trans (Sq.Kept.setCell _ (p := ⟨w.heap.size, 2, none⟩) _ (fun hn => Nat.lt_irrefl _ hn.1))).less (fun k hk hk2 => ⟨hk2, hk⟩)
theorem rdOp_in (l : Dat) (s : RS) (hs : s.1 ≤ l.length) : (rdOp l s).2.1 ≤ l.length := rdOp_rd.le l s hs

set_option maxRecDepth 100000 in
set_option maxHeartbeats 8000000 in
theorem function_any (t : Nat) (l : Dat) (s : RS) (w : World) (h : Tk w t l s) (hs : s.1 ≤ l.length) (hl : l.length ≤ 2097152) :
    Calls Try.prog 38 #[.pointer (some ⟨t, 0, none⟩)] w (FnOut 69 w t (rdFnA l s).1 [.string (Cd.bs l), .int .i64 ((rdFnA l s).2.1 : Int), .int .i64 ((rdFnA l s).2.2 : Int)]) := by
  obtain ⟨i0, hi0, hz0, hz1, hz2⟩ := info_parts info_Op13
  have ht : t < w.heap.size := Ob.Obj.lt h
  have hrd : rdFnA l s = (⟨((fK l s).1 : Int), ((fN l s).1 : Int), (fOA l s).1⟩, (fOA l s).2) := rfl
  have l1 : (fK l s).2.1 ≤ l.length := (rdU_rd 1099511627776 (by decide)).le l s hs
  have l2 : (fN l s).2.1 ≤ l.length := (rdU_rd 1099511627776 (by decide)).le l _ l1
  have l3 : (fL l s).2.1 ≤ l.length := (rdU_rd 128 (by decide)).le l _ l2
  have m3 : (fL l s).1 ≤ 128 := rdU_le l 128 _
  have HU1 := Lib.hid (fun W (h : Tk W t l s) => show Calls Try.prog 37 #[.pointer (some ⟨t, 0, none⟩), .int .u64 1099511627776] W fun r w' => r = .returned (.int .i64 ((fK l s).1 : Int)) ∧ Tk w' t l (fK l s).2 ∧ Sq.Kept (fun k => k ≠ t) W w' from unsigned_any t l s 1099511627776 1099511627776 rfl W h hs hl (by decide))
  have HU2 := Lib.hid (fun W (h : Tk W t l (fK l s).2) => show Calls Try.prog 37 #[.pointer (some ⟨t, 0, none⟩), .int .u64 1099511627776] W fun r w' => r = .returned (.int .i64 ((fN l s).1 : Int)) ∧ Tk w' t l (fN l s).2 ∧ Sq.Kept (fun k => k ≠ t) W w' from unsigned_any t l (fK l s).2 1099511627776 1099511627776 rfl W h l1 hl (by decide))
  have HU3 := Lib.hid (fun W (h : Tk W t l (fN l s).2) => show Calls Try.prog 37 #[.pointer (some ⟨t, 0, none⟩), .int .u64 128] W fun r w' => r = .returned (.int .i64 ((fL l s).1 : Int)) ∧ Tk w' t l (fL l s).2 ∧ Sq.Kept (fun k => k ≠ t) W w' from unsigned_any t l (fN l s).2 128 128 rfl W h l2 hl (by decide))
  have hOA : fOA l s = goA rdOp l (fL l s).1 [] (fL l s).2 := rfl
  generalize fL l s = y3 at *
  generalize fN l s = y2 at *
  generalize fK l s = y1 at *
  obtain ⟨kind, s1⟩ := y1
  obtain ⟨name, s2⟩ := y2
  obtain ⟨K, s3⟩ := y3
  simp only at l1 l2 l3 m3 HU1 HU2 HU3 hOA hrd
  have hne : w.heap.size ≠ t := by omega
  have HTA := Lib.hid (show Tk (w.alloc (.cells #[.int .i64 0, .int .i64 0, .slice none 0 0] 52)) t l s from Ob.Obj.alloc h _)
  have OR := Lib.hid (Ob.Obj.new w 52 [.int .i64 0, .int .i64 0, .slice none 0 0])
  have HK0 := Lib.hid (show Sq.Kept (KT w t) w (w.alloc (.cells #[.int .i64 0, .int .i64 0, .slice none 0 0] 52)) from Sq.Kept.alloc _ _ _)
  have hs0 : (w.alloc (.cells #[.int .i64 0, .int .i64 0, .slice none 0 0] 52)).heap.size = w.heap.size + 1 := by simp
  have HRD := Lib.hid hrd
  have HOA := Lib.hid hOA
  clear h hrd hOA
  go_enter Try.func38, Try.ntmps38
  go_wp2_with (first
    | (go_at_call 37; (with_reducible refine (HU1.out _ HTA.out).mono ?_); rintro e w1 ⟨rfl, hT1, hk1⟩; have hz1 : w.heap.size + 1 ≤ w1.heap.size := Nat.le_trans (Nat.le_of_eq hs0.symm) hk1.size; have oR1 := OR.out.kept hk1 hne; have HK1 := Lib.hid (HK0.out.trans (hk1.less (fun k hk _ => hk.2))))
    | (go_at_call 37; (with_reducible refine (HU2.out _ hT1).mono ?_); rintro e w2 ⟨rfl, hT2, hk2⟩; have hz2 : w.heap.size + 1 ≤ w2.heap.size := Nat.le_trans hz1 hk2.size; have oR2 := oR1.kept hk2 hne; have HK2 := Lib.hid (HK1.out.trans (hk2.less (fun k hk _ => hk.2))); have HS2 := Lib.hid (show DF 69 w t w2.heap.size (kind : Int) (name : Int) [] (.slice none 0 0) [.string (Cd.bs l), .int .i64 (s2.1 : Int), .int .i64 (s2.2 : Int)] (w2.alloc (.cells #[.int .i64 (kind : Int), .int .i64 (name : Int), .slice none 0 0] 52)) from ⟨Ob.Obj.new w2 52 [.int .i64 (kind : Int), .int .i64 (name : Int), .slice none 0 0], World.ownsRow_nil _ _ _ _, Ob.Obj.alloc hT2 _, oR2.alloc _, HK2.out.trans (Sq.Kept.alloc _ _ _), by omega, ht, by decide⟩); have HT2 : Hid (Tk _ t l s2) := HS2.out.tk)
    | (go_at_call 37; (with_reducible refine (HU3.out _ HT2.out).mono ?_); rintro e w3 ⟨rfl, hT3, hk3⟩; have HS3 := Lib.hid (HS2.out.call hk3 hT3)))
  clear hz1 hz2 hT1 hT2 hk1 hk2 oR1 oR2 HK1 HK2 hk3 hT3 HS2
  go_loopw [11] (fun i wr => ∃ (k : Nat) (L : List Op2) (s' : RS) (v : Value), k ≤ K ∧ i = .int .i64 (k : Int) ∧ DF 69 w t w2.heap.size (kind : Int) (name : Int) L v [.string (Cd.bs l), .int .i64 (s'.1 : Int), .int .i64 (s'.2 : Int)] wr ∧ L.length ≤ k ∧ s'.1 ≤ l.length ∧ Hid (goA rdOp l K [] s3 = goA rdOp l (K - k) L s')) (fun i _ => K - (intOf i).toNat)
  case atStart => exact ⟨0, [], s3, _, Nat.zero_le _, rfl, HS3.out, Nat.le_refl _, l3, rfl⟩
  case round =>
    clear HS3
    obtain ⟨k, L, s', v, hk, rfl, hS, hLk, hsl, hgo⟩ := hrel
    obtain ⟨wo, rfl⟩ : ∃ wo : World, wo = wr := ⟨_, rfl⟩
    obtain ⟨ao, cap, rfl, hg0⟩ := Sq.row_cases hS.row
    by_cases hlt : k < K
    · have hi1 : (k : Int) < (K : Int) := by omega
      have hstep : goA rdOp l K [] s3 = goA rdOp l (K - (k + 1)) (L ++ [(rdOp l s').1]) (rdOp l s').2 := by
        rw [hgo.out, show K - k = (K - (k + 1)) + 1 by omega, goA]
      have e1 := rdOp_in l s' hsl
      have HX := Lib.hid (fun W (h : Tk W t l s') => op_any t l s' W h hsl hl)
      generalize rdOp l s' = y1 at *
      obtain ⟨⟨code, a⟩, sa⟩ := y1
      simp only at hstep e1 HX
      have HST := Lib.hid hstep
      obtain ⟨b0, b1, b2, f0, f1, f2, z⟩ := hS.cells
      have HS := Lib.hid (hS.below (Below.refl _ _).drew)
      clear hgo hS hstep b0 b1 f0 f1 f2
      go_wp2_with fail
      refine wp_region_noPanic ?_
      go_region_law (first
        | (go_simp; go_at_call 53; refine (HX.out _ HS.out.tk).mono ?_; rintro e w6 ⟨rfl, hT, hk⟩; have HS6 := Lib.hid (HS.out.call hk hT); obtain ⟨_, _, c2, _, _, _, y2⟩ := HS6.out.cells; have hbz := HS6.out.kp.size)
        | (refine step_append_lies _ (by rfl) _ _ _ (by rfl) w.heap.size 59 i0 _ 2 16 Try.underlying50 hi0 hz0 hz1 hz2 rfl (by omega) (.slice ao L.length cap) L.length _ (by rfl) (HS6.out.row.alloc _)
            ⟨w6.heap.size, 0, none⟩ 1 1 [.int .i64 code, .int .i64 a] (by rfl) (by rfl) (World.news_of_block (cs := #[.int .i64 code, .int .i64 a]) (t := 59) (fr := (0, 0)) (heap_alloc_new w6 _)) (by simp [Value.oneCell'])
            (by omega) (by unfold maxLen; omega) (by omega) (by simp at *; omega) (w6.heap.size + 1) (by simp) ?_; intro gb cap8 w8 hown hgrow hat8 hlt8; have HS8 := Lib.hid (HS6.out.below ((Below.refl _ _).alloc (Nat.le_refl _) (.cells #[.int .i64 code, .int .i64 a] 59))); have hob := HS8.out.box.grown hgrow (HS8.out.box.not_row (by decide) HS8.out.row); have c8 := hob.cell 2; have f8 := hob.frozen 2; simp at c8; have HS9 := Lib.hid (HS8.out.add ⟨code, a⟩ hown hgrow); clear hown hgrow hob))
      all_goals
        refine NoPanic.normal ?_
        go_wp2_with fail
        go_roundw
        case rel => exact ⟨k + 1, L ++ [⟨code, a⟩], sa, _, by omega, by go_num, HS9.out, by rw [List.length_append, List.length_singleton]; omega, e1, HST⟩
        case measure => simp [intOf]; omega
    · obtain rfl : k = K := by omega
      have hex : goA rdOp l k [] s3 = (L, s') := by rw [hgo.out, Nat.sub_self, goA]
      have HE := Lib.hid (show rdFnA l s = (⟨(kind : Int), (name : Int), L⟩, s') by rw [HRD.out, HOA.out, hex])
      have HS := Lib.hid hS
      obtain ⟨b0, b1, b2, f0, f1, f2, z⟩ := hS.cells
      obtain ⟨r0, r1, r2, g0, g1, g2, rz⟩ := hS.rcells
      clear hgo hex hS
      go_wp2_with fail
      refine bodyPost_ret (v := .agg #[.int .i64 (kind : Int), .int .i64 (name : Int), .slice ao L.length cap]) (by simp [results, Try.results38, go_sem, r0, r1, r2, rz]) rfl ?_
      rw [HE.out]
      exact HS.out.out _ _ _ _ rfl
end Co
end Go.Proofs.Ytfkfckohajpcfaa

/-
  The program's reader: how an activity is done.
-/
namespace Go.Proofs.Ytfkfckohajpcfaa
open Go.RowKit
set_option linter.unusedSimpArgs false
set_option linter.unusedVariables false
namespace Co
/-- what the reading of options leaves -/
def OptOut (ty : TypeId) (w : World) (t : Nat) (o : Opt) (rs : List Value) (r : Ending) (w' : World) : Prop :=
  r = .returned (optV o) ∧ Ob.Obj w' t ty rs ∧ Sq.Kept (fun k => k ≠ t) w w'
/-- amid the reading of options -/
structure DO (ty : TypeId) (w : World) (t bb : Nat) (cs : List Value) (rs : List Value) (W : World) : Prop where
  box : Ob.Obj W bb 54 cs
  tk : Ob.Obj W t ty rs
  res : Ob.Obj W w.heap.size 54 [.int .i64 0, .int .i64 0, .int .i64 0, .int .i64 0, .int .i64 0, .int .i64 0, .int .i64 0, .int .i64 0, .int .i64 0, .int .i64 0, .int .i64 0]
  kp : Sq.Kept (KT w t) w W
  lt : w.heap.size < bb
  tl : t < w.heap.size
variable {ty : TypeId} {w : World} {t bb : Nat} {cs rs rs2 : List Value} {W W2 : World}
theorem DO.call (h : DO ty w t bb cs rs W) (hk : Sq.Kept (fun k => k ≠ t) W W2) (ht : Ob.Obj W2 t ty rs2) : DO ty w t bb cs rs2 W2 :=
  have h1 := h.lt
  have h2 := h.tl
  ⟨h.box.kept hk (by omega), ht, h.res.kept hk (by omega), h.kp.trans (hk.less (fun k hk _ => hk.2)), h1, h2⟩
theorem DO.set (h : DO ty w t bb cs rs W) (j : Nat) (v : Value) : DO ty w t bb (cs.set j v) rs (W.setCell ⟨bb, j, none⟩ v) :=
  have h1 := h.lt
  have h2 := h.tl
  ⟨h.box.set j v, Ob.Obj.other h.tk (p := ⟨bb, j, none⟩) (by show t ≠ bb; omega) _, Ob.Obj.other h.res (p := ⟨bb, j, none⟩) (by show w.heap.size ≠ bb; omega) _, h.kp.trans (Sq.Kept.setCell _ (p := ⟨bb, j, none⟩) _ (fun hn => by have : bb < w.heap.size := hn.1; omega)), h1, h2⟩
theorem kt_set (h : Sq.Kept (KT w t) w W) (j : Nat) (v : Value) : Sq.Kept (KT w t) w (W.setCell ⟨w.heap.size, j, none⟩ v) := h.trans (Sq.Kept.setCell _ (p := ⟨w.heap.size, j, none⟩) _ (fun hn => Nat.lt_irrefl _ hn.1))
theorem DO.out (h : DO ty w t bb cs rs W) (o : Opt) (r : Ending) (hr : r = .returned (optV o)) (v0 v1 v2 v3 v4 v5 v6 v7 v8 v9 v10 : Value) :
    OptOut ty w t o rs r ((((((((((((W.setCell ⟨w.heap.size, 0, none⟩ v0).setCell ⟨w.heap.size, 1, none⟩ v1).setCell ⟨w.heap.size, 2, none⟩ v2).setCell ⟨w.heap.size, 3, none⟩ v3).setCell ⟨w.heap.size, 4, none⟩ v4).setCell ⟨w.heap.size, 5, none⟩ v5).setCell ⟨w.heap.size, 6, none⟩ v6).setCell ⟨w.heap.size, 7, none⟩ v7).setCell ⟨w.heap.size, 8, none⟩ v8).setCell ⟨w.heap.size, 9, none⟩ v9).setCell ⟨w.heap.size, 10, none⟩ v10)) := by
  have h1 := h.lt
  have h2 := h.tl
  have hne : t ≠ w.heap.size := by omega
  have ho : ∀ {W : World} (j : Nat) (v : Value), Ob.Obj W t ty rs → Ob.Obj (W.setCell ⟨w.heap.size, j, none⟩ v) t ty rs := fun j v h => Ob.Obj.other h (p := ⟨w.heap.size, j, none⟩) hne v
  exact ⟨hr, ho 10 v10 (ho 9 v9 (ho 8 v8 (ho 7 v7 (ho 6 v6 (ho 5 v5 (ho 4 v4 (ho 3 v3 (ho 2 v2 (ho 1 v1 (ho 0 v0 (h.tk))))))))))), (kt_set (kt_set (kt_set (kt_set (kt_set (kt_set (kt_set (kt_set (kt_set (kt_set (kt_set (h.kp) 0 v0) 1 v1) 2 v2) 3 v3) 4 v4) 5 v5) 6 v6) 7 v7) 8 v8) 9 v9) 10 v10).less (fun k hk hk2 => ⟨hk2, hk⟩)⟩
theorem rdU_in (l : Dat) (s : RS) (hs : s.1 ≤ l.length) : (rdU l 1099511627776 s).2.1 ≤ l.length := (rdU_rd 1099511627776 (by decide)).le l s hs

set_option maxRecDepth 100000 in
set_option maxHeartbeats 16000000 in
theorem opts_any (t : Nat) (l : Dat) (s : RS) (w : World) (h : Tk w t l s) (hs : s.1 ≤ l.length) (hl : l.length ≤ 2097152) :
    Calls Try.prog 39 #[.pointer (some ⟨t, 0, none⟩)] w (OptOut 69 w t (rdOpt l s).1 [.string (Cd.bs l), .int .i64 ((rdOpt l s).2.1 : Int), .int .i64 ((rdOpt l s).2.2 : Int)]) := by
  have ht : t < w.heap.size := Ob.Obj.lt h
  have hrd : rdOpt l s = (⟨((o0 l s).1 : Int), ((o1 l s).1 : Int), ((o2 l s).1 : Int), ((o3 l s).1 : Int), ((o4 l s).1 : Int), ((o5 l s).1 : Int), ((o6 l s).1 : Int), ((o7 l s).1 : Int), ((o8 l s).1 : Int), ((o9 l s).1 : Int), (oN l s).1⟩, (oN l s).2) := by simp only [rdOpt]
  have l0 : (o0 l s).2.1 ≤ l.length := by rw [o0_eq]; exact rdU_in l s hs
  have l1 : (o1 l s).2.1 ≤ l.length := by rw [o1_eq]; exact rdU_in l _ l0
  have l2 : (o2 l s).2.1 ≤ l.length := by rw [o2_eq]; exact rdU_in l _ l1
  have l3 : (o3 l s).2.1 ≤ l.length := by rw [o3_eq]; exact rdU_in l _ l2
  have l4 : (o4 l s).2.1 ≤ l.length := by rw [o4_eq]; exact rdU_in l _ l3
  have l5 : (o5 l s).2.1 ≤ l.length := by rw [o5_eq]; exact rdU_in l _ l4
  have l6 : (o6 l s).2.1 ≤ l.length := by rw [o6_eq]; exact rdU_in l _ l5
  have l7 : (o7 l s).2.1 ≤ l.length := by rw [o7_eq]; exact rdU_in l _ l6
  have l8 : (o8 l s).2.1 ≤ l.length := by rw [o8_eq]; exact rdU_in l _ l7
  have l9 : (o9 l s).2.1 ≤ l.length := by rw [o9_eq]; exact rdU_in l _ l8
  have HU0 := Lib.hid (fun W (h : Tk W t l s) => show Calls Try.prog 37 #[.pointer (some ⟨t, 0, none⟩), .int .u64 1099511627776] W fun r w' => r = .returned (.int .i64 ((o0 l s).1 : Int)) ∧ Tk w' t l (o0 l s).2 ∧ Sq.Kept (fun k => k ≠ t) W w' from by rw [o0_eq]; exact unsigned_any t l s 1099511627776 1099511627776 rfl W h hs hl (by decide))
  have HU1 := Lib.hid (fun W (h : Tk W t l (o0 l s).2) => show Calls Try.prog 37 #[.pointer (some ⟨t, 0, none⟩), .int .u64 1099511627776] W fun r w' => r = .returned (.int .i64 ((o1 l s).1 : Int)) ∧ Tk w' t l (o1 l s).2 ∧ Sq.Kept (fun k => k ≠ t) W w' from by rw [o1_eq]; exact unsigned_any t l _ 1099511627776 1099511627776 rfl W h l0 hl (by decide))
  have HU2 := Lib.hid (fun W (h : Tk W t l (o1 l s).2) => show Calls Try.prog 37 #[.pointer (some ⟨t, 0, none⟩), .int .u64 1099511627776] W fun r w' => r = .returned (.int .i64 ((o2 l s).1 : Int)) ∧ Tk w' t l (o2 l s).2 ∧ Sq.Kept (fun k => k ≠ t) W w' from by rw [o2_eq]; exact unsigned_any t l _ 1099511627776 1099511627776 rfl W h l1 hl (by decide))
  have HU3 := Lib.hid (fun W (h : Tk W t l (o2 l s).2) => show Calls Try.prog 37 #[.pointer (some ⟨t, 0, none⟩), .int .u64 1099511627776] W fun r w' => r = .returned (.int .i64 ((o3 l s).1 : Int)) ∧ Tk w' t l (o3 l s).2 ∧ Sq.Kept (fun k => k ≠ t) W w' from by rw [o3_eq]; exact unsigned_any t l _ 1099511627776 1099511627776 rfl W h l2 hl (by decide))
  have HU4 := Lib.hid (fun W (h : Tk W t l (o3 l s).2) => show Calls Try.prog 37 #[.pointer (some ⟨t, 0, none⟩), .int .u64 1099511627776] W fun r w' => r = .returned (.int .i64 ((o4 l s).1 : Int)) ∧ Tk w' t l (o4 l s).2 ∧ Sq.Kept (fun k => k ≠ t) W w' from by rw [o4_eq]; exact unsigned_any t l _ 1099511627776 1099511627776 rfl W h l3 hl (by decide))
  have HU5 := Lib.hid (fun W (h : Tk W t l (o4 l s).2) => show Calls Try.prog 37 #[.pointer (some ⟨t, 0, none⟩), .int .u64 1099511627776] W fun r w' => r = .returned (.int .i64 ((o5 l s).1 : Int)) ∧ Tk w' t l (o5 l s).2 ∧ Sq.Kept (fun k => k ≠ t) W w' from by rw [o5_eq]; exact unsigned_any t l _ 1099511627776 1099511627776 rfl W h l4 hl (by decide))
  have HU6 := Lib.hid (fun W (h : Tk W t l (o5 l s).2) => show Calls Try.prog 37 #[.pointer (some ⟨t, 0, none⟩), .int .u64 1099511627776] W fun r w' => r = .returned (.int .i64 ((o6 l s).1 : Int)) ∧ Tk w' t l (o6 l s).2 ∧ Sq.Kept (fun k => k ≠ t) W w' from by rw [o6_eq]; exact unsigned_any t l _ 1099511627776 1099511627776 rfl W h l5 hl (by decide))
  have HU7 := Lib.hid (fun W (h : Tk W t l (o6 l s).2) => show Calls Try.prog 37 #[.pointer (some ⟨t, 0, none⟩), .int .u64 1099511627776] W fun r w' => r = .returned (.int .i64 ((o7 l s).1 : Int)) ∧ Tk w' t l (o7 l s).2 ∧ Sq.Kept (fun k => k ≠ t) W w' from by rw [o7_eq]; exact unsigned_any t l _ 1099511627776 1099511627776 rfl W h l6 hl (by decide))
  have HU8 := Lib.hid (fun W (h : Tk W t l (o7 l s).2) => show Calls Try.prog 37 #[.pointer (some ⟨t, 0, none⟩), .int .u64 1099511627776] W fun r w' => r = .returned (.int .i64 ((o8 l s).1 : Int)) ∧ Tk w' t l (o8 l s).2 ∧ Sq.Kept (fun k => k ≠ t) W w' from by rw [o8_eq]; exact unsigned_any t l _ 1099511627776 1099511627776 rfl W h l7 hl (by decide))
  have HU9 := Lib.hid (fun W (h : Tk W t l (o8 l s).2) => show Calls Try.prog 37 #[.pointer (some ⟨t, 0, none⟩), .int .u64 1099511627776] W fun r w' => r = .returned (.int .i64 ((o9 l s).1 : Int)) ∧ Tk w' t l (o9 l s).2 ∧ Sq.Kept (fun k => k ≠ t) W w' from by rw [o9_eq]; exact unsigned_any t l _ 1099511627776 1099511627776 rfl W h l8 hl (by decide))
  have HUN := Lib.hid (fun W (h : Tk W t l (o9 l s).2) => show Calls Try.prog 54 #[.pointer (some ⟨t, 0, none⟩)] W fun r w' => r = .returned (.int .i64 (oN l s).1) ∧ Tk w' t l (oN l s).2 ∧ Sq.Kept (fun k => k ≠ t) W w' from by rw [oN_eq]; exact signed_any t l _ W h l9 hl)
  clear l0 l1 l2 l3 l4 l5 l6 l7 l8 l9 hs
  generalize oN l s = yN at *
  generalize o9 l s = y9 at *
  generalize o8 l s = y8 at *
  generalize o7 l s = y7 at *
  generalize o6 l s = y6 at *
  generalize o5 l s = y5 at *
  generalize o4 l s = y4 at *
  generalize o3 l s = y3 at *
  generalize o2 l s = y2 at *
  generalize o1 l s = y1 at *
  generalize o0 l s = y0 at *
  obtain ⟨a0, z0⟩ := y0
  obtain ⟨a1, z1⟩ := y1
  obtain ⟨a2, z2⟩ := y2
  obtain ⟨a3, z3⟩ := y3
  obtain ⟨a4, z4⟩ := y4
  obtain ⟨a5, z5⟩ := y5
  obtain ⟨a6, z6⟩ := y6
  obtain ⟨a7, z7⟩ := y7
  obtain ⟨a8, z8⟩ := y8
  obtain ⟨a9, z9⟩ := y9
  obtain ⟨aN, zN⟩ := yN
  simp only at hrd HU0 HU1 HU2 HU3 HU4 HU5 HU6 HU7 HU8 HU9 HUN
  have hne : w.heap.size ≠ t := by omega
  have HTA := Lib.hid (show Tk (w.alloc (.cells #[.int .i64 0, .int .i64 0, .int .i64 0, .int .i64 0, .int .i64 0, .int .i64 0, .int .i64 0, .int .i64 0, .int .i64 0, .int .i64 0, .int .i64 0] 54)) t l s from Ob.Obj.alloc h _)
  have OR := Lib.hid (Ob.Obj.new w 54 [.int .i64 0, .int .i64 0, .int .i64 0, .int .i64 0, .int .i64 0, .int .i64 0, .int .i64 0, .int .i64 0, .int .i64 0, .int .i64 0, .int .i64 0])
  have HK0 := Lib.hid (show Sq.Kept (KT w t) w (w.alloc (.cells #[.int .i64 0, .int .i64 0, .int .i64 0, .int .i64 0, .int .i64 0, .int .i64 0, .int .i64 0, .int .i64 0, .int .i64 0, .int .i64 0, .int .i64 0] 54)) from Sq.Kept.alloc _ _ _)
  have hs0 : (w.alloc (.cells #[.int .i64 0, .int .i64 0, .int .i64 0, .int .i64 0, .int .i64 0, .int .i64 0, .int .i64 0, .int .i64 0, .int .i64 0, .int .i64 0, .int .i64 0] 54)).heap.size = w.heap.size + 1 := by simp
  have HRD := Lib.hid hrd
  clear h hrd
  have I0 : Hid (∀ (bb : Nat) (w : World), (Instr.index 88 (.agg #[.pointer (some ⟨bb, 1, none⟩), .pointer (some ⟨bb, 2, none⟩), .pointer (some ⟨bb, 3, none⟩), .pointer (some ⟨bb, 4, none⟩), .pointer (some ⟨bb, 5, none⟩), .pointer (some ⟨bb, 6, none⟩), .pointer (some ⟨bb, 7, none⟩), .pointer (some ⟨bb, 8, none⟩)]) (.int .i64 0)).run Try.prog w = .ok (.pointer (some ⟨bb, 1, none⟩)) w) := fun _ _ => by kernel_rfl
  have I1 : Hid (∀ (bb : Nat) (w : World), (Instr.index 88 (.agg #[.pointer (some ⟨bb, 1, none⟩), .pointer (some ⟨bb, 2, none⟩), .pointer (some ⟨bb, 3, none⟩), .pointer (some ⟨bb, 4, none⟩), .pointer (some ⟨bb, 5, none⟩), .pointer (some ⟨bb, 6, none⟩), .pointer (some ⟨bb, 7, none⟩), .pointer (some ⟨bb, 8, none⟩)]) (.int .i64 1)).run Try.prog w = .ok (.pointer (some ⟨bb, 2, none⟩)) w) := fun _ _ => by kernel_rfl
  have I2 : Hid (∀ (bb : Nat) (w : World), (Instr.index 88 (.agg #[.pointer (some ⟨bb, 1, none⟩), .pointer (some ⟨bb, 2, none⟩), .pointer (some ⟨bb, 3, none⟩), .pointer (some ⟨bb, 4, none⟩), .pointer (some ⟨bb, 5, none⟩), .pointer (some ⟨bb, 6, none⟩), .pointer (some ⟨bb, 7, none⟩), .pointer (some ⟨bb, 8, none⟩)]) (.int .i64 2)).run Try.prog w = .ok (.pointer (some ⟨bb, 3, none⟩)) w) := fun _ _ => by kernel_rfl
  have I3 : Hid (∀ (bb : Nat) (w : World), (Instr.index 88 (.agg #[.pointer (some ⟨bb, 1, none⟩), .pointer (some ⟨bb, 2, none⟩), .pointer (some ⟨bb, 3, none⟩), .pointer (some ⟨bb, 4, none⟩), .pointer (some ⟨bb, 5, none⟩), .pointer (some ⟨bb, 6, none⟩), .pointer (some ⟨bb, 7, none⟩), .pointer (some ⟨bb, 8, none⟩)]) (.int .i64 3)).run Try.prog w = .ok (.pointer (some ⟨bb, 4, none⟩)) w) := fun _ _ => by kernel_rfl
  have I4 : Hid (∀ (bb : Nat) (w : World), (Instr.index 88 (.agg #[.pointer (some ⟨bb, 1, none⟩), .pointer (some ⟨bb, 2, none⟩), .pointer (some ⟨bb, 3, none⟩), .pointer (some ⟨bb, 4, none⟩), .pointer (some ⟨bb, 5, none⟩), .pointer (some ⟨bb, 6, none⟩), .pointer (some ⟨bb, 7, none⟩), .pointer (some ⟨bb, 8, none⟩)]) (.int .i64 4)).run Try.prog w = .ok (.pointer (some ⟨bb, 5, none⟩)) w) := fun _ _ => by kernel_rfl
  have I5 : Hid (∀ (bb : Nat) (w : World), (Instr.index 88 (.agg #[.pointer (some ⟨bb, 1, none⟩), .pointer (some ⟨bb, 2, none⟩), .pointer (some ⟨bb, 3, none⟩), .pointer (some ⟨bb, 4, none⟩), .pointer (some ⟨bb, 5, none⟩), .pointer (some ⟨bb, 6, none⟩), .pointer (some ⟨bb, 7, none⟩), .pointer (some ⟨bb, 8, none⟩)]) (.int .i64 5)).run Try.prog w = .ok (.pointer (some ⟨bb, 6, none⟩)) w) := fun _ _ => by kernel_rfl
  have I6 : Hid (∀ (bb : Nat) (w : World), (Instr.index 88 (.agg #[.pointer (some ⟨bb, 1, none⟩), .pointer (some ⟨bb, 2, none⟩), .pointer (some ⟨bb, 3, none⟩), .pointer (some ⟨bb, 4, none⟩), .pointer (some ⟨bb, 5, none⟩), .pointer (some ⟨bb, 6, none⟩), .pointer (some ⟨bb, 7, none⟩), .pointer (some ⟨bb, 8, none⟩)]) (.int .i64 6)).run Try.prog w = .ok (.pointer (some ⟨bb, 7, none⟩)) w) := fun _ _ => by kernel_rfl
  have I7 : Hid (∀ (bb : Nat) (w : World), (Instr.index 88 (.agg #[.pointer (some ⟨bb, 1, none⟩), .pointer (some ⟨bb, 2, none⟩), .pointer (some ⟨bb, 3, none⟩), .pointer (some ⟨bb, 4, none⟩), .pointer (some ⟨bb, 5, none⟩), .pointer (some ⟨bb, 6, none⟩), .pointer (some ⟨bb, 7, none⟩), .pointer (some ⟨bb, 8, none⟩)]) (.int .i64 7)).run Try.prog w = .ok (.pointer (some ⟨bb, 8, none⟩)) w) := fun _ _ => by kernel_rfl
  go_enter Try.func39, Try.ntmps39
  go_wp2_with (go_at_call 37; (with_reducible refine (HU0.out _ HTA.out).mono ?_); rintro e w1 ⟨rfl, hT1, hk1⟩; have hz1 : w.heap.size + 1 ≤ w1.heap.size := Nat.le_trans (Nat.le_of_eq hs0.symm) hk1.size; have oR1 := OR.out.kept hk1 hne; have HK1 := Lib.hid (HK0.out.trans (hk1.less (fun k hk _ => hk.2))))
  have HS0 := Lib.hid (show DO 69 w t w1.heap.size [(.int .i64 (a0 : Int)), .int .i64 0, .int .i64 0, .int .i64 0, .int .i64 0, .int .i64 0, .int .i64 0, .int .i64 0, .int .i64 0, .int .i64 0, .int .i64 0] [.string (Cd.bs l), .int .i64 (z0.1 : Int), .int .i64 (z0.2 : Int)] (w1.alloc (.cells #[(.int .i64 (a0 : Int)), .int .i64 0, .int .i64 0, .int .i64 0, .int .i64 0, .int .i64 0, .int .i64 0, .int .i64 0, .int .i64 0, .int .i64 0, .int .i64 0] 54)) from ⟨Ob.Obj.new w1 54 [(.int .i64 (a0 : Int)), .int .i64 0, .int .i64 0, .int .i64 0, .int .i64 0, .int .i64 0, .int .i64 0, .int .i64 0, .int .i64 0, .int .i64 0, .int .i64 0], Ob.Obj.alloc hT1 _, oR1.alloc _, HK1.out.trans (Sq.Kept.alloc _ _ _), by omega, ht⟩)
  have hbb : w.heap.size < w1.heap.size := by omega
  clear hT1 hk1 oR1 HK1 HTA OR HK0 hs0 hz1
  have i0 := I0.out w1.heap.size
  have i1 := I1.out w1.heap.size
  have i2 := I2.out w1.heap.size
  have i3 := I3.out w1.heap.size
  have i4 := I4.out w1.heap.size
  have i5 := I5.out w1.heap.size
  have i6 := I6.out w1.heap.size
  have i7 := I7.out w1.heap.size
  clear I0 I1 I2 I3 I4 I5 I6 I7
  generalize w1.heap.size = bb at *
  go_loopw [18] (fun i wr => ∃ q : Nat, q ≤ 8 ∧ i = .int .i64 (q : Int) ∧ Hid (DO 69 w t bb (.int .i64 (a0 : Int) :: ((([a1, a2, a3, a4, a5, a6, a7, a8].take q).map (fun (a : Nat) => Value.int .i64 (a : Int))) ++ List.replicate (8 - q) (.int .i64 0) ++ [.int .i64 0, .int .i64 0])) [.string (Cd.bs l), .int .i64 ((([z0, z1, z2, z3, z4, z5, z6, z7, z8].getD q (0, 0)).1 : Nat) : Int), .int .i64 ((([z0, z1, z2, z3, z4, z5, z6, z7, z8].getD q (0, 0)).2 : Nat) : Int)] wr)) (fun i _ => 8 - (intOf i).toNat)
  case atStart => exact ⟨0, Nat.zero_le _, rfl, HS0.out⟩
  case round =>
    clear HS0
    obtain ⟨q, hq, rfl, hS⟩ := hrel
    obtain ⟨wo, rfl⟩ : ∃ wo : World, wo = wr := ⟨_, rfl⟩
    have h9 : q = 0 ∨ q = 1 ∨ q = 2 ∨ q = 3 ∨ q = 4 ∨ q = 5 ∨ q = 6 ∨ q = 7 ∨ q = 8 := by omega
    rcases h9 with rfl | rfl | rfl | rfl | rfl | rfl | rfl | rfl | rfl
    · have HS := Lib.hid (show DO 69 w t bb [(.int .i64 (a0 : Int)), .int .i64 0, .int .i64 0, .int .i64 0, .int .i64 0, .int .i64 0, .int .i64 0, .int .i64 0, .int .i64 0, .int .i64 0, .int .i64 0] [.string (Cd.bs l), .int .i64 (z0.1 : Int), .int .i64 (z0.2 : Int)] wo from hS.out)
      have HT : Hid (Tk wo t l z0) := HS.out.tk
      clear hS
      go_wp2_with (go_at_call 37; (with_reducible refine (HU1.out _ HT.out).mono ?_); rintro e w2 ⟨rfl, hT2, hk2⟩; have HS2 := Lib.hid (HS.out.call hk2 hT2); have c := HS2.out.box.cell 1; have f := HS2.out.box.frozen 1; have hz := HS2.out.box.lt; simp at c; have HS3 := Lib.hid (HS2.out.set 1 (.int .i64 (a1 : Int))))
      go_roundw
      case rel => exact ⟨1, by omega, by go_num, HS3.out⟩
      case measure => simp [intOf]
    · have HS := Lib.hid (show DO 69 w t bb [(.int .i64 (a0 : Int)), (.int .i64 (a1 : Int)), .int .i64 0, .int .i64 0, .int .i64 0, .int .i64 0, .int .i64 0, .int .i64 0, .int .i64 0, .int .i64 0, .int .i64 0] [.string (Cd.bs l), .int .i64 (z1.1 : Int), .int .i64 (z1.2 : Int)] wo from hS.out)
      have HT : Hid (Tk wo t l z1) := HS.out.tk
      clear hS
      go_wp2_with (go_at_call 37; (with_reducible refine (HU2.out _ HT.out).mono ?_); rintro e w2 ⟨rfl, hT2, hk2⟩; have HS2 := Lib.hid (HS.out.call hk2 hT2); have c := HS2.out.box.cell 2; have f := HS2.out.box.frozen 2; have hz := HS2.out.box.lt; simp at c; have HS3 := Lib.hid (HS2.out.set 2 (.int .i64 (a2 : Int))))
      go_roundw
      case rel => exact ⟨2, by omega, by go_num, HS3.out⟩
      case measure => simp [intOf]
    · have HS := Lib.hid (show DO 69 w t bb [(.int .i64 (a0 : Int)), (.int .i64 (a1 : Int)), (.int .i64 (a2 : Int)), .int .i64 0, .int .i64 0, .int .i64 0, .int .i64 0, .int .i64 0, .int .i64 0, .int .i64 0, .int .i64 0] [.string (Cd.bs l), .int .i64 (z2.1 : Int), .int .i64 (z2.2 : Int)] wo from hS.out)
      have HT : Hid (Tk wo t l z2) := HS.out.tk
      clear hS
      go_wp2_with (go_at_call 37; (with_reducible refine (HU3.out _ HT.out).mono ?_); rintro e w2 ⟨rfl, hT2, hk2⟩; have HS2 := Lib.hid (HS.out.call hk2 hT2); have c := HS2.out.box.cell 3; have f := HS2.out.box.frozen 3; have hz := HS2.out.box.lt; simp at c; have HS3 := Lib.hid (HS2.out.set 3 (.int .i64 (a3 : Int))))
      go_roundw
      case rel => exact ⟨3, by omega, by go_num, HS3.out⟩
      case measure => simp [intOf]
    · have HS := Lib.hid (show DO 69 w t bb [(.int .i64 (a0 : Int)), (.int .i64 (a1 : Int)), (.int .i64 (a2 : Int)), (.int .i64 (a3 : Int)), .int .i64 0, .int .i64 0, .int .i64 0, .int .i64 0, .int .i64 0, .int .i64 0, .int .i64 0] [.string (Cd.bs l), .int .i64 (z3.1 : Int), .int .i64 (z3.2 : Int)] wo from hS.out)
      have HT : Hid (Tk wo t l z3) := HS.out.tk
      clear hS
      go_wp2_with (go_at_call 37; (with_reducible refine (HU4.out _ HT.out).mono ?_); rintro e w2 ⟨rfl, hT2, hk2⟩; have HS2 := Lib.hid (HS.out.call hk2 hT2); have c := HS2.out.box.cell 4; have f := HS2.out.box.frozen 4; have hz := HS2.out.box.lt; simp at c; have HS3 := Lib.hid (HS2.out.set 4 (.int .i64 (a4 : Int))))
      go_roundw
      case rel => exact ⟨4, by omega, by go_num, HS3.out⟩
      case measure => simp [intOf]
    · have HS := Lib.hid (show DO 69 w t bb [(.int .i64 (a0 : Int)), (.int .i64 (a1 : Int)), (.int .i64 (a2 : Int)), (.int .i64 (a3 : Int)), (.int .i64 (a4 : Int)), .int .i64 0, .int .i64 0, .int .i64 0, .int .i64 0, .int .i64 0, .int .i64 0] [.string (Cd.bs l), .int .i64 (z4.1 : Int), .int .i64 (z4.2 : Int)] wo from hS.out)
      have HT : Hid (Tk wo t l z4) := HS.out.tk
      clear hS
      go_wp2_with (go_at_call 37; (with_reducible refine (HU5.out _ HT.out).mono ?_); rintro e w2 ⟨rfl, hT2, hk2⟩; have HS2 := Lib.hid (HS.out.call hk2 hT2); have c := HS2.out.box.cell 5; have f := HS2.out.box.frozen 5; have hz := HS2.out.box.lt; simp at c; have HS3 := Lib.hid (HS2.out.set 5 (.int .i64 (a5 : Int))))
      go_roundw
      case rel => exact ⟨5, by omega, by go_num, HS3.out⟩
      case measure => simp [intOf]
    · have HS := Lib.hid (show DO 69 w t bb [(.int .i64 (a0 : Int)), (.int .i64 (a1 : Int)), (.int .i64 (a2 : Int)), (.int .i64 (a3 : Int)), (.int .i64 (a4 : Int)), (.int .i64 (a5 : Int)), .int .i64 0, .int .i64 0, .int .i64 0, .int .i64 0, .int .i64 0] [.string (Cd.bs l), .int .i64 (z5.1 : Int), .int .i64 (z5.2 : Int)] wo from hS.out)
      have HT : Hid (Tk wo t l z5) := HS.out.tk
      clear hS
      go_wp2_with (go_at_call 37; (with_reducible refine (HU6.out _ HT.out).mono ?_); rintro e w2 ⟨rfl, hT2, hk2⟩; have HS2 := Lib.hid (HS.out.call hk2 hT2); have c := HS2.out.box.cell 6; have f := HS2.out.box.frozen 6; have hz := HS2.out.box.lt; simp at c; have HS3 := Lib.hid (HS2.out.set 6 (.int .i64 (a6 : Int))))
      go_roundw
      case rel => exact ⟨6, by omega, by go_num, HS3.out⟩
      case measure => simp [intOf]
    · have HS := Lib.hid (show DO 69 w t bb [(.int .i64 (a0 : Int)), (.int .i64 (a1 : Int)), (.int .i64 (a2 : Int)), (.int .i64 (a3 : Int)), (.int .i64 (a4 : Int)), (.int .i64 (a5 : Int)), (.int .i64 (a6 : Int)), .int .i64 0, .int .i64 0, .int .i64 0, .int .i64 0] [.string (Cd.bs l), .int .i64 (z6.1 : Int), .int .i64 (z6.2 : Int)] wo from hS.out)
      have HT : Hid (Tk wo t l z6) := HS.out.tk
      clear hS
      go_wp2_with (go_at_call 37; (with_reducible refine (HU7.out _ HT.out).mono ?_); rintro e w2 ⟨rfl, hT2, hk2⟩; have HS2 := Lib.hid (HS.out.call hk2 hT2); have c := HS2.out.box.cell 7; have f := HS2.out.box.frozen 7; have hz := HS2.out.box.lt; simp at c; have HS3 := Lib.hid (HS2.out.set 7 (.int .i64 (a7 : Int))))
      go_roundw
      case rel => exact ⟨7, by omega, by go_num, HS3.out⟩
      case measure => simp [intOf]
    · have HS := Lib.hid (show DO 69 w t bb [(.int .i64 (a0 : Int)), (.int .i64 (a1 : Int)), (.int .i64 (a2 : Int)), (.int .i64 (a3 : Int)), (.int .i64 (a4 : Int)), (.int .i64 (a5 : Int)), (.int .i64 (a6 : Int)), (.int .i64 (a7 : Int)), .int .i64 0, .int .i64 0, .int .i64 0] [.string (Cd.bs l), .int .i64 (z7.1 : Int), .int .i64 (z7.2 : Int)] wo from hS.out)
      have HT : Hid (Tk wo t l z7) := HS.out.tk
      clear hS
      go_wp2_with (go_at_call 37; (with_reducible refine (HU8.out _ HT.out).mono ?_); rintro e w2 ⟨rfl, hT2, hk2⟩; have HS2 := Lib.hid (HS.out.call hk2 hT2); have c := HS2.out.box.cell 8; have f := HS2.out.box.frozen 8; have hz := HS2.out.box.lt; simp at c; have HS3 := Lib.hid (HS2.out.set 8 (.int .i64 (a8 : Int))))
      go_roundw
      case rel => exact ⟨8, by omega, by go_num, HS3.out⟩
      case measure => simp [intOf]
    · have HS := Lib.hid (show DO 69 w t bb [(.int .i64 (a0 : Int)), (.int .i64 (a1 : Int)), (.int .i64 (a2 : Int)), (.int .i64 (a3 : Int)), (.int .i64 (a4 : Int)), (.int .i64 (a5 : Int)), (.int .i64 (a6 : Int)), (.int .i64 (a7 : Int)), (.int .i64 (a8 : Int)), .int .i64 0, .int .i64 0] [.string (Cd.bs l), .int .i64 (z8.1 : Int), .int .i64 (z8.2 : Int)] wo from hS.out)
      have HT : Hid (Tk wo t l z8) := HS.out.tk
      clear hS i0 i1 i2 i3 i4 i5 i6 i7
      go_wp2_with (first
        | (go_at_call 37; (with_reducible refine (HU9.out _ HT.out).mono ?_); rintro e w2 ⟨rfl, hT2, hk2⟩; have HS2 := Lib.hid (HS.out.call hk2 hT2))
        | (go_at_call 54; (with_reducible refine (HUN.out _ hT2).mono ?_); rintro e w3 ⟨rfl, hT3, hk3⟩; have HS3 := Lib.hid (HS2.out.call hk3 hT3); have b0 := HS3.out.box.cell 0; have b1 := HS3.out.box.cell 1; have b2 := HS3.out.box.cell 2; have b3 := HS3.out.box.cell 3; have b4 := HS3.out.box.cell 4; have b5 := HS3.out.box.cell 5; have b6 := HS3.out.box.cell 6; have b7 := HS3.out.box.cell 7; have b8 := HS3.out.box.cell 8; have b9 := HS3.out.box.cell 9; have b10 := HS3.out.box.cell 10; have r0 := HS3.out.res.cell 0; have r1 := HS3.out.res.cell 1; have r2 := HS3.out.res.cell 2; have r3 := HS3.out.res.cell 3; have r4 := HS3.out.res.cell 4; have r5 := HS3.out.res.cell 5; have r6 := HS3.out.res.cell 6; have r7 := HS3.out.res.cell 7; have r8 := HS3.out.res.cell 8; have r9 := HS3.out.res.cell 9; have r10 := HS3.out.res.cell 10; have g0 := HS3.out.res.frozen 0; have g1 := HS3.out.res.frozen 1; have g2 := HS3.out.res.frozen 2; have g3 := HS3.out.res.frozen 3; have g4 := HS3.out.res.frozen 4; have g5 := HS3.out.res.frozen 5; have g6 := HS3.out.res.frozen 6; have g7 := HS3.out.res.frozen 7; have g8 := HS3.out.res.frozen 8; have g9 := HS3.out.res.frozen 9; have g10 := HS3.out.res.frozen 10; have f9 := HS3.out.box.frozen 9; have f10 := HS3.out.box.frozen 10; have hz := HS3.out.box.lt; have hrz := HS3.out.res.lt; simp at b0 b1 b2 b3 b4 b5 b6 b7 b8 b9 b10 r0 r1 r2 r3 r4 r5 r6 r7 r8 r9 r10; have HS4 := Lib.hid ((HS3.out.set 9 (.int .i64 (a9 : Int))).set 10 (.int .i64 aN))))
      refine bodyPost_ret (v := .agg #[.int .i64 (a0 : Int), .int .i64 (a1 : Int), .int .i64 (a2 : Int), .int .i64 (a3 : Int), .int .i64 (a4 : Int), .int .i64 (a5 : Int), .int .i64 (a6 : Int), .int .i64 (a7 : Int), .int .i64 (a8 : Int), .int .i64 (a9 : Int), .int .i64 aN]) (by simp [results, Try.results39, go_sem, r0, r1, r2, r3, r4, r5, r6, r7, r8, r9, r10, hrz]) rfl ?_
      rw [HRD.out]
      exact HS4.out.out ⟨(a0 : Int), (a1 : Int), (a2 : Int), (a3 : Int), (a4 : Int), (a5 : Int), (a6 : Int), (a7 : Int), (a8 : Int), (a9 : Int), aN⟩ _ rfl _ _ _ _ _ _ _ _ _ _ _
end Co
end Go.Proofs.Ytfkfckohajpcfaa

/-
  Programs that a call has read: rows of its own; what Decode leaves.
-/
namespace Go.Proofs.Ytfkfckohajpcfaa
open Go.RowKit
set_option linter.unusedSimpArgs false
set_option linter.unusedVariables false
theorem info_Func13 : (Try.prog.info? 52).map (fun i => (i.zero, i.size, i.bytes)) = some (some (.agg #[.int .i64 0, .int .i64 0, .slice none 0 0]), 3, 40) := by kernel_rfl
theorem info_Opts13 : (Try.prog.info? 54).map (fun i => (i.zero, i.size, i.bytes)) = some (some (.agg #[.int .i64 0, .int .i64 0, .int .i64 0, .int .i64 0, .int .i64 0, .int .i64 0, .int .i64 0, .int .i64 0, .int .i64 0, .int .i64 0, .int .i64 0]), 11, 88) := by kernel_rfl
namespace Co
theorem lower13 {W : World} {B B' : Nat} {e : TypeId} {sz m : Nat} {v : Value} {xs : List Value} (h : W.ownsRow B e sz v m xs) (hB : B' ≤ B) : W.ownsRow B' e sz v m xs := by
  rcases h with ⟨h0, h1 | ⟨g, cap, cur, h1, h2, h3, h4⟩⟩
  · exact ⟨h0, .inl h1⟩
  · exact ⟨h0, .inr ⟨g, cap, cur, h1, Nat.le_trans hB h2, h3, h4⟩⟩
def fC (x : Fn × Value) : List Value := [.int .i64 x.1.kind, .int .i64 x.1.name, x.2]
def fcs (L : List (Fn × Value)) : List Value := L.flatMap fC
def pcs13 (L : List Opt) : List Value := L.flatMap optC
theorem fcs_snoc (L : List (Fn × Value)) (x : Fn × Value) : fcs (L ++ [x]) = fcs L ++ fC x := by simp [fcs]
theorem pcs13_snoc (L : List Opt) (x : Opt) : pcs13 (L ++ [x]) = pcs13 L ++ optC x := by simp [pcs13]
theorem own_cells {W : World} {B : Nat} {te : TypeId} {v : Value} {α : Type} {f : α → List Value} {sz : Nat} (hf : ∀ x, (f x).length = sz) {L : List α} (h : W.ownsRow B te sz v L.length (L.flatMap f)) :
    ∃ (a : Option Addr) (cap b : Nat), v = .slice a L.length cap ∧ (0 < L.length → a = some ⟨b, 0, none⟩ ∧ b < W.heap.size) ∧ ∀ j (hj : j < L.length) k, k < sz → W.cell? ⟨b, 0 + j * sz + k, none⟩ = (f L[j])[k]? := by
  obtain ⟨a, cap, b, rfl, _, _, h3⟩ := Gn.row_at h
  refine ⟨a, cap, b, rfl, fun h => ⟨(h3 h).1, (h3 h).2.2.1⟩, fun j hj k hk => ?_⟩
  obtain ⟨_, _, _, hc⟩ := h3 (by omega)
  have hlt : j * sz + k < L.length * sz := by
    have : (j + 1) * sz ≤ L.length * sz := Nat.mul_le_mul_right _ hj
    rw [Nat.add_mul] at this
    omega
  rw [Nat.zero_add, hc (j * sz + k) hlt]
  have := Gn.flatten_get (sz := sz) (L.map f) (fun i hi => by simp [hf]) j (by simpa using hj) k hk
  rw [List.flatMap_def, this]
  simp
theorem ops_of_own {W : World} {B : Nat} {v : Value} {L : List Op2} (h : W.ownsRow B 59 2 v L.length (ocs L)) : Ops W.heap.size W v L := by
  obtain ⟨a, cap, b, rfl, h1, h2⟩ := own_cells (f := oC) (sz := 2) (fun _ => rfl) h
  refine ⟨a, cap, b, 0, rfl, h1, fun j hj => ⟨h2 j hj 0 (by decide), h2 j hj 1 (by decide)⟩⟩
theorem opts_of_own {W : World} {B : Nat} {v : Value} {L : List Opt} (h : W.ownsRow B 54 11 v L.length (pcs13 L)) : Opts W.heap.size W v L := by
  obtain ⟨a, cap, b, rfl, h1, h2⟩ := own_cells (f := optC) (sz := 11) (fun _ => rfl) h
  exact ⟨a, cap, b, 0, rfl, h1, h2⟩
theorem fns_of_own {W : World} {B : Nat} {v : Value} {L : List (Fn × Value)} (h : W.ownsRow B 52 3 v L.length (fcs L)) (he : ∀ x ∈ L, Ops W.heap.size W x.2 x.1.ops) : Fns W.heap.size W v (L.map (·.1)) := by
  obtain ⟨a, cap, b, rfl, h1, h2⟩ := own_cells (f := fC) (sz := 3) (fun _ => rfl) h
  refine ⟨a, cap, b, 0, by rw [List.length_map], fun h0 => h1 (by rwa [List.length_map] at h0), fun j hj => ?_⟩
  rw [List.length_map] at hj
  rw [List.getElem_map]
  exact ⟨h2 j hj 0 (by decide), h2 j hj 1 (by decide), L[j].2, h2 j hj 2 (by decide), he _ (List.getElem_mem hj)⟩
abbrev NL : List Value := [.slice none 0 0, .slice none 0 0]
/-- amid Decode: what is read lies at w's end or above; the reader of type ty in block t -/
structure PD (rc : List Value) (ty : TypeId) (w : World) (t bb : Nat) (LU : List (Fn × Value)) (O : List Opt) (fv ov : Value) (rs : List Value) (W : World) : Prop where
  box : Ob.Obj W bb 27 [fv, ov]
  rowF : W.ownsRow w.heap.size 52 3 fv LU.length (fcs LU)
  each : ∀ x ∈ LU, W.ownsRow w.heap.size 59 2 x.2 x.1.ops.length (ocs x.1.ops)
  rowO : W.ownsRow w.heap.size 54 11 ov O.length (pcs13 O)
  tk : Ob.Obj W t ty rs
  res : Ob.Obj W w.heap.size 27 rc
  be : Below w.heap.size w W
  lt : w.heap.size < bb
  tl : w.heap.size < t
  nb : t ≠ bb
  n1 : ty ≠ 52
  n2 : ty ≠ 59
  n3 : ty ≠ 54
variable {rc : List Value} {ty : TypeId} {w : World} {t bb : Nat} {LU : List (Fn × Value)} {O : List Opt} {fv ov : Value} {rs rs2 : List Value} {W W2 : World}
theorem PD.below (h : PD rc ty w t bb LU O fv ov rs W) (hb : Below W.heap.size W W2) : PD rc ty w t bb LU O fv ov rs W2 :=
  ⟨h.box.below hb, own_below h.rowF hb, fun x hx => own_below (h.each x hx) hb, own_below h.rowO hb, h.tk.below hb, h.res.below hb, h.be.trans (hb.mono h.be.size), h.lt, h.tl, h.nb, h.n1, h.n2, h.n3⟩
theorem PD.call (h : PD rc ty w t bb LU O fv ov rs W) (hk : Sq.Kept (fun k => k ≠ t) W W2) (ht : Ob.Obj W2 t ty rs2) : PD rc ty w t bb LU O fv ov rs2 W2 :=
  have h1 := h.lt
  have h2 := h.tl
  have h3 := h.nb
  ⟨h.box.kept hk (by omega), Sq.row_kept h.rowF hk (fun k hk2 e => by subst e; exact h.tk.not_row h.n1 h.rowF hk2), fun x hx => Sq.row_kept (h.each x hx) hk (fun k hk2 e => by subst e; exact h.tk.not_row h.n2 (h.each x hx) hk2), Sq.row_kept h.rowO hk (fun k hk2 e => by subst e; exact h.tk.not_row h.n3 h.rowO hk2), ht, h.res.kept hk (by omega), h.be.trans (hk.below (B := w.heap.size) (fun k hk => by omega) h.be.size), h1, h2, h3, h.n1, h.n2, h.n3⟩
theorem PD.addF (h : PD rc ty w t bb LU O fv ov rs W) (f : Fn) (u : Value) (hu : W.ownsRow w.heap.size 59 2 u f.ops.length (ocs f.ops)) {v2 : Value} (hown : W2.ownsRow w.heap.size 52 3 v2 (LU.length + 1) (fcs LU ++ fC (f, u))) (hg : W.grownBy W2 fv.ownBlock) : PD rc ty w t bb (LU ++ [(f, u)]) O v2 ov rs (W2.setCell ⟨bb, 0, none⟩ v2) := by
  have h1 := h.lt
  have h2 := h.tl
  have h3 := h.nb
  have hob : Ob.Obj W2 bb 27 [fv, ov] := h.box.grown hg (h.box.not_row (by decide) h.rowF)
  have keepOp : ∀ {u : Value} {L : List Op2}, W.ownsRow w.heap.size 59 2 u L.length (ocs L) → (W2.setCell ⟨bb, 0, none⟩ v2).ownsRow w.heap.size 59 2 u L.length (ocs L) := fun {u L} hr => by
    have : W2.ownsRow w.heap.size 59 2 u L.length (ocs L) := Sq.row_kept hr (Sq.Kept.grown (T := fun k => u.ownBlock = some k) hg (fun r hr2 e => Ob.rows_apart h.rowF hr (by decide) r hr2 e)) (fun k hk => hk)
    exact Ob.row_other this (p := ⟨bb, 0, none⟩) (hob.not_row (by decide) this) _
  have hO : W2.ownsRow w.heap.size 54 11 ov O.length (pcs13 O) := Sq.row_kept h.rowO (Sq.Kept.grown (T := fun k => ov.ownBlock = some k) hg (fun r hr2 e => Ob.rows_apart h.rowF h.rowO (by decide) r hr2 e)) (fun k hk => hk)
  refine ⟨?_, ?_, ?_, Ob.row_other hO (p := ⟨bb, 0, none⟩) (hob.not_row (by decide) hO) _, Ob.Obj.other (Ob.Obj.grown h.tk hg (Ob.Obj.not_row h.tk h.n1 h.rowF)) (p := ⟨bb, 0, none⟩) h3 _, Ob.Obj.other (h.res.grown hg (h.res.not_row (by decide) h.rowF)) (p := ⟨bb, 0, none⟩) (by show w.heap.size ≠ bb; omega) _, ?_, h1, h2, h3, h.n1, h.n2, h.n3⟩
  · have := hob.set 0 v2
    simpa using this
  · rw [fcs_snoc, List.length_append, List.length_singleton]
    exact Ob.row_other hown (p := ⟨bb, 0, none⟩) (hob.not_row (by decide) hown) _
  · intro x hx
    rcases List.mem_append.1 hx with hx | hx
    · exact keepOp (h.each x hx)
    · simp only [List.mem_singleton] at hx
      subst hx
      exact keepOp hu
  · exact (h.be.grown hg h.be.size (fun k hk => (Ob.row_lt h.rowF hk).1)).setCell (p := ⟨bb, 0, none⟩) (by show w.heap.size ≤ bb; omega) _
theorem PD.addO (h : PD rc ty w t bb LU O fv ov rs W) (o : Opt) {v2 : Value} (hown : W2.ownsRow w.heap.size 54 11 v2 (O.length + 1) (pcs13 O ++ optC o)) (hg : W.grownBy W2 ov.ownBlock) : PD rc ty w t bb LU (O ++ [o]) fv v2 rs (W2.setCell ⟨bb, 1, none⟩ v2) := by
  have h1 := h.lt
  have h2 := h.tl
  have h3 := h.nb
  have hob : Ob.Obj W2 bb 27 [fv, ov] := h.box.grown hg (h.box.not_row (by decide) h.rowO)
  have hF : W2.ownsRow w.heap.size 52 3 fv LU.length (fcs LU) := Sq.row_kept h.rowF (Sq.Kept.grown (T := fun k => fv.ownBlock = some k) hg (fun r hr2 e => Ob.rows_apart h.rowO h.rowF (by decide) r hr2 e)) (fun k hk => hk)
  refine ⟨?_, Ob.row_other hF (p := ⟨bb, 1, none⟩) (hob.not_row (by decide) hF) _, ?_, ?_, Ob.Obj.other (Ob.Obj.grown h.tk hg (Ob.Obj.not_row h.tk h.n3 h.rowO)) (p := ⟨bb, 1, none⟩) h3 _, Ob.Obj.other (h.res.grown hg (h.res.not_row (by decide) h.rowO)) (p := ⟨bb, 1, none⟩) (by show w.heap.size ≠ bb; omega) _, ?_, h1, h2, h3, h.n1, h.n2, h.n3⟩
  · have := hob.set 1 v2
    simpa using this
  · intro x hx
    have hr := h.each x hx
    have : W2.ownsRow w.heap.size 59 2 x.2 x.1.ops.length (ocs x.1.ops) := Sq.row_kept hr (Sq.Kept.grown (T := fun k => x.2.ownBlock = some k) hg (fun r hr2 e => Ob.rows_apart h.rowO hr (by decide) r hr2 e)) (fun k hk => hk)
    exact Ob.row_other this (p := ⟨bb, 1, none⟩) (hob.not_row (by decide) this) _
  · rw [pcs13_snoc, List.length_append, List.length_singleton]
    exact Ob.row_other hown (p := ⟨bb, 1, none⟩) (hob.not_row (by decide) hown) _
  · exact (h.be.grown hg h.be.size (fun k hk => (Ob.row_lt h.rowO hk).1)).setCell (p := ⟨bb, 1, none⟩) (by show w.heap.size ≤ bb; omega) _
theorem PD.setO (h : PD rc ty w t bb LU O fv ov rs W) (L2 : List Opt) {v2 : Value} (hown : W2.ownsRow w.heap.size 54 11 v2 L2.length (pcs13 L2)) (hg : W.grownBy W2 ov.ownBlock) : PD rc ty w t bb LU L2 fv v2 rs (W2.setCell ⟨bb, 1, none⟩ v2) := by
  have h1 := h.lt
  have h2 := h.tl
  have h3 := h.nb
  have hob : Ob.Obj W2 bb 27 [fv, ov] := h.box.grown hg (h.box.not_row (by decide) h.rowO)
  have hF : W2.ownsRow w.heap.size 52 3 fv LU.length (fcs LU) := Sq.row_kept h.rowF (Sq.Kept.grown (T := fun k => fv.ownBlock = some k) hg (fun r hr2 e => Ob.rows_apart h.rowO h.rowF (by decide) r hr2 e)) (fun k hk => hk)
  refine ⟨?_, Ob.row_other hF (p := ⟨bb, 1, none⟩) (hob.not_row (by decide) hF) _, ?_, ?_, Ob.Obj.other (Ob.Obj.grown h.tk hg (Ob.Obj.not_row h.tk h.n3 h.rowO)) (p := ⟨bb, 1, none⟩) h3 _, Ob.Obj.other (h.res.grown hg (h.res.not_row (by decide) h.rowO)) (p := ⟨bb, 1, none⟩) (by show w.heap.size ≠ bb; omega) _, ?_, h1, h2, h3, h.n1, h.n2, h.n3⟩
  · have := hob.set 1 v2
    simpa using this
  · intro x hx
    have hr := h.each x hx
    have : W2.ownsRow w.heap.size 59 2 x.2 x.1.ops.length (ocs x.1.ops) := Sq.row_kept hr (Sq.Kept.grown (T := fun k => x.2.ownBlock = some k) hg (fun r hr2 e => Ob.rows_apart h.rowO hr (by decide) r hr2 e)) (fun k hk => hk)
    exact Ob.row_other this (p := ⟨bb, 1, none⟩) (hob.not_row (by decide) this) _
  · exact Ob.row_other hown (p := ⟨bb, 1, none⟩) (hob.not_row (by decide) hown) _
  · exact (h.be.grown hg h.be.size (fun k hk => (Ob.row_lt h.rowO hk).1)).setCell (p := ⟨bb, 1, none⟩) (by show w.heap.size ≤ bb; omega) _
/-- a store into a block of the call's own that is none of its rows -/
theorem PD.pr (h : PD rc ty w t bb LU O fv ov rs W) : Pr W.heap.size W fv ov ⟨LU.map (·.1), O⟩ :=
  ⟨fns_of_own h.rowF (fun x hx => ops_of_own (h.each x hx)), opts_of_own h.rowO⟩
theorem PD.res2 (h : PD rc ty w t bb LU O fv ov rs W) (x y : Value) : Pr ((W.setCell ⟨w.heap.size, 0, none⟩ x).setCell ⟨w.heap.size, 1, none⟩ y).heap.size ((W.setCell ⟨w.heap.size, 0, none⟩ x).setCell ⟨w.heap.size, 1, none⟩ y) fv ov ⟨LU.map (·.1), O⟩ := by
  have hF := h.res.not_row (show 27 ≠ 52 by decide) h.rowF
  have hO := h.res.not_row (show 27 ≠ 54 by decide) h.rowO
  have rF := Ob.row_other (Ob.row_other h.rowF (p := ⟨w.heap.size, 0, none⟩) hF x) (p := ⟨w.heap.size, 1, none⟩) hF y
  have rO := Ob.row_other (Ob.row_other h.rowO (p := ⟨w.heap.size, 0, none⟩) hO x) (p := ⟨w.heap.size, 1, none⟩) hO y
  refine ⟨fns_of_own rF (fun z hz => ops_of_own (Ob.row_other (Ob.row_other (h.each z hz) (p := ⟨w.heap.size, 0, none⟩) ?_ x) (p := ⟨w.heap.size, 1, none⟩) ?_ y)), opts_of_own rO⟩
  · exact h.res.not_row (by decide) (h.each z hz)
  · exact h.res.not_row (by decide) (h.each z hz)
theorem PD.tk2 (h : PD rc ty w t bb LU O fv ov rs W) (x y : Value) : Pr ((W.setCell ⟨t, 0, none⟩ x).setCell ⟨t, 1, none⟩ y).heap.size ((W.setCell ⟨t, 0, none⟩ x).setCell ⟨t, 1, none⟩ y) fv ov ⟨LU.map (·.1), O⟩ := by
  have hF := h.tk.not_row h.n1 h.rowF
  have hO := h.tk.not_row h.n3 h.rowO
  have rF := Ob.row_other (Ob.row_other h.rowF (p := ⟨t, 0, none⟩) hF x) (p := ⟨t, 1, none⟩) hF y
  have rO := Ob.row_other (Ob.row_other h.rowO (p := ⟨t, 0, none⟩) hO x) (p := ⟨t, 1, none⟩) hO y
  refine ⟨fns_of_own rF (fun z hz => ops_of_own (Ob.row_other (Ob.row_other (h.each z hz) (p := ⟨t, 0, none⟩) ?_ x) (p := ⟨t, 1, none⟩) ?_ y)), opts_of_own rO⟩
  · exact h.tk.not_row h.n2 (h.each z hz)
  · exact h.tk.not_row h.n2 (h.each z hz)
structure PDc (t bb : Nat) (fv ov : Value) (W : World) : Prop where
  b0 : W.cell? ⟨bb, 0, none⟩ = some fv
  b1 : W.cell? ⟨bb, 1, none⟩ = some ov
  f0 : W.frozen? ⟨bb, 0, none⟩ = false
  f1 : W.frozen? ⟨bb, 1, none⟩ = false
  z : bb < W.heap.size
  zt : t < W.heap.size
theorem PD.cells (h : PD rc ty w t bb LU O fv ov rs W) : PDc t bb fv ov W := ⟨h.box.cell 0, h.box.cell 1, h.box.frozen 0, h.box.frozen 1, h.box.lt, h.tk.lt⟩
structure PDr (b : Nat) (W : World) : Prop where
  r0 : W.cell? ⟨b, 0, none⟩ = some (.slice none 0 0)
  r1 : W.cell? ⟨b, 1, none⟩ = some (.slice none 0 0)
  g0 : W.frozen? ⟨b, 0, none⟩ = false
  g1 : W.frozen? ⟨b, 1, none⟩ = false
  z : b < W.heap.size
theorem PD.rcells (h : PD NL ty w t bb LU O fv ov rs W) : PDr w.heap.size W := ⟨h.res.cell 0, h.res.cell 1, h.res.frozen 0, h.res.frozen 1, h.res.lt⟩
/-- what Decode leaves -/
def DecOut13 (d : Prog × Nat × Nat) (w : World) (r : Ending) (w' : World) : Prop :=
  ∃ fv ov, r = .returned (.tuple #[.agg #[fv, ov], .int .i64 (d.2.1 : Int), .int .i64 (d.2.2 : Int)]) ∧ Pr w'.heap.size w' fv ov d.1 ∧ Below w.heap.size w w'
theorem empty_pr (B : Nat) (W : World) : Pr B W (.slice none 0 0) (.slice none 0 0) empty :=
  ⟨⟨none, 0, 0, 0, rfl, fun h => absurd h (Nat.lt_irrefl _), fun j h => absurd h (Nat.not_lt_zero _)⟩, ⟨none, 0, 0, 0, rfl, fun h => absurd h (Nat.lt_irrefl _), fun j h => absurd h (Nat.not_lt_zero _)⟩⟩
theorem read_ok {l : Dat} (h : (qOs l).2.2 = 0) : (⟨(qFs l).1, (qOs l).1⟩ : Prog) = rdP l ∧ rdZ l = (qOs l).2 := by
  have K2 := rdU_rd 8 (by decide)
  obtain ⟨a1, a2⟩ := goA_alike rdFn_rd rdFn_alike l (pF l).1 [] (pF l).2
  have e1 : (qFs l).2 = (pFs l).2 := a1
  have e2 : qO l = pO l := by unfold qO pO; rw [e1]
  obtain ⟨b1, b2⟩ := goA_alike rdOpt_rd (alike_self rdOpt) l (pO l).1 [] (pO l).2
  have e3 : (qOs l).2 = (pOs l).2 := by unfold qOs; rw [e2]; exact b1
  rw [e3] at h
  have e4 : (qOs l).1 = (pOs l).1 := by unfold qOs; rw [e2]; exact b2 h
  have hz2 : (pO l).2.2 = 0 := (goS_sound rdOpt_rd l (pO l).1 [] (pO l).2 (K2.le l _ (goS_le rdFn_rd l _ _ _ ((rdU_rd 16 (by decide)).le l _ (Nat.zero_le _)))) h).1
  have hz3 : (pFs l).2.2 = 0 := K2.well l (pFs l).2 hz2
  have e5 : (qFs l).1 = (pFs l).1 := a2 hz3
  unfold rdP rdZ
  rw [e3, e4, e5]
  exact ⟨rfl, rfl⟩
end Co
end Go.Proofs.Ytfkfckohajpcfaa

/-
  The document's answers on programs (tapestryref13): Operand, Pure, most, options, Find, named, right, Check.
-/
namespace Go.Proofs.Ytfkfckohajpcfaa
open Go.RowKit
set_option linter.unusedSimpArgs false
set_option linter.unusedVariables false
namespace Co

set_option maxRecDepth 100000 in
set_option maxHeartbeats 4000000 in
theorem operandR_any (op : Int) (w : World) :
    Calls Try.prog 12 #[.int .i64 op] w fun e w' => e = .returned (.bool (operandB op)) ∧ w = w' := by
  go_enter Try.func12, Try.ntmps12
  go_wp2_with fail
  all_goals go_ret
  all_goals refine ⟨congrArg (fun b => Ending.returned (.bool b)) ?_, rfl⟩
  all_goals (first | (unfold operandB; simp_all; done) | skip)

set_option maxRecDepth 100000 in
set_option maxHeartbeats 4000000 in
theorem pureR_any (op : Int) (w : World) :
    Calls Try.prog 14 #[.int .i64 op] w fun e w' => e = .returned (.bool (pureB op)) ∧ w = w' := by
  go_enter Try.func14, Try.ntmps14
  go_wp2_with fail
  all_goals go_ret
  all_goals refine ⟨congrArg (fun b => Ending.returned (.bool b)) ?_, rfl⟩
  all_goals (first | (unfold pureB; simp_all; done) | (unfold pureB; rw [decide_eq_false (show ¬ (0:Int) ≤ op by omega)]; simp_all; done) | skip)

set_option maxRecDepth 100000 in
set_option maxHeartbeats 8000000 in
theorem mostR_any (fa oa pa : Option Addr) (nf no nops fc oc pc : Nat) (kind name op : Int) (w : World) :
    Calls Try.prog 47 #[.agg #[.slice fa nf fc, .slice oa no oc], .agg #[.int .i64 kind, .int .i64 name, .slice pa nops pc], .int .i64 op] w fun e w' => e = .returned (.int .i64 (mostOf nf no nops op)) ∧ Below w.heap.size w w' := by
  go_enter Try.func47, Try.ntmps47
  go_wp2_with fail
  all_goals go_ret
  all_goals refine ⟨congrArg (fun b => Ending.returned (.int .i64 b)) ?_, ((Below.refl _ _).alloc (Nat.le_refl _) _).alloc (by simp) _⟩
  all_goals (first | (unfold mostOf; simp_all; done) | skip)
theorem six {W : World} {b : Nat} {T : TypeId} {x0 x1 x2 x3 x4 x5 : Int} (h : Ob.Obj W b T [.int .i64 x0, .int .i64 x1, .int .i64 x2, .int .i64 x3, .int .i64 x4, .int .i64 x5]) (q : Nat) (hq : q < 6) :
    W.cell? ⟨b, q, none⟩ = some (.int .i64 ([x0, x1, x2, x3, x4, x5].getD q 0)) := by
  rw [h.cell q]
  match q, hq with
  | 0, _ => rfl
  | 1, _ => rfl
  | 2, _ => rfl
  | 3, _ => rfl
  | 4, _ => rfl
  | 5, _ => rfl

set_option maxRecDepth 100000 in
set_option maxHeartbeats 8000000 in
theorem optionsR_any (o : Opt) (w : World) (hI : OptIn o) :
    Calls Try.prog 29 #[optV o] w fun e w' => e = .returned (.bool (optB o)) ∧ Below w.heap.size w w' := by
  obtain ⟨qu, st, cl, tt, be, fi, nu, de, mo, tr, ne⟩ := o
  obtain ⟨i0, i1, i2, i3, i4, i5, i6, i7, i8, i9, i10⟩ := hI
  unfold optV optB
  simp only at *
  have oA := (Ob.Obj.new w 54 [.int .i64 qu, .int .i64 st, .int .i64 cl, .int .i64 tt, .int .i64 be, .int .i64 fi, .int .i64 nu, .int .i64 de, .int .i64 mo, .int .i64 tr, .int .i64 ne])
  have HT := Lib.hid (show (waitB st && waitB cl && waitB tt && waitB be && waitB fi && waitB mo) = ([st, cl, tt, be, fi, mo].take 6).all waitB by simp [Bool.and_assoc])
  generalize (waitB st && waitB cl && waitB tt && waitB be && waitB fi && waitB mo) = wb at *
  go_enter Try.func29, Try.ntmps29
  go_wp2_with fail
  have oS := Ob.Obj.new (w.alloc (.cells #[.int .i64 qu, .int .i64 st, .int .i64 cl, .int .i64 tt, .int .i64 be, .int .i64 fi, .int .i64 nu, .int .i64 de, .int .i64 mo, .int .i64 tr, .int .i64 ne] 54)) 2 [.int .i64 st, .int .i64 cl, .int .i64 tt, .int .i64 be, .int .i64 fi, .int .i64 mo]
  rw [show (w.alloc (.cells #[.int .i64 qu, .int .i64 st, .int .i64 cl, .int .i64 tt, .int .i64 be, .int .i64 fi, .int .i64 nu, .int .i64 de, .int .i64 mo, .int .i64 tr, .int .i64 ne] 54)).heap.size = w.heap.size + 1 by simp] at oS
  have HS := Lib.hid (six oS)
  have hws : ∀ x ∈ [st, cl, tt, be, fi, mo], I64 x := by
    intro x hx
    simp only [List.mem_cons, List.not_mem_nil, or_false] at hx
    rcases hx with rfl | rfl | rfl | rfl | rfl | rfl <;> assumption
  have hlen : [st, cl, tt, be, fi, mo].length = 6 := rfl
  generalize hlws : [st, cl, tt, be, fi, mo] = ws at *
  clear hlws oS
  go_loop [4] (fun i => ∃ q : Nat, q ≤ 6 ∧ i = .int .i64 (q : Int) ∧ (ws.take q).all waitB = true) (fun i => 6 - (intOf i).toNat)
  case atStart => exact ⟨0, Nat.zero_le _, rfl, rfl⟩
  case round =>
    obtain ⟨q, hq, rfl, hall⟩ := hrel
    by_cases hlt : q < 6
    · have hlq : q < ws.length := by omega
      have e0 := HS.out q hlt
      have hx := hws ws[q] (List.getElem_mem hlq)
      have hg : ws.getD q 0 = ws[q] := by rw [List.getD_eq_getElem?_getD, List.getElem?_eq_getElem hlq]; rfl
      have hat : (ws.take (q + 1)).all waitB = ((ws.take q).all waitB && waitB ws[q]) := by rw [List.take_succ_eq_append_getElem hlq, List.all_append]; simp
      rw [hall, Bool.true_and] at hat
      have hcut : waitB ws[q] = false → wb = false := by
        intro hf
        rw [HT.out, ← hlen, List.take_length, Bool.eq_false_iff]
        intro ha
        have := List.all_eq_true.1 ha _ (List.getElem_mem hlq)
        rw [hf] at this
        cases this
      rw [hg] at e0
      have HA := Lib.hid hat
      have HC := Lib.hid hcut
      clear hat hcut hall hg
      have hi1 : (0 : Int) ≤ (q : Int) ∧ (q : Int) < 6 := by omega
      obtain ⟨hx1, hx2⟩ := hx
      generalize ws[q] = x at *
      by_cases h0 : 0 ≤ x
      · have h0' : ¬ x < 0 := by omega
        by_cases h1 : x ≤ 1048576
        · have h1' : ¬ 1048576 < x := by omega
          have HW := Lib.hid (show waitB x = true by unfold waitB; simp [h0, h1])
          go_wp2_with fail
          go_round
          case rel => exact ⟨q + 1, by omega, by go_num, by rw [HA.out, HW.out]⟩
          case measure => simp [intOf]; omega
        · have h1' : 1048576 < x := by omega
          have hF := HC.out (by unfold waitB; simp [h1])
          subst hF
          clear h1
          go_wp2_with fail
          go_ret
          exact ⟨rfl, ((Below.refl _ _).alloc (Nat.le_refl _) _).alloc (by simp) _⟩
      · have h0' : x < 0 := by omega
        have hF := HC.out (by unfold waitB; simp [h0])
        subst hF
        clear h0
        go_wp2_with fail
        go_ret
        exact ⟨rfl, ((Below.refl _ _).alloc (Nat.le_refl _) _).alloc (by simp) _⟩
    · obtain rfl : q = 6 := by omega
      have hw := HT.out
      rw [hall] at hw
      subst hw
      clear HT HS hall hws hlen
      go_wp2_with fail
      all_goals go_ret
      all_goals refine ⟨congrArg (fun b => Ending.returned (.bool b)) ?_, ((Below.refl _ _).alloc (Nat.le_refl _) _).alloc (by simp) _⟩
      all_goals (first | (simp_all; done) | (simp_all; intros; omega) | skip)

theorem find_some {L : List Fn} {kind name : Int} {q : Nat} (hq : q < L.length) (hall : ∀ j (h : j < L.length), j < q → isB kind name L[j] = false) (h : isB kind name L[q] = true) : find L kind name = (q : Int) := by
  unfold find
  have : L.findIdx? (isB kind name) = some q := by
    rw [List.findIdx?_eq_some_iff_getElem]
    exact ⟨hq, h, fun j hj => by rw [hall j (by omega) hj]; simp⟩
  rw [this]
theorem find_none {L : List Fn} {kind name : Int} (hall : ∀ j (h : j < L.length), isB kind name L[j] = false) : find L kind name = -1 := by
  unfold find
  have : L.findIdx? (isB kind name) = none := by
    rw [List.findIdx?_eq_none_iff]
    intro x hx
    obtain ⟨j, hj, rfl⟩ := List.getElem_of_mem hx
    exact hall j hj
  rw [this]

set_option maxRecDepth 100000 in
set_option maxHeartbeats 8000000 in
theorem findR_any (fv ov : Value) (p : Prog) (kind name : Int) (w : World) (hP : Pr w.heap.size w fv ov p) (hI : ProgIn p) :
    Calls Try.prog 20 #[.agg #[fv, ov], .int .i64 kind, .int .i64 name] w fun e w' => e = .returned (.int .i64 (find p.funcs kind name)) ∧ Below w.heap.size w w' := by
  obtain ⟨⟨fa, fc, fb, fo, rfl, ha, hcells⟩, ⟨oa, oc, ob, oo, rfl, _, _⟩⟩ := hP
  obtain ⟨L, LO⟩ := p
  simp only at *
  have hL := hI.nf
  simp only at hL
  have HC := Lib.hid hcells
  clear hcells hI
  have hA : Below w.heap.size w (w.alloc (.cells #[.slice fa L.length fc, .slice oa LO.length oc] 27)) := (Below.refl _ _).alloc (Nat.le_refl _) _
  go_enter Try.func20, Try.ntmps20
  go_wp2_with fail
  go_loop [7] (fun i => ∃ q : Nat, q ≤ L.length ∧ i = .int .i64 (q : Int) ∧ ∀ j (h : j < L.length), j < q → isB kind name L[j] = false) (fun i => L.length - (intOf i).toNat)
  case atStart => exact ⟨0, Nat.zero_le _, rfl, fun j _ h => absurd h (Nat.not_lt_zero _)⟩
  case round =>
    obtain ⟨q, hq, rfl, hall⟩ := hrel
    have HALL := Lib.hid hall
    clear hall
    by_cases hlt : q < L.length
    · obtain ⟨rfl, hfb⟩ := ha (by omega)
      obtain ⟨e0, e1, _⟩ := HC.out q hlt
      have e0' := (hA.cell (p := ⟨fb, fo + q * 3, none⟩) hfb).trans e0
      have e1' := (hA.cell (p := ⟨fb, fo + q * 3 + 1, none⟩) hfb).trans e1
      have HS : Hid (isB kind name L[q] = true → find L kind name = (q : Int)) := fun h => find_some hlt HALL.out h
      have HN : Hid (isB kind name L[q] = false → ∀ j (h : j < L.length), j < q + 1 → isB kind name L[j] = false) := fun h j hj hjq => by
        rcases Nat.lt_or_ge j q with h1 | h1
        · exact HALL.out j hj h1
        · obtain rfl : j = q := by omega
          exact h
      have hib : isB kind name L[q] = (L[q].kind == kind && L[q].name == name) := rfl
      have hi1 : (0 : Int) ≤ (q : Int) ∧ (q : Int) < (L.length : Int) := by omega
      have hfb' : ¬ fb = w.heap.size := by omega
      clear e0 e1
      generalize isB kind name L[q] = ib at *
      generalize L[q].kind = xk at *
      generalize L[q].name = xn at *
      cases h1 : xk == kind with
      | false =>
        rw [h1] at hib
        simp only [Bool.false_and] at hib
        subst hib
        go_wp2_with fail
        go_round
        case rel => exact ⟨q + 1, by omega, by go_num, HN.out rfl⟩
        case measure => simp [intOf]; omega
      | true =>
        rw [h1, Bool.true_and] at hib
        cases h2 : xn == name with
        | false =>
          rw [h2] at hib
          subst hib
          go_wp2_with fail
          go_round
          case rel => exact ⟨q + 1, by omega, by go_num, HN.out rfl⟩
          case measure => simp [intOf]; omega
        | true =>
          rw [h2] at hib
          subst hib
          have HF := Lib.hid (HS.out rfl)
          go_wp2_with fail
          go_ret
          exact ⟨by rw [HF.out]; rfl, hA⟩
    · obtain rfl : q = L.length := by omega
      have HF := Lib.hid (find_none (kind := kind) (name := name) (fun j h => HALL.out j h h))
      go_wp2_with fail
      go_ret
      exact ⟨by rw [HF.out]; rfl, hA⟩
end Co
end Go.Proofs.Ytfkfckohajpcfaa

/-
  The program's code.Find, nameMayBe, funcMayBe.
-/
namespace Go.Proofs.Ytfkfckohajpcfaa
open Go.RowKit
set_option linter.unusedSimpArgs false
set_option linter.unusedVariables false
namespace Co

set_option maxRecDepth 100000 in
set_option maxHeartbeats 4000000 in
theorem find_any (fv ov : Value) (p : Prog) (kind name : Int) (w : World) (hP : Pr w.heap.size w fv ov p) (hI : ProgIn p) :
    Calls Try.prog 19 #[.agg #[fv, ov], .int .i64 kind, .int .i64 name] w fun e w' => e = .returned (.int .i64 (find p.funcs kind name)) ∧ Below w.heap.size w w' := by
  obtain ⟨⟨fa, fc, fb, fo, rfl, ha, hcells⟩, ⟨oa, oc, ob, oo, rfl, _, _⟩⟩ := hP
  obtain ⟨L, LO⟩ := p
  simp only at *
  have hL := hI.nf
  simp only at hL
  have HC := Lib.hid hcells
  clear hcells hI
  have hA : Below w.heap.size w (w.alloc (.cells #[.slice fa L.length fc, .slice oa LO.length oc] 27)) := (Below.refl _ _).alloc (Nat.le_refl _) _
  go_enter Try.func19, Try.ntmps19
  go_wp2_with fail
  go_loopw [12] (fun i wr => ∃ q : Nat, q ≤ L.length ∧ i = .int .i64 (q : Int) ∧ Below w.heap.size w wr ∧ Hid (∀ j (h : j < L.length), j < q → isB kind name L[j] = false)) (fun i _ => L.length - (intOf i).toNat)
  case atStart => exact ⟨0, Nat.zero_le _, rfl, hA, fun j _ h => absurd h (Nat.not_lt_zero _)⟩
  case round =>
    obtain ⟨q, hq, rfl, hB, HALL⟩ := hrel
    obtain ⟨wo, rfl⟩ : ∃ wo : World, wo = wr := ⟨_, rfl⟩
    by_cases hlt : q < L.length
    · obtain ⟨rfl, hfb⟩ := ha (by omega)
      obtain ⟨e0, e1, u, e2, hu⟩ := HC.out q hlt
      obtain ⟨pa, pc, pb, po, rfl, hu1, hu2⟩ := hu
      clear hu1 hu2
      replace e0 := (hB.cell (p := ⟨fb, fo + q * 3, none⟩) hfb).trans e0
      replace e1 := (hB.cell (p := ⟨fb, fo + q * 3 + 1, none⟩) hfb).trans e1
      replace e2 := (hB.cell (p := ⟨fb, fo + q * 3 + 2, none⟩) hfb).trans e2
      have HS : Hid (isB kind name L[q] = true → find L kind name = (q : Int)) := fun h => find_some hlt HALL.out h
      have HN : Hid (isB kind name L[q] = false → ∀ j (h : j < L.length), j < q + 1 → isB kind name L[j] = false) := fun h j hj hjq => by
        rcases Nat.lt_or_ge j q with h1 | h1
        · exact HALL.out j hj h1
        · obtain rfl : j = q := by omega
          exact h
      have hib : isB kind name L[q] = (L[q].kind == kind && L[q].name == name) := rfl
      have hi1 : (0 : Int) ≤ (q : Int) ∧ (q : Int) < (L.length : Int) := by omega
      have hwb : fb < wo.heap.size := by have := hB.size; omega
      have hBN := hB.alloc hB.size (.cells #[.int .i64 L[q].kind, .int .i64 L[q].name, .slice pa L[q].ops.length pc] 52)
      generalize isB kind name L[q] = ib at *
      generalize L[q].kind = xk at *
      generalize L[q].name = xn at *
      generalize L[q].ops.length = xo at *
      cases h1 : xk == kind with
      | false =>
        rw [h1] at hib
        simp only [Bool.false_and] at hib
        subst hib
        go_wp2_with fail
        go_roundw
        case rel => exact ⟨q + 1, by omega, by go_num, hBN, HN.out rfl⟩
        case measure => simp [intOf]; omega
      | true =>
        rw [h1, Bool.true_and] at hib
        cases h2 : xn == name with
        | false =>
          rw [h2] at hib
          subst hib
          go_wp2_with fail
          go_roundw
          case rel => exact ⟨q + 1, by omega, by go_num, hBN, HN.out rfl⟩
          case measure => simp [intOf]; omega
        | true =>
          rw [h2] at hib
          subst hib
          have HF := Lib.hid (HS.out rfl)
          go_wp2_with fail
          go_ret
          exact ⟨by rw [HF.out]; rfl, hBN⟩
    · obtain rfl : q = L.length := by omega
      have HF := Lib.hid (find_none (kind := kind) (name := name) (fun j h => HALL.out j h h))
      go_wp2_with fail
      go_ret
      exact ⟨by rw [HF.out]; rfl, hB⟩
theorem find_self {L : List Fn} {i : Nat} (hi : i < L.length) : (find L L[i].kind L[i].name == (i : Int)) = !(L.take i).any (isB L[i].kind L[i].name) := by
  have hs : isB L[i].kind L[i].name L[i] = true := by unfold isB; simp
  cases ha : (L.take i).any (isB L[i].kind L[i].name) with
  | false =>
    have hb : ∀ j (h : j < L.length), j < i → isB L[i].kind L[i].name L[j] = false := fun j h hj => by
      rw [List.any_eq_false] at ha
      have := ha L[j] (by rw [List.mem_take_iff_getElem]; exact ⟨j, by omega, rfl⟩)
      simpa using this
    rw [find_some hi hb hs]
    simp
  | true =>
    obtain ⟨x, hx, hp⟩ := List.any_eq_true.1 ha
    obtain ⟨j, hj, rfl⟩ := List.getElem_of_mem hx
    rw [List.length_take] at hj
    rw [List.getElem_take] at hp
    have hne : find L L[i].kind L[i].name ≠ (i : Int) := by
      unfold find
      cases hf : L.findIdx? (isB L[i].kind L[i].name) with
      | none => simp only; omega
      | some k =>
        simp only
        intro he
        have hk : k = i := by omega
        subst hk
        rw [List.findIdx?_eq_some_iff_getElem] at hf
        obtain ⟨h1, h2, h3⟩ := hf
        have := h3 j (by omega)
        rw [hp] at this
        simp at this
    simpa using hne
/-- may the function's Kind and Name be, and its own alone? -/
def ownB (p : Prog) (i : Nat) : Bool := (decide (0 ≤ p.funcs[i]!.name) && decide (p.funcs[i]!.name < 8)) && find p.funcs p.funcs[i]!.kind p.funcs[i]!.name == (i : Int)
def nameB (p : Prog) (i : Nat) : Bool :=
  if p.funcs[i]!.kind = 0 ∨ p.funcs[i]!.kind = 1 then p.funcs[i]!.name == 0
  else if p.funcs[i]!.kind = 4 then (if find p.funcs 3 p.funcs[i]!.name < 0 then false else ownB p i)
  else if p.funcs[i]!.kind = 2 ∨ p.funcs[i]!.kind = 3 then ownB p i else false
theorem named_eq (p : Prog) (i : Nat) (hi : i < p.funcs.length) : namedB p i = ((((p.funcs[i].kind == 0) == ((i : Int) == 0)) && nameB p i) && (decide (0 ≤ (p.funcs[i].ops.length : Int) - 1) && decide ((p.funcs[i].ops.length : Int) - 1 < 128))) := by
  have hf := find_self hi
  unfold namedB nameB ownB
  simp only [getElem!_pos p.funcs i hi]
  rw [hf]
  generalize (p.funcs.take i).any (isB p.funcs[i].kind p.funcs[i].name) = anyB
  generalize find p.funcs 3 p.funcs[i].name = fd
  generalize p.funcs[i].kind = kind
  generalize p.funcs[i].name = name
  generalize p.funcs[i].ops.length = n
  rw [show ((i : Int) == 0) = (i == 0) by rw [Bool.eq_iff_iff]; simp]
  generalize (i == 0) = z
  by_cases h0 : kind = 0
  · subst h0
    cases anyB <;> cases z <;> simp <;> (try (rw [Bool.eq_iff_iff]; simp; omega))
  · by_cases h1 : kind = 1
    · subst h1
      cases anyB <;> cases z <;> simp <;> (try (rw [Bool.eq_iff_iff]; simp; omega))
    · by_cases h4 : kind = 4
      · subst h4
        cases anyB <;> cases z <;> simp <;> (try (rw [Bool.eq_iff_iff]; simp; omega))
      · by_cases h23 : kind = 2 ∨ kind = 3
        · rcases h23 with rfl | rfl <;> cases anyB <;> cases z <;> simp <;> (try (rw [Bool.eq_iff_iff]; simp; omega))
        · have hk : (decide (0 ≤ kind) && decide (kind ≤ 4)) = false := by rw [Bool.eq_false_iff]; simp; omega
          rw [hk, if_neg (by omega), if_neg h4, if_neg h23]
          simp

set_option maxRecDepth 100000 in
set_option maxHeartbeats 8000000 in
theorem nameMayBe_any (fv ov : Value) (p : Prog) (i : Nat) (w : World) (hP : Pr w.heap.size w fv ov p) (hI : ProgIn p) (hi : i < p.funcs.length) :
    Calls Try.prog 44 #[.agg #[fv, ov], .int .i64 (i : Int)] w fun e w' => e = .returned (.bool (nameB p i)) ∧ Below w.heap.size w w' := by
  have HFD := Lib.hid (fun W (hb : Below w.heap.size w W) => fun kind name => find_any fv ov p kind name W ((hP.below hb).wider hb.size) hI)
  obtain ⟨⟨fa, fc, fb, fo, rfl, ha, hcells⟩, ⟨oa, oc, ob, oo, rfl, _, _⟩⟩ := hP
  obtain ⟨L, LO⟩ := p
  simp only at *
  have hL := hI.nf
  simp only at hL
  obtain ⟨rfl, hfb⟩ := ha (by omega)
  obtain ⟨d0, d1, u, d2, hu⟩ := hcells i hi
  obtain ⟨pa, pc, pb, po, rfl, hu1, hu2⟩ := hu
  clear hcells hI ha hu1 hu2
  have hA : Below w.heap.size w (w.alloc (.cells #[.slice (some ⟨fb, fo, none⟩) L.length fc, .slice oa LO.length oc] 27)) := (Below.refl _ _).alloc (Nat.le_refl _) _
  have e0 := (hA.cell (p := ⟨fb, fo + i * 3, none⟩) hfb).trans d0
  have e1 := (hA.cell (p := ⟨fb, fo + i * 3 + 1, none⟩) hfb).trans d1
  have e2 := (hA.cell (p := ⟨fb, fo + i * 3 + 2, none⟩) hfb).trans d2
  have hi1 : (0 : Int) ≤ (i : Int) ∧ (i : Int) < (L.length : Int) := by omega
  obtain ⟨r, hr⟩ : ∃ r, r = nameB ⟨L, LO⟩ i := ⟨_, rfl⟩
  rw [← hr]
  unfold nameB ownB at hr
  simp only [getElem!_pos L i hi] at hr
  have HF3 := Lib.hid (fun W hb => HFD.out W hb 3 L[i].name)
  have HFK := Lib.hid (fun W hb => HFD.out W hb L[i].kind L[i].name)
  have HW := Lib.hid (fun W => within_any L[i].name 8 W)
  clear d0 d1 d2 HFD
  generalize find L 3 L[i].name = f3 at *
  generalize find L L[i].kind L[i].name = fk at *
  generalize L[i].ops.length = nops at *
  generalize L[i].kind = kind at *
  generalize L[i].name = name at *
  generalize L[i] = fi at *
  have hA2 : Below w.heap.size w ((w.alloc (.cells #[.slice (some ⟨fb, fo, none⟩) L.length fc, .slice oa LO.length oc] 27)).alloc (.cells #[.int .i64 kind, .int .i64 name, .slice pa nops pc] 52)) := hA.alloc hA.size _
  have oF := Ob.Obj.new (w.alloc (.cells #[.slice (some ⟨fb, fo, none⟩) L.length fc, .slice oa LO.length oc] 27)) 52 [.int .i64 kind, .int .i64 name, .slice pa nops pc]
  rw [show (w.alloc (.cells #[.slice (some ⟨fb, fo, none⟩) L.length fc, .slice oa LO.length oc] 27)).heap.size = w.heap.size + 1 by simp] at oF
  have oP := (Ob.Obj.new w 27 [.slice (some ⟨fb, fo, none⟩) L.length fc, .slice oa LO.length oc]).alloc (.cells #[.int .i64 kind, .int .i64 name, .slice pa nops pc] 52)
  have HR := Lib.hid hr
  clear hr
  have HB2 := Lib.hid hA2
  have hk : kind = 0 ∨ kind = 1 ∨ kind = 4 ∨ kind = 2 ∨ kind = 3 ∨ ((kind == 0) = false ∧ (kind == 1) = false ∧ (kind == 4) = false ∧ (kind == 2) = false ∧ (kind == 3) = false) := by
    by_cases h0 : kind = 0
    · exact .inl h0
    · by_cases h1 : kind = 1
      · exact .inr (.inl h1)
      · by_cases h4 : kind = 4
        · exact .inr (.inr (.inl h4))
        · by_cases h2 : kind = 2
          · exact .inr (.inr (.inr (.inl h2)))
          · by_cases h3 : kind = 3
            · exact .inr (.inr (.inr (.inr (.inl h3))))
            · exact .inr (.inr (.inr (.inr (.inr ⟨by simpa using h0, by simpa using h1, by simpa using h4, by simpa using h2, by simpa using h3⟩))))
  rcases hk with rfl | rfl | rfl | rfl | rfl | ⟨k0, k1, k4, k2, k3⟩
  · go_enter Try.func44, Try.ntmps44
    go_wp2_with fail
    go_ret
    exact ⟨by rw [HR.out]; simp, HB2.out⟩
  · go_enter Try.func44, Try.ntmps44
    go_wp2_with fail
    go_ret
    exact ⟨by rw [HR.out]; simp, HB2.out⟩
  · by_cases h3 : f3 < 0
    · have hf3 : (decide (f3 < 0)) = true := by simpa using h3
      go_enter Try.func44, Try.ntmps44
      go_wp2_with (go_at_call 19; (with_reducible refine (HF3.out _ HB2.out).mono ?_); rintro e w2 ⟨rfl, hb2⟩; have hB2 := HB2.out.trans (hb2.mono HB2.out.size))
      go_ret
      exact ⟨by rw [HR.out]; simp [h3], hB2⟩
    · obtain ⟨b1, hb1⟩ : ∃ b1, b1 = (decide (0 ≤ name) && decide (name < 8)) := ⟨_, rfl⟩
      have HR2 := Lib.hid (show r = (b1 && fk == (i : Int)) by rw [HR.out, hb1]; simp [h3])
      rw [← hb1] at HW
      clear hb1 HR
      cases b1 with
      | false =>
        go_enter Try.func44, Try.ntmps44
        go_wp2_with (first
          | (go_at_call 43; (with_reducible refine (HW.out _).mono ?_); rintro e w1 ⟨rfl, rfl⟩)
          | (go_at_call 19; (with_reducible refine (HF3.out _ HB2.out).mono ?_); rintro e w2 ⟨rfl, hb2⟩; have hB2 := HB2.out.trans (hb2.mono HB2.out.size); have oF2 := oF.below hb2; have g0 := oF2.cell 0; have g1 := oF2.cell 1; simp at g0 g1))
        go_ret
        exact ⟨by rw [HR2.out]; rfl, hB2⟩
      | true =>
        go_enter Try.func44, Try.ntmps44
        go_wp2_with (first
          | (go_at_call 43; (with_reducible refine (HW.out _).mono ?_); rintro e w1 ⟨rfl, rfl⟩)
          | (go_at_call 19; (with_reducible refine (HF3.out _ HB2.out).mono ?_); rintro e w2 ⟨rfl, hb2⟩; have hB2 := HB2.out.trans (hb2.mono HB2.out.size); have oF2 := oF.below hb2; have g0 := oF2.cell 0; have g1 := oF2.cell 1; have oP2 := oP.below hb2; have q0 := oP2.cell 0; have q1 := oP2.cell 1; simp at g0 g1 q0 q1)
          | (go_at_call 19; (with_reducible refine (HFK.out _ hB2).mono ?_); rintro e w3 ⟨rfl, hb3⟩; have hB3 := hB2.trans (hb3.mono hB2.size)))
        go_ret
        exact ⟨by rw [HR2.out]; simp, hB3⟩
  · obtain ⟨b1, hb1⟩ : ∃ b1, b1 = (decide (0 ≤ name) && decide (name < 8)) := ⟨_, rfl⟩
    have HR2 := Lib.hid (show r = (b1 && fk == (i : Int)) by rw [HR.out, hb1]; simp)
    rw [← hb1] at HW
    clear hb1 HR
    cases b1 with
    | false =>
      go_enter Try.func44, Try.ntmps44
      go_wp2_with (go_at_call 43; (with_reducible refine (HW.out _).mono ?_); rintro e w1 ⟨rfl, rfl⟩)
      go_ret
      exact ⟨by rw [HR2.out]; rfl, HB2.out⟩
    | true =>
      go_enter Try.func44, Try.ntmps44
      go_wp2_with (first
        | (go_at_call 43; (with_reducible refine (HW.out _).mono ?_); rintro e w1 ⟨rfl, rfl⟩)
        | (go_at_call 19; (with_reducible refine (HFK.out _ HB2.out).mono ?_); rintro e w2 ⟨rfl, hb2⟩; have hB2 := HB2.out.trans (hb2.mono HB2.out.size)))
      go_ret
      exact ⟨by rw [HR2.out]; simp, hB2⟩
  · obtain ⟨b1, hb1⟩ : ∃ b1, b1 = (decide (0 ≤ name) && decide (name < 8)) := ⟨_, rfl⟩
    have HR2 := Lib.hid (show r = (b1 && fk == (i : Int)) by rw [HR.out, hb1]; simp)
    rw [← hb1] at HW
    clear hb1 HR
    cases b1 with
    | false =>
      go_enter Try.func44, Try.ntmps44
      go_wp2_with (go_at_call 43; (with_reducible refine (HW.out _).mono ?_); rintro e w1 ⟨rfl, rfl⟩)
      go_ret
      exact ⟨by rw [HR2.out]; rfl, HB2.out⟩
    | true =>
      go_enter Try.func44, Try.ntmps44
      go_wp2_with (first
        | (go_at_call 43; (with_reducible refine (HW.out _).mono ?_); rintro e w1 ⟨rfl, rfl⟩)
        | (go_at_call 19; (with_reducible refine (HFK.out _ HB2.out).mono ?_); rintro e w2 ⟨rfl, hb2⟩; have hB2 := HB2.out.trans (hb2.mono HB2.out.size)))
      go_ret
      exact ⟨by rw [HR2.out]; simp, hB2⟩
  · go_enter Try.func44, Try.ntmps44
    go_wp2_with fail
    go_ret
    exact ⟨by rw [HR.out]; simp_all, HB2.out⟩
end Co
end Go.Proofs.Ytfkfckohajpcfaa
