/-
  The program's disk: Sync, Crash.
-/
import Derived.Test.YtdidcopfkjnkdaaBlockDevB
import Derived.Deep.LoopGhost
namespace Go.Proofs.Ytdidcopfkjnkdaa
open Go.RowKit Go.Maps
set_option linter.unusedSimpArgs false
set_option linter.unusedVariables false

namespace Bd
variable {B0 b mb : Nat} {S : Sq.Blocks} {σ σ' : Bl.St} {W W' : World} {sv wv : Value}

/-- nothing is pending any more -/
theorem Rows.settled (h : Rows B0 b S σ W sv wv mb) (ho : Ob.Obj W' b 58 (sv :: .slice none 0 0 :: .map (some W.heap.size) :: [.bool σ.down, .int .i64 (σ.armed : Int), .int .i64 (σ.acts : Int), .int .i64 (σ.epochs : Int)]))
    (hm : ownsLast W' W.heap.size 0 (.map [])) (hk : Sq.Kept (fun k => k ≠ b) W W') (hl : W.heap.size < W'.heap.size) :
    Rows B0 b (fun k => S k ∨ k = W.heap.size) { σ with wait := [] } W' sv (.slice none 0 0) W.heap.size ∧ Sq.Step S (fun k => S k ∨ k = W.heap.size) W W' := by
  have hB0 := h.lo b h.inb
  refine ⟨⟨ho, Sq.row_kept h.safe hk (fun g hg e => h.obj.not_row (by decide) h.safe (by rw [hg, e])), World.ownsRow_nil _ _ _ _, hm, .inl h.inb, fun g hg => .inl (h.ins g hg), fun g hg => by simp [Value.ownBlock] at hg, .inr rfl, fun k hk' => ?_⟩,
    ⟨hk.less fun k hk' _ e => hk' (e ▸ h.inb), fun k hk' => .inl hk', fun k hk' => hk'.elim .inl (fun e => .inr (Nat.le_of_eq e.symm))⟩⟩
  rcases hk' with hk' | rfl
  · have := h.lo k hk'; exact ⟨this.1, by omega⟩
  · exact ⟨by omega, hl⟩

set_option maxRecDepth 100000 in
set_option maxHeartbeats 4000000 in
theorem sync_any (h : Rows B0 b S σ W sv wv mb) (hw : σ.wait.length ≤ 1073741824) (ho : Bl.Ok σ) (ha : σ.acts < 4611686018427387904) :
    Calls Try.prog 18 #[.pointer (some ⟨b, 0, none⟩)] W fun e w' => e = .returned (.int .i64 ((Bl.sync σ).2 : Int)) ∧ ∃ S', At B0 b S' (Bl.sync σ).1 w' ∧ Sq.Step S S' W w' := by
  have hO := outage_any h
  by_cases hd : σ.down = true
  · have e : Bl.sync σ = (σ, 4) := by unfold Bl.sync; rw [if_pos hd]
    rw [e]
    rw [if_pos hd] at hO
    have HO := Lib.hid hO
    clear e hd hO
    go_enter Try.func18, Try.ntmps18
    go_wp2_with (go_at_call 38; refine HO.out.mono ?_; rintro e w' ⟨rfl, rfl⟩)
    go_ret
    exact ⟨rfl, S, ⟨sv, wv, mb, h⟩, Sq.Step.refl _ _⟩
  · rw [if_neg hd] at hO
    have HO := Lib.hid hO
    have hAct := act_any h ha ho.armed
    by_cases hg : (Bl.act σ).2 = true
    · have e : Bl.sync σ = ((Bl.act σ).1, 4) := by unfold Bl.sync; rw [if_neg hd, if_pos hg]
      rw [e]
      rw [if_pos hg] at hAct
      have HAct := Lib.hid hAct
      clear e hd hg hO hAct
      go_enter Try.func18, Try.ntmps18
      go_wp2_with (first
        | (go_at_call 38; refine HO.out.mono ?_; rintro e w' ⟨rfl, rfl⟩)
        | (go_at_call 37; refine HAct.out.mono ?_; rintro e w3 ⟨rfl, hR3, hst3⟩))
      go_ret
      exact ⟨rfl, S, ⟨sv, wv, mb, hR3⟩, hst3⟩
    · have e : Bl.sync σ = ({ (Bl.act σ).1 with safe := Bl.setAll σ.safe σ.wait, wait := [] }, 0) := by unfold Bl.sync; rw [if_neg hd, if_neg hg]
      rw [e]
      rw [if_neg hg] at hAct
      obtain ⟨a1, a2, _, _, _⟩ := Bl.act_safe σ
      have ho1 := ho.act
      obtain ⟨σ1, hσ1⟩ : ∃ σ1, σ1 = (Bl.act σ).1 := ⟨_, rfl⟩
      rw [← hσ1] at hAct a1 a2 ho1 ⊢
      rw [← a1, ← a2]
      rw [← a2] at hw
      have HAct := Lib.hid hAct
      clear e hd hg hσ1 a1 a2 h hO hAct ho
      have hnb := ho1.blocks
      go_enter Try.func18, Try.ntmps18
      go_wp2_with (first
        | (go_at_call 38; refine HO.out.mono ?_; rintro e w' ⟨rfl, rfl⟩)
        | (go_at_call 37; refine HAct.out.mono ?_; rintro e w3 ⟨rfl, hR3, hst3⟩; have hRw := hR3.wait; obtain ⟨ao1, cap1, hwv, hg1⟩ := Sq.row_cases hRw; subst hwv; have c1 := hR3.obj.cell 1; simp [cells] at c1; clear hRw))
      go_loopw [22] (fun i wr => ∃ q : Nat, q ≤ σ1.wait.length ∧ i = .int .i64 q ∧ Rows B0 b S { σ1 with safe := Bl.setAll σ1.safe (σ1.wait.take q) } wr sv (.slice ao1 σ1.wait.length cap1) mb ∧ Sq.Step S S W wr) (fun i _ => σ1.wait.length - (intOf i).toNat)
      case atStart => exact ⟨0, Nat.zero_le _, rfl, by simpa [Bl.setAll] using hR3, hst3⟩
      case round =>
        obtain ⟨q, hq, rfl, hR, hst⟩ := hrel
        have hlS : (Bl.setAll σ1.safe (σ1.wait.take q)).length = σ1.safe.length := Bl.setAll_len _ _
        have hRw : wr.ownsRow B0 61 2 (.slice ao1 σ1.wait.length cap1) σ1.wait.length (wCells σ1.wait) := hR.wait
        by_cases hlt : q < σ1.wait.length
        · obtain ⟨g1, rfl, _, _⟩ := hg1 (by omega)
          obtain ⟨hin, hfl⟩ := ho1.inW σ1.wait[q] (List.getElem_mem hlt)
          have hcs := wCells_get σ1.wait q hlt
          have hc0 := (hRw.cellAt (q * 2) (by omega)).trans hcs.1
          have hc1 := (hRw.cellAt (q * 2 + 1) (by omega)).trans hcs.2
          have hts := List.take_succ_eq_append_getElem hlt
          generalize hx : σ1.wait[q] = x at hin hcs hc0 hc1 hts hfl
          have hfS := Bl.setAll_full (σ1.wait.take q) σ1.safe ho1.full (fun y hy => (ho1.inW y (List.mem_of_mem_take hy)).2)
          have hD := do_any (hR.kept (Sq.Kept.alloc S wr (.cells #[.int .i64 (x.1 : Int), .string (Cd.bs x.2)] 61))) (by show (Bl.setAll σ1.safe (σ1.wait.take q)).length ≤ _; omega) hfS x (by show x.1 < (Bl.setAll σ1.safe (σ1.wait.take q)).length; omega) hfl 256 (Nat.le_refl _)
          have hdd : x.2.take 256 ++ ((Bl.setAll σ1.safe (σ1.wait.take q)).getD x.1 []).drop 256 = x.2 := by
            rw [List.take_of_length_le (by omega), List.drop_of_length_le (by have := Bl.getD_len hfS (i := x.1) (by omega); omega), List.append_nil]
          simp only [hdd] at hD
          have HD := Lib.hid hD
          have HTS := Lib.hid hts
          have hi1 : (0 : Int) ≤ (q : Int) ∧ (q : Int) < (σ1.wait.length : Int) := by omega
          clear hcs hts hx hR HAct hRw hD hdd hfS
          go_wp2_with (go_at_call 32; refine HD.out.mono ?_; rintro e w4 ⟨⟨v, rfl⟩, hR4, hst4⟩)
          go_roundw
          case rel => exact ⟨q + 1, by omega, by go_num, by rw [HTS.out, Bl.setAll_snoc]; exact hR4, hst.trans ((Sq.Step.alloc0 _ _ _).trans hst4)⟩
          case measure => simp [intOf]; omega
        · obtain rfl : q = σ1.wait.length := by omega
          have hSt := settle_any hR.obj
          have HSt := Lib.hid hSt
          clear hSt hRw HAct
          go_wp2_with (go_at_call 27; refine HSt.out.mono ?_; rintro e w4 ⟨⟨v, rfl⟩, k1, k2, k3, k4⟩)
          go_ret
          obtain ⟨hR5, hst5⟩ := hR.settled k1 k2 k3 k4
          rw [List.take_length] at hR5
          exact ⟨rfl, _, ⟨_, _, _, hR5⟩, hst.trans hst5⟩

set_option maxRecDepth 100000 in
set_option maxHeartbeats 4000000 in
theorem crash_any (h : Rows B0 b S σ W sv wv mb) (hw : σ.wait.length ≤ 1073741824) (hok : Bl.Ok σ) (he : σ.epochs < 4611686018427387904) (kv : Value) (keep : List Bool) (torn bytes : Int) (hkeep : BoolRow S W kv keep) (hkl : keep.length ≤ 1073741824)
    (ht : -9223372036854775808 ≤ torn ∧ torn ≤ 9223372036854775807) (hb : -9223372036854775808 ≤ bytes ∧ bytes ≤ 9223372036854775807) :
    Calls Try.prog 12 #[.pointer (some ⟨b, 0, none⟩), kv, .int .i64 torn, .int .i64 bytes] W fun e w' => (∃ v, e = .returned v) ∧ ∃ S', At B0 b S' (Bl.crash σ keep torn bytes) w' ∧ Sq.Step S S' W w' := by
  have hcl := clip_walk bytes
  have hcl2 := Bl.clip_le bytes
  have hcr : Bl.crash σ keep torn bytes = { σ with safe := Bl.keepGo keep torn (Bl.clip bytes) 0 σ.wait σ.safe, wait := [], down := false, armed := 0, epochs := σ.epochs + 1 } := rfl
  rw [hcr]
  clear hcr
  obtain ⟨ka, kcap, kb, koff, rfl, hka, hkc⟩ := id hkeep
  generalize Bl.clip bytes = n at *
  obtain ⟨ht1, ht2⟩ := ht
  obtain ⟨hb1, hb2⟩ := hb
  obtain ⟨ao1, cap1, rfl, hg1⟩ := Sq.row_cases h.wait
  have c1 := h.obj.cell 1
  simp [cells] at c1
  have hnb := hok.blocks
  go_enter Try.func12, Try.ntmps12
  go_wp2_with fail
  go_step3
  go_wp2_with fail
  go_step3
  go_wp2_with fail
  go_loopg [18] σ.wait.length (fun gh i wr => ∃ q : Nat, gh = σ.wait.length - q ∧ q ≤ σ.wait.length ∧ i = .int .i64 q ∧ Rows B0 b S { σ with safe := Bl.keepGo keep torn n 0 (σ.wait.take q) σ.safe } wr sv (.slice ao1 σ.wait.length cap1) mb ∧ Sq.Step S S W wr)
  case atStart => exact ⟨0, rfl, Nat.zero_le _, rfl, by simpa [Bl.keepGo] using h, Sq.Step.refl _ _⟩
  case round =>
    obtain ⟨q, rfl, hq, rfl, hR, hst⟩ := hrel
    obtain ⟨hlS, hfS⟩ := Bl.keepGo_ok (keep := keep) (torn := torn) hcl2 (σ.wait.take q) 0 σ.safe hok.full (fun x hx => hok.inW x (List.mem_of_mem_take hx))
    obtain ⟨L, hL⟩ : ∃ L, L = Bl.keepGo keep torn n 0 (σ.wait.take q) σ.safe := ⟨_, rfl⟩
    rw [← hL] at hR hlS hfS
    have hRw : wr.ownsRow B0 61 2 (.slice ao1 σ.wait.length cap1) σ.wait.length (wCells σ.wait) := hR.wait
    by_cases hlt : q < σ.wait.length
    · obtain ⟨g1, rfl, _, hlg1⟩ := hg1 (by omega)
      obtain ⟨hin, hfd⟩ := hok.inW σ.wait[q] (List.getElem_mem hlt)
      have hcs := wCells_get σ.wait q hlt
      have hc0 := (hRw.cellAt (q * 2) (by omega)).trans hcs.1
      have hc1 := (hRw.cellAt (q * 2 + 1) (by omega)).trans hcs.2
      have hts := List.take_succ_eq_append_getElem hlt
      generalize hx : σ.wait[q] = x at hin hfd hcs hc0 hc1 hts
      have hsn : Bl.keepGo keep torn n 0 (σ.wait.take (q + 1)) σ.safe = Bl.keepOne keep torn n L q x := by
        rw [hts, Bl.keepGo_snoc, ← hL, List.length_take]; congr 1; omega
      have hi1 : (0 : Int) ≤ (q : Int) ∧ (q : Int) < (σ.wait.length : Int) := by omega
      have hRA := hR.kept (Sq.Kept.alloc S wr (.cells #[.int .i64 (x.1 : Int), .string (Cd.bs x.2)] 61))
      have hsta : Sq.Step S S W (wr.alloc (.cells #[.int .i64 (x.1 : Int), .string (Cd.bs x.2)] 61)) := hst.trans (Sq.Step.alloc0 _ _ _)
      have hxL : x.1 < L.length := by omega
      have hD := fun m hm => do_any hRA (by show L.length ≤ _; omega) hfS x hxL hfd m hm
      have hbkA := hkeep.kept (S := S) hsta.kept
      have HSN := Lib.hid hsn
      have HD := Lib.hid hD
      have HRA := Lib.hid hRA
      have HST := Lib.hid hsta
      clear hcs hts hsn hx hL hR hD hRA hsta
      by_cases hqt : (q : Int) = torn
      · have hqb : ((q : Int) == torn) = true := by simp [hqt]
        have hk1 : Bl.keepOne keep torn n L q x = L.set x.1 (x.2.take n ++ (L.getD x.1 []).drop n) := by unfold Bl.keepOne; rw [if_pos hqt]
        rw [hk1] at HSN
        have HDn := Lib.hid (HD.out n hcl2)
        clear hqt hk1 hst hRw h hkeep hbkA HD HRA
        go_wp2_with (go_at_call 32; refine HDn.out.mono ?_; rintro e w4 ⟨⟨v, rfl⟩, hR4, hst4⟩)
        go_roundg (σ.wait.length - (q + 1))
        case rel => exact ⟨q + 1, rfl, by omega, by go_num, by rw [HSN.out]; exact hR4, HST.out.trans hst4⟩
        case measure => omega
      · have hqb : ((q : Int) == torn) = false := by simpa using hqt
        by_cases hkq : q < keep.length ∧ keep.getD q false = true
        · obtain ⟨hq1, hq2⟩ := hkq
          obtain ⟨rfl, hkS⟩ := hka (by omega)
          have hck := hkc q hq1
          have e : keep[q] = true := by rw [List.getD_eq_getElem?_getD, List.getElem?_eq_getElem hq1] at hq2; simpa using hq2
          rw [e] at hck
          have hckl := World.block_lt_of_cell? _ _ hck
          have hck1 : wr.cell? ⟨kb, koff + q, none⟩ = some (.bool true) := hst.kept.cell hkS hck
          have hckl1 : kb < wr.heap.size := World.block_lt_of_cell? _ _ hck1
          have hk1 : Bl.keepOne keep torn n L q x = L.set x.1 x.2 := by unfold Bl.keepOne; rw [if_neg hqt, if_pos hq2]
          rw [hk1] at HSN
          have hdd : x.2.take 256 ++ (L.getD x.1 []).drop 256 = x.2 := by
            rw [List.take_of_length_le (by omega), List.drop_of_length_le (by have := Bl.getD_len hfS (i := x.1) (by omega); omega), List.append_nil]
          have hDn := HD.out 256 (Nat.le_refl _)
          simp only [hdd] at hDn
          have HDn := Lib.hid hDn
          clear hqt hk1 hst hRw h hkeep hbkA HD HRA e hq2 hka hkc hck hckl hdd hDn
          go_wp2_with (go_at_call 32; refine HDn.out.mono ?_; rintro e w4 ⟨⟨v, rfl⟩, hR4, hst4⟩)
          go_roundg (σ.wait.length - (q + 1))
          case rel => exact ⟨q + 1, rfl, by omega, by go_num, by rw [HSN.out]; exact hR4, HST.out.trans hst4⟩
          case measure => omega
        · have hk1 : Bl.keepOne keep torn n L q x = L := by
            unfold Bl.keepOne; rw [if_neg hqt, if_neg]
            intro h2
            by_cases hq1 : q < keep.length
            · exact hkq ⟨hq1, h2⟩
            · rw [List.getD_eq_getElem?_getD, List.getElem?_eq_none (by omega)] at h2; simp at h2
          rw [hk1] at HSN
          have hlen2 : keep.length ≤ q ∨ (q < keep.length ∧ keep.getD q false = false) := by
            by_cases hq1 : q < keep.length
            · exact .inr ⟨hq1, by simpa using fun h2 => hkq ⟨hq1, h2⟩⟩
            · exact .inl (by omega)
          rcases hlen2 with hl2 | ⟨hq1, hq2⟩
          · clear hqt hk1 hst hRw h hkeep hbkA HD hka hkc hkq
            go_wp2_with fail
            go_roundg (σ.wait.length - (q + 1))
            case rel => exact ⟨q + 1, rfl, by omega, by go_num, by rw [HSN.out]; exact HRA.out, HST.out⟩
            case measure => omega
          · obtain ⟨rfl, hkS⟩ := hka (by omega)
            have hck := hkc q hq1
            have e : keep[q] = false := by rw [List.getD_eq_getElem?_getD, List.getElem?_eq_getElem hq1] at hq2; simpa using hq2
            rw [e] at hck
            have hck1 : wr.cell? ⟨kb, koff + q, none⟩ = some (.bool false) := hst.kept.cell hkS hck
            have hckl1 : kb < wr.heap.size := World.block_lt_of_cell? _ _ hck1
            clear hqt hk1 hst hRw h hkeep hbkA HD e hq2 hka hkc hck hkq
            go_wp2_with fail
            go_roundg (σ.wait.length - (q + 1))
            case rel => exact ⟨q + 1, rfl, by omega, by go_num, by rw [HSN.out]; exact HRA.out, HST.out⟩
            case measure => omega
    · obtain rfl : q = σ.wait.length := by omega
      rw [List.take_length] at hL
      have hSt := settle_any hR.obj
      have HSt := Lib.hid hSt
      have HL := Lib.hid hL
      have hRR := hR
      have HR := Lib.hid hRR
      have hobj := hR.obj.lt
      clear hSt hRw h hkeep hL hR hRR
      go_wp2_with (go_at_call 27; refine HSt.out.mono ?_; rintro e w4 ⟨⟨v, rfl⟩, k1, k2, k3, k4⟩; obtain ⟨hR5, hst5⟩ := HR.out.settled k1 k2 k3 k4; have c3 := hR5.obj.cell 3; have c4 := hR5.obj.cell 4; have c6 := hR5.obj.cell 6; have f3 := hR5.obj.frozen 3; have f4 := hR5.obj.frozen 4; have f6 := hR5.obj.frozen 6; simp [cells] at c3 c4 c6; have HR5 := Lib.hid hR5; clear k1 k2 k3 k4 hR5)
      first | rw [Exit.noGoto_normal] | rw [Exit.noGoto_ret]
      go_end0
      have e2 : Rows B0 b (fun k => S k ∨ k = wr.heap.size) { σ with safe := L, wait := [], down := false } (w4.setCell ⟨b, 3, none⟩ (.bool false)) sv (.slice none 0 0) wr.heap.size := HR5.out.store (by simp [cells]) rfl rfl
      have e3 : Rows B0 b (fun k => S k ∨ k = wr.heap.size) { σ with safe := L, wait := [], down := false, armed := 0 } ((w4.setCell ⟨b, 3, none⟩ (.bool false)).setCell ⟨b, 4, none⟩ (.int .i64 0)) sv (.slice none 0 0) wr.heap.size := e2.store (by simp [cells]) rfl rfl
      have e4 : Rows B0 b (fun k => S k ∨ k = wr.heap.size) { σ with safe := L, wait := [], down := false, armed := 0, epochs := σ.epochs + 1 } (((w4.setCell ⟨b, 3, none⟩ (.bool false)).setCell ⟨b, 4, none⟩ (.int .i64 0)).setCell ⟨b, 6, none⟩ (.int .i64 ((σ.epochs : Int) + 1))) sv (.slice none 0 0) wr.heap.size := e3.store (by simp [cells]) rfl rfl
      exact ⟨⟨_, rfl⟩, _, ⟨_, _, _, by rw [← HL.out]; exact e4⟩, (hst.trans hst5).trans (((HR5.out.step 3 _).trans (e2.step 4 _)).trans (e3.step 6 _))⟩
end Bd
end Go.Proofs.Ytdidcopfkjnkdaa
