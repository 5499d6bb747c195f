/-
  The document's disk: Sync.
-/
import Derived.Test.YtdidcopfkjnkdaaBlockRefC
import Derived.Laws.OwnMore
namespace Go.Proofs.Ytdidcopfkjnkdaa
open Go.RowKit
set_option linter.unusedSimpArgs false
set_option linter.unusedVariables false

theorem strCells_getD (l : List Bl.Dat) (i : Nat) (h : i < l.length) : (strCells l)[i]? = some (.string (Cd.bs (l.getD i []))) := by
  rw [strCells_get l i h, List.getD_eq_getElem?_getD, List.getElem?_eq_getElem h]; rfl
namespace Bl
theorem setAll_snoc (safe : List Dat) (w : List (Nat × Dat)) (x : Nat × Dat) : setAll safe (w ++ [x]) = (setAll safe w).set x.1 x.2 := by simp [setAll]
end Bl

/-- a store into the row of safe blocks -/
theorem RefRows.storeSafe {B0 b : Nat} {S : Sq.Blocks} {σ : Bl.St} {W : World} {wv : Value} {g cap : Nat} (h : RefRows B0 b S σ W (.slice (some ⟨g, 0, none⟩) σ.safe.length cap) wv) (k : Nat) (hk : k < σ.safe.length) (d : Bl.Dat) :
    RefRows B0 b S { σ with safe := σ.safe.set k d } (W.setCell ⟨g, k, none⟩ (.string (Cd.bs d))) (.slice (some ⟨g, 0, none⟩) σ.safe.length cap) wv ∧ Sq.Step S S W (W.setCell ⟨g, k, none⟩ (.string (Cd.bs d))) := by
  have hg : S g := h.ins g rfl
  have hbg : b ≠ g := fun e => by subst e; exact h.obj.not_row (by decide) h.safe rfl
  have hs := World.ownsRow.stored h.safe k (.string (Cd.bs d))
  refine ⟨⟨?_, ?_, ?_, h.inb, h.ins, h.inw, fun k' hk' => ?_⟩, Sq.Step.setCell W _ hg⟩
  · exact h.obj.other hbg _
  · have := hs.1
    rw [strCells_set] at this
    simpa using this
  · exact Ob.row_other h.wait (fun e => Ob.rows_apart h.safe h.wait (by decide) g rfl e) _
  · have := h.lo k' hk'; simp only [World.setCell, Array.size_modify]; exact this
/-- nothing is pending -/
theorem RefRows.storeNil {B0 b : Nat} {S : Sq.Blocks} {σ : Bl.St} {W : World} {sv wv : Value} (h : RefRows B0 b S σ W sv wv) :
    RefRows B0 b S { σ with wait := [] } (W.setCell ⟨b, 1, none⟩ (.slice none 0 0)) sv (.slice none 0 0) :=
  ⟨by have := h.obj.set 1 (.slice none 0 0); simpa [refCells] using this, Ob.row_other h.safe (h.obj.not_row (by decide) h.safe) _, World.ownsRow_nil _ _ _ _, h.inb, h.ins, fun g hg => by simp [Value.ownBlock] at hg,
    fun k hk => by have := h.lo k hk; simp only [World.setCell, Array.size_modify]; exact this⟩

set_option maxRecDepth 100000 in
set_option maxHeartbeats 4000000 in
theorem refSync_any {B0 b : Nat} {S : Sq.Blocks} {σ : Bl.St} {W : World} (h : RefAt B0 b S σ W) (hw : σ.wait.length ≤ 1073741824) (hn : σ.safe.length ≤ 16384) (hww : ∀ x ∈ σ.wait, x.1 < σ.safe.length) (ha : σ.acts < 4611686018427387904) (hm : σ.armed ≤ 9223372036854775807) :
    Calls Try.prog 30 #[.pointer (some ⟨b, 0, none⟩)] W fun e w' => e = .returned (.int .i64 ((Bl.sync σ).2 : Int)) ∧ RefAt B0 b S (Bl.sync σ).1 w' ∧ Sq.Step S S W w' := by
  obtain ⟨sv, wv, h⟩ := h
  have c2 := h.obj.cell 2
  simp [refCells] at c2
  by_cases hd : σ.down = true
  · have e : Bl.sync σ = (σ, 4) := by unfold Bl.sync; rw [if_pos hd]
    rw [e]
    clear e
    go_enter Try.func30, Try.ntmps30
    go_wp2_with fail
    go_ret
    exact ⟨rfl, ⟨sv, wv, h⟩, Sq.Step.refl _ _⟩
  · have hdf : (σ.down) = false := by simpa using hd
    rw [hdf] at c2
    have hAct := Lib.hid (refAct_any h ha hm)
    by_cases hg : (Bl.act σ).2 = true
    · have e : Bl.sync σ = ((Bl.act σ).1, 4) := by unfold Bl.sync; rw [if_neg hd, if_pos hg]
      rw [e]
      rw [hg] at hAct
      clear e hd hdf hg
      go_enter Try.func30, Try.ntmps30
      go_wp2_with (go_at_call 46; refine hAct.out.mono ?_; rintro e w3 ⟨rfl, hR3, hst3⟩)
      go_ret
      exact ⟨rfl, ⟨sv, wv, hR3⟩, hst3⟩
    · have hgf : (Bl.act σ).2 = false := by simpa using hg
      have e : Bl.sync σ = ({ (Bl.act σ).1 with safe := Bl.setAll σ.safe σ.wait, wait := [] }, 0) := by unfold Bl.sync; rw [if_neg hd, if_neg hg]
      rw [e]
      rw [hgf] at hAct
      obtain ⟨a1, a2, _, _, _⟩ := Bl.act_safe σ
      obtain ⟨σ1, hσ1⟩ : ∃ σ1, σ1 = (Bl.act σ).1 := ⟨_, rfl⟩
      rw [← hσ1] at hAct a1 a2 ⊢
      clear e hd hdf hg hgf hσ1
      rw [← a1, ← a2]
      rw [← a2] at hw hww
      rw [← a1] at hn hww
      clear a1 a2 h
      go_enter Try.func30, Try.ntmps30
      go_wp2_with (go_at_call 46; refine hAct.out.mono ?_; rintro e w3 ⟨rfl, hR3, hst3⟩)
      go_loopw [4] (fun i wr => ∃ q : Nat, q ≤ σ1.wait.length ∧ i = .int .i64 q ∧ RefRows B0 b S { σ1 with safe := Bl.setAll σ1.safe (σ1.wait.take q) } wr sv wv ∧ Sq.Step S S W wr) (fun i _ => σ1.wait.length - (intOf i).toNat)
      case atStart => exact ⟨0, Nat.zero_le _, rfl, by simpa [Bl.setAll] using hR3, hst3⟩
      case round =>
        obtain ⟨q, hq, rfl, hR, hst⟩ := hrel
        have hlS : (Bl.setAll σ1.safe (σ1.wait.take q)).length = σ1.safe.length := Bl.setAll_len _ _
        have hRs : wr.ownsRow B0 9 1 sv (Bl.setAll σ1.safe (σ1.wait.take q)).length (strCells (Bl.setAll σ1.safe (σ1.wait.take q))) := hR.safe
        have hRw : wr.ownsRow B0 64 2 wv σ1.wait.length (wCells σ1.wait) := hR.wait
        obtain ⟨ao, cap, hsv, hg0⟩ := Sq.row_cases hRs
        obtain ⟨ao1, cap1, hwv, hg1⟩ := Sq.row_cases hRw
        subst hsv hwv
        have c0 := hR.obj.cell 0
        have c1 := hR.obj.cell 1
        simp [refCells] at c0 c1
        by_cases hlt : q < σ1.wait.length
        · obtain ⟨g1, rfl, _, _⟩ := hg1 (by omega)
          have hin := hww σ1.wait[q] (List.getElem_mem hlt)
          obtain ⟨g0, rfl, _, _⟩ := hg0 (by omega)
          have hcs := wCells_get σ1.wait q hlt
          have hc0 := (hRw.cellAt (q * 2) (by omega)).trans hcs.1
          have hc1 := (hRw.cellAt (q * 2 + 1) (by omega)).trans hcs.2
          have hts := List.take_succ_eq_append_getElem hlt
          generalize hx : σ1.wait[q] = x at hin hcs hc0 hc1 hts
          obtain ⟨hR2, hst2⟩ := hR.storeSafe x.1 (by show x.1 < (Bl.setAll σ1.safe (σ1.wait.take q)).length; omega) x.2
          have hcell2 := (hRs.cellAt x.1 (by omega)).trans (strCells_getD _ x.1 (by omega))
          have hfr := hRs.frozenAt x.1
          have HTS := Lib.hid hts
          have HR2 := Lib.hid hR2
          have hi1 : (0 : Int) ≤ (q : Int) ∧ (q : Int) < (σ1.wait.length : Int) := by omega
          have hi2 : (0 : Int) ≤ (x.1 : Int) ∧ (x.1 : Int) < ((Bl.setAll σ1.safe (σ1.wait.take q)).length : Int) := by omega
          clear hcs hts hR2 hx hR hAct hRs hRw
          go_wp2_with fail
          go_still_tail 21, (by kernel_rfl)
          change wpList _ _ _ _ _ wr.drew
          go_wp2_with fail
          go_roundw
          case rel => exact ⟨q + 1, by omega, by go_num, by rw [HTS.out, Bl.setAll_snoc]; exact HR2.out.kept (Sq.Kept.drew _ _), hst.trans (hst2.trans (Sq.Step.drew _ _))⟩
          case measure => simp [intOf]; omega
        · obtain rfl : q = σ1.wait.length := by omega
          have hR3 := hR.storeNil
          have hst3 := hR.step 1 (.slice none 0 0)
          have f1 := hR.obj.frozen 1
          rw [List.take_length] at hR3
          have HR3 := Lib.hid hR3
          clear hR3 hR hRs hRw hAct
          go_wp2_with fail
          go_ret
          exact ⟨rfl, ⟨_, _, HR3.out⟩, hst.trans hst3⟩
end Go.Proofs.Ytdidcopfkjnkdaa
