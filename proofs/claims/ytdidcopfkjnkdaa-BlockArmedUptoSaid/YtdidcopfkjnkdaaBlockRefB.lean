/-
  The document's disk: Arm, Read, Write.
-/
import Derived.Test.YtdidcopfkjnkdaaBlockRefA
import Derived.Deep.AppendLies
import Derived.OwnWalk
namespace Go.Proofs.Ytdidcopfkjnkdaa
open Go.RowKit
set_option linter.unusedSimpArgs false
set_option linter.unusedVariables false

namespace Bl
theorem lastW_none {wait : List (Nat × Dat)} {k : Nat} (h : ∀ x ∈ wait, x.1 ≠ k) : lastW wait k = none := by
  unfold lastW
  rw [List.find?_eq_none.2 (fun x hx => by simpa using h x (by simpa using hx))]; rfl
theorem lastW_at {a c : List (Nat × Dat)} {x : Nat × Dat} {k : Nat} (hx : x.1 = k) (h : ∀ y ∈ c, y.1 ≠ k) : lastW (a ++ x :: c) k = some x.2 := by
  unfold lastW
  rw [List.reverse_append, List.reverse_cons, List.append_assoc, List.find?_append, List.find?_eq_none.2 (fun y hy => by simpa using h y (by simpa using hy))]
  simp [hx]
theorem act_wait (σ : St) (w : List (Nat × Dat)) : (act { σ with wait := w }).2 = (act σ).2 := by
  unfold act; split
  · rfl
  · split <;> rfl
theorem drop_all {wait : List (Nat × Dat)} {j k : Nat} (h : ∀ x ∈ wait.drop j, x.1 ≠ k) (hj : j = 0) : lastW wait k = none := by
  subst hj; exact lastW_none (by simpa using h)
theorem drop_at {wait : List (Nat × Dat)} {j k : Nat} (hj : j < wait.length) (h : ∀ x ∈ wait.drop (j + 1), x.1 ≠ k) (hx : wait[j].1 = k) : lastW wait k = some wait[j].2 := by
  have e : wait = wait.take j ++ wait[j] :: wait.drop (j + 1) := by rw [← List.drop_eq_getElem_cons hj, List.take_append_drop]
  have := lastW_at (a := wait.take j) (x := wait[j]) hx h
  rwa [← e] at this
theorem drop_more {wait : List (Nat × Dat)} {j k : Nat} (hj : j < wait.length) (h : ∀ x ∈ wait.drop (j + 1), x.1 ≠ k) (hx : wait[j].1 ≠ k) : ∀ x ∈ wait.drop j, x.1 ≠ k := by
  rw [List.drop_eq_getElem_cons hj]
  intro x hm
  rcases List.mem_cons.1 hm with rfl | hm
  · exact hx
  · exact h x hm
end Bl

set_option maxRecDepth 100000 in
set_option maxHeartbeats 2000000 in
theorem refArm_any {B0 b : Nat} {S : Sq.Blocks} {σ : Bl.St} {W : World} {sv wv : Value} (h : RefRows B0 b S σ W sv wv) (n : Int) (h1 : -9223372036854775808 ≤ n) (h2 : n ≤ 9223372036854775807) :
    Calls Try.prog 31 #[.pointer (some ⟨b, 0, none⟩), .int .i64 n] W fun e w' => (∃ v, e = .returned v) ∧ RefRows B0 b S (Bl.arm σ n) w' sv wv ∧ Sq.Step S S W w' := by
  have c3 := h.obj.cell 3
  have f3 := h.obj.frozen 3
  simp [refCells] at c3
  have hA : (W.setCell ⟨b, 3, none⟩ (.int .i64 n)).heap[b]? = some (.cells (((refCells sv wv σ).set 3 (.int .i64 n))).toArray 40 (0, 0)) := h.obj.set 3 _
  by_cases h0 : n < 0
  · have hr : ∀ W', W' = (W.setCell ⟨b, 3, none⟩ (.int .i64 n)).setCell ⟨b, 3, none⟩ (.int .i64 0) → RefRows B0 b S (Bl.arm σ n) W' sv wv := fun W' e => by
      subst e
      refine ⟨?_, Ob.row_other (Ob.row_other h.safe (h.obj.not_row (by decide) h.safe) _) (h.obj.not_row (by decide) h.safe) _, Ob.row_other (Ob.row_other h.wait (h.obj.not_row (by decide) h.wait) _) (h.obj.not_row (by decide) h.wait) _, h.inb, h.ins, h.inw, fun k hk => ⟨(h.lo k hk).1, by have := (h.lo k hk).2; simp [World.setCell]; exact this⟩⟩
      have := ((h.obj.set 3 (.int .i64 n)).set 3 (.int .i64 0))
      have e : ((refCells sv wv σ).set 3 (.int .i64 n)).set 3 (.int .i64 0) = refCells sv wv (Bl.arm σ n) := by simp [refCells, Bl.arm]; omega
      rw [e] at this; exact this
    have st := (h.step 3 (.int .i64 n)).trans (Sq.Step.setCell (R := S) (p := ⟨b, 3, none⟩) (W.setCell ⟨b, 3, none⟩ (.int .i64 n)) (.int .i64 0) h.inb)
    have HR := Lib.hid hr
    clear hr hA
    go_enter Try.func31, Try.ntmps31
    go_wp2_with fail
    go_end0
    exact ⟨⟨_, rfl⟩, HR.out _ rfl, st⟩
  · have hr : RefRows B0 b S (Bl.arm σ n) (W.setCell ⟨b, 3, none⟩ (.int .i64 n)) sv wv := h.store (by simp [refCells, Bl.arm]; omega) rfl rfl
    have st := h.step 3 (.int .i64 n)
    have HR := Lib.hid hr
    clear hr hA
    go_enter Try.func31, Try.ntmps31
    go_wp2_with fail
    go_end0
    exact ⟨⟨_, rfl⟩, HR.out, st⟩

set_option maxRecDepth 100000 in
set_option maxHeartbeats 2000000 in
theorem refRead_any {B0 b : Nat} {S : Sq.Blocks} {σ : Bl.St} {W : World} {sv wv : Value} (h : RefRows B0 b S σ W sv wv) (i : Int) (hi : -9223372036854775808 ≤ i ∧ i ≤ 9223372036854775807) (hw : σ.wait.length ≤ 1073741824) (hn : σ.safe.length ≤ 16384) (hww : ∀ x ∈ σ.wait, x.1 < σ.safe.length) :
    Calls Try.prog 29 #[.pointer (some ⟨b, 0, none⟩), .int .i64 i] W fun e w' => e = .returned (.tuple #[.string (Cd.bs (Bl.read σ i).1), .int .i64 (Bl.read σ i).2]) ∧ W = w' := by
  have hIs := fun W (h : RefRows B0 b S σ W sv wv) => refIs_any h i hi
  have c0 := h.obj.cell 0
  have c1 := h.obj.cell 1
  have c2 := h.obj.cell 2
  simp [refCells] at c0 c1 c2
  obtain ⟨ao, cap, rfl, hg0⟩ := Sq.row_cases h.safe
  obtain ⟨ao1, cap1, rfl, hg1⟩ := Sq.row_cases h.wait
  by_cases hd : σ.down = true
  · have e : Bl.read σ i = ([], 4) := by unfold Bl.read; rw [if_pos hd]
    rw [e]
    have HIS := Lib.hid (hIs W h)
    clear hIs e
    go_enter Try.func29, Try.ntmps29
    go_wp2_with (go_at_call 45; refine HIS.out.mono ?_; rintro e w' ⟨rfl, rfl⟩)
    go_ret2
    exact ⟨rfl, rfl⟩
  · by_cases hr : Bl.inR σ i
    · have hdf : σ.down = false := by simpa using hd
      obtain ⟨h0, h1⟩ := hr
      obtain ⟨k, rfl⟩ := Int.eq_ofNat_of_zero_le h0
      have hk : k < σ.safe.length := by omega
      have e : Bl.read σ (k : Int) = (Bl.readOf σ k, 0) := by unfold Bl.read; rw [if_neg hd, if_pos ⟨h0, h1⟩]; rfl
      have HIS := Lib.hid (hIs W h)
      rw [e]
      rw [decide_eq_true (show Bl.inR σ (k : Int) from ⟨h0, h1⟩)] at HIS
      clear hIs e hd
      have HW := Lib.hid h.wait
      have HS := Lib.hid h.safe
      go_enter Try.func29, Try.ntmps29
      go_wp2_with (go_at_call 45; refine HIS.out.mono ?_; rintro e w' ⟨rfl, rfl⟩)
      go_loop [7] (fun j => ∃ q : Nat, q ≤ σ.wait.length ∧ j = .int .i64 ((q : Int) - 1) ∧ Hid (∀ x ∈ σ.wait.drop q, x.1 ≠ k)) (fun j => (intOf j + 1).toNat)
      case atStart => exact ⟨σ.wait.length, Nat.le_refl _, rfl, by intro x hx; simp at hx⟩
      case round =>
        obtain ⟨q, hq, rfl, hno⟩ := hrel
        by_cases hq0 : q = 0
        · have HE := Lib.hid (show Bl.readOf σ k = σ.safe[k] by unfold Bl.readOf; rw [Bl.drop_all hno.out hq0, List.getD_eq_getElem?_getD, List.getElem?_eq_getElem hk]; rfl)
          subst hq0
          rw [show ((0 : Nat) : Int) - 1 = -1 from rfl]
          obtain ⟨g, rfl, _, _⟩ := hg0 (by omega)
          have hcell := (HS.out.cellAt k (by omega)).trans (strCells_get σ.safe k hk)
          go_wp2_with fail
          go_ret2
          exact ⟨by rw [HE.out]; rfl, rfl⟩
        · obtain ⟨p, rfl⟩ : ∃ p, q = p + 1 := ⟨q - 1, by omega⟩
          obtain ⟨g, rfl, _, _⟩ := hg1 (by omega)
          have hcs := wCells_get σ.wait p (by omega)
          have hc0 := (HW.out.cellAt (p * 2) (by omega)).trans hcs.1
          have hc1 := (HW.out.cellAt (p * 2 + 1) (by omega)).trans hcs.2
          have hpw := hww σ.wait[p] (List.getElem_mem (by omega))
          have hp1 : ((p + 1 : Nat) : Int) - 1 = (p : Int) := by omega
          rw [hp1]
          clear hcs hp1
          by_cases hx : σ.wait[p].1 = k
          · have HE := Lib.hid (show Bl.readOf σ k = σ.wait[p].2 by unfold Bl.readOf; rw [Bl.drop_at (by omega) hno.out hx]; rfl)
            have hb : (((σ.wait[p].1 : Nat) : Int) == (k : Int)) = true := by simp [hx]
            clear hx
            go_wp2_with fail
            all_goals go_ret2
            all_goals exact ⟨by rw [HE.out]; rfl, rfl⟩
          · have hb : (((σ.wait[p].1 : Nat) : Int) == (k : Int)) = false := by simp only [beq_eq_false_iff_ne, ne_eq]; omega
            have HX := Lib.hid hx
            clear hx
            go_wp2_with fail
            go_round
            case rel => exact ⟨p, by omega, rfl, Bl.drop_more (by omega) hno.out HX.out⟩
            case measure => first | (simp [intOf]; done) | (simp [intOf]; omega)
    · have hdf : σ.down = false := by simpa using hd
      have e : Bl.read σ i = ([], 1) := by unfold Bl.read; rw [if_neg hd, if_neg hr]
      have HIS := Lib.hid (hIs W h)
      rw [e]
      rw [decide_eq_false hr] at HIS
      clear hIs e hd hr
      go_enter Try.func29, Try.ntmps29
      go_wp2_with (go_at_call 45; refine HIS.out.mono ?_; rintro e w' ⟨rfl, rfl⟩)
      go_ret2
      exact ⟨rfl, rfl⟩
end Go.Proofs.Ytdidcopfkjnkdaa
