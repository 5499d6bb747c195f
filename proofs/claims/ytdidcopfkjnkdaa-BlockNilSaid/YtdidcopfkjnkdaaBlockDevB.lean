/-
  The program's disk: do, Read, Write.
-/
import Derived.Test.YtdidcopfkjnkdaaBlockDevA
import Derived.Test.YtdidcopfkjnkdaaCodecClone
namespace Go.Proofs.Ytdidcopfkjnkdaa
open Go.RowKit Go.Maps
set_option linter.unusedSimpArgs false
set_option linter.unusedVariables false

namespace Bd
variable {B0 b mb : Nat} {S : Sq.Blocks} {σ σ' : Bl.St} {W W' : World} {sv wv : Value}

theorem lit_int {a b : Int} (h : (DataW.lit (.int .i64 a) : DataW Unit) = .lit (.int .i64 b)) : a = b := by cases h; rfl

set_option maxRecDepth 100000 in
set_option maxHeartbeats 2000000 in
theorem do_any (h : Rows B0 b S σ W sv wv mb) (hn : σ.safe.length ≤ 16384) (hf : ∀ x ∈ σ.safe, x.length = 256) (x : Nat × Bl.Dat) (hx : x.1 < σ.safe.length) (hx2 : x.2.length = 256) (n : Nat) (hn2 : n ≤ 256) :
    Calls Try.prog 32 #[.pointer (some ⟨b, 0, none⟩), .agg #[.int .i64 (x.1 : Int), .string (Cd.bs x.2)], .int .i64 (n : Int)] W fun e w' => (∃ v, e = .returned v) ∧
      Rows B0 b S { σ with safe := σ.safe.set x.1 (x.2.take n ++ (σ.safe.getD x.1 []).drop n) } w' sv wv mb ∧ Sq.Step S S W w' := by
  obtain ⟨ao, cap, rfl, hg0⟩ := Sq.row_cases h.safe
  obtain ⟨g0, rfl, _, hlg0⟩ := hg0 (by omega)
  obtain ⟨wA, hwA⟩ : ∃ wA, W.alloc (.cells #[.int .i64 (x.1 : Int), .string (Cd.bs x.2)] 61) = wA := ⟨_, rfl⟩
  have hkA : Sq.Kept (fun _ => True) W wA := by rw [← hwA]; exact Sq.Kept.alloc _ _ _
  have hRa : Rows B0 b S σ wA (.slice (some ⟨g0, 0, none⟩) σ.safe.length cap) wv mb := h.kept (hkA.less (fun _ _ _ => trivial))
  have hsta : Sq.Step S S W wA := by rw [← hwA]; exact Sq.Step.alloc0 _ _ _
  have bx0 : wA.cell? ⟨W.heap.size, 0, none⟩ = some (.int .i64 (x.1 : Int)) := by rw [← hwA]; exact (Ob.Obj.new W _ [.int .i64 (x.1 : Int), .string (Cd.bs x.2)]).cell 0
  have bx1 : wA.cell? ⟨W.heap.size, 1, none⟩ = some (.string (Cd.bs x.2)) := by rw [← hwA]; exact (Ob.Obj.new W _ [.int .i64 (x.1 : Int), .string (Cd.bs x.2)]).cell 1
  have c0A := hRa.obj.cell 0
  simp [cells] at c0A
  have cellA := (hRa.safe.cellAt x.1 (by omega)).trans (strCells_getD σ.safe x.1 (by omega))
  have frA := hRa.safe.frozenAt x.1
  have hdl := Bl.getD_len hf (i := x.1) (by omega)
  have hsz1 : (Cd.bs x.2).size = 256 := hx2
  have hsz2 : (Cd.bs (σ.safe.getD x.1 [])).size = 256 := hdl
  obtain ⟨hR2, hst2⟩ := hRa.storeSafe x.1 hx (x.2.take n ++ (σ.safe.getD x.1 []).drop n)
  have HR2 := Lib.hid hR2
  have HST := Lib.hid (hsta.trans hst2)
  have hn1 : (0 : Int) ≤ (n : Int) ∧ (n : Int) ≤ 256 := by omega
  have hi2 : (0 : Int) ≤ (x.1 : Int) ∧ (x.1 : Int) < (σ.safe.length : Int) := by omega
  have hcat : (Cd.bs x.2).extract 0 n ++ (Cd.bs (σ.safe.getD x.1 [])).extract n 256 = Cd.bs (x.2.take n ++ (σ.safe.getD x.1 []).drop n) := by
    rw [ByteArray.extract_mk, ByteArray.extract_mk, ByteArray.mk_append_mk, List.take_of_length_le (l := (σ.safe.getD x.1 []).drop n) (by rw [List.length_drop]; omega)]; simp
  generalize σ.safe.getD x.1 [] = y at *
  have HWA := Lib.hid hwA
  clear hR2 hst2 hRa hsta hkA h hwA
  go_enter Try.func32, Try.ntmps32
  go_wp2_with fail
  rw [HWA.out]
  go_still_tail 22, (by kernel_rfl)
  change wpList _ _ _ _ _ (World.drew _)
  go_wp2_with fail
  go_end0
  exact ⟨⟨_, rfl⟩, HR2.out.kept (Sq.Kept.drew _ _), HST.out.trans (Sq.Step.drew _ _)⟩

set_option maxRecDepth 100000 in
set_option maxHeartbeats 2000000 in
theorem read_any (h : Rows B0 b S σ W sv wv mb) (hw : σ.wait.length ≤ 1073741824) (ho : Bl.Ok σ) (i : Int) (hi : -9223372036854775808 ≤ i ∧ i ≤ 9223372036854775807) :
    Calls Try.prog 14 #[.pointer (some ⟨b, 0, none⟩), .int .i64 i] W fun e w' => e = .returned (.tuple #[.string (Cd.bs (Bl.read σ i).1), .int .i64 ((Bl.read σ i).2 : Int)]) ∧ Below W.heap.size W w' := by
  have hRf := refusal_any h i hi
  by_cases hd : σ.down = true
  · have e : Bl.read σ i = ([], 4) := by unfold Bl.read; rw [if_pos hd]
    have e2 : why σ i = 4 := by unfold why; rw [if_pos hd]
    rw [e2] at hRf
    rw [e]
    have HRF := Lib.hid hRf
    clear hRf e e2
    go_enter Try.func14, Try.ntmps14
    go_wp2_with (go_at_call 33; refine HRF.out.mono ?_; rintro e w' ⟨rfl, rfl⟩)
    go_ret2
    exact ⟨rfl, Below.refl _ _⟩
  · by_cases hr : Bl.inR σ i
    · have e2 : why σ i = 0 := by unfold why; rw [if_neg hd, if_pos hr]
      rw [e2] at hRf
      have HRF := Lib.hid hRf
      obtain ⟨h0, h1⟩ := hr
      obtain ⟨k, rfl⟩ := Int.eq_ofNat_of_zero_le h0
      have hk : k < σ.safe.length := by omega
      have e : Bl.read σ (k : Int) = (Bl.readOf σ k, 0) := by unfold Bl.read; rw [if_neg hd, if_pos ⟨h0, h1⟩]; rfl
      rw [e]
      clear e e2 hRf hd
      have c0 := h.obj.cell 0
      have c1 := h.obj.cell 1
      have c2 := h.obj.cell 2
      simp [cells] at c0 c1 c2
      have hnb := ho.blocks
      have hkey : keyOf Try.prog 3 (.int .i64 (k : Int)) = some (.int .i64 (k : Int)) := keyOf_int_mk Try.underlying3 (WalkArith.wf_i64 (by omega))
      have HKEY := Lib.hid hkey
      have hl := h.last
      rcases mapOf_spec σ.wait k with ⟨hh, hv⟩ | ⟨j, hj, hh, hat, hv⟩
      · have HE := Lib.hid (show Bl.readOf σ k = σ.safe[k] by unfold Bl.readOf; rw [hv, List.getD_eq_getElem?_getD, List.getElem?_eq_getElem hk]; rfl)
        have HH := Lib.hid hh
        obtain ⟨ao, cap, rfl, hg0⟩ := Sq.row_cases h.safe
        obtain ⟨g, rfl, _, _⟩ := hg0 (by omega)
        have hcell := (h.safe.cellAt k (by omega)).trans (strCells_get σ.safe k hk)
        have hfull := ho.full σ.safe[k] (List.getElem_mem hk)
        have hC := fun w => clone_any (Cd.bs σ.safe[k]) w (by show σ.safe[k].length ≤ _; omega)
        have HC := Lib.hid hC
        clear hh hv hkey hC h
        go_enter Try.func14, Try.ntmps14
        go_wp2_with (first
          | (go_at_call 33; refine HRF.out.mono ?_; rintro e w' ⟨rfl, rfl⟩)
          | (at_lookup; refine wpList_lookup_own_ok_int _ rfl _ _ 56 rfl 3 3 .i64 lawInt Try.underlying56 Try.underlying3 (zeroInt _) mb σ.wait.length (mapOf σ.wait) rfl hl _ _ rfl HKEY.out ?_; intro c hc hwc; rw [HH.out]; clear hc)
          | (go_at_call 34; refine (HC.out _).mono ?_; rintro e w1 ⟨rfl, hb1⟩))
        go_ret2
        exact ⟨by rw [HE.out]; rfl, hb1⟩
      · have HE := Lib.hid (show Bl.readOf σ k = σ.wait[j].2 by unfold Bl.readOf; rw [hv]; rfl)
        have HH := Lib.hid hh
        have HA := Lib.hid hat
        obtain ⟨ao, cap, rfl, hg0⟩ := Sq.row_cases h.wait
        obtain ⟨g, rfl, _, _⟩ := hg0 (by omega)
        have hcell := (h.wait.cellAt (j * 2 + 1) (by omega)).trans (wCells_get σ.wait j hj).2
        obtain ⟨_, hfull⟩ := ho.inW σ.wait[j] (List.getElem_mem hj)
        have hC := fun w => clone_any (Cd.bs σ.wait[j].2) w (by show σ.wait[j].2.length ≤ _; omega)
        have HC := Lib.hid hC
        have hi1 : (0 : Int) ≤ (j : Int) ∧ (j : Int) < (σ.wait.length : Int) := by omega
        clear hh hv hkey hat hC h
        go_enter Try.func14, Try.ntmps14
        go_wp2_with (first
          | (go_at_call 33; refine HRF.out.mono ?_; rintro e w' ⟨rfl, rfl⟩)
          | (at_lookup; refine wpList_lookup_own_ok_int _ rfl _ _ 56 rfl 3 3 .i64 lawInt Try.underlying56 Try.underlying3 (zeroInt _) mb σ.wait.length (mapOf σ.wait) rfl hl _ _ rfl HKEY.out ?_; intro c hc hwc; rw [HH.out]; rw [HA.out] at hc; obtain rfl := lit_int hc; clear hc)
          | (go_at_call 34; refine (HC.out _).mono ?_; rintro e w1 ⟨rfl, hb1⟩))
        go_ret2
        exact ⟨by rw [HE.out]; rfl, hb1⟩
    · have e : Bl.read σ i = ([], 1) := by unfold Bl.read; rw [if_neg hd, if_neg hr]
      have e2 : why σ i = 1 := by unfold why; rw [if_neg hd, if_neg hr]
      rw [e2] at hRf
      rw [e]
      have HRF := Lib.hid hRf
      clear hRf e e2
      go_enter Try.func14, Try.ntmps14
      go_wp2_with (go_at_call 33; refine HRF.out.mono ?_; rintro e w' ⟨rfl, rfl⟩)
      go_ret2
      exact ⟨rfl, Below.refl _ _⟩
end Bd
end Go.Proofs.Ytdidcopfkjnkdaa
