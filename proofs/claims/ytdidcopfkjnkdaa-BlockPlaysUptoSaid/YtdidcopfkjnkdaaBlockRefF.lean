/-
  The document's disk: Crash.
-/
import Derived.Test.YtdidcopfkjnkdaaBlockRefE
namespace Go.Proofs.Ytdidcopfkjnkdaa
open Go.RowKit
set_option linter.unusedSimpArgs false
set_option linter.unusedVariables false

namespace Bl
theorem keepGo_snoc (keep : List Bool) (torn : Int) (n : Nat) (x : Nat × Dat) : ∀ (a : List (Nat × Dat)) (k : Nat) (l : List Dat), keepGo keep torn n k (a ++ [x]) l = keepOne keep torn n (keepGo keep torn n k a l) (k + a.length) x
  | [], k, l => by simp [keepGo]
  | y :: r, k, l => by
    have := keepGo_snoc keep torn n x r (k + 1) (keepOne keep torn n l k y)
    simp only [List.cons_append, keepGo, List.length_cons]
    rw [this]; congr 1; omega
end Bl

/-- a slice of bools that lies in blocks outside of S -/
def BoolRow (S : Sq.Blocks) (W : World) (v : Value) (l : List Bool) : Prop :=
  ∃ (a : Option Addr) (cap b off : Nat), v = .slice a l.length cap ∧ (0 < l.length → a = some ⟨b, off, none⟩ ∧ ¬ S b) ∧ ∀ j (h : j < l.length), W.cell? ⟨b, off + j, none⟩ = some (.bool l[j])
theorem BoolRow.kept {S : Sq.Blocks} {W W' : World} {v : Value} {l : List Bool} (h : BoolRow S W v l) (hk : Sq.Kept (fun k => ¬ S k) W W') : BoolRow S W' v l := by
  obtain ⟨a, cap, b, off, hv, ha, hc⟩ := h
  exact ⟨a, cap, b, off, hv, ha, fun j hj => hk.cell (ha (by omega)).2 (hc j hj)⟩

theorem clip_walk (n : Int) : min (max n 0) 256 = ((Bl.clip n : Nat) : Int) := by unfold Bl.clip; omega

set_option maxRecDepth 100000 in
set_option maxHeartbeats 4000000 in
theorem refCrash_any {B0 b : Nat} {S : Sq.Blocks} {σ : Bl.St} {W : World} (h : RefAt B0 b S σ W) (hok : Bl.Ok σ) (hw : σ.wait.length ≤ 1073741824) (he : σ.epochs < 4611686018427387904) (kv : Value) (keep : List Bool) (hkeep : BoolRow S W kv keep) (hkl : keep.length ≤ 1073741824)
    (torn bytes : Int) (ht1 : -9223372036854775808 ≤ torn) (ht2 : torn ≤ 9223372036854775807) (hb1 : -9223372036854775808 ≤ bytes) (hb2 : bytes ≤ 9223372036854775807) :
    Calls Try.prog 13 #[.pointer (some ⟨b, 0, none⟩), kv, .int .i64 torn, .int .i64 bytes] W fun e w' => (∃ v, e = .returned v) ∧ RefAt B0 b S (Bl.crash σ keep torn bytes) w' ∧ Sq.Step S S W w' := by
  obtain ⟨sv, wv, h⟩ := h
  have hcl := clip_walk bytes
  have hcl2 := Bl.clip_le bytes
  have hcr : Bl.crash σ keep torn bytes = { σ with safe := Bl.keepGo keep torn (Bl.clip bytes) 0 σ.wait σ.safe, wait := [], down := false, armed := 0, epochs := σ.epochs + 1 } := rfl
  rw [hcr]
  clear hcr
  obtain ⟨ka, kcap, kb, koff, rfl, hka, hkc⟩ := id hkeep
  generalize Bl.clip bytes = n at *
  go_enter Try.func13, Try.ntmps13
  go_wp2_with fail
  go_loopw [8] (fun i wr => ∃ q : Nat, q ≤ σ.wait.length ∧ i = .int .i64 q ∧ RefRows B0 b S { σ with safe := Bl.keepGo keep torn n 0 (σ.wait.take q) σ.safe } wr sv wv ∧ Sq.Step S S W wr) (fun i _ => σ.wait.length - (intOf i).toNat)
  case atStart => exact ⟨0, Nat.zero_le _, rfl, by simpa [Bl.keepGo] using h, Sq.Step.refl _ _⟩
  case round =>
    obtain ⟨q, hq, rfl, hR, hst⟩ := hrel
    obtain ⟨hlS, hfS⟩ := Bl.keepGo_ok (keep := keep) (torn := torn) hcl2 (σ.wait.take q) 0 σ.safe hok.full (fun x hx => hok.inW x (List.mem_of_mem_take hx))
    obtain ⟨L, hL⟩ : ∃ L, L = Bl.keepGo keep torn n 0 (σ.wait.take q) σ.safe := ⟨_, rfl⟩
    rw [← hL] at hR hlS hfS
    have hRs : wr.ownsRow B0 9 1 sv L.length (strCells L) := hR.safe
    have hRw : wr.ownsRow B0 64 2 wv σ.wait.length (wCells σ.wait) := hR.wait
    obtain ⟨ao, cap, hsv, hg0⟩ := Sq.row_cases hRs
    obtain ⟨ao1, cap1, hwv, hg1⟩ := Sq.row_cases hRw
    have c0 := hR.obj.cell 0
    have c1 := hR.obj.cell 1
    simp [refCells] at c0 c1
    by_cases hlt : q < σ.wait.length
    · obtain ⟨g1, rfl, _, hlg1⟩ := hg1 (by omega)
      obtain ⟨hin, hfd⟩ := hok.inW σ.wait[q] (List.getElem_mem hlt)
      obtain ⟨g0, rfl, _, hlg0⟩ := hg0 (by omega)
      subst hsv hwv
      have hcs := wCells_get σ.wait q hlt
      have hc0 := (hRw.cellAt (q * 2) (by omega)).trans hcs.1
      have hc1 := (hRw.cellAt (q * 2 + 1) (by omega)).trans hcs.2
      have hts := List.take_succ_eq_append_getElem hlt
      generalize hx : σ.wait[q] = x at hin hfd hcs hc0 hc1 hts
      have hsn : Bl.keepGo keep torn n 0 (σ.wait.take (q + 1)) σ.safe = Bl.keepOne keep torn n L q x := by
        rw [hts, Bl.keepGo_snoc, ← hL, List.length_take]; congr 1; omega
      have hcell2 := (hRs.cellAt x.1 (by omega)).trans (strCells_getD L x.1 (by omega))
      have hfr := hRs.frozenAt x.1
      have hi1 : (0 : Int) ≤ (q : Int) ∧ (q : Int) < (σ.wait.length : Int) := by omega
      have hi2 : (0 : Int) ≤ (x.1 : Int) ∧ (x.1 : Int) < (L.length : Int) := by omega
      have hdl := Bl.getD_len hfS (i := x.1) (by omega)
      have hsz1 : (Cd.bs x.2).size = 256 := hfd
      have hsz2 : (Cd.bs (L.getD x.1 [])).size = 256 := hdl
      have hlw := hR.obj.lt
      have HSN := Lib.hid hsn
      have HL := Lib.hid hL
      -- the box of the pending write
      obtain ⟨wA, hwA⟩ : ∃ wA, wr.alloc (.cells #[.int .i64 (x.1 : Int), .string (Cd.bs x.2)] 64) = wA := ⟨_, rfl⟩
      have hkA : Sq.Kept (fun _ => True) wr wA := by rw [← hwA]; exact Sq.Kept.alloc _ _ _
      have hRa : RefRows B0 b S { σ with safe := L } wA (.slice (some ⟨g0, 0, none⟩) L.length cap) (.slice (some ⟨g1, 0, none⟩) σ.wait.length cap1) := hR.kept (hkA.less (fun _ _ _ => trivial))
      have hsta : Sq.Step S S W wA := by rw [← hwA]; exact hst.trans (Sq.Step.alloc0 _ _ _)
      have bx0 : wA.cell? ⟨wr.heap.size, 0, none⟩ = some (.int .i64 (x.1 : Int)) := by rw [← hwA]; exact (Ob.Obj.new wr _ [.int .i64 (x.1 : Int), .string (Cd.bs x.2)]).cell 0
      have bx1 : wA.cell? ⟨wr.heap.size, 1, none⟩ = some (.string (Cd.bs x.2)) := by rw [← hwA]; exact (Ob.Obj.new wr _ [.int .i64 (x.1 : Int), .string (Cd.bs x.2)]).cell 1
      have c0A := hRa.obj.cell 0
      simp [refCells] at c0A
      have cellA := ((show wA.ownsRow B0 9 1 (.slice (some ⟨g0, 0, none⟩) L.length cap) L.length (strCells L) from hRa.safe).cellAt x.1 (by omega)).trans (strCells_getD L x.1 (by omega))
      have frA := (show wA.ownsRow B0 9 1 (.slice (some ⟨g0, 0, none⟩) L.length cap) L.length (strCells L) from hRa.safe).frozenAt x.1
      have hbkA := hkeep.kept (S := S) (hst.kept.trans (hkA.less (T' := fun k => ¬ S k) (fun _ _ _ => trivial)))
      clear hcs hts hsn hx hL hR
      by_cases hqt : (q : Int) = torn
      · have hqb : ((q : Int) == torn) = true := by simp [hqt]
        have hk1 : Bl.keepOne keep torn n L q x = L.set x.1 (x.2.take n ++ (L.getD x.1 []).drop n) := by unfold Bl.keepOne; rw [if_pos hqt]
        rw [hk1] at HSN
        obtain ⟨hR2, hst2⟩ := hRa.storeSafe x.1 (by show x.1 < L.length; omega) (x.2.take n ++ (L.getD x.1 []).drop n)
        have HR2 := Lib.hid hR2
        have HST := Lib.hid (hsta.trans hst2)
        have hn1 : (0 : Int) ≤ (n : Int) ∧ (n : Int) ≤ 256 := by omega
        have hcat : (Cd.bs x.2).extract 0 n ++ (Cd.bs (L.getD x.1 [])).extract n 256 = Cd.bs (x.2.take n ++ (L.getD x.1 []).drop n) := by
          rw [ByteArray.extract_mk, ByteArray.extract_mk, ByteArray.mk_append_mk, List.take_of_length_le (l := (L.getD x.1 []).drop n) (by rw [List.length_drop]; omega)]; simp
        generalize L.getD x.1 [] = y at *
        have HWA := Lib.hid hwA
        clear hqt hk1 hR2 hst2 hRa hsta hst hRs hRw h hkeep hwA hbkA hkA
        go_wp2_with fail
        rw [HWA.out]
        go_still_tail 22, (by kernel_rfl)
        change wpList _ _ _ _ _ (World.drew _)
        go_wp2_with fail
        go_roundw
        case rel => exact ⟨q + 1, by omega, by go_num, by rw [HSN.out]; exact HR2.out.kept (Sq.Kept.drew _ _), HST.out.trans (Sq.Step.drew _ _)⟩
        case measure => simp [intOf]; omega
      · have hqb : ((q : Int) == torn) = false := by simpa using hqt
        have hck : q < keep.length → wr.cell? ⟨kb, koff + q, none⟩ = some (.bool (keep.getD q false)) ∧ wA.cell? ⟨kb, koff + q, none⟩ = some (.bool (keep.getD q false)) ∧ kb < wr.heap.size := fun hq' => by
          have h1 := (hst.kept.cell (hka (by omega)).2 (hkc q hq'))
          have h2 := hkA.cell (p := ⟨kb, koff + q, none⟩) trivial h1
          have e : keep[q] = keep.getD q false := by rw [List.getD_eq_getElem?_getD, List.getElem?_eq_getElem hq']; rfl
          rw [e] at h1 h2
          exact ⟨h1, h2, World.block_lt_of_cell? _ _ h1⟩
        by_cases hkq : q < keep.length ∧ keep.getD q false = true
        · obtain ⟨hq1, hq2⟩ := hkq
          obtain ⟨rfl, _⟩ := hka (by omega)
          obtain ⟨hck1, hck2, hckl⟩ := hck hq1
          rw [hq2] at hck1 hck2
          have hk1 : Bl.keepOne keep torn n L q x = L.set x.1 x.2 := by unfold Bl.keepOne; rw [if_neg hqt, if_pos hq2]
          rw [hk1] at HSN
          obtain ⟨hR2, hst2⟩ := hRa.storeSafe x.1 (by show x.1 < L.length; omega) x.2
          have HR2 := Lib.hid hR2
          have HST := Lib.hid (hsta.trans hst2)
          have HWA := Lib.hid hwA
          clear hqt hk1 hR2 hst2 hRa hsta hst hRs hRw h hkeep hwA hbkA hkA hck hq2 hka hkc
          go_wp2_with fail
          rw [HWA.out]
          go_wp2_with fail
          go_still_tail 9, (by kernel_rfl)
          change wpList _ _ _ _ _ (World.drew _)
          go_wp2_with fail
          go_roundw
          case rel => exact ⟨q + 1, by omega, by go_num, by rw [HSN.out]; exact HR2.out.kept (Sq.Kept.drew _ _), HST.out.trans (Sq.Step.drew _ _)⟩
          case measure => simp [intOf]; omega
        · have hk1 : Bl.keepOne keep torn n L q x = L := by
            unfold Bl.keepOne; rw [if_neg hqt, if_neg]
            intro h2
            by_cases hq1 : q < keep.length
            · exact hkq ⟨hq1, h2⟩
            · rw [List.getD_eq_getElem?_getD, List.getElem?_eq_none (by omega)] at h2; simp at h2
          rw [hk1] at HSN
          have HRA := Lib.hid hRa
          have HST := Lib.hid hsta
          have HWA := Lib.hid hwA
          have hlen2 : keep.length ≤ q ∨ (q < keep.length ∧ keep.getD q false = false) := by
            by_cases hq1 : q < keep.length
            · exact .inr ⟨hq1, by simpa using fun h2 => hkq ⟨hq1, h2⟩⟩
            · exact .inl (by omega)
          clear hqt hk1 hRa hsta hst hRs hRw h hkeep hwA hbkA hkA hkq
          rcases hlen2 with hl2 | ⟨hq1, hq2⟩
          · clear hck hka hkc
            go_wp2_with fail
            rw [HWA.out]
            go_wp2_with fail
            go_roundw
            case rel => exact ⟨q + 1, by omega, by go_num, by rw [HSN.out]; exact HRA.out, HST.out⟩
            case measure => simp [intOf]; omega
          · obtain ⟨rfl, _⟩ := hka (by omega)
            obtain ⟨hck1, hck2, hckl⟩ := hck hq1
            rw [hq2] at hck1 hck2
            clear hck hq2 hka hkc
            go_wp2_with fail
            rw [HWA.out]
            go_wp2_with fail
            go_roundw
            case rel => exact ⟨q + 1, by omega, by go_num, by rw [HSN.out]; exact HRA.out, HST.out⟩
            case measure => simp [intOf]; omega
    · obtain rfl : q = σ.wait.length := by omega
      rw [List.take_length] at hL
      have e1 := hR.storeNil
      have s1 := hR.step 1 (.slice none 0 0)
      have e2 : RefRows B0 b S { σ with safe := L, wait := [], down := false } ((wr.setCell ⟨b, 1, none⟩ (.slice none 0 0)).setCell ⟨b, 2, none⟩ (.bool false)) sv (.slice none 0 0) := e1.store (by simp [refCells]) rfl rfl
      have e3 : RefRows B0 b S { σ with safe := L, wait := [], down := false, armed := 0 } (((wr.setCell ⟨b, 1, none⟩ (.slice none 0 0)).setCell ⟨b, 2, none⟩ (.bool false)).setCell ⟨b, 3, none⟩ (.int .i64 0)) sv (.slice none 0 0) := e2.store (by simp [refCells]) rfl rfl
      have e4 : RefRows B0 b S { σ with safe := L, wait := [], down := false, armed := 0, epochs := σ.epochs + 1 } ((((wr.setCell ⟨b, 1, none⟩ (.slice none 0 0)).setCell ⟨b, 2, none⟩ (.bool false)).setCell ⟨b, 3, none⟩ (.int .i64 0)).setCell ⟨b, 5, none⟩ (.int .i64 ((σ.epochs : Int) + 1))) sv (.slice none 0 0) := e3.store (by simp [refCells]) rfl rfl
      have s4 := (((hst.trans s1).trans (e1.step 2 (.bool false))).trans (e2.step 3 (.int .i64 0))).trans (e3.step 5 (.int .i64 ((σ.epochs : Int) + 1)))
      have c2 := hR.obj.cell 2
      have c3 := hR.obj.cell 3
      have c5 := hR.obj.cell 5
      have f1 := hR.obj.frozen 1
      have f2 := hR.obj.frozen 2
      have f3 := hR.obj.frozen 3
      have f5 := hR.obj.frozen 5
      simp [refCells] at c2 c3 c5
      have HE := Lib.hid e4
      have HS4 := Lib.hid s4
      have HL := Lib.hid hL
      clear e1 e2 e3 e4 s1 s4 hR hRs hRw h hkeep hst hL
      subst hsv hwv
      go_wp2_with fail
      go_end0
      exact ⟨⟨_, rfl⟩, ⟨_, _, by rw [← HL.out]; exact HE.out⟩, HS4.out⟩
end Go.Proofs.Ytdidcopfkjnkdaa
